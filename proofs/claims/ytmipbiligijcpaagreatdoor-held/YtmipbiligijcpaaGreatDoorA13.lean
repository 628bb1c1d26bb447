import Derived.Test.YtmipbiligijcpaaGreatDoorA11
import Derived.Test.YtmipbiligijcpaaGreatDoorA09
import Derived.Test.YtmipbiligijcpaaGreatDoorA10
import Derived.Lib.SlBytesConst
import Derived.Lib.SlBytesRow
namespace Go.Proofs.YtmipbiligijcpaaGreatDoor
set_option linter.all false
set_option maxHeartbeats 0
set_option maxRecDepth 99999
open Go.ChangeShapes Go.WideShapes Go.ChangeAt Go.RowKit Go.Proofs Go.Maps Tryz List open List renaming length->ζ,toArray->θ open _root_.Array renaming size->δ open World renaming setCell->κ,ownsRow->ρ,cell?->χ,setCells->ψ open Value renaming ownBlock->φ open Value renaming slice->h',bool->i',agg->k',string->m',pointer->n',tuple->p' open Obj renaming cells->j' open Ending renaming returned->o' open Option renaming some->C',none->D' open Bool renaming true->P',false->Q'
variable {k:Nat}{w:t'}
open Go.ChangeMaps (open_string shut_string)
theorem Qh(B:Ŝ):Rows.HeldSaid:=
 OpenClaim.holds_of_wide 8 Tryz.f8 rfl rfl rfl rfl rfl rfl rfl ⟨rfl,rfl,rfl,rfl,rfl⟩ rfl rfl rfl rfl rfl NY Tryz.func8 Lj
  (of_decide_eq_true<|by kernel_rfl) (by unfold Func.isWrapper;first|(rw[if_pos<|by decide +kernel];kernel_rfl)|(rw[if_neg<|by decide +kernel];exact⟨rfl,rfl⟩))
  (λm b a enc _=>Hr B m b a enc)
theorem YL:OpenClaim.wfByText (OpenSpec.ofChange Rows.heldSpec) Rows.heldRow=true:=by kernel_rfl
theorem Qi:Tryz.pinned.checked.prog.mainIs=some (Rows.heldCard.stood.harness.fst,Rows.heldCard.stood.harness.snd.toList):=by kernel_rfl
theorem Li:true=Tryz.pinned.checked.prog.looks []:=by kernel_rfl
theorem Hq:([9,3,36,23,3,9,23,3].all λu=>!Tryz.prog.wantsStandIn u)=true:=by kernel_rfl
theorem Qj:false=Rows.heldRow.goesBy Tryz.pinned.checked.prog:=by kernel_rfl
theorem Qk (h:Rows.HeldSaid):Rows.HeldCardSaid:=
  Claim7.holds_tied_plain_at .later [] [.data,.data,.data,.data,.sentinel,.sentinel,.pinned] true Rows.heldCard.stood.harness true
    h (λ_ h=>by cases h) YL (λ_ h=>by cases h) held_row_tie rfl ⟨rfl,rfl⟩ Qi rfl
    (λf g Y E=>by
      obtain rfl:f=8:=Option.some.inj (NY.symm.trans Y) |>.symm;obtain rfl:g=Tryz.f8:=(Option.some.inj<|Tryz.func8.symm.trans E).symm
      exact⟨Li,λj t U=>by
        rw[Tryz.params8]at U;have d:t∈[9,3,36,23,3,9,23,3]:=by simpa using Array.mem_of_getElem? U
        have R:([9,3,36,23,3,9,23,3].all λu=>!Tryz.prog.wantsStandIn u)=true:=Hq
        exact(show Tryz.prog.wantsStandIn t=false by simpa using List.all_eq_true.1 R t d)⟩)
    Qj
section
variable {n:SN}{p:PN}{P F a o b s:z'}{E:List bD}{m:List PN}
structure VW(P:Pm)(ls:List HL)(is:List<|List Int):Prop where
  len:ζ ls=ζ P.nd
  Yy:ζ is=ζ P.ex
  lM:∀(j:Nat)(x:HL),ls[j]?=C' x->x.lM=QW (P.at j)
  us:∀(j:Nat)(x:HL),ls[j]?=C' x->x.us=sA (P.at j)
  own:∀(j:Nat)(x:HL)(e:Nat),ls[j]?=C' x->e<ζ P.ex->(x.own=(e:Int)↔P.ev j e=P')
  agT:∀(j:Nat)(x:HL),ls[j]?=C' x->x.own=-1\/∃e:Nat,e<ζ P.ex/\x.own=(e:Int)
  kl:∀(e:Nat)(l:List Int)(v:Int),is[e]?=C' l->(v∈l↔∃k,P.ex[e]?=C' k/\oG k v=P')
  two:∀l∈is,ζ l<=2
def Mq(n:SN):ζ (sA n)<=2:=by unfold sA;split<;>split<;>simp
def RU(h:n.aO=1):0<ζ (sA n)↔n.a.aN=P'\/n.b.aN=P':=by
 unfold sA;have e:dP n=2:=by simp[dP,h]
 rw[e];cases n.a.aN<;>cases n.b.aN<;>simp
def tP(p:PN):(sB p=D'/\uk p.n=D')\/(p.n.aO=1/\sB p=C' (Ib p.ws)/\uk p.n=C' (jM p.n.a,p.n.op,jM p.n.b)):=by
 unfold sB uk;by_cases a:p.n.aO=1
 .by_cases C:0<ζ (sA p.n)
  .exact aH ⟨a,aB ⟨a,C⟩,aB ⟨a,(RU a).1 C⟩⟩
  exact aI ⟨ax λh=>C h.2,ax λh=>C<|(RU a).2 h.2⟩
 exact aI ⟨ax λh=>a h.1,ax λh=>a h.1⟩
def U5(e:p.ws=[P,F,a,o,b]):Ib p.ws=jw [a,o,b]:=by rw[e];simp[Ib,jw]
def Y5{q:PN}{r R d c:z'}(V:p.ws=[P,F,a,s,b])(u:q.ws=[r,R,d,c,o])(C:∀y∈p.ws,(32:UInt8)∉y.1.1)(e:∀y∈q.ws,(32:UInt8)∉y.1.1):Ib p.ws=Ib q.ws↔(a=d/\s=c/\b=o):=by
 rw[U5 V,U5 u];constructor;rotate_left
 .rintro⟨rfl,rfl,rfl⟩;rfl
 intro h;have Q:=xx a [s,b] λy B=>C y (by rw[V];simp at B|-;rcases B with rfl|rfl|rfl<;>simp);have f:=xx d [c,o] λy B=>e y (by rw[u];simp at B|-;rcases B with rfl|rfl|rfl<;>simp);rw[h,f]at Q;have:=zp Q;simp at this;exact⟨this.1.symm,this.2.1.symm,this.2.2.symm⟩
def Ć(pl:List PN)(k:Å)(e:bD):Prop:=∃p∈pl,uk p.n=C' k/\sB p=C' e
def Yl(B:∀p∈m,VT E p)(g:∀p∈m,∀y∈p.ws,(32:UInt8)∉y.1.1):∀a b e o,Ć m a b->Ć m e o->(a=e↔b=o):=by
 rintro a b e o ⟨p,U,h,c⟩ ⟨q,d,R,F⟩;rcases tP p with⟨C,_⟩|⟨f,C,i⟩
 .rw[C]at c;cases c
 rcases tP q with⟨N,_⟩|⟨k,N,j⟩
 .rw[N]at F;cases F
 rw[C]at c;rw[i]at h;rw[N]at F;rw[j]at R;cases h;cases c;cases R;cases F;obtain⟨_,_,_,_,_,V,_⟩:=(B p U).wd f;obtain⟨_,_,_,_,_,u,_⟩:=(B q d).wd k;rw[Y5 V u (g p U)<|g q d];exact(Ox (B p U) (B q d) f k V u).symm
def acX:Two (Ĺ<|Ć m) ((m.map PN.n).map uk) (m.map sB):=by
 refine⟨ak,λj a b c d=>?_⟩;simp only[bH]at c d;cases U:m[j]? with
 |none=>rw[U]at c;cases c
 |some p=>
  rw[U]at c d;simp only[gD,dq]at c d;subst c d;rcases tP p with⟨C,a⟩|⟨_,C,a⟩
  .rw[C,a];trivial
  rw[C,a];exact⟨p,aK U,a,C⟩
def NH:∀(m:List PN)(es:List bD),ζ es+ζ (Hc es m)=ζ (xu es m)
 |[],es=>by simp[Hc,xu]
 |p::r,es=>by
  have B:=NH r<|cg es<|sB p;have V:xu es (p::r)=xu (cg es<|sB p) r:=rfl;rw[V,<-B,Hc,aW];cases sB p with
  |none=>simp[cg]
  |some e=>by_cases l:e∈es<;>(simp[cg,l];try omega)
def abI(h:n.aO=1)(v:Int):v∈sA n↔oG (jM n.a,n.op,jM n.b) v=P':=by
 rw[Mp];have e:dP n=2:=by unfold dP;simp[h]
 unfold QV oG jM;rw[e];simp
def YB{l:List bD}(Q:l.Nodup){x:bD}{k:Nat}(d:x∈l):l.idxOf x=k↔l[k]?=C' x:=by
 constructor
 .intro h;rw[<-h];have:=qW d;rw[aQ this,Bp]
 intro h;obtain⟨X,l⟩:=aV.1 h;exact Lb Q X l
def aeD{ps:List (bD×Nat)}(h:jG s=Pr.ok m E)(l:∀p∈m,∀y∈p.ws,(32:UInt8)∉y.1.1):VW (e! m ps<|ζ E) (Qf [] m) (Hc [] m):=by
 have S:=Yl (aey h) l;have u:Two (Ć m) (e! m ps<|ζ E).ex (xu [] m):=N7 S _ _ _ _ acX Two.nil;have s:(xu [] m).Nodup:=n? _ _ vB;have W:∀(j:Nat)(p:PN),m[j]?=C' p->(e! m ps<|ζ E).at j=p.n:=λj p U=>(S? U).1;have q:∀p∈m,∀e,sB p=C' e->e∈xu [] m:=λp U e g=>sl _ _ _<|bp.2 ⟨p,U,g⟩;have d:=NH m [];simp only[de,bW]at d
 have o:∀(j:Nat)(x:HL),(Qf [] m)[j]?=C' x->∃p,m[j]?=C' p/\x.lM=QW p.n/\x.us=sA p.n/\((sB p=D'/\uk p.n=D'/\x.own=-1)\/(sB p=C' (Ib p.ws)/\uk p.n=C' (jM p.n.a,p.n.op,jM p.n.b)/\x.own=((xu [] m).idxOf (Ib p.ws):Int))):=λj x F=>by
  obtain⟨p,C,h,N,i⟩:=Us m [] j x F;refine⟨p,C,h,N,?_⟩;rcases tP p with⟨b,k⟩|⟨_,b,k⟩
  .rw[b]at i;exact aI ⟨b,k,i⟩
  rw[b]at i;exact aH ⟨b,k,i⟩
 refine⟨by rw[NR];simp[e!],by rw[d,u.len],λj x F=>?_,λj x F=>?_,λj x e F g=>?_,λj x F=>?_,λe l v X=>?_,λl X=>?_⟩
 .obtain⟨p,C,h,_⟩:=o j x F;rw[W j p C];exact h
 .obtain⟨p,C,_,N,_⟩:=o j x F;rw[W j p C];exact N
 .obtain⟨p,C,_,_,i⟩:=o j x F;rw[Pm.ev,W j p C];rcases i with⟨_,k,f⟩|⟨b,k,f⟩
  .rw[k,f];simp
  rw[k,f];obtain⟨y,B⟩:=La g;obtain⟨t,c⟩:=La (l:=(xu [] m)) (i:=e) (by rw[<-u.len];exact g);have U:=aK C;have w:=S _ _ _ _ ⟨p,U,k,b⟩<|u.each e y t B c;rw[B];simp only[bw];rw[w];have a:=YB s (k:=e)<|q p U _ b;constructor
  .intro z;have D:=a.1 I;rw[c]at D;cases D;rfl
  intro z;have:=a.2 (by rw[z];exact c);omega
 .obtain⟨p,C,_,_,i⟩:=o j x F;rcases i with⟨_,_,f⟩|⟨b,_,f⟩
  .exact aI f
  exact aH ⟨_,by rw[u.len];exact qW<|q p (aK C) _ b,f⟩
 .have g:e<ζ (xu [] m):=by rw[<-d];exact(aV.1 X).1
  obtain⟨t,c⟩:=La g;obtain⟨y,B⟩:=La (l:=(e! m ps<|ζ E).ex) (i:=e) (by rw[u.len];exact g);obtain⟨p,U,b,k⟩:=zH m [] e t c ak;simp only[de,rH]at k;rw[X]at k;cases k;rcases tP p with⟨R,_⟩|⟨r,R,i⟩
  .rw[R]at b;cases b
  rw[R]at b;cases b;have w:=(S _ _ _ _ ⟨p,U,i,R⟩<|u.each e y _ B c).2 rfl;rw[abI r,B,w];simp
 obtain⟨e,i⟩:=dN.1 X;have g:e<ζ (xu [] m):=by rw[<-d];exact(aV.1 i).1
 obtain⟨p,_,_,k⟩:=zH m [] e _ (aQ g) ak;simp only[de,rH]at k;rw[i]at k;cases k;exact Mq _
end
section
variable {P:Pm}{p:Int}{f n m v e:Nat}{a:Nat->Bool}{F:Nat->Nat->Bool}
def w8(h:P.st p n f=P'):P.rule p f n a=P':=by rw[Pm.rule,h];rfl
def p8(d:m∈P.PA p n)(h:P.ad p m f=P'\/(P.ps p n m f=P'/\a m=P')):P.rule p f n a=P':=by rw[Pm.rule,eS];refine aH<|De.2 ⟨m,d,?_⟩;rw[eS,aS];exact h
def Tl(U:p=1\/p=3)(h:(P.mK m)[k]?=C' n):m∈P.PA p n:=by rw[Pm.PA,ax I];exact bp.2 ⟨(m,k),Nq h,rfl⟩
def Tm(U:p=2\/p=4)(h:(P.mK m)[k]?=C' n):n∈P.PA p m:=by rw[Pm.PA,aB U];exact aK h
structure ą(P:Pm)(F:Nat->Nat->Bool)(n:Nat)(Ls:List Nat):Prop where
  len:ζ Ls=P.nv
  at_:∀(v f:Nat),Ls[v]?=C' f->f<P.facts 1/\P.LD f=(v:Int)/\F f n=P'
def Pa(h:sR P 1 F)(D:0<ζ P.nd):ą P F 0 (range P.nv):=by
 refine⟨ak,λv f Y=>?_⟩;have R:v<P.nv:=by have:=(aV.1 Y).1;simpa using this
 rw[jv R]at Y;cases Y;have X:v<P.facts 1:=by unfold Pm.facts;simp;omega
 refine⟨X,by rw[Pm.LD,aB R],h v 0 X D<|w8 ?_⟩;simp[Pm.st,R]
def SV(h:sR P 1 F)(p:∀n∈P.nd,wV P.nv n)(d:m<ζ P.nd)(K:n<ζ P.nd)(c:(P.mK m)[k]?=C' n){a:List Nat}(g:ą P F m a):ą P F n (if fL (P.at m) then a.set (P.at m).var.toNat (oJ P m) else a):=by
 have j:=Tl (p:=1) (aI rfl) c;have b:∀(v f:Nat),a[v]?=C' f->¬(fL (P.at m)=P'/\(P.at m).var=(v:Int))->f<P.facts 1/\P.LD f=(v:Int)/\F f n=P':=by
  intro v f Y z;obtain⟨C,a,N⟩:=g.at_ v f Y;refine⟨C,a,h f n C K<|p8 j<|aH ⟨?_,N⟩⟩;rw[Pm.ps,aB rfl,a];simp only[jY,Bool.and_eq_false_iff];by_cases Q:fL (P.at m)=P'
  .right;simp;exact λe=>z ⟨Q,e⟩
  left;simpa using Q
 cases Q:fL (P.at m)with
 |false=>simp only[bV,bB];exact⟨g.len,λv f Y=>b v f Y<|by rw[Q];simp⟩
 |true=>
  simp only[b8];have c:=(p _<|kT d).var (by simpa[fL]using Q);refine⟨by simp[g.len],λv f Y=>?_⟩;rcases xn Y with⟨e,rfl,X⟩|⟨e,Y⟩;rotate_left
  .exact b v f Y (by rintro⟨_,u⟩;omega)
  have R:v<P.nv:=I;have i:=zW d Q;have b:P.oK (oJ P m)=C' m:=nn.2 ⟨d,Q,rfl⟩;refine⟨i,(Ik i R).2<|aH ⟨m,d,Q,I,rfl⟩,h _ n i K<|p8 j<|aI ?_⟩;rw[Pm.ad,aB rfl,b];simp
def TY(h:sR P 2 F)(K:n<ζ P.nd)(R:v<P.nv)(hF:F v n=Q'):QV (P.at n) (v:Int)=Q':=by
 cases C:QV (P.at n) (v:Int)with
 |false=>rfl
 |true=>have:=h v n (by unfold Pm.facts;simp;exact R) K<|w8 (by unfold Pm.st;simp;exact C);rw[hF]at this;cases this
def PW(h:sR P 2 F)(d:m<ζ P.nd)(R:v<P.nv)(a:(P.mK m)[k]?=C' n)(hF:F v m=Q')(Q:¬(fL (P.at m)=P'/\(P.at m).var=(v:Int))):F v n=Q':=by
 cases C:F v n with
 |false=>rfl
 |true=>
  have:=h v m (by unfold Pm.facts;simp;exact R) d (p8 (Tm (aI rfl) a) (aH ⟨by
   simp only[Pm.ps,show ¬((2:Int)=1)by decide,bB,b8,jY,Bool.and_eq_false_iff];by_cases a:fL (P.at m)=P'
   .right;simp;exact λe=>Q ⟨a,e⟩
   .left;simpa using a,C⟩))
  rw[hF]at this;cases this
def KY(h:sR P 3 F)(D:0<ζ P.nd)(l:e<ζ P.ex):F e 0=P':=
 h e 0 (by unfold Pm.facts;simp;exact l) D (w8 (by unfold Pm.st;simp))
def P6(h:sR P 3 F)(K:n<ζ P.nd)(l:e<ζ P.ex)(b:(P.mK m)[k]?=C' n)(hF:F e n=Q'):P.kl m e=Q'/\(P.ev m e=P'\/F e m=Q'):=by
 have Y:e<P.facts 3:=by unfold Pm.facts;simp;exact l
 have a:=Tl (p:=3) (aH rfl) b;constructor
 .cases C:P.kl m e with
  |false=>rfl
  |true=>have:=h e n Y K<|p8 a<|aI (by unfold Pm.ad;simp;exact C);rw[hF]at this;cases this
 cases R:P.ev m e with
 |true=>exact aI rfl
 |false=>
  cases C:F e m with
  |false=>exact aH rfl
  |true=>have:=h e n Y K<|p8 a<|aH ⟨by unfold Pm.ps;simp;exact R,C⟩;rw[hF]at this;cases this
def Ce(h:sR P 4 F)(K:n<ζ P.nd)(l:e<ζ P.ex)(hF:F e n=Q'):(P.at n).aO≠6/\(P.kl n e=P'->P.ev n e=P'):=by
 have Y:e<P.facts 4:=by unfold Pm.facts;simp;exact l
 have R:P.st 4 n e=Q':=by
  cases C:P.st 4 n e with
  |false=>rfl
  |true=>have:=h e n Y K<|w8 C;rw[hF]at this;cases this
 unfold Pm.st at R;simp only[show ¬((4:Int)=1)by decide,show ¬((4:Int)=2)by decide,show ¬((4:Int)=3)by decide,bB,x5]at R;refine⟨J' R.1,λa=>?_⟩;rw[a]at R;simpa using R.2
def P5(h:sR P 4 F)(d:m<ζ P.nd)(l:e<ζ P.ex)(a:(P.mK m)[k]?=C' n)(hF:F e m=Q')(R:P.ev m e=Q'):F e n=Q':=by
 cases C:F e n with
 |false=>rfl
 |true=>have:=h e m (by unfold Pm.facts;simp;exact l) d<|p8 (Tm (aH rfl) a)<|aH ⟨by unfold Pm.ps;simp;exact R,C⟩;rw[hF]at this;cases this
end
section
variable {q:u'}
def eH(w:t')(ao:u')(st:List<|Nat×List Int):Prop:=∀j s,st[j]?=C' s->∃b o va vc,ao=C' (O b o)/\χ w (O b<|o+j*2)=C' (G s.1)/\χ w (O b<|o+j*2+1)=C' (bk va (ζ s.2) vc)/\b7 w va s.2
def eH.below{b:t'}{st:List (Nat×List Int)}(h:eH w q st)(c:Bl w b):eH b q st:=by intro j s f;obtain⟨b,o,z,x,C,e,N,d⟩:=h j s f;exact⟨b,o,z,x,C,aA e c,aA N c,d.below c⟩
def eH.pre{D z:List (Nat×List Int)}(h:eH w q z)(U:D <+: z):eH w q D:=by obtain⟨t,rfl⟩:=U;intro j x f;exact h j x (by rw[iC (aV.1 f).1];exact f)
def Hh{B n:Nat}{v:A'}{D:List Int}(h:ρ w B 2 1 v n<|D.map G)(K:ζ D=n):∃q a,v=h' q n a/\n<=a/\b7 w q D:=by
 rcases h.2 with⟨rfl,e⟩|⟨g,a,Y,R,c,b,T,d,y,U⟩
 .refine⟨D',0,by rw[e],I,λj x f=>?_⟩;have:=(aV.1 f).1;omega
 refine⟨_,a,R,T,λj x f=>⟨g,0,rfl,?_⟩⟩;have r:=(aV.1 f).1;have C:(D.map G)[j]?=C' (G x):=by simp[f]
 rw[<-U,xH,aB I]at C;simp only[World.cell?,b,bW];simpa using C
def yq:∀(l:List CM)(j:Nat)(s:CM),l[j]?=C' s->(fI l)[j*2]?=C' (G s.1)/\(fI l)[j*2+1]?=C' s.2.1
 |[],j,s,h=>by simp at h
 |a::l,0,s,h=>by simp at h;subst h;simp[fI]
 |a::l,j+1,s,h=>by
  have:=yq l j s<|J' h;have e:fI (a::l)=G a.1::a.2.1::fI l:=by simp[fI]
  rw[e,show(j+1)*2=j*2+1+1 by omega,show j*2+1+1+1=(j*2+1)+1+1 by omega];simpa using this
def Sk{i:t'}{l:Nat}{r:Int×List Int×List (Nat×List Int)}{f k:A'}{P:List CM}(h:pT w i l r f k P):∃q b,k=h' q (ζ r.2.2) b/\ζ r.2.2<=b/\eH i q r.2.2:=by
 obtain⟨_,f,N,d,_⟩:=h;have L:ζ r.2.2=ζ P:=by rw[<-N];simp[wE]
 rcases f.2 with⟨rfl,e⟩|⟨g,b,Y,R,t,h,T,u,y,U⟩
 .refine⟨D',0,by rw[L,e],I,λj x f=>?_⟩;have:=(aV.1 f).1;omega
 refine⟨_,b,by rw[L];exact R,I,λj x f=>?_⟩;have r:=(aV.1 f).1;obtain⟨s,m⟩:=La (l:=P) (i:=j) I;have F:x=(s.1,s.2.2):=by rw[<-N]at f;simp[wE,m]at f;exact f.symm
 subst F;obtain⟨Q,p⟩:=yq P j s m;rw[<-U,xH,aB I]at Q p;obtain⟨N,_,_⟩:=d s<|aK m;obtain⟨z,o,c,_,a⟩:=Hh N rfl;refine⟨g,0,z,o,rfl,?_,?_,a⟩
 .simp only[World.cell?,h,bW];simpa using Q
 simp only[World.cell?,h,bW];have:(Y.toList)[j*2+1]?=C' s.2.1:=p;rw[c]at this;simpa using this
end
def ĺ(L:List Nd)(a:Nat×List Int):Prop:=∃x,L[a.1]?=C' x/\x.reached=P'/\ζ x.aG=ζ a.2/\∀(j:Nat)(y:Int)(v:Vl),a.2[j]?=C' y->x.aG[j]?=C' v->(v.aO=1->y=v.lo)/\(v.aO=3->v.lo<=y/\y<=v.hi)
def aaK{p:Prop}(h:p:=by
 clear t U c f;go_wp2_with fail;go_roundw
 case rel=>exact⟨j+1,I,f',b.o _⟩
 exact H'):p:=h
def yi(b T:u')(sc r:Nat)(st:List<|Nat×List Int)(L:List Nd)(w:t')(hS:eH w b st)(p:bX w T L)(e:ζ st<=2000)(C:ζ L<=60)(W:∀a∈st,ζ a.2<=8)(R:∀a∈st,ĺ L a):
  Cl 54 #[h' b (ζ st) sc,h' T (ζ L) r] w (Rb w<|i' P'):=by
 have s:=ſ<|M hS<|M p<|M W R;clear hS p W R;go_enter func54,ntmps54;go_wp2_with fail;go_loopw[5] (λi wr=>∃k:Nat,k<=ζ st/\i=G k/\J (Bl w wr)) (λi _=>ζ st-(intOf i).toNat)
 case atStart=>exact⟨0,bq _,rfl,aP _ _⟩
 obtain⟨k,b,rfl,E⟩:=hrel;by_cases e:k<ζ st;rotate_left
 .have b:¬(k:Int)<(ζ st:Int):=I;go_wp2_with fail;go_ret;exact⟨rfl,E.o⟩
 have b:(k:Int)<(ζ st:Int):=I;obtain⟨a,g⟩:=La e;obtain⟨x,F,D,d,f⟩:=s.C a<|aK g;have b:=s.c a<|aK g;have B:=ſ f;obtain⟨W,o1,z,vc,rfl,X,p,u⟩:=(s.a.below E.o) k a g;obtain⟨b,o,fa,l,c,q,rc,xc,rfl,t,Y,j,N,v,y⟩:=(s.b.below E.o) a.1 x F;have b:(a.1:Int)<(ζ L:Int):=by have:=(aV.1 F).1;omega
 have m:=ſ<|M u y.aG;rw[D]at j;rw[d]at v;have b:((ζ a.2:Int) !=(ζ a.2:Int))=Q':=ak;have HL:=ſ d;clear f u y F g d D;generalize a.1=b at *;generalize x.rank=rk at *;go_upto_region 5 with fail
 refine oP (F:=Code.wp _ _ _ _) λV B=>?_;have U:=ſ<|aq E.o B.a;have K:=A B.b;have d:=aA p B.a;have u:=ſ<|M B.b d;have f:=ſ<|M (m.a.below B.a)<|m.A.below B.a;clear m X p t Y j N v B;generalize δ wr.1=m at *;go_quiet (fail);revert nq;intro b;clear K d;generalize j:V.drewN b=p;have g:J (Bl w p/\d' p m #[h' fa (ζ x.facts) q,h' l (ζ x.a!) rc,i' P',G rk,h' c (ζ a.2) xc] 96/\χ p (O W<|o1+k*2+1)=C' (h' z (ζ a.2) vc)/\b7 p z a.2/\jj p c x.aG):=by subst j;exact⟨below_drewN U.o _,u.a,u.A,f.a,f.A⟩
 clear j U u f;go_wp2_with fail;go_loopw[7] (λi q=>∃j:Nat,j<=ζ a.2/\i=G j/\J (Bl p q)) (λi _=>ζ a.2-(intOf i).toNat)
 case atStart=>exact⟨0,bq _,rfl,aP _ _⟩
 obtain⟨j,f,rfl,N⟩:=hrel;have K:=A<|aF N.o g.b;have d:=aA g.c N.o;by_cases r:j<ζ a.2;rotate_left
 .have m:¬(j:Int)<(ζ a.2:Int):=I;have D:=ſ<|aq g.a N.o;go_wp2_with fail;go_roundw
  case rel=>exact⟨k+1,I,f',D.o⟩
  exact H'
 have m:(j:Int)<(ζ a.2:Int):=I;obtain⟨y,F⟩:=La r;obtain⟨v,R⟩:=La (l:=x.aG) (i:=j) (by rw[HL.o];exact r);obtain⟨t,U⟩:=B.o j y v F R;obtain⟨x,b,rfl,e1⟩:=(g.d.below N.o) j y F;obtain⟨b,b,rfl,u,e3,e4,e5,Y,X⟩:=(g.D.below N.o) j v R;have D:=ſ<|aq g.a N.o;have b:=N;obtain⟨d,e,g,b,b,b⟩:=v;simp only at t U u e3 e4 e5 Y X;have c:∀o:Obj,Bl p (wr.alloc o):=λo=>aq N.o aY;have b:=ſ c;clear F R N c;by_cases c:d=1
 .have f:(d==1)=P':=by simp[c]
  have i:(d==3)=Q':=by simp[c]
  have l:(y !=e)=Q':=by simp[t c]
  clear t U c;go_wp2_with fail;go_roundw
  case rel=>exact⟨j+1,I,f',b.o _⟩
  exact H'
 have f:(d==1)=Q':=by simp[c]
 by_cases f:d=3
 .have i:(d==3)=P':=by simp[f]
  have l:decide (y<e)=Q':=by have:=U f;simp;omega
  have e:decide (g<y)=Q':=by have:=U f;simp;omega
  exact aaK
 have i:(d==3)=Q':=by simp[f]
 exact aaK
structure VX(L:List Nd)(ls:List HL)(st:List<|Nat×List Int):Prop where
  few:ζ st<=2000
  zm:ζ L<=60
  len:ζ ls=ζ L
  node:∀a∈st,a.1<ζ L
  fs:∀x∈L,ζ x.facts*8<=140737488355328
  us:∀y∈ls,ζ y.us<=2
structure Wnt(L:List Nd)(ls:List HL)(st:List<|Nat×List Int)(nv:Nat):Prop where
  use:∀(a:Nat×List Int)(v:Nat)(x:Nd)(y:HL),a∈st->v<nv->L[a.1]?=C' x->ls[a.1]?=C' y->(v:Int)∉x.facts->(v:Int)∉y.us
  next:∀(i:Nat)(a b:Nat×List Int)(v:Nat)(x x':Nd)(y:HL),st[i]?=C' a->st[i+1]?=C' b->v<nv->L[a.1]?=C' x->ls[a.1]?=C' y->L[b.1]?=C' x'->(v:Int)∉x.facts->y.lM≠(v:Int)->(v:Int)∉x'.facts
def JA(tb D:Nat)(e l:u')(sc nc:Nat)(st:List<|Nat×List Int)(L:List Nd)(ls:List HL)(F:List<|List Int)(w:t')(b:VU w tb ls D F)(hS:eH w e st)(p:bX w l L)(c:VX L ls st)(F:D<=8)(B:Wnt L ls st D):
  Cl 51 #[n'<|C'<|O tb 0,h' e (ζ st) sc,h' l (ζ L) nc] w (Rb w<|i' P'):=by
 have s:=ſ<|M b<|M hS<|M p<|M c B;have e:=c.few;have l:=c.zm;clear b hS p c B;go_enter func51,ntmps51;go_wp2_with fail;go_loopw[7] (λi wr=>∃k:Nat,k<=ζ st/\i=G k/\J (Bl w wr)) (λi _=>ζ st-(intOf i).toNat)
 case atStart=>exact⟨0,bq _,rfl,aP _ _⟩
 obtain⟨k,hk,rfl,c⟩:=hrel;by_cases e:k<ζ st;rotate_left
 .have b:¬(k:Int)<(ζ st:Int):=I;go_wp2_with fail;go_ret;exact⟨rfl,c.o⟩
 have b:(k:Int)<(ζ st:Int):=I;obtain⟨⟨n,E⟩,b⟩:∃a,st[k]?=C' a:=⟨_,aQ e⟩;have F:=s.d.node (n,E)<|aK b;obtain⟨x,d⟩:=La F;have K:=ſ<|M b d;clear b d;go_wp2_with fail;go_loopw[8] (λi wr=>∃v:Nat,v<=D/\i=G v/\J (Bl w wr)) (λi _=>D-(intOf i).toNat)
 case atStart=>exact⟨0,bq _,rfl,c⟩
 clear c;obtain⟨v,b,rfl,B⟩:=hrel;obtain⟨la,va,ea,ia,R,vc,ec,ic,C,h2,N⟩:=s.a.below B.o;have y1:=A C;have X:=ſ<|M C h2;clear C h2 N;by_cases bl:v<D;rotate_left
 .have b:¬(v:Int)<D:=I;go_wp2_with fail;go_roundw
  case rel=>exact⟨k+1,I,f',B.o⟩
  exact H'
 have b:(v:Int)<D:=I;obtain⟨b1,o1,wa,wc,rfl,c1,p,_⟩:=(s.b.below B.o) k (n,E) K.a;obtain⟨b,b,fa,l,b,q,rc,b,rfl,t,g,d,f,j,c⟩:=(s.c.below B.o) n x K.A;have Y:=ſ<|ve (v:Int) fa q x.facts wr c.facts<|s.d.fs x<|aK K.A;have b:(n:Int)<(ζ L:Int):=I;simp only at c1;clear g d f j c p;obtain⟨lv,c⟩:=Ea (decide ((v:Int)∈x.facts));rw[<-c]at Y;have d:J (lv=Q'->∀z:Nd,L[n]?=C' z->(v:Int)∉z.facts):=λh z f=>by rw[K.A]at f;cases f;rw[h]at c;exact gZ c.symm
 clear c;go_upto_region 9 with(go_at_call 102;refine Y.o.mono ?_;rintro r W ⟨rfl,rfl⟩)
 clear Y c1 t y1;go_loopw[10] (λi wr=>∃j:Nat,k<=j/\j<=ζ st/\i=G j/\J (lv=Q'->∀(c:Nat×List Int)(z:Nd),st[j]?=C' c->L[c.1]?=C' z->(v:Int)∉z.facts)/\J (Bl w wr)) (λi _=>ζ st-(intOf i).toNat)
 case atStart=>exact⟨k,aD _,hk,rfl,λh c z T f=>by rw[K.a]at T;cases T;exact d.o h z f,B⟩
 clear B d X;obtain⟨j,b,b,rfl,HJ,Y⟩:=hrel;by_cases U:j<ζ st;rotate_left
 .have b:¬(j:Int)<(ζ st:Int):=I;go_wp2_with fail;go_roundw
  case rel=>exact⟨v+1,I,f',Y.o⟩
  exact H'
 have b:(j:Int)<(ζ st:Int):=I;cases lv with
 |true=>
  go_wp2_with fail;go_roundw
  case rel=>exact⟨v+1,I,f',Y.o⟩
  exact H'
 |false=>
  obtain⟨⟨m,us⟩,T⟩:∃a,st[j]?=C' a:=⟨_,aQ U⟩;have b:=s.d.node (m,us)<|aK T;have e:(m:Int)<(ζ ls:Int):=by have:=s.d.len;omega
  obtain⟨z,f⟩:=La b;obtain⟨y,B⟩:=La (l:=ls) (i:=m) I;have V:=HJ.o rfl _ z T f;have bo:=s.D.use (m,us) v z y (aK T) bl f B V;have HN:=ſ λU c e K b=>s.D.next j (m,us) c v z e y T K bl f B b V U;obtain⟨la,va,ea,ia,R,vc,ec,ic,C,h2,N⟩:=s.a.below Y.o;obtain⟨t,X,pa,pl,pc,ua,d,rfl,o,e1,u,e3,e4⟩:=h2 m y B;obtain⟨b1,o1,wa,wc,hE,c1,p,_⟩:=(s.b.below Y.o) j (m,us) T;cases hE;simp only at c1;have y1:=A C;have g:=ſ λW (b:Bl wr W)=>ve (v:Int) ua d y.us W (e4.below b)<|L'<|s.d.us y<|aK B;rw[di bo]at g;clear C h2 N e4 p T f B V bo HJ;generalize ζ y.us=C at *;generalize y.lM=B at *;generalize y.own=e at *;go_upto_region 11 with fail
  go_cut [11] from 50 to 61 (λc q=>∃b:Nat,c=n' (C'<|O b 0)/\J (Bl wr q/\q.1[b]?=C' (j' #[h' pa pl pc,G B,h' ua C d,G e] 188 (0,0))))
  case first=>
   have N:χ wr (O tb 0)=C' (h' (C'<|O t X) (ζ ls) R):=by rw[y1.1];rfl
   have s:tb≠δ wr.1:=by have:=dh N;omega
   have x:b1≠δ wr.1:=by have:=dh c1;omega
   have c:t≠δ wr.1:=by have:=dh o;omega
   have i:=s.symm;have i:=x.symm;have i:=c.symm;clear y1
   go_region_held3 (λw'=>χ w' (O tb 0)=C' (h' (C'<|O t X) (ζ ls) R)/\χ w' (O b1<|o1+j*2)=C' (G m)/\χ w' (O t<|X+m*4)=C' (h' pa pl pc)/\χ w' (O t<|X+m*4+1)=C' (G B)/\χ w' (O t<|X+m*4+2)=C' (h' ua C d)/\χ w' (O t<|X+m*4+3)=C' (G e)) (go_keep) (fail)
   all_goals
    go_wp2_with fail
    go_meet
    exact⟨δ wr.1,rfl,aY.drew,bj _ _⟩
  obtain⟨b,rfl,V⟩:=hcut
  rename t'=>t
  have d:=A V.A;have p:=ſ<|g.o t V.a;have f:=ſ<|aq Y.o V.a;clear g V Y y1 c1 o e1 u e3;cases o:(B==(v:Int))with
  |true=>
   go_wp2_with (go_at_call 102;refine p.o.mono ?_;rintro r W ⟨rfl,rfl⟩);go_roundw
   case rel=>exact⟨v+1,I,f',f.o⟩
   exact H'
  |false=>
   have g:=ſ<|HN.o<|J' o;clear HN;go_wp2_with (go_at_call 102;refine p.o.mono ?_;rintro r W ⟨rfl,rfl⟩);go_roundw
   case rel=>exact⟨j+1,I,I,f',λ_=>g.o,f.o⟩
   exact H'
def Bb(y:HL)(l:List Int):Bool:=decide (0<=y.lM)&&decide (y.lM∈l)
structure Tim(L:List Nd)(ls:List HL)(is:List<|List Int)(st:List<|Nat×List Int):Prop where
  here:∀(a:Nat×List Int)(e:Nat)(x:Nd)(y:HL)(l:List Int),a∈st->L[a.1]?=C' x->ls[a.1]?=C' y->is[e]?=C' l->(e:Int)∉x.facts->y.own≠(e:Int)->Bb y l=Q'
  next:∀(i:Nat)(a b:Nat×List Int)(e:Nat)(x x':Nd)(y:HL),st[i]?=C' a->st[i+1]?=C' b->e<ζ is->L[a.1]?=C' x->ls[a.1]?=C' y->L[b.1]?=C' x'->(e:Int)∉x.facts->y.own≠(e:Int)->(e:Int)∉x'.facts
  last:∀(a:Nat×List Int)(e:Nat)(x:Nd),st[ζ st-1]?=C' a->e<ζ is->L[a.1]?=C' x->(e:Int)∈x.facts
def aaJ{p:Prop}(h:p:=by
 go_wp2_with (go_at_call 103;refine t.o.mono ?_;rintro r W ⟨rfl,rfl⟩);go_roundw
 case rel=>exact⟨j+1,P',I,I,f',rfl,(λh=>by cases h),D.o⟩
 exact H'):p:=h
def K!(tb nv:Nat)(d F:u')(sc nc:Nat)(st:List<|Nat×List Int)(L:List Nd)(ls:List HL)(T:List<|List Int)(w:t')(b:VU w tb ls nv T)(hS:eH w d st)(p:bX w F L)(c:VX L ls st)(fo:ζ T<=60)(C:∀l∈T,ζ l<=2)(B:Tim L ls T st):
  Cl 53 #[n'<|C'<|O tb 0,h' d (ζ st) sc,h' F (ζ L) nc] w (Rb w<|i' P'):=by
 have s:=ſ<|M b<|M hS<|M p<|M c<|M B C;have d:=c.few;have d:=c.zm;clear b hS p c B C;go_enter func53,ntmps53;go_wp2_with fail;go_loopw[7] (λi wr=>∃k:Nat,k<=ζ st/\i=G k/\J (Bl w wr)) (λi _=>ζ st-(intOf i).toNat)
 case atStart=>exact⟨0,bq _,rfl,aP _ _⟩
 obtain⟨k,hk,rfl,c⟩:=hrel;by_cases lG:k<ζ st;rotate_left
 .have b:¬(k:Int)<(ζ st:Int):=I;go_wp2_with fail;go_ret;exact⟨rfl,c.o⟩
 have b:(k:Int)<(ζ st:Int):=I;obtain⟨⟨n,E⟩,b⟩:∃a,st[k]?=C' a:=⟨_,aQ lG⟩;have F:=s.d.node (n,E)<|aK b;obtain⟨x,d⟩:=La F;have HA:=ſ<|M b d;clear b d;go_wp2_with fail;go_loopw[8] (λi wr=>∃e:Nat,e<=ζ T/\i=G e/\J (Bl w wr)) (λi _=>ζ T-(intOf i).toNat)
 case atStart=>exact⟨0,bq _,rfl,c⟩
 clear c;obtain⟨e,b,rfl,B⟩:=hrel;obtain⟨la,va,ea,ia,R,vc,ec,ic,C,h2,N⟩:=s.a.below B.o;have y1:=A C;clear C h2 N;by_cases K:e<ζ T;rotate_left
 .have b:¬(e:Int)<(ζ T:Int):=I;go_wp2_with fail;go_roundw
  case rel=>exact⟨k+1,I,f',B.o⟩
  exact H'
 have b:(e:Int)<(ζ T:Int):=I;obtain⟨b1,o1,wa,wc,rfl,c1,p,_⟩:=(s.b.below B.o) k (n,E) HA.a;obtain⟨b,b,fa,b,b,fc,rc,b,rfl,t,j,f,g,m,c⟩:=(s.c.below B.o) n x HA.A;have Y:=ſ<|ve (e:Int) fa fc x.facts wr c.facts<|s.d.fs x<|aK HA.A;have b:(n:Int)<(ζ L:Int):=I;simp only at c1;clear j f g m c p;obtain⟨lv,c⟩:=Ea (decide ((e:Int)∈x.facts));rw[<-c]at Y;have v:J (lv=Q'->∀z:Nd,L[n]?=C' z->(e:Int)∉z.facts):=λh z f=>by rw[HA.A]at f;cases f;rw[h]at c;exact gZ c.symm
 obtain⟨l,(HL:J _)⟩:=La K;clear c;go_upto_region 10 with(go_at_call 102;refine Y.o.mono ?_;rintro r W ⟨rfl,rfl⟩)
 clear Y c1 t y1;go_loopw[10,11] (λd i wr=>∃(j:Nat)(dn:Bool),k<=j/\j<=ζ st/\i=G j/\d=i' dn/\J (dn=Q'->j<ζ st/\∀(c:Nat×List Int)(z:Nd),st[j]?=C' c->L[c.1]?=C' z->(e:Int)∉z.facts)/\J (Bl w wr)) (λ_ i _=>ζ st-(intOf i).toNat)
 case atStart=>exact⟨k,lv,aD _,hk,rfl,rfl,λh=>⟨lG,λc z g f=>by rw[HA.a]at g;cases g;exact v.o h z f⟩,B⟩
 clear B v;obtain⟨j,dn,b,b,rfl,rfl,HJ,D⟩:=hrel;cases dn with
 |true=>
  by_cases X:j<ζ st
  .have U:(j:Int)<(ζ st:Int):=I;go_wp2_with fail;go_roundw
   case rel=>exact⟨e+1,I,f',D.o⟩
   exact H'
  have U:¬(j:Int)<(ζ st:Int):=I;go_wp2_with fail;go_roundw
  case rel=>exact⟨e+1,I,f',D.o⟩
  exact H'
 |false=>
  obtain⟨X,cc⟩:=HJ.o rfl;have U:(j:Int)<(ζ st:Int):=I;obtain⟨⟨m,Y⟩,g⟩:∃a,st[j]?=C' a:=⟨_,aQ X⟩;have b:=s.d.node (m,Y)<|aK g;have d:(m:Int)<(ζ ls:Int):=by have:=s.d.len;omega
  obtain⟨z,f⟩:=La b;obtain⟨y,B⟩:=La (l:=ls) (i:=m) I;have v:=cc _ z g f
  have HN:J (y.own≠(e:Int)->Bb y l=Q'/\j+1<ζ st/\∀(c:Nat×List Int)(z:Nd),st[j+1]?=C' c->L[c.1]?=C' z->(e:Int)∉z.facts):=λU=>by
   refine⟨s.e.here (m,Y) e z y l (aK g) f B HL.o v U,?_,λc i b d=>s.e.next j (m,Y) c e z i y g b K f B d v U⟩;by_cases b:j+1<ζ st
   .exact b
   exact absurd (s.e.last (m,Y) e z (by rw[show ζ st-1=j by omega];exact g) K f) v
  have t:=ſ<|zN tb m e nv ls T y l wr (s.a.below D.o) B HL.o<|s.E l<|aK HL.o;obtain⟨la,va,ea,ia,R,vc,ec,ic,C,h2,N⟩:=s.a.below D.o;obtain⟨x,b,b,b,x,b,d,rfl,o,V,u,e3,e4⟩:=h2 m y B;obtain⟨b1,o1,wa,wc,hE,c1,p,_⟩:=(s.b.below D.o) j (m,Y) g;cases hE;simp only at c1;have y1:=A C;obtain⟨q,hq⟩:=Ea<|Bb y l;rw[show(decide (0<=y.lM)&&decide (y.lM∈l))=q from hq.symm]at t;rw[<-hq]at HN;clear C h2 N e4 p g f B v HJ cc o V u hq;generalize y.own=b at *;cases o:(b==(e:Int))with
  |true=>
   clear HN;cases q with
   |true=>exact aaJ
   |false=>exact aaJ
  |false=>
   obtain⟨rfl,f,g⟩:=HN.o<|J' o;have p:=ſ<|M f g;clear HN f g;go_wp2_with (go_at_call 103;refine t.o.mono ?_;rintro r W ⟨rfl,rfl⟩);go_roundw
   case rel=>exact⟨j+1,Q',I,I,f',rfl,λ_=>p.o,D.o⟩
   exact H'
section
variable {W:t'}{g:Nat}{bs:List Bool}
def ade:(Tryz.prog.info? 4).map (λi=>(i.zero,i.size,i.bytes))=C' (C'<|i' Q',1,1):=H
structure Hnd(L:List Nd)(ls:List HL)(is:List<|List Int)(st:List<|Nat×List Int):Prop where
  start:∀(a:Nat×List Int)(e:Nat)(x:Nd),st[0]?=C' a->e<ζ is->L[a.1]?=C' x->(e:Int)∈x.facts
  next:∀(i:Nat)(a b:Nat×List Int)(e:Nat)(x x':Nd)(y:HL)(l:List Int),st[i]?=C' a->st[i+1]?=C' b->is[e]?=C' l->L[a.1]?=C' x->ls[a.1]?=C' y->L[b.1]?=C' x'->(e:Int)∉x'.facts->Bb y l=Q'/\(y.own=(e:Int)\/(e:Int)∉x.facts)
  own:∀y∈ls,y.own=-1\/∃e:Nat,e<ζ is/\y.own=(e:Int)
def Ai(bs:List Bool):Obj:=j' (θ<|bs.map i') 4 (0,0)
def ET{b:Bool}(h:W.1[g]?=C' (Ai bs))(a:bs[k]?=C' b):χ W (O g k)=C' (i' b)/\W.frozen? (O g k)=Q':=by obtain⟨E,g⟩:=A h;exact⟨by rw[E,cz,bH,a];rfl,g _⟩
def IF(h:W.1[g]?=C' (Ai bs))(b:Bool):(κ W (O g k)<|i' b).1[g]?=C' (Ai<|bs.set k b):=by rw[aw h];rw[Ai,cj,mx]
def aaI{p:Prop}(h:p:=by
 go_wp2_with (go_at_call 102;refine p.o.mono ?_;rintro r W ⟨rfl,rfl⟩);go_roundw
 case rel=>exact⟨v+1,I,f',f.o⟩
 exact H'):p:=h
def LU(tb nv:Nat)(j na:u')(sc nc:Nat)(st:List<|Nat×List Int)(L:List Nd)(ls:List HL)(T:List<|List Int)(w:t')(b:VU w tb ls nv T)(hS:eH w j st)(e:bX w na L)(g:VX L ls st)(fo:ζ T<=60)(i:∀l∈T,ζ l<=2)(B:Hnd L ls T st):
  Cl 52 #[n'<|C'<|O tb 0,h' j (ζ st) sc,h' na (ζ L) nc] w λv j=>v=o' (i' P')/\Below w.1.size w j:=by
 obtain⟨i1,c,D,HC,d⟩:=cG ade;have j:J (_/\_/\_/\_):=⟨c,D,HC,d⟩;have s:=ſ<|M b<|M hS<|M e<|M g<|M B i;have ahB:=g.few;have ahy:=g.zm;obtain⟨la,z,ea,ia,R,vc,ec,ic,C,h2,N⟩:=b;have y1:=A C;clear hS e g B i c D HC d C h2 N;go_enter func52,ntmps52;go_upto_region 2 with(at_make;refine eK _ rfl (.tmp 18) (.tmp 18) 139 rfl w.1.size 4 i1 _ 1 underlying139 j.a j.b j.c .i64 .i64 (ζ T) (ζ T) (ζ T) rfl rfl rfl rfl (by rw[j.C];omega) (by unfold maxLen;omega) ak ?_;intro t b d;have V:=ſ<|M b d;clear b d)
 have r:J (t.1[δ w.1]?=C' (Ai<|replicate (ζ T) Q')/\Below w.1.size w t):=by refine⟨?_,(aP _ _).grown V.A (aD _) (λq v=>by cases v)⟩;have C:=V.a;rw[d! _ 1 (by simp[Value.cells])<|ζ T]at C;rw[(fB C).1];rw[Ai,rO];congr 3;rw[show(i' Q').cells.toList=[i' Q'] from rfl];exact flatten_replicate_singleton
 obtain⟨g,c⟩:=Ea w.1.size;have b:J (t.1[g]?=C' (Ai<|replicate (ζ T) Q')/\Below w.1.size w t):=by rw[c];exact r.o
 rw[<-c];have HG:=ſ<|Nat.le_of_eq c.symm;clear V y1 c r;go_wp2_with fail;go_loopw[8] (λi wr=>∃(k:Nat)(bs:List Bool),k<=ζ st/\i=G k/\J (ζ bs=ζ T)/\J (∀(a:Nat×List Int)(v:Nat)(x:Nd),st[k]?=C' a->v<ζ T->L[a.1]?=C' x->(v:Int)∉x.facts->bs[v]?=C' P')/\J (wr.1[g]?=C' (Ai bs)/\Below w.1.size w wr)) (λi _=>ζ st-(intOf i).toNat)
 case atStart=>exact⟨0,replicate (ζ T) Q',bq _,rfl,by show _=_;simp,λa v x C h2 N d=>absurd (s.e.start a v x C h2 N) d,b.o⟩
 clear b;obtain⟨k,bs,j,rfl,HL,U,f⟩:=hrel;by_cases t:k<ζ st;rotate_left
 .have j:¬(k:Int)<(ζ st:Int):=I;go_wp2_with fail;go_ret;exact⟨rfl,f.A⟩
 have j:(k:Int)<(ζ st:Int):=I;obtain⟨⟨n,E⟩,b⟩:∃a,st[k]?=C' a:=⟨_,aQ t⟩;have j:=s.d.node (n,E)<|aK b;have t:(n:Int)<(ζ L:Int):=I;have t:(n:Int)<(ζ ls:Int):=by have:=s.d.len;omega
 obtain⟨x,F⟩:=La j;obtain⟨y,B⟩:=La (l:=ls) (i:=n) I;have HX:=ſ λv C h2=>U.o _ v x b C F h2;have HA:=ſ<|M b<|M F B;obtain⟨j,j,j,wc,rfl,HC,e,_⟩:=(s.b.below f.A) k (n,E) b;obtain⟨j,j,fa,ra,c,fc,rc,xc,rfl,_,_,_,_,_,_⟩:=(s.c.below f.A) n x F;simp only at HC;clear b F B U e;go_upto_region 6 with fail
 clear HC;go_wp2_with fail;go_loopw[10] (λi wr=>∃v:Nat,v<=ζ T/\i=G v/\J (wr.1[g]?=C' (Ai bs)/\Below w.1.size w wr)) (λi _=>ζ T-(intOf i).toNat)
 case atStart=>exact⟨0,bq _,rfl,f⟩
 clear f;obtain⟨v,he,rfl,f⟩:=hrel;by_cases K:v<ζ T
 .have e:(v:Int)<(ζ T:Int):=I;obtain⟨j,j,fa,ra,c,fc,rc,xc,hE,t,d1,d2,d3,F,d5⟩:=(s.c.below f.A) n x HA.b;cases hE;have p:=ſ<|ve (v:Int) fa fc x.facts wr d5.facts<|s.d.fs x<|aK HA.b;clear d1 d2 d3 F d5;cases Y:decide ((v:Int)∈x.facts)with
  |true=>rw[Y]at p;exact aaI
  |false=>rw[Y]at p;have z1:=ET f.a<|HX.o v K<|gZ Y;exact aaI
 have e:¬(v:Int)<(ζ T:Int):=I;obtain⟨la,z,ea,ia,R,vc,ec,ic,C,h2,N⟩:=s.a.below f.A;obtain⟨c,c,c,c,c,c,c,rfl,o,V,u,HC,b⟩:=h2 n y HA.B;have y1:=A C;have t:=s.e.own y<|aK HA.B;have X:=ſ<|M C HC;clear C h2 N o V u b
 go_upto_if 61 with fail
 go_cut [] from 20 to 85 (λc=>∃V:List Bool,J (V=if 0<=y.own then bs.set y.own.toNat P' else bs)/\J (c.1[g]?=C' (Ai V)/\Below w.1.size w c))
 case first=>
  rcases t with U|⟨q,hq,U⟩
  .rw[U]at HC|-;go_wp2_with fail
   go_meet
   exact⟨bs,by show _=_;rw[ax I],f.o⟩
  rw[U]at HC|-;have j:(q:Int)<(ζ T:Int):=I;have j:(0:Int)<=q:=I;obtain⟨c,c⟩:=La (l:=bs) (i:=q)<|L' HL.o;have z1:=ET f.a c;clear c;go_wp2_with fail
  go_meet
  exact⟨bs.set q P',by show _=_;rw[U,aB j];rfl,IF f.a P',f.A.setCell HG.o _⟩
 obtain⟨V,p,m⟩:=hcut
 rename t'=>F
 clear HC y1 t X f;have gz:J (ζ V=ζ T):=by show _=_;rw[p.o,<-HL.o];split<;>simp
 go_wp2_with fail;go_loopw[12] (λi wr=>∃(v:Nat)(o:List Bool),v<=ζ T/\i=G v/\J (ζ o=ζ T/\∀(HC:Nat)(l:List Int),T[HC]?=C' l->v<=HC\/Bb y l=Q'->o[HC]?=V[HC]?)/\J (wr.1[g]?=C' (Ai o)/\Below w.1.size w wr)) (λi _=>ζ T-(intOf i).toNat)
 case atStart=>exact⟨0,V,bq _,rfl,⟨gz.o,λ_ _ _ _=>rfl⟩,m⟩
 clear m;obtain⟨v,o,he,rfl,B,f⟩:=hrel;by_cases K:v<ζ T;rotate_left
 .have e:¬(v:Int)<(ζ T:Int):=I
  have HR:J (∀(a:Nat×List Int)(v:Nat)(x:Nd),st[k+1]?=C' a->v<ζ T->L[a.1]?=C' x->(v:Int)∉x.facts->o[v]?=C' P'):=λb HC i C h2 N d=>by
   obtain⟨l,X⟩:=La h2;obtain⟨g,c⟩:=s.e.next k (n,E) b HC x i y l HA.a C X HA.b HA.B N d;rw[B.A HC l X<|aH g,p.o];rcases c with c|c
   .rw[c,aB I];simp only[rK];rw[getElem?_set_self<|L' HL.o]
   have:=HX.o HC h2 c;split
   .by_cases u:y.own.toNat=HC
    .rw[u,getElem?_set_self<|L' HL.o]
    rw[C9 u];exact this
   exact this
  go_wp2_with fail;go_roundw
  case rel=>exact⟨k+1,o,I,f',B.a,HR.o,f.o⟩
  exact H'
 have e:(v:Int)<(ζ T:Int):=I;obtain⟨l,X⟩:=La K;have D:=ſ<|zN tb n v nv ls T y l wr (s.a.below f.A) HA.B X<|s.E l<|aK X;rw[show(decide (0<=y.lM)&&decide (y.lM∈l))=Bb y l from rfl]at D
 have HN:J (∀c:List Bool,(∀HC,HC≠v->c[HC]?=o[HC]?)->(Bb y l=Q'->c[v]?=o[v]?)->∀(HC:Nat)(m:List Int),T[HC]?=C' m->v+1<=HC\/Bb y m=Q'->c[HC]?=V[HC]?):=λc C h2 HC m Y U=>by
  by_cases u:HC=v
  .subst u;rw[X]at Y;cases Y;have hq:Bb y l=Q':=by rcases U with h|h;(· omega);exact h
   rw[h2 hq];exact B.A HC l X<|aI<|aD _
  rw[C HC u];exact B.A HC m Y (by rcases U with h|h;(· exact aI I);exact aH h)
 obtain⟨q,hq⟩:=Ea<|Bb y l;rw[<-hq]at D HN;obtain⟨d,L⟩:=La (l:=o) (i:=v)<|L' B.a;have z1:=ET f.a L;clear X hq L;cases q with
 |true=>
  go_wp2_with (go_at_call 103;refine D.o.mono ?_;rintro r W ⟨rfl,rfl⟩);go_roundw
  case rel=>exact⟨v+1,o.set v Q',I,f',⟨by rw[jn];exact B.a,HN.o _ (λHC Y=>by rw[C9 λh=>Y h.symm]) (λh=>by cases h)⟩,IF f.a Q',f.A.setCell HG.o _⟩
  exact H'
 |false=>
  go_wp2_with (go_at_call 103;refine D.o.mono ?_;rintro r W ⟨rfl,rfl⟩);go_roundw
  case rel=>exact⟨v+1,o,I,f',⟨B.a,HN.o _ (λ_ _=>rfl) λ_=>rfl⟩,f.o⟩
  exact H'
end
def oS(ls:List HL)(i:Nat):Nat:=ζ ((ls.take i).filter λy=>decide (0<=y.lM))
def CG{a:List HL}{i:Nat}{y:HL}(h:a[i]?=C' y):oS a (i+1)=if 0<=y.lM then oS a i+1 else oS a i:=by
 unfold oS;obtain⟨X,e⟩:=aV.1 h;rw[cX X,C8,aW,e];by_cases U:0<=y.lM
 .simp[U]
 simp[U]
def gA(ls:List HL)(st:List<|Nat×List Int)(nv:Nat):Nat->List Nat
 |0=>range nv
 | k+1=>match st[k]? with
  |none=>gA ls st nv k
  |some a=>match ls[a.1]? with
   |none=>gA ls st nv k
   |some y=>if 0<=y.lM then(gA ls st nv k).set y.lM.toNat (nv+oS ls a.1) else gA ls st nv k
def zu{b:List HL}{st:List (Nat×List Int)}{nv k:Nat}{a:Nat×List Int}{y:HL}(h:st[k]?=C' a)(B:b[a.1]?=C' y):gA b st nv (k+1)=if 0<=y.lM then(gA b st nv k).set y.lM.toNat (nv+oS b a.1) else gA b st nv k:=by rw[gA,h];simp only;rw[B]
def vd(c:List HL)(st:List<|Nat×List Int)(b:Nat):∀k,ζ (gA c st b k)=b
 |0=>by simp[gA]
 |k+1=>by
  have B:=vd c st b k;rw[gA];split
  .exact B
  split
  .exact B
  split
  .rw[jn];exact B
  exact B
def KO(l:List Nat):List A':=l.map λf:Nat=>G f
def M4{w:t'}{B n b k f:Nat}{a:u'}{l:List Nat}(h:ρ w B 3 1 (h' a n b) n<|KO l)(c:l[k]?=C' f):∃g,a=C' (O g 0)/\χ w (O g k)=C' (G f):=by
 have X:=h.1;have Bb:=(aV.1 c).1;rw[KO,bA,rJ]at X;rcases h.2 with⟨_,e⟩|⟨g,u,Y,R,_⟩
 .omega
 simp at R;obtain⟨rfl,rfl⟩:=R;refine⟨g,rfl,?_⟩;rw[h.cellAt k I,KO,bH,c];rfl
structure Rea(L:List Nd)(ls:List HL)(st:List<|Nat×List Int)(nv:Nat):Prop where
  fact:∀(k:Nat)(a:Nat×List Int)(x:Nd)(f:Nat),st[k]?=C' a->L[a.1]?=C' x->f∈gA ls st nv k->(f:Int)∈x.facts
  lM:∀y∈ls,y.lM=-1\/∃v:Nat,v<nv/\y.lM=(v:Int)
def Ga(l t:Nat)(e na:u')(sc r:Nat)(st:List<|Nat×List Int)(L:List Nd)(K:List HL)(W:List<|List Int)(w:t')(b:VU w l K t W)(hS:eH w e st)(p:bX w na L)(f:VX L K st)(W:t<=8)(B:Rea L K st t):
  Cl 50 #[n'<|C'<|O l 0,h' e (ζ st) sc,h' na (ζ L) r] w (Rb w<|i' P'):=by
 obtain⟨i0,c,D,e,d⟩:=cG nW;have HI:J (_/\_/\_/\_):=⟨c,D,e,d⟩;have s:=ſ<|M b<|M hS<|M p<|M f B;have l:=f.few;have l:=f.zm;clear b hS p f B c D e d;go_enter func50,ntmps50;go_wp2_with fail;go_loopw[7,8] (λl i wr=>∃(v:Nat),v<=t/\i=G v/\J (ρ wr w.1.size 3 1 l v (KO<|range v)/\Bl w wr)) (λ_ i _=>t-(intOf i).toNat)
 case atStart=>exact⟨0,bq _,rfl,cY _ _ _ _,aP _ _⟩
 obtain⟨v,b,rfl,B⟩:=hrel;obtain⟨la,va,ea,ia,R,vc,ec,ic,C,h2,N⟩:=s.a.below B.A;have y1:=A C;clear C h2 N;by_cases b:v<t
 .have U:(v:Int)<t:=I;have fi:=B.A.size;have o:=B.a;go_wp2_with (at_builtin;refine iK _ rfl (.tmp 25) (.tmp 27) 36 rfl w.1.size 3 i0 (G 0) 1 8 underlying36 HI.a HI.b HI.c HI.C rfl aj _ _ _ rfl (o.alloc _) (O wr.1.size 0) 1 1 [G v] rfl rfl Ap (by intro u hu;simp at hu;subst hu;rfl) (by unfold maxLen;omega) I I' ?_;intro b b b W _);go_roundw
  case rel=>
   refine⟨v+1,I,f',?_,(B.A.alloc fi _).grown W I' λq j=>(o.lt q j).1⟩;rw[show KO (range<|v+1)=KO (range v)++[G v] by simp[KO,kI]];exact b
  exact H'
 have U:¬(v:Int)<t:=I;obtain rfl:v=t:=I;obtain⟨ao,X,d⟩:=aX B.a;subst d;go_wp2_with fail;clear y1;have b:J (ρ wr w.1.size 3 1 (h' ao v X) v (KO<|gA K st v 0)/\Bl w wr):=B.o;clear B;go_loopw[9] (λi wr=>∃k:Nat,k<=ζ st/\i=G k/\J (ρ wr w.1.size 3 1 (h' ao v X) v (KO<|gA K st v k)/\Bl w wr)) (λi _=>ζ st-(intOf i).toNat)
 case atStart=>exact⟨0,bq _,rfl,b⟩
 clear b;obtain⟨k,b,rfl,D⟩:=hrel;by_cases e:k<ζ st;rotate_left
 .have b:¬(k:Int)<(ζ st:Int):=I;go_wp2_with fail;go_ret;exact⟨rfl,D.A⟩
 have b:(k:Int)<(ζ st:Int):=I;obtain⟨⟨n,E⟩,c⟩:∃a,st[k]?=C' a:=⟨_,aQ e⟩;have b:n<ζ L:=s.d.node (n,E)<|aK c;have e:(n:Int)<(ζ L:Int):=I;have e:(n:Int)<(ζ K:Int):=by have:=s.d.len;omega
 obtain⟨x,F⟩:=La b;obtain⟨y,B⟩:=La (l:=K) (i:=n) I;have T:=ſ<|M c<|M F B;obtain⟨b,b,b,wc,rfl,d,p,_⟩:=(s.b.below D.A) k (n,E) c;obtain⟨b2,o2,fa,ra,xa,fc,rc,xc,rfl,_,_,_,_,_,_⟩:=(s.c.below D.A) n x F;simp only at d;clear c F B p;go_upto_region 10 with fail
 clear d;go_wp2_with fail;go_loopw[11] (λi wr=>∃u:Nat,u<=v/\i=G u/\J (ρ wr w.1.size 3 1 (h' ao v X) v (KO<|gA K st v k)/\Bl w wr)) (λi _=>v-(intOf i).toNat)
 case atStart=>exact⟨0,bq _,rfl,D⟩
 clear D;obtain⟨u,hu,rfl,D⟩:=hrel;by_cases e:u<v
 .have gm:(u:Int)<v:=I;obtain⟨f,Y⟩:=La (l:=(gA K st v k)) (i:=u) (by rw[vd];exact e);have c:=s.D.fact k (n,E) x f T.a T.b<|aK Y;obtain⟨g,rfl,z1⟩:=M4 D.a Y;obtain⟨b,b,fa,ra,xa,fc,rc,xc,hE,t,d1,d2,d3,F,B⟩:=(s.c.below D.A) n x T.b;cases hE;have b:=ſ λW (h:b7 W fa x.facts)=>ve (f:Int) fa fc x.facts W h<|s.d.fs x<|aK T.b;rw[dM c]at b;have e:=ſ B.facts;clear d1 d2 d3 F B Y c;go_upto_region 13 with fail
  go_region_held3 (λw'=>χ w' (O g u)=C' (G f)/\χ w' (O b2<|o2+n*5)=C' (bk fa (ζ x.facts) fc)) (go_keep) ((go_at_call 102;refine(b.o _<|by exact e.o).mono ?_;rintro r W ⟨rfl,rfl⟩))
  all_goals
   go_wp2_with fail;go_roundw
   case rel=>exact⟨u+1,I,f',D.a,D.A.drew⟩
   exact H'
 have gm:¬(u:Int)<v:=I;obtain⟨la,va,ea,ia,R,vc,ec,ic,C,h2,N⟩:=s.a.below D.A;obtain⟨x,b,pa,pl,pc,ua,d,rfl,e0,V,e2,e3,e4⟩:=h2 n y T.B;have y1:=A C;have b:=zu (nv:=v) T.a T.B;simp only at b;rcases s.D.lM y (aK T.B)with U|⟨q,j,U⟩
 .rw[U,ax I]at b;have Wz:=ſ b;rw[U]at V;clear C h2 N e0 e2 e3 e4 b U;go_wp2_with fail;go_roundw
  case rel=>exact⟨k+1,I,f',by rw[Wz.o];exact D.o⟩
  exact H'
 rw[U,aB I]at b;simp only[rK]at b;have Wz:=ſ<|M b j;rw[U]at V;have l:(0:Int)<=q:=I;have c:(q:Int)<v:=I;clear C h2 N e0 e2 e3 e4 b U j;go_upto_region 19 with fail
 clear y1 V;go_wp2_with fail;go_loopw[14,15] (λf i wr=>∃j:Nat,j<=n/\i=G j/\f=G ((v+oS K j:Nat):Int)/\oS K j<=j/\J (ρ wr w.1.size 3 1 (h' ao v X) v (KO<|gA K st v k)/\Bl w wr)) (λ_ i _=>n-(intOf i).toNat)
 case atStart=>exact⟨0,bq _,rfl,by simp[oS],by simp[oS],D⟩
 clear D;obtain⟨j,b,rfl,rfl,hcj,D⟩:=hrel;by_cases r:j<n;rotate_left
 .have m:¬(j:Int)<n:=I;obtain rfl:j=n:=I;obtain⟨b,cd⟩:=La (l:=(gA K st v k)) (i:=q) (by rw[vd];exact Wz.A);obtain⟨g,rfl,z1⟩:=M4 D.a cd;have b:=D.a.frozenAt q;have p:J (ρ (κ wr (O g q)<|G ((v+oS K j:Nat):Int)) w.1.size 3 1 (h' (C'<|O g 0) v X) v (KO<|gA K st v<|k+1)/\Bl w (κ wr (O g q)<|G ((v+oS K j:Nat):Int))):=by have C:=(D.a.stored q<|G ((v+oS K j:Nat):Int)).1;refine⟨?_,D.A.setCell (D.a.lt g rfl).1 _⟩;rw[Wz.a,show KO ((gA K st v k).set q<|v+oS K j)=(KO<|gA K st v k).set q (G ((v+oS K j:Nat):Int))by simp[KO,mx]];exact C
  clear cd;generalize b:v+oS K j=X at *;go_wp2_with fail;go_roundw
  case rel=>exact⟨k+1,I,f',p.o⟩
  exact H'
 have m:(j:Int)<n:=I;have b:(j:Int)<(ζ K:Int):=I;obtain⟨z,hz⟩:=La (l:=K) (i:=j) I;obtain⟨la,va,ea,ia,R,vc,ec,ic,C,h2,N⟩:=s.a.below D.A;obtain⟨b,b,pa,pl,pc,ua,d,hE,e0,V,e2,e3,e4⟩:=h2 j z hz;subst hE;have y1:=A C;have b:=CG hz;clear C h2 N e0 e2 e3 e4 hz;cases d:decide (0<=z.lM)with
 |true=>
  rw[aB<|xV d]at b;have c:=ſ b;clear b;go_wp2_with fail;go_roundw
  case rel=>exact⟨j+1,I,f',by rw[c.o];go_num,by rw[c.o];omega,D⟩
  exact H'
 |false=>
  rw[ax<|gZ d]at b;have c:=ſ b;clear b;go_wp2_with fail;go_roundw
  case rel=>exact⟨j+1,I,f',by rw[c.o],by rw[c.o];omega,D⟩
  exact H'
structure û(p en:Int)(L:List Nd)(ls:List HL)(is:List<|List Int)(st:List<|Nat×List Int)(nv:Nat):Prop where
  sin:VX L ls st
  v8:nv<=8
  few:ζ is<=60
  two:∀l∈is,ζ l<=2
  aG:∀a∈st,ζ a.2<=8
  rea:p=1->Rea L ls st nv
  wnt:p=2->Wnt L ls st nv
  tI:p=3->Hnd L ls is st
  tim:p=4->en=1->Tim L ls is st
  vok:p=5\/p=6->∀a∈st,ĺ L a
def aaH{p:Prop}(h:p:=by
 go_wp2_with (go_at_call 54;refine Y.o.mono ?_;rintro e o ⟨rfl,(z:J _)⟩);go_ret
 exact⟨rfl,aq b.o z.o⟩):p:=h
def Qt(t:z')(p F:Int)(j f T:u')(m i s r y:Nat)(st:List<|Nat×List Int)(L:List Nd)(g:List HL)(D:List<|List Int)(w:t')(o:1<=p/\p<=6)(v:∀W,Bl w W->Cl 49 #[m' t] W λe d=>(∃l,e=o' (lR l)/\VU d l g y D)/\Bl W d)(hS:eH w f st)(c:bX w T L)(b:û p F L g D st y):
  Cl 24 #[m' t,G p,k' #[G F,h' j m i,h' f (ζ st) s],h' T (ζ L) r] w (Rb w<|i' P'):=by
 have j:=ſ<|M v<|M hS<|M c b;have d:=b.sin.len;clear v hS c b;go_enter func24,ntmps24;go_upto_region 1 with fail
 refine oP (F:=Code.wp _ _ _ _) λV B=>?_;have z:=ſ<|j.a V B.a;go_upto_region 2 with(go_at_call 49;refine z.o.mono ?_;rintro e W ⟨⟨l,rfl,b⟩,hb⟩;have U:=ſ<|M b hb;clear b hb)
 have b:=ſ<|aq B.a U.A;have E:=A<|aF U.A B.b;have v:=ſ<|j.b.below b.o;have K:=ſ<|j.c.below b.o;obtain⟨i,i,i,m,R,x,i,V,C,i,N⟩:=U.a;have m:=A C;have u:((ζ g:Int) !=(ζ L:Int))=Q':=by rw[d];simp
 have c:=ſ j.C;have X:=ſ U.a;clear C i N d z U j B;have d:p=1\/p=2\/p=3\/p=4\/p=5\/p=6:=I;clear o;rcases d with rfl|rfl|rfl|rfl|rfl|rfl
 .have Y:=ſ<|Ga l y f T s r st L g D W X.o v.o K.o c.o.sin c.o.v8<|c.o.rea rfl;go_wp2_with (go_at_call 50;refine Y.o.mono ?_;rintro e o ⟨rfl,N⟩;have z:=ſ N;clear N);go_ret;exact⟨rfl,aq b.o z.o⟩
 .have Y:=ſ<|JA l y f T s r st L g D W X.o v.o K.o c.o.sin c.o.v8<|c.o.wnt rfl;go_wp2_with (go_at_call 51;refine Y.o.mono ?_;rintro e o ⟨rfl,N⟩;have z:=ſ N;clear N);go_ret;exact⟨rfl,aq b.o z.o⟩
 .have Y:=ſ<|LU l y f T s r st L g D W X.o v.o K.o c.o.sin c.o.few c.o.two<|c.o.tI rfl;go_wp2_with (go_at_call 52;refine Y.o.mono ?_;rintro e o ⟨rfl,N⟩;have z:=ſ N;clear N);go_ret;exact⟨rfl,aq b.o z.o⟩
 .by_cases q:F=1
  .have hb:(F !=1)=Q':=by simp[q]
   have Y:=ſ<|K! l y f T s r st L g D W X.o v.o K.o c.o.sin c.o.few c.o.two<|c.o.tim rfl q;clear q;go_wp2_with (go_at_call 53;refine Y.o.mono ?_;rintro e o ⟨rfl,N⟩;have z:=ſ N;clear N);go_ret;exact⟨rfl,aq b.o z.o⟩
  have hb:(F !=1)=P':=by simp[q]
  clear q;go_wp2_with fail;go_ret;exact⟨rfl,b.o⟩
 .have Y:=ſ<|yi f T s r st L W v.o K.o c.o.sin.few c.o.sin.zm c.o.aG<|c.o.vok<|aI rfl;exact aaH
 have Y:=ſ<|yi f T s r st L W v.o K.o c.o.sin.few c.o.sin.zm c.o.aG<|c.o.vok<|aH rfl;exact aaH
section
variable {P:Pm}{T:List (List Int)}
def Ut{a:List HL}(b:VW P a T)(p:∀n∈P.nd,wV P.nv n){j e:Nat}{y:HL}{l:List Int}(f:a[j]?=C' y)(a:T[e]?=C' l):Bb y l=P.kl j e:=by
 have r:j<ζ P.nd:=by rw[<-b.len];exact(aV.1 f).1
 rw[Bb,Pm.kl,b.lM j y f];unfold QW;cases Q:fL (P.at j)with
 |false=>simp
 |true=>
  have R:=(p _<|kT r).var (by simpa[fL]using Q);have D:=R.1;simp only[b8,D,xT,eV];rw[cK,bw,b.kl e l _ a];have K:e<ζ P.ex:=by rw[<-b.Yy];exact(aV.1 a).1
  rw[aQ K];simp
def Od{P:Pm}{a:List HL}{T:List (List Int)}(b:VW P a T)(p:∀n∈P.nd,wV P.nv n):∀m,m<=ζ P.nd->P.nv+oS a m=oJ P m
 |0,_=>by simp[oS,oJ,qU]
 |m+1,h=>by
  have c:=Od b p m I;obtain⟨y,B⟩:=La (l:=a) (i:=m) (by rw[b.len];omega);rw[CG B,Ij I,b.lM m y B];unfold QW;cases Q:fL (P.at m)with
  |false=>simp[c]
  |true=>have R:=(p _<|kT<|show m<ζ P.nd by omega).var (by simpa[fL]using Q);simp only[b8,aB R.1];omega
def MO{P:Pm}{d:List HL}{T:List (List Int)}{st:List (Nat×List Int)}{F:Nat->Nat->Bool}(c:VW P d T)(p:∀n∈P.nd,wV P.nv n)(j:Bm P st)(f:sR P 1 F):∀(k:Nat)(a:Nat×List Int),st[k]?=C' a->ą P F a.1 (gA d st P.nv k)
 |0,a,ha=>by have e:=j.first a ha;have C:=(j.node a<|aK ha).1;subst e;exact Pa f C
 |k+1,b,hb=>by
  have e:k<ζ st:=by have:=(aV.1 hb).1;omega
  obtain⟨a,ha⟩:=La e;have T:=(j.node a<|aK ha).1;have m:=(j.node b<|aK hb).1;obtain⟨q,_,_,e,_⟩:=j.step k a b ha hb;have b:=MO c p j f k a ha;obtain⟨y,B⟩:=La (l:=d) (i:=a.1) (by rw[c.len];exact T);have C:=SV f p T m e b;rw[zu ha B,c.lM _ y B,Od c p a.1 I];unfold QW;cases b:fL (P.at a.1)with
  |false=>rw[b]at C;simpa using C
  |true=>have R:=(p _<|kT T).var (by simpa[fL]using b);rw[b]at C;simp only[b8]at C|-;rw[aB R.1];exact C
def Yp{ls:List HL}{st:List (Nat×List Int)}{en:Int}{c:Ct}(s:Au P)(p:∀n∈P.nd,wV P.nv n)(z:VW P ls T)(hR:VY P en st)(l:ζ st<=2000)(r:ny c)(Y:nZ P c=P')(U:1<=c.aM/\c.aM<=6)(hS:c.aM<=4->sR P c.aM λf=>qM c f<|-1)(hE:5<=c.aM->ę P c.aM (gq c<|-1)):û c.aM en (c.nodes.map uh) ls T st P.nv:=by
 have L:=(zR Y).1
 have F:∀(n:Nat)(x:Nd),(c.nodes.map uh)[n]?=C' x->n<ζ P.nd/\x=uh (c.at n):=λn x h=>by
  rw[bH]at h;have X:n<ζ c.nodes:=by
   cases W:c.nodes[n]? with
   |none=>rw[W]at h;cases h
   |some y=>exact(aV.1 W).1
  rw[aQ X]at h;simp only[gD,dq]at h;refine⟨I,?_⟩;rw[<-h];rw[Ct.at,cy,aQ X];rfl
 have V:∀(n f:Nat),(f:Int)∉(uh<|c.at n).facts->qM c f (-1) n=Q':=λn f h=>by
  cases W:qM c f (-1) n with
  |false=>rfl
  |true=>exact absurd ((sO c f n).1 W) h
 have ar:∀(n f:Nat),qM c f (-1) n=Q'->(f:Int)∉(uh<|c.at n).facts:=λn f h hm=>by rw[(sO c f n).2 hm]at h;cases h
 have D:∀{e:Nat},e<ζ T->e<ζ P.ex:=λh=>by rw[<-z.Yy];exact h
 refine⟨⟨l,by rw[bA,L];exact s.ok.most,by rw[bA,L,z.len],λa t=>by rw[bA,L];exact(hR.half.node a t).1,λx hxm=>?_,λy B=>?_⟩,s.ok.nv,?_,z.two,λa t=>by rw[(hR.half.node a t).2.1];exact s.ok.nv,λC=>⟨λk a x f t d YJ=>?_,λy B=>?_⟩,λC=>⟨λa v x y t R d B ah=>?_,λi a b v x x' y t hb R d B g ah ed=>?_⟩,λC=>⟨λa e x t E d=>?_,λi a b e x x' y l t hb E d B g ae=>?_,λy B=>?_⟩,λC ff=>⟨λa e x y l t d B E ae an=>?_,λi a b e x x' y t hb E d B g ae an=>?_,λa e x t E d=>?_⟩,λC a t=>?_⟩
 .obtain⟨m,hm,rfl⟩:=bp.1 hxm;exact(r.nodes m hm).fsz
 .obtain⟨j,hj⟩:=dN.1 B;rw[z.us j y hj];exact Mq _
 .rw[z.Yy];have C:=N8<|P.nd.map uk;rw[bA]at C;exact br C s.ok.most
 .obtain⟨_,rfl⟩:=F _ x d;have W:=MO z p hR.half (by rw[<-C];exact hS I) k a t;obtain⟨v,R⟩:=dN.1 YJ;exact(sO c f a.1).1 (W.at_ v f R).2.2
 .obtain⟨j,hj⟩:=dN.1 B;rw[z.lM j y hj];unfold QW;have r:j<ζ P.nd:=by rw[<-z.len];exact(aV.1 hj).1
  cases f:fL (P.at j)with
  |false=>exact aI rfl
  |true=>have R:=(p _<|kT r).var (by simpa[fL]using f);exact aH ⟨(P.at j).var.toNat,I,by simp only[b8];omega⟩
 .obtain⟨K,rfl⟩:=F _ x d;have W:=TY (by rw[<-C];exact hS I) K R<|V _ v ah;rw[z.us _ y B];intro hm;rw[(Mp _ _).1 hm]at W;cases W
 .obtain⟨K,rfl⟩:=F _ x d;obtain⟨_,rfl⟩:=F _ x' g;obtain⟨q,_,_,hq,_⟩:=hR.half.step i a b t hb;refine ar _ v<|PW (by rw[<-C];exact hS I) K R hq (V _ v ah) ?_;rintro⟨l,f⟩;apply ed;rw[z.lM _ y B];rw[QW,l];exact f
 .have o:=hR.half.first a t;obtain⟨K,rfl⟩:=F _ x d;subst o;exact(sO c e 0).1<|KY (by rw[<-C];exact hS I) K<|D E
 .obtain⟨K,rfl⟩:=F _ x d;obtain⟨Wk,rfl⟩:=F _ x' g;obtain⟨q,_,_,hq,_⟩:=hR.half.step i a b t hb;have o:=(aV.1 E).1;obtain⟨f,k2⟩:=P6 (by rw[<-C];exact hS I) Wk (D o) hq<|V _ e ae;refine⟨(Ut z p B E).trans f,?_⟩;rcases k2 with k2|k2
  .exact aI<|(z.own _ y e B<|D o).2 k2
  exact aH<|ar _ e k2
 .obtain⟨j,hj⟩:=dN.1 B;rw[z.Yy];exact z.agT j y hj
 .obtain⟨K,rfl⟩:=F _ x d;have o:=(aV.1 E).1;obtain⟨_,k2⟩:=Ce (by rw[<-C];exact hS I) K (D o)<|V _ e ae;rw[Ut z p B E];cases f:P.kl a.1 e with
  |false=>rfl
  |true=>exact absurd ((z.own _ y e B<|D o).2<|k2 f) an
 .obtain⟨K,rfl⟩:=F _ x d;obtain⟨_,rfl⟩:=F _ x' g;obtain⟨q,_,_,hq,_⟩:=hR.half.step i a b t hb;refine ar _ e<|P5 (by rw[<-C];exact hS I) K (D E) hq (V _ e ae) ?_;cases R:P.ev a.1 e with
  |false=>rfl
  |true=>exact absurd ((z.own _ y e B<|D E).2 R) an
 .obtain⟨K,rfl⟩:=F _ x d;obtain⟨b,N,g2⟩:=hR.last ff;rw[t]at N;cases N;cases N:qM c e (-1) a.1 with
  |true=>exact(sO c e a.1).1 N
  |false=>exact absurd g2 (Ce (by rw[<-C];exact hS I) K (D E) N).1
 obtain⟨i,b⟩:=dN.1 t;have K:=hR.half.node a t;have W:=Ux C s p (hE I) hR.half i a b;have X:a.1<ζ c.nodes:=by rw[L];exact K.1
 obtain⟨b,d,v3⟩:=Qg C K.2.1 (λe=>(zR Y).2 _ (wj X) e) W;refine⟨uh<|c.at a.1,?_,b,by simpa[uh]using d,λj y v B R=>?_⟩
 .rw[bH];rw[Ct.at,cy,aQ X];rfl
 have hv2:((c.at a.1).aG.map ċ)[j]?=C' v:=R;rw[bH]at hv2;cases hu:(c.at a.1).aG[j]? with
 |none=>rw[hu]at hv2;cases hv2
 |some u=>rw[hu]at hv2;cases hv2;exact v3 j y u B hu
end
def Ń {p:Prop} (h:p:=by
  have i:=hO.most;have l:=YZ aa I hl
  first
    |(
       have _:=j!;have k:gS P c=if c.nodes.all (A! (P.nv:Int)) then(if mB P c then(if decide (c.cu=1)&&!zq P c then 8 else 0) else 7) else 6:=by
         rw[gS,l,hp,ax<|show ¬(5:Int)<=4 by decide];by_cases a:c.cu=1
         · cases c.nodes.all (A! (P.nv:Int))<;>cases mB P c<;>cases zq P c<;>simp[a]
         · cases c.nodes.all (A! (P.nv:Int))<;>cases mB P c<;>simp[a])
    |(have k:gS P c=if c.nodes.all (A! (P.nv:Int)) then(if mB P c then 0 else 7) else 6:=by
         rw[gS,l,hp,ax<|show ¬(6:Int)<=4 by decide];have a:c.cu≠1:=by intro a;unfold ku Á at aa;rw[hp,a]at aa;simp at aa
         cases c.nodes.all (A! (P.nv:Int))<;>cases mB P c<;>simp[a])
  have s:=ſ<|M hP<|M hO<|M hC<|M ho<|M hx<|M h<|M Hp<|M aa<|M hl hp;have B:J (∀W,Bl w W->Cl 161 #[h' na (ζ P.nd) nc,G P.nv] W (Rb W<|i'<|c.nodes.all<|A! (P.nv:Int))):=by intro W j;have:=zP na nc P.nv c.nodes W (h.below j) I;rwa[hl]at this
  clear hP hO hC ho hx h Hp aa l hp
  first|(have _:=j!;obtain⟨T,S,D,b,a⟩:=cG KC.pB)|(obtain⟨T,S,D,b,a⟩:=cG KB.pB)
  have r:J (_/\_/\_/\_):=⟨S,D,b,a⟩;clear S D b a;have WB:=ſ k;clear k;generalize gS P c=a at WB|-;generalize a:c.aM=u;generalize ee:c.cu=gr;obtain⟨R,a⟩:=Ea<|c.nodes.all<|A! (P.nv:Int);rw[<-a]at WB B;have d:=ſ a;have f:=ſ hl;clear a hl;obtain⟨N,a⟩:=Ea<|ζ P.nd;rw[<-a]at i B|-;have K:=ſ a;clear a;simp only[gi]
  first|(have _:=j!;go_enter func93,ntmps93)|(go_enter func94,ntmps94)
  go_upto_region 1 with fail
  refine Et (F:=Code.wp _ _ _ _) λa U=>?_;have E:=A U.a.1;have y1:=A U.a.2;cases R
  · go_wp2_with (go_at_call 161;refine(B.o _ U.b).mono ?_;rintro e t ⟨rfl,R⟩;have a:=ſ R;clear R E y1)
    go_ret;exact⟨by rw[WB.o];rfl,aq U.b a.o⟩
  go_upto_region 3 with(go_at_call 161;refine(B.o _ U.b).mono ?_;rintro e t ⟨rfl,R⟩;have a:=ſ R;clear R E y1)
  first|(have _:=j!;have D:=ſ<|Ũ s.h s.I s.g d.o.symm)|(have D:=ſ<|F6 s.h s.I s.g d.o.symm)
  have i:J (Bl w t/\_/\_):=⟨aq U.b a.o,aF a.o U.a.1,aF a.o U.a.2⟩;clear U a B
  first
    |(
       have _:=j!;have E:=A i.b;have HR:J (∀W,Bl w W->Cl 139 #[k'<|ei g N cap P.nv] W λe w'=>∃rb db,e=o' (KC.dw rb db N)/\KC.mR w' W.1.size rb P/\d' w' db #[.iface 328<|k' #[]] 381/\Bl W w'):=by intro W j;have:=rD g cap P.nv nl P W (s.a.below j) s.b;rwa[<-K.o]at this
       simp only[KC.dw]at HR;go_upto_region 4 with(go_at_call 139;refine(HR.o _ i.a).mono ?_;rintro e Y ⟨rb,db,rfl,hE,Q,l⟩;have HY:=ſ<|M hE<|M Q l;clear hE Q l E)
       refine wK (F:=Code.wp _ _ _ _) λX v=>?_;have a:J (Bl w X/\_/\_/\KC.mR X t.1.size rb P/\_/\_):=⟨aq i.a<|aq HY.B v.b,aF v.b<|aF HY.B i.b,aF v.b<|aF HY.B i.B,HY.a.below v.b,aF v.b HY.b,v.a⟩;clear v HY i HR;generalize δ t.1=B0 at a;generalize δ Y.1=o at a|-;have y1:=A a.c;have o:=À a.c;have z:=À a.E;have L:=À a.e;go_upto_region 5 with(at_make;refine eK _ rfl (.tmp 19) (.tmp 19) 222 rfl X.1.size 228 T _ 17 underlying222 r.a r.b r.c .i64 .i64 N N N rfl rfl rfl rfl (by rw[r.C];omega) (by unfold maxLen;omega) (aD _) ?_;intro F k d;have y:=ſ<|M k d;clear k d y1)
       have u:J (d' F X.1.size (θ<|KC.aU<|replicate N PE.zero) 228/\Below X.1.size X F):=by
         have C:=y.a;rw[jK _ 17 rfl N]at C
         exact⟨by rw[<-KC.nK];exact(KC.yS C).1,(aP _ _).grown y.A (aD _) (λq e=>by cases e)⟩)
    |(
       have o:=À i.B;have y1:=A i.B;go_upto_region 4 with(at_make;refine eK _ rfl (.tmp 16) (.tmp 16) 244 rfl t.1.size 250 T _ 17 underlying244 r.a r.b r.c .i64 .i64 N N N rfl rfl rfl rfl (by rw[r.C];omega) (by unfold maxLen;omega) (aD _) ?_;intro F k d;have y:=ſ<|M k d;clear k d y1)
       have u:J (d' F t.1.size (θ<|KB.aU<|replicate N PE.zero) 250/\Below t.1.size t F):=by
         have C:=y.a;rw[jK _ 17 rfl N]at C
         exact⟨by rw[<-KB.nK];exact(KB.yS C).1,(aP _ _).grown y.A (aD _) (λq e=>by cases e)⟩)
  clear y
  first|(have _:=j!;have T:J (Bl w F/\_/\_/\_/\KC.mR F B0 rb P/\_/\_):=⟨aq a.a u.A,aF u.A a.b,aF u.A a.c,u.a,a.d.below u.A,aF u.A a.e,aF u.A a.E⟩;(have dd:J (∀(V:t'),Below X.1.size F V->KC.mR V B0 rb P/\δ w.1<=δ X.1):=λV d=>⟨a.d.below<|((aP _ _).trans<|u.A).trans d,a.a.size⟩);clear u a;generalize δ X.1=R at T o z L dd|-)|(have T:J (Bl w F/\_/\_/\_):=⟨aq i.a u.A,aF u.A i.b,aF u.A i.B,u.a⟩;clear u i;generalize δ t.1=R at T o|-)
  have y1:=A T.c;go_wp2_with fail;clear y1
  first
    |(
       have _:=j!;go_loopw[24] (λy wr=>∃i:Nat,i<=N/\y=G i/\J (wr.1[R]?=C' (j' (θ<|KC.aU<|(c.nodes.take i).map (lD 100001)++replicate (N-i) PE.zero) 228 (0,0))/\Below R F wr)) (λy _=>N-(intOf y).toNat)
       case atStart=>exact⟨0,bq _,rfl,by rw[uo,rH];exact T.d,aP _ _⟩)
    |(
       go_loopw[21] (λy wr=>∃i:Nat,i<=N/\y=G i/\J (wr.1[R]?=C' (j' (θ<|KB.aU<|(c.nodes.take i).map E! ++ replicate (N-i) PE.zero) 250 (0,0))/\Below R F wr)) (λy _=>N-(intOf y).toNat)
       case atStart=>exact⟨0,bq _,rfl,by rw[uo,rH];exact T.C,aP _ _⟩)
  obtain⟨i,S,rfl,y⟩:=hrel;have a:=y.A.size
  first|(have _:=j!;have a:=À T.d)|(have a:=À T.C)
  have wD:J (Bl w wr):=T.a.trans<|y.A.mono I;by_cases lG:i<N
  · have lF:(i:Int)<N:=I
    obtain⟨x,hx⟩:=La (l:=c.nodes) (i:=i) (by rw[f.o,<-K.o];exact lG);obtain⟨b,o,o,k,z,q,rc,t,rfl,c0,U,L,c3,c4,u⟩:=s.f.below wD.o i x hx;have a:ζ x.aG<=8:=by
      have d:=aK hx;cases r:x.reached
      · first|(have _:=j!;rw[(D.o.env.bare x d).2 r];simp)|(rw[D.o.bare x d r];simp)
      first|(have _:=j!;rw[(D.o.env.ok x d r).1];exact s.b.nv)|(rw[D.o.len x d r];exact s.b.nv)
    first|(have _:=j!;(have X:J (∀W,Bl wr W->Cl 162 #[k' #[h' o (ζ x.facts) q,h' k (ζ x.a!) rc,i' x.reached,.int .i64 x.rank,h' z (ζ x.aG) t],.int .i64 100001] W (Rb W<|k'<|θ<|KC.aL<|lD 100001 x)):=λW j=>mH o k z _ q _ rc t x.reached x.rank 100001 x.aG W (u.aG.below j) a))|((have X:J (∀W,Bl wr W->Cl 165 #[k' #[h' o (ζ x.facts) q,h' k (ζ x.a!) rc,i' x.reached,.int .i64 x.rank,h' z (ζ x.aG) t]] W (Rb W<|k'<|θ<|KB.aL<|E! x)):=λW j=>Kb o k z _ q _ rc t x.reached x.rank x.aG W (u.aG.below j) a))
    have v:=ſ hx;clear hx u a;generalize ζ x.facts=a at X c0;generalize ζ x.a!=a at X U;generalize x.reached=a at X L;generalize x.rank=a at X c3;generalize ζ x.aG=t at X c4
    first|(have _:=j!;(go_upto_region 8 with fail))|((go_upto_region 7 with fail))
    clear c0 U L c3 c4;refine wK (F:=Code.wp _ _ _ _) λV B=>?_;have a:=ſ<|M B.b<|aF B.b y.a;have E:=A B.a;obtain⟨m,d⟩:∃m,N-i=m+1:=⟨N-i-1,I⟩
    first
      |(
         have _:=j!;have k:ζ ((c.nodes.take i).map<|lD 100001)=i:=by rw[bA,dG,f.o,<-K.o,kj S]
         go_upto_region 9 with(first|(go_at_call 162;refine(X.o _ a.a).mono ?_;rintro e Y ⟨rfl,L⟩;have HY:=ſ L;clear L E;have U:=KC.lu (aF HY.o a.A) (show i<_ by rw[aW,k,CV];omega))|(refine wpList_store_mid rfl 228 (.tmp 33) (.tmp 32) rfl R (i*17) (θ<|KC.aL<|lD 100001 x) rfl rfl U H (KC.bn _) ?_))
         generalize u:ψ Y R (i*17) (KC.aL<|lD 100001 x)=o;have q:J (d' o R (θ<|KC.aU<|(c.nodes.take<|i+1).map (lD 100001)++replicate (N-(i+1)) PE.zero) 228/\Below R F o):=by
           subst u;have C:=aF HY.o a.A;rw[d]at C;have r:=KC.yZ (lD 100001 x) C k;have V:N-(i+1)=m:=I;have t:(c.nodes.take<|i+1).map (lD 100001)=(c.nodes.take i).map (lD 100001)++[lD 100001 x]:=by rw[cX (aV.1 v.o).1,(aV.1 v.o).2,eR];rfl
           rw[V,t]
           exact⟨r,cM (aD _) _ _ _<|y.A.trans<|(aq a.a HY.o).mono I⟩)
      |(
         have k:ζ ((c.nodes.take i).map E!)=i:=by rw[bA,dG,f.o,<-K.o,kj S]
         go_upto_region 8 with(first|(go_at_call 165;refine(X.o _ a.a).mono ?_;rintro e Y ⟨rfl,L⟩;have HY:=ſ L;clear L E;have U:=KB.lu (aF HY.o a.A) (show i<_ by rw[aW,k,CV];omega))|(refine wpList_store_mid rfl 250 (.tmp 30) (.tmp 29) rfl R (i*17) (θ<|KB.aL<|E! x) rfl rfl U H (KB.bn _) ?_))
         generalize u:ψ Y R (i*17) (KB.aL<|E! x)=o;have q:J (d' o R (θ<|KB.aU<|(c.nodes.take<|i+1).map E! ++ replicate (N-(i+1)) PE.zero) 250/\Below R F o):=by
           subst u;have C:=aF HY.o a.A;rw[d]at C;have r:=KB.yZ (E! x) C k;have V:N-(i+1)=m:=I;have t:(c.nodes.take<|i+1).map E! = (c.nodes.take i).map E! ++ [E! x]:=by rw[cX (aV.1 v.o).1,(aV.1 v.o).2,eR];rfl
           rw[V,t]
           exact⟨r,cM (aD _) _ _ _<|y.A.trans<|(aq a.a HY.o).mono I⟩)
    clear u;clear U d k;simp only[Act.put];go_wp2_with fail;go_roundw
    case rel=>exact⟨i+1,lG,f',q.o⟩
    exact H'
  have lF:¬(i:Int)<N:=I;obtain rfl:N=i:=I
  first
    |(
       have _:=j!;have v:J (d' wr R (θ<|KC.aU<|c.nodes.map<|lD 100001) 228):=by have C:=y.a;rw[jx,x6,fQ,b!<|by rw[f.o,<-K.o];exact aD _]at C;exact C
       have a:KC.nL P (bK<|c.nodes.map<|lD 100001):=λm=>⟨gq c (-1) m,by rw[xo rfl c m];exact D.o.last s.b.nv m,gI D.o.env _ _⟩;have d:=OS s.b s.c s.d s.e D.o;have i:=SQ s.b s.c s.d s.e D.o;have r:=ſ (dd.o _ y.A).1;have k:J (∀(W:t'),Bl wr W->Cl 163 #[KC.dw rb db N,h' (C'<|O R 0) N N] W (Rb W<|i'<|mB P c)):=by intro W j;have:=KC.rW rb db B0 N (C'<|O R 0) P (c.nodes.map<|lD 100001) W (r.o.below j) (aF j<|Bg y.A T.f I) s.b s.c s.d s.e (by rw[bA];exact f.o) (KC.j9<|aF j v.o) a;rwa[d,<-K.o]at this
       have q:J (∀(W:t'),Bl wr W->Cl 164 #[KC.dw rb db N,h' na N nc] W (Rb W<|i'<|zq P c)):=by
         intro W j;have:=tU rb db B0 nc na P c W (r.o.below j) (aF j<|Bg y.A T.f I) s.b s.c s.d s.e f.o D.o<|s.f.below<|aq wD.o j;rw[i,<-K.o]at this
         exact this)
    | (have v:J (wr.1[R]?=C' (j' (θ<|KB.aU<|c.nodes.map E!) 250 (0,0))):=by
         have C:=y.a;rw[jx,x6,fQ,b!<|by rw[f.o,<-K.o];exact aD _]at C;exact C
       have a:KB.nL P (bK<|c.nodes.map E!):=λm=>⟨gq c (-1) m,by rw[xo rfl c m];exact D.o.pr s.b.nv m,D.o.ok m⟩;have d:=OT s.b s.c s.e D.o;have HR:J (∀W,Bl w W->Cl 143 #[k'<|ei g N cap P.nv] W λe w'=>∃rb db,e=o' (KB.dw rb db N)/\KB.mR w' W.1.size rb P/\d' w' db #[.iface 331<|k' #[]] 386/\Bl W w'):=by intro W j;have:=As g cap P.nv nl P W (s.a.below j) s.b;rwa[<-K.o]at this
       have k:J (∀(W:t')(B rb db:Nat),Bl wr W->KB.mR W B rb P->d' W db #[.iface 331<|k' #[]] 386->Cl 166 #[KB.dw rb db N,h' (C'<|O R 0) N N] W (Rb W<|i'<|mB P c)):=by
         intro W B rb db j hE Q;have:=KB.rW rb db B N (C'<|O R 0) P (c.nodes.map E!) W hE Q s.b s.c s.d s.e (by rw[bA];exact f.o) (KB.j9<|aF j v.o) a;rw[d,<-K.o]at this
         exact this)
  obtain⟨s,f⟩:=Ea<|mB P c
  first|(have _:=j!;obtain⟨r,j⟩:=Ea<|zq P c)|skip
  rw[<-f]at k WB
  first|(have _:=j!;rw[<-j]at q WB;rw[ee]at WB;clear f j d i a;simp only[KC.dw]at k q;have b:=Bg y.A T.F I;have j:=Bg y.A T.c I;have i:=ſ<|M b j;have E:=A b;clear b j)|(clear f d a;simp only[KB.dw]at HR k;have E:=A<|Bg y.A T.b I)
  cases s
  first
    |(
       have _:=j!
       · go_wp2_with (go_at_call 163;refine(k.o _<|aP _ _).mono ?_;rintro e o ⟨rfl,l⟩;have a:=ſ l;clear l E)
         go_ret;exact⟨by rw[WB.o];rfl,aq wD.o a.o⟩
       · go_upto_region 12 with(go_at_call 163;refine(k.o _<|aP _ _).mono ?_;rintro e o ⟨rfl,l⟩;have a:=ſ l;clear l E)
         have E:=A<|aF a.o i.a;have y1:=A<|aF a.o i.A;by_cases b:gr=1
         · subst b
           cases r
           all_goals
             go_wp2_with (go_at_call 164;refine(q.o _ a.o).mono ?_;rintro e Y ⟨rfl,l⟩;have HY:=ſ l;clear l E y1);go_ret;exact⟨by rw[WB.o];rfl,aq wD.o<|aq a.o HY.o⟩
         · have q:decide (gr=1)=Q':=di b
           go_wp2_with fail;go_ret
           exact⟨by rw[WB.o,q];rfl,aq wD.o a.o⟩)
    |(all_goals
         go_wp2_with (first|(go_at_call 143;refine(HR.o _ wD.o).mono ?_;rintro e Y ⟨rb,db,rfl,hE,Q,l⟩;have HY:=ſ<|M hE<|M Q l;clear hE Q l E)|(go_at_call 166;refine(k.o _ _ _ _ HY.B HY.a HY.b).mono ?_;rintro e o ⟨rfl,l⟩;have a:=ſ l;clear l));go_ret
         exact⟨by rw[WB.o];rfl,aq (aq wD.o HY.B) a.o⟩)):p:=h
def wR(g cap nc:Nat)(na:u')(nl:List NC)(P:Pm)(c:Ct)(w:t')(hP:PM w g cap nl P)(hO:cF P)(hC:mr P)(ho:kF P)(hx:ζ P.nx=ζ P.nd)(h:bX w na c.nodes)(Hp:∀x∈c.nodes,jR x)(aa:ku c=true)(hl:ζ c.nodes=ζ P.nd)(hp:c.aM=6):
  Cl 94 #[gi g (ζ P.nd) cap P.nv,k' #[G c.aM,G c.cu,h' na (ζ P.nd) nc]] w (Rb w<|G<|gS P c):=by
 exact Ń
def JZ(m e g N nc:Nat)(f:u')(b:List Nd)(x:Nd)(r:Int)(w:t')(l:w.1[e]?=C' (j' #[h' f N nc] 46 (0,0)))(X:w.1[g]?=C' (iN r))(h:bX w f b)(F:b[m]?=C' x)(s:m<N)(L:ζ x.aG<=8):
  Cl 237 #[G m,n'<|C'<|O e 0,n'<|C'<|O g 0] w (Rb w<|k'<|θ<|KC.aL<|lD r x):=by
 have g:(m:Int)<N:=I;obtain⟨b,o,s,g,C,u,rc,D,rfl,T,t,z,B,V,E⟩:=h m x F;have Y:J (∀W,Bl w W->Cl 162 #[k' #[h' s (ζ x.facts) u,h' g (ζ x.a!) rc,i' x.reached,G x.rank,h' C (ζ x.aG) D],G r] W (Rb W<|k'<|θ<|KC.aL<|lD (_:Int) x)):=λW j=>mH s g C _ u _ rc D x.reached x.rank r x.aG W (E.aG.below j) L;have U:=ſ<|M l<|M X<|M T<|M t<|M z<|M B V;clear l X h F L T t z B V E;generalize lD r x=z at Y|-;generalize ζ x.facts=l at Y U;generalize ζ x.a!=E at Y U;generalize x.reached=j at Y U;generalize x.rank=f at Y U;generalize ζ x.aG=t at Y U;go_enter func237,ntmps237;go_upto_region 1 with fail
 refine wK (F:=Code.wp _ _ _ _) λV B=>?_;refine wp_region_held_drew (S:=λW'=>Bl w W') H B.b.drew λaE=>?_;refine tr 0 (h' (C'<|O b o) N nc) (λW' bm=>(A<|aF bm U.a).1) ?_;refine tq 1 (G m) ?_;refine tq 2 (n'<|C'<|O b<|o+m*5) ?_;refine tr 3 (k' #[h' s l u,h' g E rc,i' j,G f,h' C t D]) (λW' bm=>M (aA U.c bm)<|M (aA U.d bm)<|M (aA U.e bm)<|M (aA U.f bm)<|aA U.F bm) ?_;refine tr 4 (G r) (λW' bm=>(A<|aF bm U.b).1) ?_;refine r1 5 λK b=>?_;go_simp;refine(Y.o _ B.b.drew).mono ?_;rintro e Y ⟨rfl,f⟩;have e:J (Bl V Y):=aq (aP _ _).drew f;clear f;refine b.out _ _ (aq B.b e.o) λaE=>?_;clear b K;refine pt ?_;refine r1 6 λK b=>?_;rw[aB H];refine wp_store_mid 228 (.tmp 4) (.tmp 10) rfl w.1.size 0 (θ<|KC.aL z) rfl rfl (b5 (n:=17) (aF e.o B.a) rfl) H (KC.bn _) ?_;refine b.out _ _ (cM (aD _) _ _ _<|aq B.b e.o) λaE=>?_;clear b K;refine pt ?_;refine wpAnyH_done H ?_ _;have hq:=cm (cs:=[i' false,i' false,G 0,i' false,G 0,i' false,G 0,i' false,G 0,i' false,G 0,i' false,G 0,i' false,G 0,i' false,G 0]) (aF e.o B.a) (vs:=KC.aL z) rfl;have C:=run_loadVar_mid (P:=Tryz.prog) (ψ Y w.1.size 0<|KC.aL z) w.1.size 0 228 (KC.aL z) _ (bf hq) underlying228 rfl H;go_wp2_with fail;refine aC (v:=k'<|θ<|KC.aL z) (by simp[results,results237,C,Act.put,asAddr]) rfl ⟨rfl,aE⟩
def O?(d s B i o g u C:Nat)(q:u')(P:Pm)(c:Ct)(r:Int)(w:t')(a:KC.mR w B d P)(Q:w.1[s]?=C' (j' #[.iface 328<|k' #[]] 381 (0,0)))(v:cF P)(x:mr P)(z:kF P)(F:ζ P.nx=ζ P.nd)(S:i<ζ P.nd)(X:ζ c.nodes=ζ P.nd)(T:V5 c P.nv)(l:0<=r)
  (y:w.1[o]?=C' (j' #[h' (C'<|O d 0) (ζ P.nd)<|ζ P.nd,.func (.func 270) #[]<|bM s,.func (.func 272) #[]<|bM s] 233 (0,0))) (f:w.1[g]?=C' (iN i)) (b:w.1[u]?=C' (j' #[h' q (ζ P.nd) C] 46 (0,0))) (h:bX w q c.nodes):
  Cl 236 #[G r,n'<|C'<|O o 0,n'<|C'<|O g 0,n'<|C'<|O u 0] w (Rb w<|k'<|θ<|KC.aL<|KC.bU P (λm=>lD r<|c.at m) i):=by
 have p:J (∀(W:t')(o:Nat),Bl w W->W.1[o]?=C' (iN r)->Cl 210 #[KC.dw d s<|ζ P.nd,G i,.func (.func 237) #[] #[n'<|C'<|O u 0,n'<|C'<|O o 0]] W (Rb W<|k'<|θ<|KC.aL<|KC.bU P (λm=>lD r<|c.at m) i)):=by
  intro W o j k;refine KC.mQ d s B i _ P _ (λm=>lD r<|c.at m) W (a.below j) (aF j Q) v x z F S (λm=>⟨gq c r m,T.rk v.nv l m,gI T.env _ _⟩) (λD w=>Tryz.call237 D w) λm d s g=>?_;have t:c.nodes[m]?=C' (c.at m):=by unfold Ct.at;rw[getD,aQ I];rfl
  have R:ζ (c.at m).aG<=8:=by
   cases l:(c.at m).reached
   .rw[(T.at m).2.2.2.2 l];simp
   rw[(T.at m).1 l];exact v.nv
  exact JZ m u o (ζ P.nd) C q c.nodes (c.at m) r s (aF g<|aF j b) (aF g k) ((h.below j).below g) t d R
 have U:=ſ<|M y f;clear a Q v x z F S X T l y f b h;generalize KC.bU P (λm=>lD r<|c.at m) i=z at p|-;generalize ζ P.nd=N at p U;simp only[KC.dw]at p;go_enter func236,ntmps236;go_upto_region 1 with fail
 refine Et (F:=Code.wp _ _ _ _) λV B=>?_;have E:=A<|aF B.b U.a;have c:=A<|aF B.b U.A;go_wp2_with (first|(go_at_call 210;refine(p.o _ w.1.size B.b B.a.1).mono ?_;rintro e Y ⟨rfl,b⟩;have a:=ſ b;clear b E c;have U:=b5 (n:=17) (aF a.o B.a.2) rfl)|(refine wpList_store_mid rfl 228 (.tmp 5) (.tmp 9) rfl (δ w.1+1) 0 (θ<|KC.aL z) rfl rfl U H (KC.bn _) ?_));have b:=cm (cs:=[i' false,i' false,G 0,i' false,G 0,i' false,G 0,i' false,G 0,i' false,G 0,i' false,G 0,i' false,G 0,i' false,G 0]) (aF a.o B.a.2) (vs:=KC.aL z) rfl;have C:=run_loadVar_mid (P:=Tryz.prog) (ψ Y (δ w.1+1) 0<|KC.aL z) (δ w.1+1) 0 228 (KC.aL z) _ (bf b) underlying228 rfl H;refine aC (v:=k'<|θ<|KC.aL z) (by simp[results,results236,C,Act.put,asAddr]) rfl ⟨rfl,cM I _ _ _<|aq B.b a.o⟩
def tU(rb db B nc:Nat)(e:u')(P:Pm)(c:Ct)(w:t')(g:KC.mR w B rb P)(j:w.1[db]?=C' (j' #[.iface 328<|k' #[]] 381 (0,0)))(b:cF P)(l:mr P)(f:kF P)(F:ζ P.nx=ζ P.nd)(X:ζ c.nodes=ζ P.nd)(T:V5 c P.nv)(h:bX w e c.nodes):
  Cl 164 #[KC.dw rb db<|ζ P.nd,h' e (ζ P.nd) nc] w (Rb w<|i'<|(range<|ζ P.nd).all<|J0 P c):=by
 have o:=b.most;have s:=ſ<|M g<|M j<|M b<|M l<|M f<|M F<|M X<|M T h;clear g j b l f F X T h;obtain⟨N,b⟩:=Ea<|ζ P.nd;rw[<-b]at o|-;have HN:=ſ b;clear b;simp only[KC.dw];go_enter func164,ntmps164;go_upto_region 1 with fail
 refine Et (F:=Code.wp _ _ _ _) λf U=>?_;have E:=A U.a.2;go_wp2_with fail;clear E;generalize k' #[h' (C'<|O rb 0) N N,.func (.func 270) #[]<|bM db,.func (.func 272) #[]<|bM db]=b;go_loopw[11] (λb wr=>∃k:Nat,k<=N/\b=G k/\J ((range k).all (J0 P c)=P'/\Bl f wr)) (λb _=>N-(intOf b).toNat)
 case atStart=>exact⟨0,bq _,rfl,rfl,aP _ _⟩
 obtain⟨k,hk,rfl,HK⟩:=hrel;have HW:J (Bl w wr):=aq U.b HK.A;by_cases L:k<N;rotate_left
 .have b:¬(k:Int)<N:=I;obtain rfl:N=k:=I;go_wp2_with fail;go_ret;exact⟨by rw[HK.a];rfl,HW.o⟩
 have b:(k:Int)<N:=I;have F:c.nodes[k]?=C' (c.at k):=by rw[Ct.at,getD,aQ (by have:=s.g;have:=HN.o;omega)];rfl
 obtain⟨b,o,g,l,va,f,rc,x,rfl,T,c1,c2,c3,c4,c5⟩:=s.H.below HW.o k _ F;obtain⟨a1,a2,b,a4,a5⟩:=s.h.at k;have hv8:ζ (c.at k).aG<=8:=by
  cases hr:(c.at k).reached
  .rw[a5 hr];simp
  rw[a1 hr];exact s.c.nv
 have hs:∀r:Int,0<=r->PR P.nv (KC.bU P (λm=>lD r<|c.at m) k) (P.say 5 k<|gq c r)/\dZ 5 P.nv (P.say 5 k<|gq c r):=λr hr=>KC.fZ s.c s.d s.e s.f (held:=λm=>lD r<|c.at m) (at_:=gq c r) (λm=>⟨s.h.rk s.c.nv hr m,gI s.h.env _ _⟩) k;have Y:=s.h.rk s.c.nv (r:=(c.at k).rank+1) I k;obtain⟨t,o⟩:=Ea<|KC.fq (lD ((c.at k).rank+1)<|c.at k)<|KC.bU P (λm=>lD (c.at k).rank<|c.at m) k;obtain⟨er,au⟩:=Ea ((range<|ζ (c.at k).aG).all<|Ù (c.at k).aG λr=>KC.bU P (λm=>lD r<|c.at m) k);have z:J0 P c k=(t&&er):=by rw[o,au];rfl
 have HF:J ((t&&er)=Q'->(range N).all (J0 P c)=Q'):=λh=>uK (k:=k) (z.trans h) L;have X:J ((t&&er)=P'->(range<|k+1).all (J0 P c)=P'):=λh=>by rw[lq,HK.a,z,h];rfl
 have u:J (∀W,Bl wr W->Cl 162 #[k' #[h' g (ζ (c.at k).facts) f,h' l (ζ (c.at k).a!) rc,i' (c.at k).reached,G (c.at k).rank,h' va (ζ (c.at k).aG) x],G<|(c.at k).rank+1] W (Rb W<|k'<|θ<|KC.aL<|lD ((c.at k).rank+1)<|c.at k)):=λW j=>mH g l va _ f _ rc x _ _ _ _ W (c5.aG.below j) hv8;have N:J (∀(W:t')(g:Nat)(r:Int),0<=r->Bl wr W->W.1[g]?=C' (iN k)->Cl 236 #[G r,n'<|cA w.1.size,n'<|C'<|O g 0,n'<|C'<|O (δ w.1+1) 0] W (Rb W<|k'<|θ<|KC.aL<|KC.bU P (λm=>lD r<|c.at m) k)):=by intro W g r hr j f;have C:=aq HW.o j;have D:=aF j<|aF HK.A U.a.1;have l:=aF j<|aF HK.A U.a.2;rw[HN.o]at D l;exact O? rb db B k w.1.size g (δ w.1+1) nc _ P c r W (s.a.below C) (aF C s.b) s.c s.d s.e s.f (by rw[<-HN.o];exact L) s.g s.h hr D f l<|s.H.below C
 have C:J (∀W,Bl wr W->Cl 272 #[k'<|θ<|KC.aL<|lD ((c.at k).rank+1)<|c.at k,k'<|θ<|KC.aL<|KC.bU P (λm=>lD (c.at k).rank<|c.at m) k,n'<|C'<|O db 0] W (Rb W<|i' t)):=by rw[o];exact λW j=>KC.lW _ _ db W (aF (aq HW.o j) s.b) (λi=>(KC.cH Y (gI s.h.env _ _) i).2) λi=>(KC.cH (hs _ b).1 (hs _ b).2 i).2
 have s:J (∀(W:t')(g:Nat),Bl wr W->W.1[g]?=C' (iN k)->Cl 238 #[h' va (ζ (c.at k).aG) x,.func (.func 236) #[] #[n'<|cA w.1.size,n'<|C'<|O g 0,n'<|C'<|O (δ w.1+1) 0]] W (Rb W<|i' er)):=by intro W g j f;rw[au];exact Bd va x _ _ _ (λr=>KC.bU P (λm=>lD r<|c.at m) k) W (c5.aG.below j) hv8 (λD w=>Tryz.call236 D w) λv B _ r l=>N.o r g v.rank (a2 v B).2.1 (aq j l) (aF l f)
 have l:J (∀(W:t')(g:Nat),Bl wr W->W.1[g]?=C' (iN k)->Cl 236 #[G (c.at k).rank,n'<|cA w.1.size,n'<|C'<|O g 0,n'<|C'<|O (δ w.1+1) 0] W (Rb W<|k'<|θ<|KC.aL<|KC.bU P (λm=>lD (c.at k).rank<|c.at m) k)):=λW g j f=>N.o W g _ b j f;clear o au z Y hs a1 a2 a5 c5 hv8 F;generalize KC.bU P (λm=>lD (c.at k).rank<|c.at m) k=f at l C;generalize lD ((c.at k).rank+1) (c.at k)=W at u C;generalize(c.at k).facts.length=Y at u T;generalize(c.at k).a!.length=f at u c1;generalize(c.at k).reached=f at u c2;generalize(c.at k).rank=r at u c3 b a4 l;generalize(c.at k).aG.length=z at u c4 s;go_upto_region 4 with fail
 clear T c1 c2 c3 c4;refine Et (F:=Code.wp _ _ _ _) λV B=>?_;have b:J ((_/\_)/\Bl wr V/\_):=⟨B.a,B.b,aF B.b<|aF HK.A U.a.1⟩;have E:=A b.a.2;go_upto_region 6 with(first|(go_at_call 162;refine(u.o _ b.b).mono ?_;rintro e Y ⟨rfl,j⟩;have o:=ſ j;clear j E)|(refine wpList_store_mid rfl 228 (.tmp 8) (.tmp 21) rfl Y.1.size 0 (θ<|KC.aL W) rfl rfl (b5 (n:=17) (bj _ _) rfl) H (KC.bn _) ?_))
 refine Ll (F:=Code.wp _ _ _ _) rfl λU g=>?_;have f:J (Bl wr U/\(_/\_)/\_/\_):=⟨aq b.b<|aq o.o g.A,⟨aF g.A<|aF o.o b.a.1,aF g.A<|aF o.o b.a.2⟩,aF g.A<|aF o.o b.B,g.a⟩;generalize δ Y.1=b at f|-;simp only[Act.put];refine wp_region_held_drew (S:=λW'=>Bl U W') H (aP _ _).drew λaE=>?_;refine tq 0 (n'<|C'<|O w.1.size 2) ?_;refine tr 1 (.func (.func 272) #[]<|bM db) (λW' bm=>(A<|aF bm f.c).1) ?_;refine tz 2 (k'<|θ<|KC.aL W) ?_ (y:=yieldsIf_load_mid H _ _ rfl _ _ rfl _ _ (λW' bm=>bf<|aF bm f.C) underlying228 rfl H);refine tq 3 (.func (.func 236) #[] #[n'<|cA w.1.size,n'<|cA wr.1.size,n'<|C'<|O (δ w.1+1) 0]) ?_;refine tq 4 (n'<|C'<|O (δ wr.1+1) 3) ?_;refine tr 5 (G r) (λW' bm=>(A<|aF bm f.b.2).1) ?_;refine r1 6 λK b=>?_;go_simp;refine(l.o _ _ f.a.drew f.b.1).mono ?_;rintro e l ⟨rfl,j⟩;have g:J (Bl U l):=aq (aP _ _).drew j;clear j;refine b.out _ _ g.o λaE=>?_;clear b K;refine pt ?_;refine r1 7 λK b=>?_;go_simp;refine(C.o _<|aq f.a g.o).mono ?_;rintro e l ⟨rfl,j⟩;have u:J (Bl U l):=aq g.o j;clear j;refine b.out _ _ u.o λaE=>?_;clear b K;refine pt ?_;cases t
 .refine tq 8 (i' P') ?_;refine tq 9 (i' P') ?_;refine tn 10 ?_;refine tn 11 ?_;refine tn 12 ?_;refine tn 13 ?_;refine tn 14 ?_;refine tq 15 (i' P') ?_;refine wpAnyH_done H ?_ _;go_wp2_with fail;go_ret;exact⟨by rw[HF.o (by cases er<;>rfl)];rfl,aq HW.o<|aq f.a u.o⟩
 refine tq 8 (i' Q') ?_;refine tq 9 (i' Q') ?_;refine tq 10 (n'<|C'<|O (δ wr.1+1) 4) ?_;refine tr 11 (h' va z x) (λW' bm=>(A<|aF bm f.b.2).1) ?_;refine tq 12 (.func (.func 236) #[] #[n'<|cA w.1.size,n'<|cA wr.1.size,n'<|C'<|O (δ w.1+1) 0]) ?_;refine r1 13 λK b=>?_;go_simp;refine(s.o _ _ (aq f.a u.o)<|aF u.o f.b.1).mono ?_;rintro e e ⟨rfl,j⟩;have z:J (Bl U e):=aq u.o j;clear j;refine b.out _ _ z.o λaE=>?_;clear b K;refine pt ?_;refine tq 14 (i'<|!er) ?_;refine tq 15 (i'<|!er) ?_;refine wpAnyH_done H ?_ _;clear aE;cases er
 .go_wp2_with fail;go_ret;exact⟨by rw[HF.o<|by trivial];rfl,aq HW.o<|aq f.a z.o⟩
 go_wp2_with fail;go_roundw
 case rel=>exact⟨k+1,L,f',X.o<|by trivial,aq HK.A<|aq f.a z.o⟩
 exact H'
def sn(g cap nc:Nat)(na:u')(nl:List NC)(P:Pm)(c:Ct)(w:t')(hP:PM w g cap nl P)(hO:cF P)(hC:mr P)(ho:kF P)(hx:ζ P.nx=ζ P.nd)(h:bX w na c.nodes)(Hp:∀x∈c.nodes,jR x)(aa:ku c=P')(hl:ζ c.nodes=ζ P.nd)(hp:c.aM=5):
  Cl 93 #[gi g (ζ P.nd) cap P.nv,k' #[G c.aM,G c.cu,h' na (ζ P.nd) nc]] w (Rb w<|G<|gS P c):=by
 have j! := True.intro;exact Ń
section
variable {B:Nat}{c:Ct}
def VL{u v:t'}(h:Below B u v)(k:Below B v w):Below B u w:=h.trans k
def GJ(B b:Nat)(l:y')(p g:Int)(a j z:u')(q rc x:Nat)(n:Nd)(w:t')(h:Wr w B b l)(c:∀W,Below B w W->vy W a j z q rc x n)(K:jR n)(o:cB p g n=P')(L:ζ l+4000000<=140737488355328):
  Cl 87 #[n'<|C'<|O b 0,k' #[G p,G g],k' #[h' a (ζ n.facts) q,h' j (ζ n.a!) rc,i' n.reached,G n.rank,h' z (ζ n.aG) x]] w λe r=>e=o' (p' #[])/\ew w r B b (l++dv p g n):=by
 have d:=ſ<|(h.wrote.alloc<|dr p g).alloc<|j' #[h' a (ζ n.facts) q,h' j (ζ n.a!) rc,i' n.reached,G n.rank,h' z (ζ n.aG) x] 96;have T:J ((∀W,Below B w W->vy W a j z q rc x n)/\jR n):=⟨c,K⟩;clear h c K;cases U:decide (p<=4)with
 |true=>
  have c:p<=4:=J' U;have V:J (dv p g n=Æ n/\e6 g n=P'):=by refine⟨by rw[dv,aB c],?_⟩;unfold cB at o;rwa[aB c]at o
  clear o c;go_enter func87,ntmps87
  go_wp2_with (first
   |(go_at_call 134;refine wB.mono ?_;rw[U];rintro e v ⟨rfl,rfl⟩)
   |(go_at_call 135;refine(Xb B b l g a j z q rc x n _ (d.o.wr.alloc _) (λW r=>(T.a W<|(d.o.alloc _).below.trans r).facts) (λW r=>(T.a W<|(d.o.alloc _).below.trans r).a!) V.A I).mono ?_;rintro e t ⟨rfl,C⟩;have i:=ſ C;clear C))
  (try simp only[Exit.inBlock,Exit.then]);refine aC (xX rfl _ _ _) rfl ?_
  refine⟨rfl,?_⟩;rw[V.a];exact(d.o.alloc _).trans i.o
 |false=>
  have c:¬p<=4:=J' U;cases m:n.reached with
  |true=>
   have V:J (dv p g n=[if P'=P' then 1 else 0]++n! p g n/\eM p g n=P'):=by refine⟨by rw[dv,ax c,m];rfl,?_⟩;unfold cB at o;rwa[ax c,m,aB rfl]at o
   rw[m]at d;clear o c;have u:=λW h r=>wM B b (l++[if P'=P' then 1 else 0]) p g a j z q rc x n W h (λF s=>(T.a F<|VL r s).aG) T.A V.A (by simp only[aW,fP];omega);rw[m]at u;go_enter func87,ntmps87
   go_wp2_with (first
    |(go_at_call 134;refine wB.mono ?_;rw[U];rintro e v ⟨rfl,rfl⟩)
    |(go_at_call 137;refine(u _ i.a.wr<|(d.o.alloc _).below.trans i.a.below).mono ?_;rintro e F ⟨rfl,(u:J _)⟩)
    |(go_at_call 136;refine(tM B b l P' _ (d.o.wr.alloc _) I).mono ?_;rintro e t ⟨rfl,C⟩;have f:=C.box (d.o.wr.alloc _) ((ch _ _ _ I').trans (bP w _ _).1) aj aj;have k:=C.box (d.o.wr.alloc _) ((ch _ _ _ ak).trans (bP w _ _).2) aj aj;have E:=A f;have y:=A k;have i:=ſ<|M C<|M f k;clear C f k))
   go_end0
   refine⟨rfl,?_⟩;rw[V.a,<-df];exact((d.o.alloc _).trans i.a).trans u.o
  |false=>
   have V:J (dv p g n=[if Q'=P' then 1 else 0]):=by show _=_;rw[dv,ax c,m];rfl
   rw[m]at d;clear o c;go_enter func87,ntmps87
   go_wp2_with (first
    |(go_at_call 134;refine wB.mono ?_;rw[U];rintro e v ⟨rfl,rfl⟩)
    |(go_at_call 136;refine(tM B b l Q' _ (d.o.wr.alloc _) I).mono ?_;rintro e t ⟨rfl,C⟩;have f:=C.box (d.o.wr.alloc _) ((ch _ _ _ I').trans (bP w _ _).1) aj aj;have k:=C.box (d.o.wr.alloc _) ((ch _ _ _ ak).trans (bP w _ _).2) aj aj;have E:=A f;have y:=A k;have i:=ſ<|M C<|M f k;clear C f k))
   go_end0
   refine⟨rfl,?_⟩;rw[V.o];exact(d.o.alloc _).trans i.a
def Zo(w:t')(C:Array A')(n c g:Nat)(a:g=δ w.1):
  (convert 157 157<|eu g n c).run Tryz.prog (w.alloc<|j' C 5)=.ok (eu g n c) (w.alloc<|j' C 5 (C.size,C.size+1)):=by
 subst a;exact Lib.run_convert_bytes_const w 157 5 C n c underlying157 underlying5
def KD(B b r n:Nat)(l:y')(c:UInt8)(w:t')(v:B<=b)(a:w.1[b]?=C' (j' (kL r n) 168 (0,0)))(K:n=ζ l)(X:∀(j:Nat)(u:A'),(Lib.byteCells l)[j]?=C' u->χ w (O r<|0+j)=C' u)(o:ζ l+1<=140737488355328):
  Cl 85 #[n'<|C'<|O b 0,.int .u8 c.toNat] w λe o=>e=o' (p' #[])/\ew w o B b (l++[c]):=by
 obtain⟨N,S,D,P,g⟩:=cG tH;subst K;have c1:χ w (O b 0)=C' (cw r<|ζ l):=by rw[ki a];rfl
 have L:b<δ w.1:=(bG.1 a).1;have d:=ſ<|M a X;clear a X;go_enter func85,ntmps85;go_wp2_with (at_builtin;refine wpList_append_grows _ rfl _ _ 157 rfl 5 N (.int .u8 0) 1 1 underlying157 S D P g rfl aj (C'<|O r 0) (ζ l) (ζ l) (Lib.byteCells l) rfl ?c0 ?c1 ?c2 (O w.1.size 0) 1 1 [.int .u8 c.toNat] rfl rfl ?c3 ?c4 ?c5 ?c6 ?c7 ?_)
 case c0=>intro h;cases h
 case c1=>simp[Lib.byteCells]
 case c2=>
  intro g a j u f;cases a;have C:=d.A j u f;have m:((O r 0):Addr).add j=(O r<|0+j):=by rw[fH]
  rw[m];exact(bF<|ch _ _ _<|dh C).trans C
 case c3=>exact Ap
 case c4=>intro u i;simp at i;subst i;rfl
 case c5=>omega
 case c6=>unfold maxLen;omega
 case c7=>omega
 intro g W i F;have X:W.1[b]?=C' (j' (kL r<|ζ l) 168 (0,0)):=by rw[F.block b I' ak];exact(ch _ _ _ L).trans d.a
 have Y:χ W (O b 0)=C' (cw r<|ζ l):=by rw[ki X];rfl
 have K:W.frozen? (O b 0)=Q':=Dc X 0;obtain⟨q,k,rfl⟩:=aX i;go_wp2
 go_end0
 have d:φ (h' q (ζ l+1) k)≠C' b:=by
  rcases Py i (q:=b) (by first|omega|(simp;omega))with h|h
  .rw[h];simp
  exact h
 have q:Kp b w W:=⟨F.os,F.tape,F.output,br ak F.size,λk o a _ _=>(F.block k (by have:=(bG.1 a).1;simp;omega) ak).trans<|(ch _ _ _ (bG.1 a).1).trans a⟩;refine⟨rfl,⟨v,_,?_,?_,d⟩,zz q 0 _,(((aP _ _).alloc I _).grown F I' (λk a=>by simp at a)).setCell (p:=(O b 0)) v _⟩
 .simp[World.setCell,sH,X]
 have e:Lib.byteCells (l++[c])=Lib.byteCells l++[Value.int .u8 c.toNat]:=by simp[Lib.byteCells]
 rw[aW,e];refine⟨by simpa using i.1,?_⟩;rcases i.2 with h|⟨g,u,Y,R,C,m,N⟩
 .exact aI h
 refine aH ⟨g,u,Y,R,by first|omega|(simp at C;omega),(bh _ _ _ _ ?_).trans m,N⟩;rintro rfl;exact d (by rw[R];rfl)
def PH(B b:Nat)(l:y')(m:Nat)(w:t')(d:m<256)(h:Wr w B b l)(L:ζ l+1<=140737488355328):
  Cl 85 #[n'<|C'<|O b 0,.int .u8 (m:Int)] w λe a=>e=o' (p' #[])/\ew w a B b (l++[UInt8.ofNat m]):=by
 have:=gj B b l (UInt8.ofNat m) w h L;rwa[<-z? d]at this
def GF(B b r n:Nat)(l:y')(m:Nat)(w:t')(d:m<256)(v:B<=b)(c:w.1[b]?=C' (j' (kL r n) 168 (0,0)))(K:n=ζ l)(X:∀(j:Nat)(u:A'),(Lib.byteCells l)[j]?=C' u->χ w (O r<|0+j)=C' u)(L:ζ l+1<=140737488355328):
  Cl 85 #[n'<|C'<|O b 0,.int .u8 (m:Int)] w λe a=>e=o' (p' #[])/\ew w a B b (l++[UInt8.ofNat m]):=by
 have:=KD B b r n l (UInt8.ofNat m) w v c K X L;rwa[<-z? d]at this
def ew.Bh{a:t'}{b k:Nat}{l:y'}{L:Array A'}{t:TypeId}(h:ew w a B b l)(c:w.1[k]?=C' (cL L t))(U:k≠b)(l:t≠5):a.1[k]?=C' (cL L t):=
 h.kp.keep k _ c U (λa a e=>by simp at e;exact l e.2.1)
def QE{v:A'}{l:y'}(h:ρ w B 5 1 v (ζ l)<|Lib.byteCells l)(D:l≠[]):
  ∃a b,v=h' (C' a) (ζ l) b/\(convert 157 9<|h' (C' a) (ζ l) b).run Tryz.prog w=.ok (m' ⟨θ l⟩) w:=by
 rcases h.2 with⟨_,e⟩|⟨g,b,Y,R,_⟩
 .exact absurd (fg.1 e) D
 refine⟨_,b,R,run_convert_bytes_back w 157 9 5 _ b l underlying157 underlying5 underlying9 λj f=>?_⟩;subst R;exact h.cells (g:=g) rfl j _ (by simp[Lib.byteCells,f])
def P7{p g:Int}(h:Á p g=P'):∃K a:Nat,p=K/\g=a/\1<=K/\K<=6/\1<=a/\a<=2:=by unfold Á at h;simp at h;refine⟨p.toNat,g.toNat,?_⟩;omega
def B!(h:ku c=P'):Á c.aM c.cu=P'/\ζ c.nodes<=60/\∀n∈c.nodes,cB c.aM c.cu n=P':=by unfold ku at h;simp only[aS,bw,bZ]at h;exact⟨h.1.1,h.1.2,h.2⟩
def UA(h:ζ c.nodes<=60):ζ (oH c)<=15:=by have:=@gR (ζ c.nodes) I;simp only[oH,aW,bR,de];omega
def encR(c:Ct):z'×Int:=match enc c with
 |some l=>(⟨θ l⟩,0)
 |none=>(⟨#[]⟩,5)
def Lz(T:u')(i:Nat)(c:Ct)(w:t')(h:bX w T c.nodes)(b:ny c):
  Cl 42 #[k'<|gO c.aM c.cu T (ζ c.nodes) i] w (Rb w<|p' #[m' (encR c).1,G (encR c).2]):=by
 have a:=λW g=>zI T i c W (h.below g) b;obtain⟨p,g,v⟩:=c;have s:J (bX w T v/\∀n∈v,jR n):=⟨h,b.nodes⟩;have Y:=ſ a;clear h b a;simp only at Y|-;cases c:ku ⟨p,g,v⟩with
 |false=>
  have V:J (encR ⟨p,g,v⟩=(⟨#[]⟩,5)):=by show _=_;simp[encR,enc,c]
  go_enter func42,ntmps42;go_wp2_with (go_at_call 84;refine(Y.o _ aY).mono ?_;rw[c];rintro e t ⟨rfl,l⟩);go_ret2;rw[V.o];exact⟨rfl,aq aY l⟩
 |true=>
  obtain⟨b,f,R⟩:=B! c;simp only at b f R;obtain⟨K,a,rfl,rfl,hp1,hp2,N,hg2⟩:=P7 b;have HK:J (ku ⟨K,a,v⟩=P'/\(∀n∈v,cB K a n=P')):=⟨c,R⟩;clear c b R;go_enter func42,ntmps42;go_wp2_with fail;refine(Y.o _ aY).mono ?_;rw[HK.a];rintro e t ⟨rfl,l⟩;have d:=(l.block _ ak).trans<|bj w<|j' #[G K,G a,h' T (ζ v) i] 51;have E:=A d;have e0:δ w.1<δ t.1:=by have:=l.size;simp at this;omega
  have r:=ſ<|M (aq aY l) d;have kc:=Zo (t.alloc<|dr K a) #[.int .u8 87,.int .u8 67,.int .u8 1] 3 3 (δ t.1+1) ak;clear l d;go_upto_region 5 with(fail)
  clear kc E;generalize b:((t.alloc<|dr K a).alloc L8).alloc (j' #[h' (C'<|O (δ t.1+1) 0) 3 3] 168)=V;have B:J (Bl w V/\V.1[δ w.1]?=C' (j' #[G K,G a,h' T (ζ v) i] 51 (0,0))/\V.1[δ t.1]?=C' (ot K a)/\V.1[δ t.1+1+1]?=C' (j' #[h' (C'<|O (δ t.1+1) 0) 3 3] 168 (0,0))/\(∀(j:Nat)(u:A'),(Lib.byteCells [87,67,1])[j]?=C' u->χ V (O (δ t.1+1)<|0+j)=C' u)):=by
   subst b;refine⟨aq r.a gU,?_,?_,?_,?_⟩
   .exact((pO t _ _ _).block _ e0).trans r.A
   .exact(ch _ _ _ I').trans (bP t _ _).1
   .have:=bj ((t.alloc<|dr K a).alloc L8)<|j' #[h' (C'<|O (δ t.1+1) 0) 3 3] 168;simpa using this
   intro j u g;have N:=(ch ((t.alloc<|dr K a).alloc L8) (j' #[h' (C'<|O (δ t.1+1) 0) 3 3] 168) (δ t.1+1) ak).trans (bP t (dr K a) L8).2;simp only[World.cell?,N,bW];simpa[Lib.byteCells]using g
  clear b r;generalize δ t.1=U at e0 B|-;have E:=A B.b;have j:K<256:=I;have p:a<256:=I
  go_upto_region 8 with(first
   |(go_at_call 86;refine(iw w.1.size (U+1+1) ([87,67,1]++[UInt8.ofNat K]++[UInt8.ofNat a]) (ζ v) _ y.a.wr I I (by have:=@qJ (ζ v) I;simp only[aW,bR,de];omega)).mono ?_;clear E;rintro e g ⟨rfl,N⟩;have g:=N.Bh y.b I aj;have i:=N.Bh y.B I aj;have E:=A g;have z:=ſ<|M N<|M g i;clear N g i)
   |(go_at_call 85;refine(PH w.1.size (U+1+1) ([87,67,1]++[UInt8.ofNat K]) a _ p c.a.wr ak).mono ?_;clear E;rintro e p ⟨rfl,h⟩;have g:=h.Bh c.b I aj;have i:=h.Bh c.B I aj;have E:=A g;have y:=ſ<|M h<|M g i;clear h g i)
   |(go_at_call 85;refine(GF w.1.size (U+1+1) (U+1) 3 [87,67,1] K _ j I B.d rfl B.D ak).mono ?_;clear E;rintro e j ⟨rfl,h1⟩;have g:=h1.Bh B.b I aj;have i:=h1.Bh B.c I aj;have E:=A g;have c:=ſ<|M h1<|M g i;clear h1 g i))
  have m:=ſ<|M B.a<|M (B.a.trans<|c.a.below.trans<|y.a.below.trans z.a.below)<|M z.a.wr z.B;have b:J (oH ⟨K,a,v⟩=[87,67,1]++[UInt8.ofNat K]++[UInt8.ofNat a]++cT (ζ v)):=by show _=_;simp[oH,cT]
  have HL:J (ζ (oH ⟨K,a,v⟩)<=15):=UA f;clear B c y z;go_wp2_with fail;clear E;go_loopw[34] (λi wr=>∃(k:Nat)(q:y'),k<=ζ v/\i=G k/\J (q++(v.drop k).flatMap (dv K a)=iF ⟨K,a,v⟩)/\J (ζ q<=60000/\q≠[])/\J (Bl w wr/\Wr wr w.1.size (U+1+1) q/\wr.1[U]?=C' (ot K a))) (λi _=>ζ v-(intOf i).toNat)
  case atStart=>
   refine⟨0,oH ⟨K,a,v⟩,bq _,rfl,?_,⟨L' HL.o,by rw[b.o];simp⟩,m.b,by rw[b.o];exact m.c,m.C⟩;show _=_;simp[iF]
  clear m b HL;obtain⟨k,q,Bb,rfl,S,HL,b⟩:=hrel;have f:=A b.B;have e1:=(bG.1 b.B).1;by_cases L:k<ζ v;rotate_left
  .obtain rfl:k=ζ v:=I;have E:¬(ζ v:Int)<(ζ v:Int):=I;have hq:=S.o;rw[Db]at hq;simp only[xW,fQ]at hq;subst hq;obtain⟨_,R,r,o,_⟩:=b.b;obtain⟨a2,ck,rfl,kc⟩:=QE o HL.A;have z1:=A r;have d:J (encR ⟨K,a,v⟩=(⟨θ<|iF ⟨K,a,v⟩⟩,0)):=by show _=_;simp[encR,enc,HK.a,HL.a]
   clear r o;go_wp2_with fail;go_ret2;rw[d.o];exact⟨rfl,b.a⟩
  have E:(k:Int)<(ζ v:Int):=I;obtain⟨n,C⟩:=La L;obtain⟨f,f,fa,l,z,fc,rc,x,rfl,c0,Q,c2,m,P,F⟩:=(s.a.below b.a) k n C;have c:∀W,Below w.1.size (wr.alloc<|j' #[h' fa (ζ n.facts) fc,h' l (ζ n.a!) rc,i' n.reached,G n.rank,h' z (ζ n.aG) x] 96) W->vy W fa l z fc rc x n:=by intro W f;have X:=(b.a.alloc b.a.size<|j' #[h' fa (ζ n.facts) fc,h' l (ζ n.a!) rc,i' n.reached,G n.rank,h' z (ζ n.aG) x] 96).trans f;obtain⟨f,f,E,f,f,g,f,f,D,t,Y,f,f,f,f⟩:=(s.a.below X) k n C;cases D;obtain⟨f,f,f,Y,f,f,f,f,D,gh,fy,f,f,fw,gk⟩:=s.a k n C;cases D;have q0:=(aA gh b.a).symm.trans c0;have q1:=(aA fy b.a).symm.trans Q;have q4:=(aA fw b.a).symm.trans P;simp at q0 q1 q4;obtain⟨rfl,rfl⟩:=q0;obtain⟨rfl,rfl⟩:=q1;obtain⟨rfl,rfl⟩:=q4;exact gk.below X
  have B:=ſ<|M C<|M c<|M (s.A n<|aK C)<|HK.A n<|aK C;have f:ζ q<=60000:=HL.a;clear C F c;by_cases c:60000<ζ (q++dv K a n)
  .have C:60000<((ζ q:Nat):Int)+((ζ (dv K a n):Nat):Int):=by simp only[aW]at c;omega
   have d:J (encR ⟨K,a,v⟩=(⟨#[]⟩,5)):=by
    show _=_;have h1:=cQ length S.o;rw[k9 (dv K a) v k n B.a]at h1;have h:¬ζ (iF ⟨K,a,v⟩)<=60000:=by simp only[aW]at h1 c;omega
    simp[encR,enc,h]
   clear c;go_wp2_with (go_at_call 87;refine(GJ w.1.size (U+1+1) q K a fa l z fc rc x n _ (b.b.alloc _) B.b B.c B.C I).mono ?_;rintro e F ⟨rfl,h⟩;obtain⟨_,R,r,o,_⟩:=h.wr;obtain⟨a2,ck,rfl⟩:=aX o;have z1:=A r;have y:=ſ h;clear h r o);go_ret2;rw[d.o];exact⟨rfl,(b.a.alloc b.a.size _).trans y.o.below⟩
  have C:¬60000<((ζ q:Nat):Int)+((ζ (dv K a n):Nat):Int):=by simp only[aW]at c;omega
  have d:J (ζ (q++dv K a n)<=60000):=by show _<=_;omega
  clear c;go_wp2_with (go_at_call 87;refine(GJ w.1.size (U+1+1) q K a fa l z fc rc x n _ (b.b.alloc _) B.b B.c B.C I).mono ?_;rintro e F ⟨rfl,h⟩;obtain⟨_,R,r,o,_⟩:=h.wr;obtain⟨a2,ck,rfl⟩:=aX o;have z1:=A r;have y:=ſ h;clear h r o);refine⟨⟨k+1,q++dv K a n,I,f',?_,⟨d.o,by have:=HL.A;simp[this]⟩,(b.a.alloc b.a.size _).trans y.o.below,y.o.wr,y.o.Bh ((ch _ _ _ e1).trans b.B) I aj⟩,by simp[intOf];omega⟩;show _=_;rw[<-S.o,k9 (dv K a) v k n B.a];simp
end
def Xe(n:Nd):ζ n.facts<=ζ (Æ n):=by have N:=Ew cT (λx=>Vh _)<|dm 0 n.facts;rw[od]at N;simp only[Æ,aW];omega
def H?{α:Type}(f:α->y'):∀(l:List α)(x:α),x∈l->ζ (f x)<=ζ (l.flatMap f)
 |[],x,h=>by cases h
 |a::l,x,h=>by
  simp only[b9,aW];rcases cO.1 h with rfl|h
  .omega
  have:=H? f l x h;omega
def KI{p g:Int}{n:Nd}(o:cB p g n=P')(X:ζ (dv p g n)<=60000):ζ n.facts<=70000/\ζ n.a!<=70000/\ζ n.aG<=70000:=by
 unfold cB at o;unfold dv at X;by_cases U:p<=4
 .rw[aB U]at o X;have C:=Xe n;simp only[e6,aS,bw,j2]at o;obtain⟨⟨⟨⟨_,_⟩,R⟩,_⟩,a⟩:=o;rw[R];unfold eF at a;by_cases b:g=1
  .rw[aB b]at a;simp only[aS,bw]at a;refine⟨I,I,ak⟩
  rw[ax b]at a;simp only[j2]at a;rw[a];refine⟨I,ak,ak⟩
 rw[ax U]at o;by_cases a:n.reached=P'
 .rw[aB a]at o;simp only[eM,aS,bw,j2]at o;obtain⟨⟨⟨⟨⟨C,b⟩,N⟩,_⟩,_⟩,_⟩:=o;rw[C,b];exact⟨ak,ak,I⟩
 rw[ax a]at o;simp only[ky,aS,bw,j2]at o;obtain⟨⟨⟨⟨_,_⟩,C⟩,b⟩,N⟩:=o;rw[C,b,N];simp
def QB{s:y'}{c:Ct}(h:È s=C' c):ζ c.nodes<=60/\∀n∈c.nodes,jR n/\ζ n.facts<=70000/\ζ n.a!<=70000/\ζ n.aG<=70000:=by obtain⟨C,a,N,d⟩:=vo h;obtain⟨b,k,f⟩:=B! C;refine⟨k,λn K=>⟨d.nodes n K,KI (f n K) ?_⟩⟩;have:=H? (dv c.aM c.cu) c.nodes n K;rw[<-a]at N;simp only[iF,aW]at N;omega
