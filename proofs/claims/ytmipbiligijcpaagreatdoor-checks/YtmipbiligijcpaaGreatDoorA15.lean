import Derived.Test.YtmipbiligijcpaaGreatDoorA13
import Derived.Test.YtmipbiligijcpaaGreatDoorA10
namespace Go.Proofs.YtmipbiligijcpaaGreatDoor
set_option linter.all false
set_option maxHeartbeats 0
set_option maxRecDepth 99999
open Go.RowKit Go.Proofs Go.Maps Tryz List open List renaming length→ζ open _root_.Array renaming size→δ open World renaming setCell→κ,ownsRow→ρ,cell?→χ,grownBy→ξ open Value renaming ownBlock→φ open Value renaming slice→i',bool→j',agg→l',pointer→o' open Obj renaming cells→k' open Ending renaming returned→p' open Option renaming some→B',none→C' open Bool renaming true→O',false→P'
variable {n:Nat}{p:Prop}{s:z'}{w:u'}
section
variable {m:Nat} {S:List (bE×Nat)}
def LW(E:List bE)(v:bE):eS E v<ζ (cB E v):=by
 unfold eS cB;split
 ·rename_i h;have:=sj h;omega
 simp only[bF,fF];omega
def AY(E:List bE)(v:bE):ζ E<=ζ (cB E v):=by unfold cB;split<;>simp
def kD(E:List bE)(s:z'):ζ E<=ζ (bP E s):=by
 unfold bP;split
 ·exact AY _ _
 exact aF
def uH(E:List bE)(s:z'):yu (ζ (bP E s)) (oI E s):=by
 unfold yu oI bP;split
 ·intro _;exact⟨pV _ _,LW _ _⟩
 intro h;cases h
def yu.mono{o:lU}(h:yu n o)(d:n<=m):yu m o:=λe=>⟨(h e).1,J' ((h e).2)⟩
def NN.mono{x:SN}(h:NN n x)(d:n<=m):NN m x:=⟨h.aG,λe=>⟨(h.var e).1,J' ((h.var e).2)⟩,λe=>(h.a e).mono d,λe=>(h.b e).mono d⟩
def aga(n:Nat):NN n ⟨6,0,0,0,o0,o0,emp⟩:=⟨ak,ak,ak,ak⟩
def RD(E:List bE)(R:List z'):ζ E<=ζ (ix E R).2.2/\((ix E R).2.1=O'->NN (ζ (ix E R).2.2) (ix E R).1):=by
 have e:∀R,ζ E<=ζ (pw E R).2.2/\((pw E R).2.1=O'->NN (ζ (pw E R).2.2) (pw E R).1):=by
  intro R;unfold pw;split
  ·rename_i b;exact⟨kD _ _,λ_=>⟨ak,ak,λ_=>uH _ _,ak⟩⟩
  exact⟨aF,λh=>by cases h⟩
 have c:∀R,ζ E<=ζ (j2 E R).2.2/\((j2 E R).2.1=O'->NN (ζ (j2 E R).2.2) (j2 E R).1):=by
  intro R;unfold j2;split
  ·exact⟨aF,λ_=>⟨ak,ak,ak,ak⟩⟩
  exact⟨aF,λh=>by cases h⟩
 have S:∀R,ζ E<=ζ (zT E R).2.2/\((zT E R).2.1=O'->NN (ζ (zT E R).2.2) (zT E R).1):=by
  intro R;unfold zT;split
  ·rename_i _ b W i Y p;split
   ·exact⟨bD (kD E b) (kD _ i),λ_=>⟨ak,ak,λ_=>(uH E b).mono (kD _ i),λ_=>uH _ i⟩⟩
   exact⟨aF,λh=>by cases h⟩
  exact⟨aF,λh=>by cases h⟩
 have f:∀R,ζ E<=ζ (fB E R).2.2/\((fB E R).2.1=O'->NN (ζ (fB E R).2.2) (fB E R).1):=by
  intro R;unfold fB;split;rotate_left
  ·exact⟨aF,λh=>by cases h⟩
  rename_i u b W q;have C:=AY E u.1.1;have a:=LW E u.1.1;have N:=pV E u.1.1;have d:=kD (cB E u.1.1) W;split;rotate_left
  ·exact⟨aF,λh=>by cases h⟩
  split
  ·split
   ·exact⟨C,λ_=>⟨ak,λ_=>⟨N,a⟩,ak,ak⟩⟩
   exact⟨by simp only;omega,λ_=>⟨ak,λ_=>⟨N,by simp only;omega⟩,λ_=>uH _ _,ak⟩⟩
  ·rename_i i Y;have l:=kD (bP (cB E u.1.1) W) Y;exact⟨by simp only;omega,λ_=>⟨ak,λ_=>⟨N,by simp only;omega⟩,λ_=>(uH _ _).mono l,λ_=>uH _ _⟩⟩
  exact⟨by simp only;omega,λh=>by cases h⟩
 unfold ix;split
 ·exact⟨aF,λh=>by cases h⟩
 split
 ·exact e _
 split
 ·exact S _
 split
 ·exact c _
 split
 ·exact⟨aF,λ_=>aga _⟩
 exact f _
def abT(E:List bE)(R:List z'):ζ E<=ζ (jU E R).2.2.2.2/\((jU E R).2.2.2.1=O'->NN (ζ (jU E R).2.2.2.2) (jU E R).2.2.1):=by
 unfold jU;split
 ·exact⟨aF,λh=>by cases h⟩
 split
 ·split
  ·split
   ·exact⟨aF,λh=>by cases h⟩
   exact RD _ _
  exact⟨aF,λh=>by cases h⟩
 exact RD _ _
def aao(h:p:=by
 split at h
 ·exact B E V b a c h
 split at h;rotate_left
 ·cases h
 rename_i o;refine B _ _ b a ?_ h;intro p U;rcases eE.1 U with U|U
 ·exact(c p U).mono C
 simp at U;subst U;exact d o):p:=h
def abe:∀(L:List (List z')) (E:List bE) (V b:List PN) (a:List bE),(∀p∈V,NN (ζ E) p.n)->og E V L=B' (b,a)->∀p∈b,NN (ζ a) p.n:=by
 intro L;induction L with
 |nil=>intro E V b a c h;simp[og]at h;rw[<-h.1,<-h.2];exact c
 |cons R r B=>intro E V b a c h;rw[og]at h;obtain⟨C,d⟩:=abT E R;exact aao
def Sy:∀(a:List z') (i:Nat) (S b:List (bE×Nat)),ly i S a=B' b->∀p∈b,p∈S\/p.2<i+ζ a:=by
 intro a;induction a with
 |nil=>intro i S b h p U;simp[ly]at h;subst h;exact aI U
 |cons x r B=>
  intro i S b h p U;rw[ly]at h;split at h
  ·rcases B _ _ _ h p U with a|a
   ·exact aI a
   exact aK H'
  split at h
  ·cases h
  rcases B _ _ _ h p U with a|a
  ·rcases eE.1 a with N|N
   ·exact aI N
   simp at N;subst N;exact aK ak
  exact aK H'
def LX(h:∀p∈S,p.2<n)(D:0<n)(v:bE):∃t:Nat,nn S v=(t:Int)/\t<n:=by
 unfold nn;split
 ·rename_i p U;exact⟨p.2,rfl,h p (by have:=mem_of_find?_eq_some U;simpa using this)⟩
 exact⟨0,rfl,D⟩
def afD(h:p:=by
 by_cases a:j+1=ζ c;rotate_left
 ·omega
 exfalso;have h:=b.2;unfold rR at h;have i:(c.map PN.nc).getLast?=B' p.nc:=by rw[Cn,b!,cg,show ζ c-1=j by omega,f];rfl
 rw[i]at h;simp only[b!,gW,<-a]at h;have:(jb S p.nc (j+1-1)).contains ((j+1:Nat):Int)=O':=by
  unfold jb G8;have V:p.nc.n.aG=p.n.aG:=rfl;rw[V];by_cases d:p.n.aG=4
  ·simp[d]
  simp[d,g,e]
 rw[this]at h
 cases h):p:=h
def acy{s:z'}{c:List PN}{E:List bE}(h:kW s=Pr.ok c E)(U:ly 0 [] (c.map PN.bu)=B' S):Fit c S (ζ E):=by
 obtain⟨_,D,o,a,_⟩:=ym h;simp only[hU,bh]at o;have b:=o.2;unfold dX at b;rw[wH,U]at b;simp only[bh]at b;have L:∀p∈S,p.2<ζ c:=by
  intro p B;rcases Sy _ _ _ _ U p B with C|C
  ·cases C
  simpa using C
 refine⟨abe _ [] [] c E ak a,?_⟩;intro j p P f e;have r:=(bm.1 f).1;obtain⟨t,U,k⟩:=LX L D p.n.bB.1.1;have q:p.n.aG≠5->j+1<ζ c:=by intro g;exact afD
 unfold jb G8 afI;have V:p.nc.n.aG=p.n.aG:=rfl;have u:p.nc.n.bB=p.n.bB:=rfl;rw[V,u,U];by_cases d:p.n.aG=4
 ·simp only[d,nV];by_cases y:ru p.n.test (opW P p.n.a) (opW P p.n.b)=P'
  ·rw[aB y];exact⟨j+1,ak,q I⟩
  rw[aA y];exact⟨t,ak,k⟩
 rw[aA (by simp[d])];by_cases l:p.n.aG=5
 ·exact⟨t,by simp[l],k⟩
 exact⟨j+1,by simp[d,l,e],q l⟩
end
section
variable {a b:z'} {E f:List bE} {o:lU} {p:PN}
namespace Wm
def XF(l:y'):∀a,iX a l=a*10 ^ ζ l+dS l:=by
 induction l with
 |nil=>intro a;simp[iX,dS]
 |cons c r B=>intro a;have C:=B (a*10+(c.toNat-48));have b:=B (0*10+(c.toNat-48));have V:iX a (c::r)=iX (a*10+(c.toNat-48)) r:=kG a c r;have u:dS (c::r)=iX (0*10+(c.toNat-48)) r:=kG 0 c r;rw[V,u,C,b,cC,ni,oR,e?,bW,Nat.mul_assoc,oX 10,e9]
def qn(c:UInt8)(r:y'):dS (c::r)=(c.toNat-48)*10 ^ ζ r+dS r:=by have u:dS (c::r)=iX (0*10+(c.toNat-48)) r:=kG 0 c r;rw[u,XF];simp
def tO:∀l:y',l.all gM=O'->dS l<10 ^ ζ l
 |[],_=>by simp[dS,iX]
 |c::r,h=>by simp only[qC,bh]at h;have T:=(gq c).1 h.1;have a:=tO r h.2;rw[qn,cC,ni];have:(c.toNat-48)*10 ^ ζ r<=9*10 ^ ζ r:=qG _ I;omega
def B8:∀l P:y',ζ l=ζ P->l.all gM=O'->P.all gM=O'->dS l=dS P->l=P
 |[],[],_,_,_,_=>rfl
 |[],_::_,h,_,_,_=>by simp at h
 |_::_,[],h,_,_,_=>by simp at h
 |c::r,d::q,X,C,a,he=>by
  simp only[qC,bh]at C a;have T:=(gq c).1 C.1;have Q:=(gq d).1 a.1;simp only[cC,Nat.add_right_cancel_iff]at X;rw[qn,qn,X]at he;have N:=tO r C.2;have e:=tO q a.2;rw[X]at N;have b:(c.toNat-48)=(d.toNat-48):=by have V:=dZ (· / 10 ^ ζ q) he;rw[oX,I7 (uk I),oX (d.toNat-48),I7 (uk I),CA N,CA e]at V;omega
  rw[b]at he;have b:=B8 r q X C.2 a.2 I;have:c=d:=by apply xd.1;omega
  rw[this,b]
def qm{c:UInt8}{r:y'}(T:48<c.toNat):10 ^ ζ r<=dS (c::r):=by rw[qn];have:1*10 ^ ζ r<=(c.toNat-48)*10 ^ ζ r:=qG _ I;omega
def p?{a:Bool}{d:y'}(h:ku a d=O'):(d=[48]/\a=P')\/∃c r,d=c::r/\48<c.toNat/\d.all gM=O':=by
 match d,h with
 |[],h=>simp[ku]at h
 |c::r,h=>
  simp only[ku,bh]at h;obtain⟨C,a⟩:=h;have T:=(gq c).1 (by simp only[qC,bh]at C;exact C.1);by_cases f:c.toNat=48
  ·left;rw[aB (by simp[f])]at a;simp only[bh,bq,gW]at a;refine⟨?_,a.2⟩;have:c=48:=by apply xd.1;rw[f];rfl
   rw[this,du.1 a.1]
  right;exact⟨c,r,rfl,I,C⟩
def Wv{s x:Bool}{Y a:y'}(C:ku s Y=O')(b:ku x a=O')(l:dS Y=dS a):Y=a:=by
 have z:dS [48]=0:=aj;have f:∀(c:UInt8) (r:y'),48<c.toNat->0<dS (c::r):=λc r T=>mG (uk I) (qm (r:=r) T);rcases p? C with⟨rfl,_⟩|⟨c,r,rfl,T,e⟩
 ·rcases p? b with⟨rfl,_⟩|⟨d,q,rfl,Q,a⟩
  ·rfl
  have:=f d q Q;omega
 rcases p? b with⟨rfl,_⟩|⟨d,q,rfl,Q,a⟩
 ·have:=f c r T;omega
 have N:=tO _ e;have b:=tO _ a;have c:=qm (r:=r) T;have o:=qm (r:=q) Q;refine B8 _ _ ?_ e a l;simp only[cC]at N b⊢;rcases Nat.lt_trichotomy (ζ r) (ζ q) with X|X|X
 ·have:=uj (n:=10) I (show ζ r+1<=ζ q by omega);omega
 ·omega
 have:=uj (n:=10) I (show ζ q+1<=ζ r by omega);omega
def ZS{l:y'}:l=if ng l then 45::dg l else dg l:=by
 cases l with
 |nil=>rfl
 |cons c r=>
  by_cases h:c=45
  ·subst h;rw[Dm,DQ];rfl
  rw[yD c r h,zq c r h];rfl
def XL{d P:y'}{x:Int}(C:ga d=B' x)(f:ga P=B' x):d=P:=by
 have b:∀l y,ga l=B' y->pA l=O'/\((ng l=O'/\y=-(dS (dg l):Int)/\0<dS (dg l))\/(ng l=P'/\y=(dS (dg l):Int))):=by
  intro l y h;unfold ga at h;split at h;rotate_left
  ·cases h
  rename_i K;refine⟨K,?_⟩;split at h;rotate_left
  ·rename_i a;split at h
   ·refine aK ⟨I' a,?_⟩;cases h;rfl
   cases h
  rename_i a;split at h;rotate_left
  ·cases h
  refine aI ⟨a,?_,?_⟩
  ·cases h;rfl
  unfold pA at K;rw[a]at K;rcases p? K with⟨_,e⟩|⟨c,r,e,T,_⟩
  ·cases e
  rw[e];exact mG (uk I) (qm (r:=r) T)
 obtain⟨s,Q⟩:=b _ _ C;obtain⟨x,p⟩:=b _ _ f;have a:ng d=ng P/\dS (dg d)=dS (dg P):=by rcases Q with⟨N,V,F⟩|⟨N,V⟩<;>rcases p with⟨k,u,b⟩|⟨k,u⟩<;>rw[N,k]<;>constructor<;>first|rfl|omega
 rw[ZS (l:=d),ZS (l:=P),a.1,Wv s x a.2]
end Wm
def tW(vs:List bE)(o:lU)(s:z'):Prop:=(Wm.nm s=O'/\s.1.1∈vs/\o=⟨O',(vs.idxOf s.1.1:Int),0⟩)\/(Wm.nm s=P'/\∃c,Wm.ga s.1.1=B' c/\o=⟨P',0,c⟩)
def Bx{f:lU}{d:z'}(h:tW E o s)(e:tW E f d):s=d↔jW o=jW f:=by
 rcases h with⟨a,b,rfl⟩|⟨a,c,b,rfl⟩<;>rcases e with⟨c,o,rfl⟩|⟨c,p,o,rfl⟩
 ·simp only[jW,eR,nV,and_true];constructor
  ·rintro rfl;rfl
  intro e;have L:E.idxOf s.1.1=E.idxOf d.1.1:=I;have:s.1.1=d.1.1:=by rw[<-(Ex (sj b)),<-(Ex (sj o))];simp only[L]
  exact data_inj this
 ·constructor
  ·rintro rfl;rw[a]at c;cases c
  intro e;simp[jW]at e
 ·constructor
  ·rintro rfl;rw[a]at c;cases c
  intro e;simp[jW]at e
 simp only[jW,eR,nV];constructor
 ·rintro rfl;rw[b]at o;cases o;rfl
 rintro rfl;exact data_inj (Wm.XL b o)
def WT{r:List bE}{v:bE}(h:v∈E):(E++r).idxOf v=E.idxOf v:=by rw[w!,aB h]
def tW.mono(h:tW E o s)(U:E <+: f):tW f o s:=by
 obtain⟨r,rfl⟩:=U;rcases h with⟨a,b,c⟩|h
 ·exact aI ⟨a,mem_append_left _ b,by rw[WT b];exact c⟩
 exact aK h
def o8(E:List bE)(v:bE):E <+: cB E v:=by
 unfold cB;split
 ·exact fE
 exact I8 _ _
def SF(E:List bE)(s:z'):E <+: bP E s:=by
 unfold bP;split
 ·exact o8 _ _
 exact fE
def vN{a b}:=@SF a b
def Bw(E:List bE)(s:z')(h:bY s=O'):tW (bP E s) (oI E s) s:=by
 unfold tW bP oI;cases K:Wm.nm s with
 |true=>
  simp only[c!];refine aI ⟨trivial,?_,?_⟩
  ·unfold cB;split
   ·assumption
   simp
  unfold eS cB;by_cases d:s.1.1∈E
  ·simp[d]
  simp only[d,bU];rw[w!,aA d];simp
 |false=>
  have T:jd s.1.1=O':=by unfold bY at h;rw[K]at h;simpa using h
  unfold jd at T;obtain⟨c,T⟩:=Option.isSome_iff_exists.1 T;refine aK ⟨rfl,c,T,?_⟩;simp[jE,T]
structure Vr(vs:List bE)(p:PN):Prop where
  wd:p.n.aG=1->∃w0 w1 w2 w3 w4,p.ws=[w0,w1,w2,w3,w4]/\tW vs p.n.a w2/\tW vs p.n.b w4/\p.n.op=Wm.tZ w3.1.1/\Wm.wC w3.1.1=O'
def Vr.mono(h:Vr E p)(U:E <+: f):Vr f p:=
 ⟨λe=>let ⟨u,f,W,i,Y,a,b,c,d⟩:=h.wd e;⟨u,f,W,i,Y,a,b.mono U,c.mono U,d⟩⟩
def RB(E:List bE)(R:List z')(a:z'):E <+: (ix E R).2.2/\((ix E R).2.1=O'->Vr (ix E R).2.2 ⟨a,R,(ix E R).1⟩):=by
 match R with
 |[]=>exact⟨fE,λh=>by cases h⟩
 |u::r=>
  unfold ix;simp only;split
  ·unfold pw;split
   ·exact⟨vN,λ_=>⟨λe=>by simp at e⟩⟩
   exact⟨fE,λh=>by cases h⟩
  split
  ·unfold zT;split
   ·split
    ·exact⟨vN.trans vN,λ_=>⟨λe=>by simp at e⟩⟩
    exact⟨fE,λh=>by cases h⟩
   exact⟨fE,λh=>by cases h⟩
  split
  ·unfold j2;split
   ·exact⟨fE,λ_=>⟨λe=>by simp at e⟩⟩
   exact⟨fE,λh=>by cases h⟩
  split
  ·exact⟨fE,λ_=>⟨λe=>by simp at e⟩⟩
  unfold fB;split;rotate_left
  ·exact⟨fE,λh=>by cases h⟩
  rename_i u b W q l;cases l;split;rotate_left
  ·exact⟨fE,λh=>by cases h⟩
  split
  ·split
   ·exact⟨o8 _ _,λ_=>⟨λe=>by simp at e⟩⟩
   exact⟨(o8 _ _).trans vN,λ_=>⟨λe=>by simp at e⟩⟩
  ·rename_i i Y;refine⟨((o8 _ _).trans vN).trans vN,λh=>⟨λ_=>⟨u,b,W,i,Y,rfl,?_,?_,rfl,?_⟩⟩⟩
   ·simp only[bh]at h;exact(Bw _ _ h.1.1).mono vN
   ·simp only[bh]at h;exact Bw _ _ h.2
   simp only[bh]at h;exact h.1.2
  exact⟨(o8 _ _).trans vN,λh=>by cases h⟩
def abS(E:List bE)(R:List z'):E <+: (jU E R).2.2.2.2/\((jU E R).2.2.2.1=O'->Vr (jU E R).2.2.2.2 ⟨(jU E R).1,R.drop (jU E R).2.1,(jU E R).2.2.1⟩):=by
 unfold jU;split
 ·exact⟨fE,λh=>by cases h⟩
 split
 ·split
  ·split
   ·exact⟨fE,λh=>by cases h⟩
   exact RB _ _ _
  exact⟨fE,λh=>by cases h⟩
 exact RB _ _ _
def abb:∀(L:List (List z')) (E:List bE) (V b:List PN) (a:List bE),(∀p∈V,Vr E p)->og E V L=B' (b,a)->∀p∈b,Vr a p:=by
 intro L;induction L with
 |nil=>intro E V b a c h;simp[og]at h;rw[<-h.1,<-h.2];exact c
 |cons R r B=>intro E V b a c h;rw[og]at h;obtain⟨C,d⟩:=abS E R;exact aao
def Wt(c:Wm.wC a.1.1=O')(d:Wm.wC b.1.1=O'):a=b↔Wm.tZ a.1.1=Wm.tZ b.1.1:=by
 constructor
 ·rintro rfl;rfl
 intro h;refine data_inj ?_;simp only[Wm.wC,gX,bT]at c d;rcases c with((c|c)|c)|c<;>rcases d with((d|d)|d)|d<;>rw[c,d]at h⊢<;>first|rfl|(exfalso;revert h;decide)
def adE{a:List PN}(h:kW s=Pr.ok a E):∀p∈a,Vr E p:=by obtain⟨_,D,o,b,_⟩:=ym h;exact abb _ [] [] a E ak b
def NZ{q:PN}(U:Vr E p)(e:Vr E q)(d:p.n.aG=1)(k:q.n.aG=1){P F r R i c o:z'}(V:p.ws=[P,F,a,s,b])(u:q.ws=[r,R,i,c,o]):
  (a=i/\s=c/\b=o)↔(jW p.n.a,p.n.op,jW p.n.b)=(jW q.n.a,q.n.op,jW q.n.b):=by
 obtain⟨_,_,_,_,_,K,E,l,r,S⟩:=U.wd d;obtain⟨_,_,_,_,_,B,g,d,f,j⟩:=e.wd k;rw[V]at K;rw[u]at B;simp only[nh,and_true]at K B;obtain⟨-,-,t,y,k⟩:=K;obtain⟨-,-,e,h,X⟩:=B;rw[<-t]at E;rw[<-k]at l;rw[<-y]at r S;rw[<-e]at g;rw[<-X]at d;rw[<-h]at f j;have X:(a=i/\s=c/\b=o)↔(jW p.n.a=jW q.n.a/\p.n.op=q.n.op/\jW p.n.b=jW q.n.b):=by rw[Bx E g,Bx l d,Wt S j,<-r,<-f]
 rw[X];constructor
 ·rintro⟨C,a,N⟩;rw[C,a,N]
 intro h;exact⟨dZ Prod.fst h,dZ (λx=>x.2.1) h,dZ (λx=>x.2.2) h⟩
end
section
variable {E:List bE} {S:List (bE×Nat)}
structure aax(P:Pm):Prop where
  ok:dC P
  cs:wR P
  op:qA P
  nx:ζ P.nx=ζ P.nd
  key:∀n∈P.nd,nU (jB n)
structure BdN(n:SN):Prop where
  a:Hm n.a
  b:Hm n.b
  av:n.a.aS=O'->n.aG=0\/n.aG=1\/n.aG=3\/n.aG=4
  bv:n.b.aS=O'->n.aG=1\/n.aG=4
  az:n.a.aS=P'->n.a.var=0
  bz:n.b.aS=P'->n.b.var=0
  op:0<=n.op/\n.op<=3
def acF(l:y'):-9223372036854775808<=jE l/\jE l<=9223372036854775807:=by
 unfold jE;cases h:Wm.ga l with
 |none=>simp
 |some x=>
  unfold Wm.ga at h;split at h;rotate_left
  ·cases h
  split at h
  ·split at h
   ·cases h;simp only[IL];omega
   cases h
  split at h
  ·cases h;simp only[IL];omega
  cases h
def abA(E:List bE)(s:z'):Hm (oI E s)/\((oI E s).aS=P'->(oI E s).var=0):=by
 unfold oI;split
 ·exact⟨⟨ak,ak⟩,λh=>by cases h⟩
 exact⟨acF _,λ_=>rfl⟩
def qY{a b}:=@abA a b
def F6:Hm o0:=⟨aj,aj⟩
def abE(l:y'):0<=Wm.tZ l/\Wm.tZ l<=3:=by
 unfold Wm.tZ;split
 ·omega
 split
 ·omega
 split
 ·omega
 split<;>omega
def QN(h:p:=by
 exact λ_=>⟨F6,F6,λh=>(by cases h),λh=>(by cases h),λ_=>rfl,λ_=>rfl,ak⟩):p:=h
def YL(h:p:=by
 exact λ_=>⟨qY.1,F6,λ_=>ak,λh=>(by cases h),qY.2,λ_=>rfl,ak⟩):p:=h
def RE(E:List bE)(R:List z'):(ix E R).2.1=O'->BdN (ix E R).1:=by
 match R with
 |[]=>intro h;cases h
 |u::r=>
  unfold ix;simp only;split
  ·unfold pw;split
   ·rename_i b _;exact YL
   intro h;cases h
  split
  ·unfold zT;split
   ·split
    ·exact λ_=>⟨qY.1,qY.1,λ_=>ak,λ_=>ak,qY.2,qY.2,ak⟩
    intro h;cases h
   intro h;cases h
  split
  ·unfold j2;split
   ·exact QN
   intro h;cases h
  split
  ·exact QN
  unfold fB;split;rotate_left
  ·intro h;cases h
  split;rotate_left
  ·intro h;cases h
  split
  ·split
   ·exact QN
   exact YL
  ·exact λ_=>⟨qY.1,qY.1,λ_=>ak,λ_=>ak,qY.2,qY.2,abE _⟩
  intro h;cases h
def abU(E:List bE)(R:List z'):(jU E R).2.2.2.1=O'->BdN (jU E R).2.2.1:=by
 unfold jU;split
 ·intro h;cases h
 split
 ·split
  ·split
   ·intro h;cases h
   exact RE _ _
  intro h;cases h
 exact RE _ _
def abf:∀(L:List (List z')) (E:List bE) (V b:List PN) (a:List bE),(∀p∈V,BdN p.n)->og E V L=B' (b,a)->∀p∈b,BdN p.n:=by
 intro L;induction L with
 |nil=>intro E V b a c h;simp[og]at h;rw[<-h.1];exact c
 |cons R r B=>
  intro E V b a c h;rw[og]at h;split at h
  ·exact B E V b a c h
  split at h;rotate_left
  ·cases h
  rename_i o;refine B _ _ b a ?_ h;intro p U;rcases eE.1 U with U|U
  ·exact c p U
  simp at U;subst U;exact abU _ _ o
def zl{c:List PN}(h:kW s=Pr.ok c E)(U:ly 0 [] (c.map PN.bu)=B' S){j:Nat}{p:PN}(f:c[j]?=B' p):ζ (jb S p.nc j)<=2/\∀t∈jb S p.nc j,∃k:Nat,t=(k:Int)/\k<ζ c:=by
 obtain⟨_,D,o,a,_⟩:=ym h;simp only[hU,bh]at o;have b:=o.2;unfold dX at b;rw[wH,U]at b;simp only[bh]at b;have L:∀p∈S,p.2<ζ c:=by
  intro p B;rcases Sy _ _ _ _ U p B with C|C
  ·cases C
  simpa using C
 have r:=(bm.1 f).1;obtain⟨t,U,k⟩:=LX L D p.n.bB.1.1;have q:p.n.aG≠5->p.n.aG≠6->j+1<ζ c:=by intro g e;exact afD
 unfold jb G8;have V:p.nc.n.aG=p.n.aG:=rfl;have u:p.nc.n.bB=p.n.bB:=rfl;rw[V,u,U];by_cases d:p.n.aG=4
 ·have:=q I I;simp only[d,beq_self_eq_true,c!];refine⟨ak,λx F=>?_⟩;simp only[dr,ke,jf]at F;rcases F with rfl|rfl
  ·exact⟨t,rfl,k⟩
  exact⟨j+1,ak,this⟩
 by_cases l:p.n.aG=5
 ·simp only[l];refine⟨ak,λx F=>?_⟩;simp at F;subst F;exact⟨t,rfl,k⟩
 by_cases c:p.n.aG=6
 ·simp[c]
 have:=q l c;simp only[bT,d,l,c,bU];refine⟨ak,λx F=>?_⟩;simp at F;subst F;exact⟨j+1,ak,this⟩
def wE(S:List (bE×Nat)):∀(a:List PN) (i j:Nat),(yx S i a)[j]?=a[j]?.map λp=>(jb S p.nc (i+j)).map Int.toNat
 |[],i,j=>by simp[yx]
 |p::r,i,0=>by simp[yx]
 |p::r,i,j+1=>by rw[yx,nj,nj,wE S r (i+1) j,show i+1+j=i+(j+1)by omega]
def tm(S:List (bE×Nat)):∀(a:List PN) (i:Nat),ζ (yx S i a)=ζ a
 |[],_=>rfl
 |p::r,i=>by rw[yx,cC,cC,tm S r]
def yE:∀(l:List Int),(∀t∈l,∃k:Nat,t=(k:Int))->(l.map Int.toNat).map Int.ofNat=l
 |[],_=>rfl
 |x::l,h=>by obtain⟨k,rfl⟩:=h x ak;have:=yE l (λt U=>h t (by simp[U]));rw[u?,u?,this];rfl
def QB{x:Int}(h:-9223372036854775808<=x/\x<=9223372036854775807):(Lit.int .i64 x).wf=O':=by obtain⟨C,a⟩:=h;have V:IntKind.i64.min=-2^63:=aj;have u:IntKind.i64.max=9223372036854775807:=aj;simp only[Lit.wf,V,u,bq,bh];exact⟨C,a⟩
def Sx{r:List PN}(h:kW s=Pr.ok r E)(U:ly 0 [] (r.map PN.bu)=B' S):aax (nI r S (ζ E)):=by
 obtain⟨_,D,o,a,_⟩:=ym h;simp only[hU,bh,bq]at o;have v:=abf _ [] [] r E ak a;have K:∀n∈(nI r S (ζ E)).nd,NN (ζ E) n/\BdN n:=λn K=>by obtain⟨p,g,rfl⟩:=cZ.1 K;exact⟨(acy h U).O7 p g,v p g⟩
 have g:ζ (nI r S (ζ E)).nd=ζ r:=b! _;refine⟨⟨o.1.1.1,by rw[g];exact D,by rw[g];exact o.1.2,λl X=>?_,λn q=>(K n q).1.aG,λn q=>(K n q).1.var,λn q e=>?_,λn q e=>?_⟩,λi=>?_,λn q _=>(K n q).2.op,?_,λn q=>?_⟩
 ·obtain⟨j,f⟩:=xh X;have c:(yx S 0 r)[j]?=B' l:=f;rw[wE,bW]at c;cases C:r[j]? with
  |none=>rw[C]at c;cases c
  |some p=>rw[C]at c;simp only[m?,fD]at c;obtain⟨a,b⟩:=zl h U C;rw[<-c];refine⟨by rw[b!];exact a,λt U=>?_⟩;obtain⟨x,F,rfl⟩:=cZ.1 U;obtain⟨k,rfl,a⟩:=b x F;rw[g];simpa using a
 ·exact(K n q).1.a (by unfold d! at e;split at e<;>first|omega|(split at e<;>omega))
 ·exact(K n q).1.b (by unfold d! at e;split at e<;>first|omega|(split at e<;>omega))
 ·by_cases a:i<ζ (nI r S (ζ E)).nd
  ·have d:=D6 a;exact⟨(K _ d).2.a,(K _ d).2.b⟩
  have:(nI r S (ζ E)).at i=oM:=by rw[Pm.at,getD,dA I];rfl
  rw[this];exact⟨F6,F6⟩
 ·rw[g];exact tm S r 0
 obtain⟨Q,p⟩:=K n q;have z:-2^63<=n.a.var/\n.a.var<=9223372036854775807:=by
  cases e:n.a.aS with
  |true=>have:=Q.a (p.av e) e;omega
  |false=>rw[p.az e];omega
 have a:-2^63<=n.b.var/\n.b.var<=9223372036854775807:=by
  cases e:n.b.aS with
  |true=>have:=Q.b (p.bv e) e;omega
  |false=>rw[p.bz e];omega
 exact⟨QB z,QB p.a,QB (by have:=p.op;show _<=n.op/\n.op<=_;omega),QB a,QB p.b⟩
def Wr{a:List PN}{w:u'}{g b:Nat}{D:List NC}(h:kW s=Pr.ok a E)(d:ly 0 [] (a.map PN.bu)=B' S)(e:jH w g b D)(v:wq w D a)(f:∀(j:Nat) (c:NC) (p:PN),D[j]?=B' c->a[j]?=B' p->Er w c.ev (jb S p.nc j)):PM w g b D (nI a S (ζ E)):=by
 have b:ζ (nI a S (ζ E)).nd=ζ a:=b! _;refine⟨e,by rw[b];exact v.len,λj c n T K=>?_,by rw[b];exact tm S a 0,λj c l T X=>?_⟩
 ·have r:(a.map PN.n)[j]?=B' n:=K;rw[cg]at r;cases C:a[j]? with
  |none=>rw[C]at r;cases r
  |some p=>rw[C]at r;simp only[m?,fD]at r;rw[<-r];exact(v.each j c p T C).n
 have i:(yx S 0 a)[j]?=B' l:=X;rw[wE,bW]at i;cases C:a[j]? with
 |none=>rw[C]at i;cases i
 |some p=>rw[C]at i;simp only[m?,fD]at i;rw[<-i,yE _ λt U=>(let ⟨k,a,_⟩:=(zl h d C).2 t U;⟨k,a⟩)];exact f j c p T C
end
section
variable {c:Ct} {t:z'} {a:List PN} {E:List bE}
def uI(o:jz c=O'):∀x∈c.nodes,bA c.aE c.grade x=O':=by unfold jz at o;rw[bh,cF]at o;exact o.2
def By(o:jz c=O'):(1<=c.aE/\c.aE<=6)/\(c.grade=1\/c.grade=2)/\ζ c.nodes<=60:=by
 unfold jz known at o;simp at o;refine⟨⟨o.1.1.1.1,o.1.1.1.2⟩,?_,o.1.2⟩;rcases o.1.1.2 with h|h
 ·exact aK h
 exact aI h.1
def wh(s t:z'):Int:=match kW s with
 | .inl false=>1
 | .inl true=>2
 | .inr (pl,vs)=>match dec t.1.1 with
  |none=>5
  |some c=>match ly 0 [] (pl.map PN.bu)with|some ps=>jF (nI pl ps (ζ vs)) c|none=>0
def wO(s t:z'):List Nd:=if wh s t=0 then(match dec t.1.1 with|some c=>c.nodes.map qQ|none=>[]) else[]
def Uw{b:Bool}(h:kW s=.inl b):wh s t=(if b then 2 else 1)/\wO s t=[]:=by
 have e:wh s t=(if b then 2 else 1):=by rw[wh,h];cases b<;>rfl
 refine⟨e,?_⟩;rw[wO,e,aA (by cases b<;>decide)]
def Ux(h:kW s=Pr.ok a E)(Q:dec t.1.1=C'):wh s t=5/\wO s t=[]:=by
 have e:wh s t=5:=by rw[wh,h];simp only[Q]
 refine⟨e,?_⟩;rw[wO,e,aA aj]
def aar{S:List (bE×Nat)}(h:kW s=Pr.ok a E)(U:ly 0 [] (a.map PN.bu)=B' S)(Q:dec t.1.1=B' c):wh s t=jF (nI a S (ζ E)) c/\wO s t=if jF (nI a S (ζ E)) c=0 then c.nodes.map qQ else[]:=by
 have e:wh s t=jF (nI a S (ζ E)) c:=by rw[wh,h];simp only[Q,U]
 refine⟨e,?_⟩;rw[wO,e,Q]
end
section
variable {D:List RC} {v:List (List Nat)} {P:Pm} {i f:Nat} {c:RC} {y:DK} {m:RN} {n:SN}
def DxR(cl:List RC)(P:Pm)(d:DK)(k:Key):Prop:=∃j c,cl[j]?=B' c/\mr c.n=B' d/\t! (P.at j)=B' k
structure DX(cl:List RC)(P:Pm):Prop where
  some:∀(j:Nat) (c:RC),cl[j]?=B' c->(mr c.n).isSome=(t! (P.at j)).isSome
  same:∀d k d2 k2,DxR cl P d k->DxR cl P d2 k2->(d=d2↔k=k2)
  var:∀d k,DxR cl P d k->d.2.2.2.1=(if k.1.1 then k.1.2.1 else -1)/\d.2.2.2.2=(if k.2.2.1 then k.2.2.2.1 else -1)
def zb(t:DR D v P)(f:DX D P):Two (DxR D P) (ou D (ζ D)) P.ex:=by
 unfold ou Pm.ex ze;refine Ni f.same _ _ [] [] ⟨by simp[t.len],λj a b d e=>?_⟩ Two.nil;rw[gg,cg]at d;rw[cg]at e;cases T:D[j]? with
 |none=>rw[T]at d;cases d
 |some c=>
  cases K:P.nd[j]? with
  |none=>rw[K]at e;cases e
  |some n=>
   rw[T]at d;rw[K]at e;have W:P.at j=n:=by rw[Pm.at,getD,K];rfl
   have C:=f.some j c T;rw[W]at C;simp only[m?,fD]at d e;rw[d,e]at C
   match a,b,d,e,C with
   |none,none,_,_,_=>trivial
   |some x,some y,d,e,_=>exact⟨j,c,T,d,by rw[W];exact e⟩
def DL(t:DR D v P)(a:DX D P)(T:D[i]?=B' c)(B:(ou D (ζ D))[f]?=B' y):Vo c.n y=P.ev i f:=by
 have b:=zb t a;obtain⟨k,d⟩:=La (l:=P.ex) (i:=f) (by rw[<-b.len];exact(bm.1 B).1);have e:=b.each f y k B d;have C:=a.some i c T;rw[Vo,Pm.ev,d];cases V:mr c.n with
 |none=>
  rw[V]at C;cases u:t! (P.at i)with
  |none=>rfl
  |some x=>rw[u]at C;cases C
 |some d=>
  rw[V]at C;cases u:t! (P.at i)with
  |none=>rw[u]at C;cases C
  |some x=>have:=a.same d x y k ⟨i,c,T,V,u⟩ e;simp only[this]
def CH(h:tV {m with bu:=emp} n):(gU n=O'/\m.target=n.var/\0<=n.var)\/(gU n=P'/\m.target=-1):=by
 have U:=h.target;have R:=h.var;unfold gU;by_cases a:n.aG<=2
 ·rw[aB a]at U;exact aI ⟨ei a,U,R a⟩
 rw[aA a]at U;exact aK ⟨cV a,U⟩
def M0(t:DR D v P)(a:DX D P)(T:D[i]?=B' c)(B:(ou D (ζ D))[f]?=B' y):ZY c.n y=P.kl i f:=by
 have b:=zb t a;obtain⟨k,d⟩:=La (l:=P.ex) (i:=f) (by rw[<-b.len];exact(bm.1 B).1);obtain⟨e,R⟩:=a.var y k (b.each f y k B d);unfold ZY Pm.kl qS;rw[d,e,R];rcases CH (t.each i c T)with⟨C,a,N⟩|⟨C,a⟩
 ·rw[C,a,ei N];simp only[dW];cases k.1.1<;>cases k.2.2.1<;>simp<;>try omega
 rw[C,a];simp
def SG{r:RO}{o:lU}(h:fQ r o)(v:Nat):(r.var==(v:Int))=(o.aS&&o.var==(v:Int)):=by
 unfold fQ at h;cases R:o.aS with
 |true=>rw[R,aB rfl]at h;rw[h.1];simp
 |false=>rw[R,aA aj]at h;rw[h.1];simp;try omega
def VH(h:tV {m with bu:=emp} n)(v:Nat):QQ m (v:Int)=VJ n (v:Int):=by
 have a:=h.ops;have b:=h.a;have c:=h.b;rw[QQ,VJ,d!,a];by_cases C:n.aG=0\/n.aG=3
 ·rw[aB C,aB C,SG (b I) v];simp
 rw[aA C,aA C];by_cases a:n.aG=1\/n.aG=4
 ·rw[aB a,aB a,SG (b I) v,SG (c a) v];simp
 rw[aA a,aA a];simp
def Si(h:tV {m with bu:=emp} n):Ox m=(n.aG==6):=by have Q:=h.does;have U:=h.aG;rw[Ox,Q,dp];have:n.aG=0\/n.aG=1\/n.aG=2\/n.aG=3\/n.aG=4\/n.aG=5\/n.aG=6:=I;rcases this with e|e|e|e|e|e|e<;>rw[e]<;>decide
def B7:∀(D:List RC) (z:List SN) (j:Nat),ζ D=ζ z->(∀(k:Nat) c n,D[k]?=B' c->z[k]?=B' n->(0<=c.n.target↔gU n=O'))->ky j D=oz j z
 |[],[],_,_,_=>rfl
 |[],_::_,_,h,_=>by simp at h
 |_::_,[],_,h,_=>by simp at h
 |x::D,y::z,j,X,h=>by
  have d:=h 0 x y rfl rfl;have e:=B7 D z (j+1) (I' X) (λk c n a b=>h (k+1) c n (I' a) (I' b));rw[ky,oz,e];by_cases B:gU y=O'
  ·rw[aB (d.2 B),aB B]
  rw[aA (λq=>B (d.1 q)),aA B]
def DR.at(h:DR D v P){j:Nat}(K:P.nd[j]?=B' n):P.at j=n:=by rw[Pm.at,getD,K];rfl
def Nn(t:DR D v P):ky 0 D=oz 0 P.nd:=by
 refine B7 _ _ 0 t.len λk c n T K=>?_;have:=t.each k c T;rw[t.at K]at this;rcases CH this with⟨C,a,N⟩|⟨C,a⟩
 ·rw[C,a];simp[N]
 rw[C,a];simp
def Nh(t:DR D v P)(a:DX D P)(p:Int):fcD D P.nv p=P.facts p:=by rw[fcD,Pm.facts,Nn t,(zb t a).len]
def Zh{p:Prop}(h:p:=by
 obtain⟨a,n,b,c⟩:=Ug z (j+1) i h
 exact⟨I,n,by rw[show i-j=i-(j+1)+1 by omega];simpa using b,c⟩):p:=h
def Ug:∀(z:List SN) (j i:Nat),i∈oz j z->j<=i/\∃n,z[i-j]?=B' n/\gU n=O'
 |[],_,_,h=>by cases h
 |y::z,j,i,h=>by
  rw[oz]at h;by_cases B:gU y=O'
  ·rw[aB B]at h;rcases dr.1 h with rfl|h
   ·exact⟨aF,y,ak,B⟩
   exact Zh
  rw[aA B]at h;exact Zh
def Xy(t:DR D v P)(Y:f<P.facts 1):(Iz D P.nv f).1=P.Lc f/\0<=P.Lc f/\(∀m:Nat,((Iz D P.nv f).2==(m:Int))=(P.mT f==B' m))/\(decide ((Iz D P.nv f).2<0)=decide (f<P.nv)):=by
 unfold Iz Pm.Lc Pm.mT;by_cases h:f<P.nv
 ·rw[aB h,aB h,aB h];exact⟨rfl,I,λm=>(by show((-1:Int)==(m:Int))=((C':Option Nat)==B' m);simp;try omega),by simp[h]⟩
 simp only[aA h];rw[Nn t];have X:f-P.nv<ζ (oz 0 P.nd):=by unfold Pm.facts at Y;rw[aB rfl]at Y;omega
 obtain⟨i,S⟩:=La X;obtain⟨_,n,K,a⟩:=Ug _ _ _ (aT S);rw[ri]at K;obtain⟨c,T⟩:=La (l:=D) (i:=i) (by rw[t.len];exact(bm.1 K).1);have b:=t.each i c T;rw[t.at K]at b;rcases CH b with⟨C,b,N⟩|⟨C,b⟩
 ·simp only[S,T];rw[t.at K];exact⟨b,N,λm=>by rw[cj];simp;omega,by rw[cV h,cV I]⟩
 rw[a]at C;cases C
def L6(h:tV {m with bu:=emp} n){v:Int}(R:0<=v):(m.target !=v)=!(gU n&&n.var==v):=by
 rcases CH h with⟨C,a,N⟩|⟨C,a⟩
 ·rw[C,a];simp[bne]
 rw[C,a];simp;omega
def Oi(N:Nat)(p:Int)(f n:Nat)(ta:x')(S:Nat)(g:List Bool)(D:List RC)(v:List (List Nat))(P:Pm)(w:u')(h:DP w N D v P.nv)(t:DR D v P)(hX:DX D P)(F:dC P)(U:1<=p/\p<=4)(Y:f<P.facts p)(E:f<=1000)(K:n<ζ D)(x:Ee w ta g)(L:ζ g=ζ D):
  Cl 75 #[o' (B' (O N 0)),G p,G f,G n,i' ta (ζ D) S] w (Rb w (j' (P.rule p f n λm=>g.getD m P'))):=by
 have a:ζ D<=60:=by rw[t.len];exact F.most
 have M7:=F.nv;obtain⟨Q,z⟩:=La K;have i:=t.each n Q z;have R:∀l∈v,ζ l<=2:=λl X=>(F.nx l (by rw[<-t.nx];exact X)).1;have s:∀m∈(dQ n 0 v).map Prod.fst,m<ζ D:=λm d=>by obtain⟨q,hq,rfl⟩:=cZ.1 d;have:=tD n v 0 q hq;rw[h.len]at this;omega
 have T:ζ ((dQ n 0 v).map Prod.fst)<=1000:=by have:=uQ n v 0 R;rw[h.len]at this;rw[b!];omega
 have q:=h.len;obtain⟨ln,k⟩:=La (l:=v) (i:=n) I;have V:=F.nx ln (by rw[<-t.nx];exact aT k);have r:P.si n=ln:=by rw[Pm.si,<-t.nx,getD,k];rfl
 have y:p=1\/p=2\/p=3\/p=4:=I;rcases y with rfl|rfl|rfl|rfl
 ·obtain⟨q,l,p,F⟩:=Xy t Y;have e:P.rule 1 f n (λm=>g.getD m P')=(P.st 1 n f||((dQ n 0 v).map Prod.fst).any (hit (λm=>P.ad 1 m f) (λm=>P.ps 1 n m f) g)):=by rw[Pm.rule,Pm.P!,Pm.ins,aA aj,t.nx];rfl
  rw[e];refine pY N 1 f n ta S g _ _ _ _ D v P.nv w h x L a T s (λW j=>?_) (λW j=>vk N 1 n D v P.nv W j a R aj aj I) (λW m j d=>?_) (λW m j d=>?_)
  ·have:=adP f n N D v P.nv W j a M7 E;rw[F]at this;have u:P.st 1 n f=(decide (n=0)&&decide (f<P.nv)):=by rw[Pm.st,aB rfl];congr 1
   rw[u];exact this
  ·have:=aa4 f n m N D v P.nv W j a M7 E;rwa[p m]at this
  obtain⟨cm,o⟩:=La (s m d);have:=aa8 f n m N D v P.nv W j a M7 E cm o;rwa[q,L6 (t.each m cm o) l]at this
 ·have e:P.rule 2 f n (λm=>g.getD m P')=(P.st 2 n f||ln.any (hit (λ_=>P.st 2 n f) (λm=>P.ps 2 n m f) g)):=by rw[Pm.rule,Pm.P!,aB (aI rfl),r];cases P.st 2 n f<;>rfl
  have C:∀(W:u') (b:Int),DP W N D v P.nv->_:=λW b j=>adO f n b N D v P.nv W j a M7 Q z;have u:=VH i f;rw[u]at C;rw[e];refine pY N 2 f n ta S g _ _ _ _ D v P.nv w h x L a (J' V.1) (λm d=>by rw[t.len];exact V.2 m d) (λW j=>C W _ j) (λW j=>vm N 2 n D v P.nv W j ln k a (aI rfl)) (λW m j d=>C W _ j) (λW m j d=>?_);have:=aa7 f n (m:Int) N D v P.nv W j a M7 Q z;rwa[L6 i I]at this
 ·obtain⟨y,B⟩:=La (l:=(ou D (ζ D))) (i:=f) (by rw[(zb t hX).len];exact Y);have e:P.rule 3 f n (λm=>g.getD m P')=(P.st 3 n f||((dQ n 0 v).map Prod.fst).any (hit (λm=>P.ad 3 m f) (λm=>P.ps 3 n m f) g)):=by rw[Pm.rule,Pm.P!,Pm.ins,aA aj,t.nx];rfl
  rw[e];refine pY N 3 f n ta S g _ _ _ _ D v P.nv w h x L a T s (λW j=>?_) (λW j=>vk N 3 n D v P.nv W j a R aj aj I) (λW m j d=>?_) (λW m j d=>?_)
  ·exact adN f n N D v P.nv W j a M7
  ·obtain⟨cm,o⟩:=La (s m d);have:=aa3 f n m N D v P.nv W j a M7 cm y o B;rwa[M0 t hX o B]at this
  obtain⟨cm,o⟩:=La (s m d);have:=aa6 f n m N D v P.nv W j a M7 cm y o B;rwa[DL t hX o B]at this
 obtain⟨y,B⟩:=La (l:=(ou D (ζ D))) (i:=f) (by rw[(zb t hX).len];exact Y);have e:P.rule 4 f n (λm=>g.getD m P')=(P.st 4 n f||ln.any (hit (λ_=>P.st 4 n f) (λm=>P.ps 4 n m f) g)):=by rw[Pm.rule,Pm.P!,aB (aK rfl),r];cases P.st 4 n f<;>rfl
 have C:∀(W:u') (b:Int),DP W N D v P.nv->_:=λW b j=>adM f n b N D v P.nv W j a M7 Q y z B;have u:(Ox Q.n||(ZY Q.n y&&!Vo Q.n y))=P.st 4 n f:=by rw[Si i,M0 t hX z B,DL t hX z B];rfl
 rw[u]at C;rw[e];refine pY N 4 f n ta S g _ _ _ _ D v P.nv w h x L a (J' V.1) (λm d=>by rw[t.len];exact V.2 m d) (λW j=>C W _ j) (λW j=>vm N 4 n D v P.nv W j ln k a (aK rfl)) (λW m j d=>C W _ j) (λW m j d=>?_);have:=aa5 f n (m:Int) N D v P.nv W j a M7 Q y z B;rwa[DL t hX z B]at this
end
def Ej(f:Nat)(r:Int)(x:Nd):Bool:=x.k9 f&&(decide (r<0)||decide (x.nz f<r))
def Ty:(Tryz.prog.info? 4).map (λi=>(i.zero,i.size,i.bytes))=B' (B' (j' P'),1,1):=au
def XQ{w:u'}{B:Nat}{a:x'}{c n:Nat}{D:List Bool}(h:ρ w B 4 1 (i' a n c) (ζ D) (D.map j')):Ee w a D:=by
 intro j x f;have r:=(bm.1 f).1;rcases h.2 with⟨_,e⟩|⟨g,a,Y,R,_⟩
 ·omega
 simp at R;obtain⟨rfl,rfl,rfl⟩:=R;have:=h.cells (g:=g) rfl j (j' x) (by simp[f]);rw[eX]at this;exact⟨g,0,rfl,this⟩
def GV{D:List Int}{f:Nat}(h:(f:Int)∈D):DA D f=(D.idxOf (f:Int):Nat)/\D.idxOf (f:Int)<ζ D:=⟨by rw[DA,aB h],sj h⟩
def Ah{α β:Type}{l:List α}{k:Nat}{x:α}(F:α->β)(h:l[k]?=B' x):(l.take (k+1)).map F=(l.take k).map F++[F x]:=by exact acu
def Rl{p:Prop}(h:p:=by
 go_roundw
 case rel=>
  refine⟨i+1,y,p,L,f',rfl,?_,?_⟩
  ·rw[Ah _ h.a,eW,X.o];exact W.a
  exact((H g.A b.o).alloc (H g.A b.o).size _).grown W.A (by have:=(H g.A b.o).size;simp;omega) (λq e=>((aZ g.a b.o).lt q e).1)
 exact G'):p:=h
def JD(p g:Int)(T:x')(a:Nat)(v:List Nd)(f:Nat)(r:Int)(w:u')(h:b9 w T v)(B:∀x∈v,dY x)(W:0<=r->∀x∈v,ζ x.aW=ζ x.facts)(K:ζ v<=60):
  Cl 104 #[l' #[G p,G g,i' T (ζ v) a],G f,G r] w λe b=>∃a c,e=p' (i' a (ζ v) c)/\Ee b a (v.map (Ej f r))/\Bl w b:=by
 obtain⟨N,S,D,P,a⟩:=cQ Ty;have w:J (_/\_/\_/\_):=⟨S,D,P,a⟩;have s:=hid (A h (A B W));clear S D P a h B W;go_enter func104,ntmps104;go_upto_region 1 with fail
 refine gS (F:=Code.wp _ _ _ _) λV B=>?_;go_wp2;go_loopw[7,8] (λa y wr=>∃(i:Nat) (j:x') (D:Nat),i<=ζ v/\y=G i/\a=i' j i D/\J (ρ wr V.1.size 4 1 (i' j i D) i (((v.take i).map (Ej f r)).map j')/\Bl V wr)) (λ_ y _=>ζ v-(intOf y).toNat)
 case atStart=>exact⟨0,C',0,bj,rfl,rfl,cb,aQ⟩
 obtain⟨i,j,D,S,rfl,rfl,g⟩:=hrel;have E:=M (aL g.A B.a);by_cases L:i<ζ v;rotate_left
 ·have a:¬(i:Int)<(ζ v:Int):=I;obtain rfl:i=ζ v:=I;go_wp2;refine aC (v:=i' j (ζ v) D) (by simp[results104,go_sem]) rfl ⟨j,⟨D,rfl⟩,?_,H B.b g.A⟩;have C:=g.a;rw[gg]at C;have b:ζ (v.map (Ej f r))=ζ v:=ak;exact XQ (by rw[b];exact C)
 have a:(i:Int)<(ζ v:Int):=I;obtain⟨x,F⟩:=La L;obtain⟨b,o,a,l,z,z,rc,b,rfl,T,Q,p,d,P,b⟩:=(s.a.below (H B.b g.A)) i x F;have c:=s.b x (aT F);have h:=hid (A F (A c b));have Y:=hid Q;clear F c b p d P;by_cases d:(f:Int)∈x.facts;rotate_left
 ·have c:DA x.facts (f:Int)=-1:=by rw[DA,aA d]
  have X:J (Ej f r x=P'):=by show _=_;simp[Ej,Nd.k9,d]
  go_upto_region 6 with(go_at_call 105;refine(sR a z x.facts (f:Int) _ h.B.facts h.b.Qg).mono ?_;rintro e t ⟨rfl,l⟩;clear E T Q;have b:=hid l;clear l;rw[c])
  go_wp2_with (at_builtin;refine gu rfl _ _ 139 rfl V.1.size 4 N (j' P') 1 1 underlying139 w.a w.b w.c w.C rfl aj (i' j i D) i (((v.take i).map (Ej f r)).map j') rfl ((aZ g.a b.o).alloc _) (O t.1.size 0) 1 1 [j' P'] rfl rfl pN (by intro u C;simp only[dr,ke,jf]at C;subst C;rfl) (by simp only[maxLen];omega) I (by have:=b.o.size;have:=g.A.size;simp;omega) ?_;intro U S k F _;obtain⟨y,p,rfl⟩:=aV k;have W:=hid (A k F);clear k F);exact Rl
 obtain⟨c,e2⟩:=GV d;by_cases o:r<0
 ·have X:J (Ej f r x=O'):=by show _=_;simp[Ej,Nd.k9,d,o]
  go_upto_region 6 with(go_at_call 105;refine(sR a z x.facts (f:Int) _ h.B.facts h.b.Qg).mono ?_;rintro e t ⟨rfl,l⟩;clear E T Q;have b:=hid l;clear l;rw[c])
  go_wp2_with (at_builtin;refine gu rfl _ _ 139 rfl V.1.size 4 N (j' P') 1 1 underlying139 w.a w.b w.c w.C rfl aj (i' j i D) i (((v.take i).map (Ej f r)).map j') rfl ((aZ g.a b.o).alloc _) (O t.1.size 0) 1 1 [j' O'] rfl rfl pN (by intro u C;simp only[dr,ke,jf]at C;subst C;rfl) (by simp only[maxLen];omega) I (by have:=b.o.size;have:=g.A.size;simp;omega) ?_;intro U S k F _;obtain⟨y,p,rfl⟩:=aV k;have W:=hid (A k F);clear k F);exact Rl
 have P:=s.B I x (aT h.a);have R:x.aW[x.facts.idxOf (f:Int)]?=B' (x.nz f):=by rw[Nd.nz,getD,bR I];rfl
 obtain⟨o,o,rfl,o⟩:=h.B.aW _ _ R;have s:=hid o;have K:((x.facts.idxOf (f:Int):Nat):Int)<(ζ x.aW:Int):=I;clear o R P;have X:J (Ej f r x=(decide (r<0)||decide (x.nz f<r))):=by show _=_;simp[Ej,Nd.k9,d]
 generalize x.facts.idxOf (f:Int)=d at c K s;generalize x.nz f=d at s X;go_upto_region 6 with(go_at_call 105;refine(sR a z x.facts (f:Int) _ h.B.facts h.b.Qg).mono ?_;rintro e t ⟨rfl,l⟩;clear E T Q;have b:=hid l;clear l;rw[c])
 have E:=M (aL (H g.A b.o) B.a);have a:=ax Y.o b.o;have o:=ax s.o b.o;clear c e2;go_wp2_with (at_builtin;refine gu rfl _ _ 139 rfl V.1.size 4 N (j' P') 1 1 underlying139 w.a w.b w.c w.C rfl aj (i' j i D) i (((v.take i).map (Ej f r)).map j') rfl ((aZ g.a b.o).alloc _) (O t.1.size 0) 1 1 [j' (decide (r<0)||decide (d<r))] rfl rfl pN (by intro u C;simp only[dr,ke,jf]at C;subst C;rfl) (by simp only[maxLen];omega) I (by have:=b.o.size;have:=g.A.size;simp;omega) ?_;intro U S k F _;obtain⟨y,p,rfl⟩:=aV k;have W:=hid (A k F);clear k F);exact Rl
section
variable {α:Type} {k:Nat}
def y9(ft:Int->Bool)(nv:Nat)(x:Nd):Bool:=x.facts.all ft&&(!x.aD||decide (ζ x.vals=nv))
def agt{F:u'->Prop}{w:u'}{n:Nat}(h:∀V,J (Bl w V)->F V):F (w.drewN n):=h _ (below_drewN aQ n)
def H?{l:List α}{x:α}(F:α->Bool)(h:l[k]?=B' x):(l.take (k+1)).all F=((l.take k).all F&&F x):=by exact acu
def U0{l:List α}{x:α}{F:α->Bool}(h:l[k]?=B' x)(Y:F x=P'):l.all F=P':=by rw[kJ];intro a;rw[cF]at a;have:=a x (aT h);rw[Y]at this;cases this
def Zg{p:Prop}(h:p:=by
 go_wp2;go_quiet (fail);go_wp2;go_roundw
 case rel=>exact⟨i+1,L,f',by rw[H? _ HX.a,U.a,f.o];rfl,below_drewN (H U.A (H X.b p.o)) _⟩
 exact G'):p:=h
def Ov(N:Nat)(D:List RC)(v:List (List Nat))(P:Pm)(T:x')(g:Nat)(c:Ct)(w:u')(h:DP w N D v P.nv)(t:DR D v P)(d:DX D P)(l:dC P)(p:b9 w T c.nodes)(B:∀x∈c.nodes,dY x)(K:ζ c.nodes<=60):
  Cl 61 #[o' (B' (O N 0)),l' (kM c.aE c.grade T (ζ c.nodes) g)] w (Rb w (j' (v8 P c))):=by
 have g:ζ D<=60:=by rw[t.len];exact l.most
 have y:J (∀W,Bl w W->Cl 74 #[o' (B' (O N 0)),G c.aE] W (Rb W (G (P.facts c.aE:Nat)))):=λW j=>by have:=xR N c.aE D v P.nv W (h.below j) g l.nv;rwa[Nh t d]at this
 obtain⟨g,g,g,q,u,g,b,_,_⟩:=h.box;have s:=hid (A b (A p B));obtain⟨fb,a⟩:=Ea (v8 P c);rw[<-a];have j:J (fb=(decide (ζ c.nodes=ζ D)&&c.nodes.all (y9 (λf=>decide (f<(if c.aE<=4 then(P.facts c.aE:Int) else 0))) P.nv))):=by rw[a,t.len];rfl
 clear b p B h t d a;go_enter func61,ntmps61;go_upto_region 1 with fail
 refine gS (F:=Code.wp _ _ _ _) λg g=>?_;obtain⟨E,R⟩:=M g.a;obtain⟨y1,d⟩:=M (aL g.b s.a);by_cases X:ζ c.nodes=ζ D;rotate_left
 ·have v:((ζ c.nodes:Int)==(ζ D:Int))=P':=by simp;omega
  have C:J (fb=P'):=by show _=_;rw[j.o,cV X];rfl
  clear X;go_quiet (fail);go_wp2;go_ret;exact⟨by rw[C.o];rfl,below_drewN g.b _⟩
 have v:((ζ c.nodes:Int) !=(ζ D:Int))=P':=by simp[X]
 have o:J (fb=c.nodes.all (y9 (λf=>decide (f<(if c.aE<=4 then(P.facts c.aE:Int) else 0))) P.nv)):=by have:=j.o;rwa[ei X,dW]at this
 clear X;go_quiet (fail);refine agt (F:=λV=>Exit.then _ _ _ _ V) λq j=>?_;clear E R y1 d;have S:=hid (A (aL j.o g.a) (H g.b j.o));obtain⟨E,R⟩:=M S.a;by_cases U:c.aE<=4
 all_goals
  first
  | (
    rw[aB U]at o;go_upto_region 6 with(go_at_call 74;refine(y.o _ S.A).mono ?_;rintro e t ⟨rfl,l⟩;have r:=hid (A (aL l S.a) (H S.A l));clear l E R)
    generalize(P.facts c.aE:Int)=F at o⊢)
  | (
    rw[aA U]at o;go_upto_region 6 with fail
    clear E R;have r:=hid (A S.a S.A)
    generalize q=t at r⊢)
 all_goals
  clear U;obtain⟨B,HFT,HFD⟩:∃B:Int->Bool,J (∀f,B f=decide (f<_))/\J (fb=c.nodes.all (y9 B P.nv)):=⟨_,λf=>rfl,o.o⟩;obtain⟨h,b⟩:=Ea (ζ c.nodes);rw[<-b]at r K;have HM:=hid b;clear b;go_wp2;go_loopw[6] (λy wr=>∃i:Nat,i<=h/\y=G i/\J ((c.nodes.take i).all (y9 B P.nv)=O'/\Bl t wr)) (λy _=>h-(intOf y).toNat)
  case atStart=>exact⟨0,bj,rfl,rfl,aQ⟩
  rename u'=>e
  obtain⟨i,S,rfl,U⟩:=hrel;obtain⟨E,R⟩:=M (aL U.A r.a);have gb:=hid (H r.A U.A);by_cases L:i<h;rotate_left
  ·have b:¬(i:Int)<h:=I;obtain rfl:i=h:=I;have e:J (fb=O'):=by show _=_;rw[HFD.o];have:=U.a;rwa[HM.o,gg]at this
   go_wp2;go_ret;exact⟨by rw[e.o];rfl,gb.o⟩
  have b:(i:Int)<h:=I;obtain⟨x,k⟩:=La (l:=c.nodes) (i:=i) (by rw[<-HM.o];exact L);obtain⟨b,o,b,l,z,q,rc,b,X,c0,Q,p,c3,c4,Y⟩:=s.b.below gb.o i x k;subst X;have c:=s.B x (aT k);have b:ζ x.facts<9223372036854775807:=by have:=c.Qg;omega
  have HX:=hid (A k Y.facts);have Ql:J (y9 B P.nv x=P'->fb=P'):=λq=>by rw[HFD.o];exact U0 k q
  clear k Y c;go_upto_region 10 with fail
  clear c0 Q p c3 c4 E R;refine gS (F:=Code.wp _ _ _ _) λT X=>?_;go_wp2;go_loopw[8] (λj wr=>∃k:Nat,k<=ζ x.facts/\j=G k/\J ((x.facts.take k).all B=O'/\Fr (λ_=>True) T wr)) (λj _=>ζ x.facts-(intOf j).toNat)
  case atStart=>exact⟨0,bj,rfl,rfl,Fr.refl _ _⟩
  obtain⟨k,b,rfl,HJ⟩:=hrel;have p:=hid (HJ.A.below aF (λ_ _=>trivial));obtain⟨E,R⟩:=M (aL p.o X.a);by_cases Q:k<ζ x.facts
  ·have agi:(k:Int)<(ζ x.facts:Int):=I;obtain⟨f,Y⟩:=La Q;obtain⟨o,b,hfa,j⟩:=HX.A.below (H X.b p.o) k f Y;subst hfa;have b:=HFT.o f;have c:=hid Y;clear Y;cases a:B f
   · have e:=Int.not_lt.1 (j9 (b.symm.trans a))
     have C:=hid (Ql.o (by rw[y9,U0 c.o a];rfl));clear b a;go_wp2;go_ret;exact⟨by rw[C.o];rfl,H gb.o (H X.b p.o)⟩
   have u:=rq (b.symm.trans a);have f:=hid a;clear b a;have e:=Int.not_le.2 u;clear u;go_wp2;go_roundw
   case rel=>exact⟨k+1,Q,f',by rw[H? _ c.o,HJ.a,f.o];rfl,HJ.A⟩
   exact G'
  have agi:¬(k:Int)<(ζ x.facts:Int):=I;obtain rfl:k=ζ x.facts:=I;have a:J (x.facts.all B=O'):=by have:=HJ.a;rwa[gg]at this
  obtain⟨y1,d⟩:=M (aL (H gb.o (H X.b p.o)) s.a);cases Y:x.aD
  ·rw[Y]at E;have f:J (y9 B P.nv x=O'):=by show _=_;rw[y9,a.o,Y];rfl
   clear Y;exact Zg
  rw[Y]at E;by_cases R:ζ x.vals=P.nv
  ·have f:J (y9 B P.nv x=O'):=by show _=_;rw[y9,a.o,ei R,Bool.or_true];rfl
   have d:((ζ x.vals:Int)==(P.nv:Int))=O':=by simp[R]
   clear Y R;exact Zg
  have C:=hid (Ql.o (by rw[y9,cV R,Y,a.o];rfl));have d:((ζ x.vals:Int)==(P.nv:Int))=P':=by simp;omega
  clear Y R;go_wp2;go_quiet (fail);go_wp2;go_ret;exact⟨by rw[C.o];rfl,below_drewN (H gb.o (H X.b p.o)) _⟩
end
def adH(c:Ct)(f:Nat)(r:Int):(λm=>(c.nodes.map (Ej f r)).getD m P')=sg c f r:=by
 funext m;rw[sg,Ct.at,getD,getD,cg];cases c.nodes[m]? with
 |none=>rfl
 |some x=>rfl
def sN(P:Pm)(c:Ct)(f n:Nat):Bool:=!P.rule c.aE f n (sg c f (-1))||sg c f (-1) n
def lN(P:Pm)(c:Ct)(f n:Nat):Bool:=!sg c f (-1) n||P.rule c.aE f n (sg c f ((c.at n).nz f))
def e8(b:Bool):Int:=if b then 0 else 8
def RI(P:Pm)(c:Ct):Int:=if Jt P c=P' then 7 else if c.grade=2\/Dp P c=O' then 0 else 8
structure af1(c:Ct)(cn:Nat):Prop where
  p:1<=c.aE/\c.aE<=4
  len:ζ c.nodes=cn
  ae4:∀x∈c.nodes,dY x
  rk:c.grade=1->∀x∈c.nodes,ζ x.aW=ζ x.facts/\∀r∈x.aW,0<=r
  gr:c.grade=1\/c.grade=2
def PB(N:Nat)(D:List RC)(V:List (List Nat))(P:Pm)(T:x')(nc:Nat)(c:Ct)(w:u')(h:DP w N D V P.nv)(t:DR D V P)(F:DX D P)(E:dC P)(L:b9 w T c.nodes)(b:af1 c (ζ D))(hF:P.facts c.aE<=1000):
  Cl 62 #[o' (B' (O N 0)),l' #[G c.aE,G c.grade,i' T (ζ D) nc]] w (Rb w (G (RI P c))):=by
 have g:ζ D<=60:=by rw[t.len];exact E.most
 have x:=E.nv;have B:J (∀W,Bl w W->Cl 74 #[o' (B' (O N 0)),G c.aE] W (Rb W (G (P.facts c.aE:Nat)))):=λW j=>by have:=xR N c.aE D V P.nv W (h.below j) g x;rwa[Nh t F]at this
 have HTH:J (∀(W:u') (f:Nat) (r:Int),Bl w W->(r<0\/c.grade=1)->Cl 104 #[l' #[G c.aE,G c.grade,i' T (ζ D) nc],G f,G r] W λe C=>∃a m,e=p' (aO a (ζ D) m)/\Ee C a (c.nodes.map (Ej f r))/\Bl W C):=λW f r j hr=>by have:=JD c.aE c.grade T nc c.nodes f r W (L.below j) b.ae4 (λq x hx=>by rcases hr with hr|hr;(· omega);exact(b.rk hr x hx).1) (by rw[b.len];exact g);rwa[b.len]at this
 have HRU:J (∀(W:u') (f n:Nat) (r:Int) (a:x') (m:Nat),Bl w W->f<P.facts c.aE->n<ζ D->Ee W a (c.nodes.map (Ej f r))->Cl 75 #[o' (B' (O N 0)),G c.aE,G f,G n,i' a (ζ D) m] W (Rb W (j' (P.rule c.aE f n (sg c f r))))):=λW f n r a m j Y hn g=>by have:=Oi N c.aE f n a m (c.nodes.map (Ej f r)) D V P W (h.below j) t F E b.p Y I hn g (by rw[b!,b.len]);rwa[adH]at this
 obtain⟨g,g,g,g,g,g,hb,_,_⟩:=h.box;have s:=hid (A hb (A L b));obtain⟨vl,l⟩:=Ea (RI P c);have u:J ((∀f n,f<P.facts c.aE->n<ζ D->sN P c f n=P'->vl=7)/\((range (P.facts c.aE)).all (λf=>(range (ζ D)).all (sN P c f))=O'->vl=e8 ((c.grade==2)||(range (P.facts c.aE)).all (λf=>(range (ζ D)).all (lN P c f))))):=by
  have x:Jt P c=(range (P.facts c.aE)).all (λf=>(range (ζ D)).all (sN P c f)):=by unfold Jt;rw[t.len];rfl
  have g:Dp P c=(range (P.facts c.aE)).all (λf=>(range (ζ D)).all (lN P c f)):=by unfold Dp;rw[t.len];rfl
  refine⟨λf n Y hn q=>?_,λq=>?_⟩
  ·rw[l,RI,x,kR (kR q hn) Y,aB rfl]
  rw[l,RI,x,q,aA aj,<-g];unfold e8;by_cases hg:c.grade=2
  ·rw[aB (aI hg),hg];rfl
  rw[show(c.grade==2)=P' by simpa using hg,iE];cases Dp P c
  ·rw[aA (by simp[hg])];rfl
  rw[aB (aK rfl)];rfl
 rw[<-l];have o:=b.gr;clear l hb L b h t F E;obtain⟨pr,l⟩:=Ea c.aE;obtain⟨gr,b⟩:=Ea c.grade;rw[<-l]at B hF u;rw[<-l,<-b]at HTH;rw[<-l]at HRU;rw[<-b]at u o;rw[<-l,<-b];have HPR:=hid (A l b);clear l b;obtain⟨F,b⟩:=Ea (P.facts pr);rw[<-b]at B HRU u hF;clear b;go_enter func62,ntmps62;go_upto_region 1 with fail
 refine gS (F:=Code.wp _ _ _ _) λg b=>?_;have E:=M b.a;go_upto_region 2 with(go_at_call 74;refine(B.o _ b.b).mono ?_;rintro e t ⟨rfl,l⟩;have Yf:=hid (A (aL l b.a) (H b.b l));clear l E)
 clear b B;go_wp2;go_loopw[6,7] (λev g wr=>∃f:Nat,f<=F/\g=G f/\ev=G (e8 ((gr==2)||(range f).all (λf=>(range (ζ D)).all (lN P c f))))/\J ((range f).all (λf=>(range (ζ D)).all (sN P c f))=O'/\Bl t wr)) (λ_ g _=>F-(intOf g).toNat)
 case atStart=>exact⟨0,bj,rfl,by simp[e8],rfl,aQ⟩
 obtain⟨f,Y,rfl,rfl,HK⟩:=hrel;have l:=hid (H Yf.A HK.A);have E:=M (aL HK.A Yf.a);by_cases rW:f<F;rotate_left
 ·have iz:¬(f:Int)<F:=I;obtain rfl:f=F:=I;go_wp2;go_ret;exact⟨by rw[u.A HK.a];rfl,l.o⟩
 have iz:(f:Int)<F:=I;obtain⟨l0,b⟩:=Ea ((range f).all (λf=>(range (ζ D)).all (lN P c f)));rw[<-b];have HL0:=hid b;clear b;go_upto_region 7 with(go_at_call 104;refine(HTH.o _ f (-1) l.o (aI aj)).mono ?_;rintro e F ⟨g,am,rfl,L,hb⟩;have H2:=hid (A L (A (aL hb (aL HK.A Yf.a)) (A (H l.o hb) (H HK.A hb))));clear L hb E)
 clear l;go_wp2;go_loopw[6,9] (λev g wr=>∃n:Nat,n<=ζ D/\g=G n/\ev=G (e8 ((gr==2)||(l0&&(range n).all (lN P c f))))/\J ((range n).all (sN P c f)=true/\Bl F wr)) (λ_ g _=>ζ D-(intOf g).toNat)
 case atStart=>exact⟨0,bj,rfl,ak,rfl,aQ⟩
 obtain⟨n,hn,rfl,rfl,HN⟩:=hrel;have l:=hid (A (H H2.c HN.A) (A (aL HN.A H2.b) (H2.a.below HN.A)));have E:=M (aL l.a s.a);by_cases Qd:n<ζ D;rotate_left
 ·have agh:¬(n:Int)<(ζ D:Int):=I;obtain rfl:n=ζ D:=I;go_wp2;go_roundw
  case rel=>exact⟨f+1,rW,f',by rw[c8,<-HL0.o],by rw[c8,HK.a,HN.a];rfl,H H2.C HN.A⟩
  exact G'
 have agh:(n:Int)<(ζ D:Int):=I;obtain⟨g,b⟩:=Ea ((l0&&(range n).all (lN P c f)));rw[<-b];have HL1:=hid b;clear b;have hx:c.nodes[n]?=B' (c.at n):=by unfold Ct.at;rw[getD,bR (by rw[s.B.len];exact Qd)];rfl
 have HX:=hid hx;obtain⟨b0,o0,ha,b⟩:=l.B n (Ej f (-1) (c.at n)) (by rw[cg,hx];rfl);subst ha;obtain⟨th,U⟩:=Ea (Ej f (-1) (c.at n));rw[<-U]at b;have X:J (sg c f (-1) n=th):=by show _=_;rw[U];rfl
 obtain⟨pt,B⟩:=Ea (P.rule pr f n (sg c f (-1)));have g:J (∀W,Bl wr W->Cl 75 #[o' (B' (O N 0)),G pr,G f,G n,i' (B' (O b0 o0)) (ζ D) am] W (Rb W (j' pt))):=λW j=>by rw[B];exact HRU.o W f n (-1) _ _ (H l.a j) rW Qd (l.B.below j)
 have HS:J (sN P c f n=(!pt||th)):=by show _=_;rw[B,<-X.o,HPR.a];rfl
 have j:=hid b;clear hx U B b;have y1:=M l.b;go_upto_region 11 with(go_at_call 75;refine(g.o _ aQ).mono ?_;rintro e W3 ⟨rfl,hb⟩;have U:=hid (A (aL hb l.b) (A (H l.a hb) (A (H HN.A hb) (ax j.o hb))));clear hb E y1)
 clear g;have ct:=U.C;have y1:=M U.a;have b:th=P'\/gr=2->(pt=O'->th=O')->True:=λ_ _=>trivial;clear b;cases th
 ·cases pt
  ·have HLN:J (lN P c f n=O'):=by show _=_;unfold lN;rw[X.o];rfl
   rcases o with rfl|rfl
   all_goals
    go_wp2;go_roundw
    case rel=>exact⟨n+1,Qd,f',by rw[HL1.o,c8,HLN.o,rh],by rw[c8,HN.a,HS.o];rfl,U.c⟩
    exact G'
  go_wp2;go_ret;exact⟨by rw[u.a f n rW Qd (by rw[HS.o];rfl)];rfl,U.b⟩
 have HSN:J (sN P c f n=O'):=by show _=_;rw[HS.o];cases pt<;>rfl
 rcases o with rfl|rfl;rotate_left
 ·cases pt
  all_goals
   go_wp2;go_roundw
   case rel=>exact⟨n+1,Qd,f',by simp[e8],by rw[c8,HN.a,HSN.o];rfl,U.c⟩
   exact G'
 -- the grade LEAST: is it put there by lower ranks?
 obtain⟨b,o,fa,l,g,fc,rc,x,B,c0,c1,c2,c3,c4,c5⟩:=s.b.below U.b n _ HX.o;subst B;have hxm:=aT HX.o;have B:=s.B.ae4 _ hxm;obtain⟨TD,hrp⟩:=s.B.rk HPR.A.symm _ hxm;have GI:(f:Int)∈(c.at n).facts:=by have:=X.o;unfold sg Nd.k9 at this;simp only[bh,bq]at this;exact this.1
 obtain⟨e1,e2⟩:=GV GI;obtain⟨k,hk⟩:=Ea ((c.at n).facts.idxOf (f:Int));rw[<-hk]at e1 e2;obtain⟨rv,E⟩:=La (l:=(c.at n).aW) (i:=k) I;obtain⟨br,orr,hra,cr⟩:=c5.aW k rv E;subst hra;have g:=hrp rv (aT E);have hrk:(c.at n).nz f=rv:=by unfold Nd.nz;rw[getD,<-hk,E];rfl
 obtain⟨ju,hju⟩:=Ea (P.rule pr f n (sg c f rv));have HLN:J (lN P c f n=ju):=by show _=_;unfold lN;rw[X.o,hrk,<-HPR.a,hju];rfl
 have HHA:J (Cl 105 #[i' fa (ζ (c.at n).facts) fc,G f] W3 (Rb W3 (G k))):=by have:=sR fa fc (c.at n).facts (f:Int) W3 c5.facts B.Qg;rwa[e1]at this
 have g:(k:Int)<(ζ (c.at n).aW:Int):=I;have HCC:=hid (A c1 cr);generalize(c.at n).facts.length=Y at c0 HHA;generalize(c.at n).aW.length=rl at c1 g HCC;clear B TD hrp GI e1 hk E hrk c2 c3 c4 c5 e2 hxm;cases pt
 all_goals
  go_upto_region 15 with(go_at_call 105;refine HHA.o.mono ?_;rintro e j ⟨rfl,hb⟩;have B:=hid (A (aL hb U.a) (A (H U.b hb) (A (H U.c hb) (A (ax HCC.a hb) (ax HCC.A hb)))));clear hb c0 c1 cr y1 ct)
  clear HHA HCC U;refine wp_region_held_drew (S:=λW'=>Bl j W') au aQ.drew (λaM=>?_);refine tq 0 (vh N) ?_;refine tq 1 (o' (dO w.1.size)) ?_;refine tr 2 (G pr) (λW' bN=>(M (aL bN B.a)).1) ?_;refine tq 3 (G f) ?_;refine tq 4 (G n) ?_;refine tr 5 (l' #[G pr,G 1,i' (B' (O b o)) (ζ D) nc]) (λW' bN=>(M (aL bN B.a)).1) ?_;refine tq 6 (G f) ?_;refine tq 7 (o' (B' (O w.1.size 2))) ?_;refine tr 8 (i' (B' (O b o)) (ζ D) nc) (λW' bN=>(M (aL bN B.a)).1) ?_;refine tq 9 (G n) ?_;refine tq 10 (o' (B' (O b (o+n*5)))) ?_;refine tq 11 (o' (B' (O b (o+n*5+1)))) ?_;refine tr 12 (i' (B' (O br orr)) rl rc) (λW' bN=>ax B.d bN) ?_;refine tq 13 (G k) ?_;refine tq 14 (o' (B' (O br (orr+k)))) ?_;refine tr 15 (G rv) (λW' bN=>ax B.D bN) ?_;refine r1 16 λK b=>?_;go_simp;refine(HTH.o _ f rv B.b.drew (aK (by trivial))).mono ?_;rintro e C ⟨t,g,rfl,L,hb⟩;have g:=hid (A L (H (sn j.1.size j).drew hb));clear L hb;refine b.out _ _ g.A (λaM=>?_);clear b K;refine pt ?_;refine r1 17 λK b=>?_;go_simp;refine(HRU.o _ f n rv _ _ (H B.b g.A) rW Qd g.a).mono ?_;rw[<-hju];rintro e U ⟨rfl,hb⟩;have E:=hid (H g.A hb);clear hb;refine b.out _ _ E.o (λaM=>?_);clear b K;refine pt ?_;refine tq 18 (j' ju) ?_;refine wpAnyH_done au ?_ _;clear aM;clear hju;cases ju
  ·go_wp2;go_roundw
   case rel=>exact⟨n+1,Qd,f',by rw[c8,HLN.o,ur,ur];rfl,by rw[c8,HN.a,HSN.o];rfl,H B.c E.o⟩
   exact G'
  go_wp2;go_roundw
  case rel=>exact⟨n+1,Qd,f',by rw[HL1.o,c8,HLN.o,rh];rfl,by rw[c8,HN.a,HSN.o];rfl,H B.c E.o⟩
  exact G'
section
variable {p:Int}
def zL(w:u')(a:x')(es:List EV):Prop:=∀(j:Nat) (e:EV),es[j]?=B' e->∃b o nb va vn vc,a=B' (O b o)/\χ w (O b (o+j*2))=B' (j' nb)/\χ w (O b (o+j*2+1))=B' (i' va vn vc)/\dK w nb va vn vc e
def zL.below{b:u'}{a:x'}{d:List EV}(h:zL w a d)(c:Bl w b):zL b a d:=by intro j e f;obtain⟨b,o,d,z,F,x,C,T,Q,a⟩:=h j e f;exact⟨b,o,d,z,F,x,C,ax T c,ax Q c,a.below c⟩
def XV(es:List EV)(m:Nat):EV:=es.getD m C'
def Jz(P:Pm)(p:Int)(es:List EV)(n i k:Nat):EV:=(xn P.nx i k n).foldl (λout q=>Iu p out (Ag p (P.at q.1) q.2 (XV es q.1))) (P.Ij n)
def aa0{P:Pm}(U:p=5\/p=6)(T:wR P){a:List EV}(h:∀e∈a,kf p P.nv e)(n i k:Nat):kf p P.nv (Jz P p a n i k):=
 DB U T (λm=>by
  rw[XV,getD];cases e:a[m]? with
  |none=>exact gl _ _
  |some x=>exact h x (aT e)) _ _ (CL p P n)
def Vy.of{Q:Nat}{e:EV}(h:kf p Q e):Vy Q e:=by
 cases e with
 |none=>trivial
 |some E=>exact(h E rfl).1
def dB.made{W:u'}{B n:Nat}{a:Nat}(h:ρ W B 138 3 (dU a n) n (replicate n [j' P',G 0,G 0]).flatten):dB W (B' (O a 0)) (replicate n ⟨P',0,0⟩):=by
 intro j v f;rw[oV]at f;split at f;rotate_left
 ·cases f
 rename_i L
 cases f;have X:∀(m j i:Nat) (z:List A'),ζ z=3->j<m->i<3->((replicate m z).flatten)[j*3+i]?=z[i]?:=by
  intro m;induction m with
  |zero=>intro j i z _ h;omega
  |succ m B=>
   intro j i z f h S;rw[gF,oU];cases j with
   |zero=>rw[e?,bW,jN I]
   |succ j=>rw[ek I,<-B j i z f I S];congr 1;omega
 have U:=h.cells (g:=a) rfl (j*3+0) _ ((X n j 0 _ rfl L I).trans rfl);have b:=h.cells (g:=a) rfl (j*3+1) _ ((X n j 1 _ rfl L I).trans rfl);have k:=h.cells (g:=a) rfl (j*3+2) _ ((X n j 2 _ rfl L I).trans rfl);rw[eX,bW]at U b k;exact⟨a,0,rfl,by rw[bW];exact U,by rw[bW];exact b,by rw[bW];exact k⟩
def Xk{F:u'->Prop}{q c s:Nat}{f:x'}{d:Bool}{t:TypeId}{a b:A'}(e:w.1[q]?=B' (k' #[j' d,i' f c s] t (0,0)))
  (h:∀V,J (V.1[q]?=B' (k' #[a,b] t (0,0))/\(∀k,k≠q->V.1[k]?=w.1[k]?)/\(∀{B:Nat} {u:u'},Below B u w->B<=q->Below B u V)/\(∀{c:Bool} {j:x'} {f r:Nat} {d:EV},dK w c j f r d->dK V c j f r d))->F V):F (κ (κ w (O q 0) a) (O q 1) b):=
 h _ ⟨by rw[aq (aq e _) _];rfl,λk a=>by rw[aJ a,aJ a],λa v=>(a.setCell v _).setCell v _,λl=>l.put e⟩
def Oh(N n:Nat)(p:Int)(U:p=5\/p=6)(D:List RC)(v:List (List Nat))(P:Pm)(a:x')(b:Nat)(es:List EV)(w:u')(h:DP w N D v P.nv)(t:DR D v P)(d:dC P)(T:wR P)(E:zL w a es)(j:ζ es=ζ D)(o:∀e∈es,kf p P.nv e):
  Cl 71 #[o' (B' (O N 0)),G p,G n,i' a (ζ D) b] w (lu w (P.say p n (XV es))):=by
 obtain⟨l,S,a,c,b⟩:=cQ Dx;have i:J (_/\_/\_/\_):=⟨S,a,c,b⟩;clear S a c b;have f:ζ D<=60:=by rw[t.len];exact d.most
 have Y:=d.nv;obtain⟨g,a,c,q,u,a,a,c,b⟩:=h.box;have s:=hid (A a (A b (A h (A t (A d (A T (A E (A j o))))))));have k:ζ v=ζ D:=h.len;have Q:=hid U;clear a b h t d T E j o c U;have k:J (Jz P p es n (ζ v) 0=P.say p n (XV es)):=by show(xn P.nx (ζ v) 0 n).foldl _ _=(P.ins n).foldl _ _;rw[s.d.nx,LK];rfl
 go_enter func71,ntmps71;go_upto_region 2 with fail
 refine vZ (F:=Code.wp _ _ _ _) λf c=>?_;by_cases K:n=0
 case' pos=>
  have a:((n:Int)==0)=O':=by simp;omega
  have g:=hid K;clear K;have x1:=M (aL c.b s.a);go_upto_region 4 with(at_make;refine j8 _ rfl (.tmp 20) (.tmp 20) 131 rfl f.1.size 138 l _ 3 underlying131 i.a i.b i.c .i64 .i64 P.nv P.nv P.nv rfl rfl rfl rfl (by rw[i.C];omega) (by unfold maxLen;omega) aF ?_;intro t b d;have h:=hid (A b d);clear b d x1;have y1:=M ((h.A.block (δ w.1+1) (J' c.B) ak).trans c.a.2))
  have C:=h.a;rw[ik _ 3 rfl P.nv]at C;have l:Bl f t:=aQ.grown h.A aF (λq e=>by cases e);refine Xk (F:=Code.wp _ _ _ _) (aL l c.a.2) λV B=>?_
  have L:dK V P' (B' (O f.1.size 0)) P.nv P.nv (P.Ij n):=by
   have o:P.Ij n=B' (replicate P.nv ⟨P',0,0⟩):=by unfold Pm.Ij;rw[aB g.o]
   rw[o];exact B.C (show dK t P' (B' (O f.1.size 0)) P.nv P.nv (B' (replicate P.nv ⟨P',0,0⟩))from⟨rfl,ak,dB.made C,λe=>by cases e⟩)
  have u:∃T z F x,V.1[δ w.1+1]?=B' (k' #[j' T,i' z F x] 133 (0,0))/\dK V T z F x (P.Ij n)/\Bl w V/\V.1[δ w.1]?=B' kN:=⟨_,_,_,_,B.a,L,B.c (H c.b l) I,(B.b _ I).trans (aL l c.a.1)⟩;have b:=hid u;clear u L l C y1 a
 case' neg=>
  have a:((n:Int)==0)=P':=by simp;omega
  go_upto_region 4 with fail
  have u:∃T z F x,f.1[δ w.1+1]?=B' (k' #[j' T,i' z F x] 133 (0,0))/\dK f T z F x (P.Ij n)/\Bl w f/\f.1[δ w.1]?=B' kN:=⟨O',C',0,0,c.a.2,by unfold Pm.Ij;rw[aA K];rfl,c.b,c.a.1⟩;have b:=hid u;clear u a K
 all_goals
  go_wp2;go_loopw[10] (λy wr=>∃i:Nat,i<=ζ D/\y=G i/\J (∃T z F x,wr.1[δ w.1+1]?=B' (k' #[j' T,i' z F x] 133 (0,0))/\dK wr T z F x (Jz P p es n i 0)/\Bl w wr/\wr.1[δ w.1]?=B' kN)) (λy _=>ζ D-(intOf y).toNat)
  ·
   refine⟨0,bj,rfl,?_⟩;unfold Jz;rw[EC];exact b
  obtain⟨i,S,rfl,h⟩:=hrel;obtain⟨T,z,F,x,r,L,a,X⟩:=h.o;have x1:=M (aL a s.a);by_cases g:i<ζ D;rotate_left
  ·have d:i=ζ v:=I;have c:¬((i:Int)<(ζ D:Int)):=I;rw[d,k.o]at L;have b:=hid (A r (A L (A a X)));have y1:=M r;have K:=M X;clear r L a X;go_wp2;have d:χ (κ wr (O w.1.size 0) (j' T)) (O w.1.size 0)=B' (j' T):=by rw[(M (aq b.C _)).1];rfl
   have y:χ (κ (κ wr (O w.1.size 0) (j' T)) (O w.1.size 1) (i' z F x)) (O w.1.size 1)=B' (i' z F x):=by rw[(M (aq (aq b.C _) _)).1];rfl
   refine aC (v:=cu T z F x) (by simp[results71,go_sem,d,y]) rfl (lu.mk (b.b.put b.C) ((b.c.setCell aF _).setCell aF _))
  have c:(i:Int)<(ζ D:Int):=I;obtain⟨l,j⟩:=La (l:=v) (i:=i) I;have b:=(s.e.nx l (by rw[<-s.d.nx];exact aT j)).1;have f:=hid j;clear j r L a X;go_wp2;go_loopw[11] (λj wr=>∃k:Nat,k<=ζ l/\j=G k/\J (∃T z F x,wr.1[δ w.1+1]?=B' (k' #[j' T,i' z F x] 133 (0,0))/\dK wr T z F x (Jz P p es n i k)/\Bl w wr/\wr.1[δ w.1]?=B' kN)) (λj _=>ζ l-(intOf j).toNat)
  ·exact⟨0,bj,rfl,h⟩
  clear x1;obtain⟨k,b,rfl,h⟩:=hrel;obtain⟨T,z,F,x,r,L,a,X⟩:=h.o;have y:=hid (A r (A L (A a X)));clear r L a X;have x1:=M (aL y.c s.a);obtain⟨a,B,a,u⟩:=s.b i l f.o;have S:=ax a y.c;have d:=hid u;clear a u;by_cases u:k<ζ l;rotate_left
  ·have q:k=ζ l:=I;have R:¬((k:Int)<(ζ l:Int)):=I;go_wp2;go_roundw
   ·
    subst q;refine⟨i+1,g,f',?_⟩;have e:Jz P p es n (i+1) 0=Jz P p es n i (ζ l):=by unfold Jz;rw[LJ (nx:=P.nx) (by rw[<-s.d.nx];exact f.o)]
    rw[e];exact h
   exact G'
  have R:(k:Int)<(ζ l:Int):=I;obtain⟨t,U⟩:=La u;obtain⟨b,o,rfl,c⟩:=cE.below d.o y.c k (t:Int) (by simp[U]);have a:Jz P p es n i (k+1)=(if t=n then Iu p (Jz P p es n i k) (Ag p (P.at i) k (XV es i)) else Jz P p es n i k):=by unfold Jz;rw[ED (nx:=P.nx) (by rw[<-s.d.nx];exact f.o) U,uo];split<;>rfl
  have X:=hid a;clear U a;cases E:((t:Int)==(n:Int))
  ·go_wp2;go_roundw
   ·
    refine⟨k+1,u,f',?_⟩;rw[X.o,aA (by simp at E;omega)];exact h
   exact G'
  have B:t=n:=by simp at E;omega
  obtain⟨e,a⟩:=La (l:=es) (i:=i) (by rw[s.h];exact g);obtain⟨l,b,d,f,h,b,rfl,t,L,o⟩:=s.g.below y.c i e a;have q:XV es i=e:=by unfold XV;rw[getD,a];rfl
  rw[q]at X;have E:J (∀W,Bl wr W->Cl 114 #[o' (B' (O N 0)),G p,G i,G k,l' #[j' d,i' f h b]] W (lu W (Ag p (P.at i) k e))):=λW j=>JL N i k p Q.o D v P.nv P d f h b e W (s.c.below (H y.c j)) s.d s.e s.f g (o.below j) (s.H e (aT a));have N:J (∀(W:u') (b:Bool) (h:x') (g l r:_) (d:x') (f R:Nat),dK W b h g l (Jz P p es n i k)->dK W r d f R (Ag p (P.at i) k e)->Cl 73 #[G p,l' #[j' b,i' h g l],l' #[j' r,i' d f R]] W (lu W (Iu p (Jz P p es n i k) (Ag p (P.at i) k e)))):=λW b h g l r d f R C j=>Oo p P.nv b r h d g l f R _ _ W C j Y (Vy.of (aa0 Q.o s.f s.H _ _ _)) (Vy.of (uL Q.o (s.f i) (s.H e (aT a))));clear o a q;go_upto_region 12 with(go_at_call 114;refine(E.o _ aQ).mono ?_;rintro o Y ⟨h,l,b,j,rfl,a,E⟩;have d:=hid (A a E);clear a E t L x1 S c)
  refine gS (F:=Code.wp _ _ _ _) λU g=>?_;have f:J (Bl wr U/\_/\_/\dK U h l b j (Ag p (P.at i) k e)):=⟨H d.A g.b,g.a,aL (H d.A g.b) y.a,d.a.below g.b⟩;generalize δ Y.1=a at f⊢;have y1:=M f.b;have K:=M f.c;go_upto_region 9 with(go_at_call 73;refine(N.o _ _ _ _ _ _ _ _ _ (y.b.below f.a) f.C).mono ?_;rintro o a ⟨a,a,a,a,rfl,a,b⟩;have c:=hid (A a b);clear a b y1 K;have K:=M (aL c.A f.c))
  have l:=H f.a c.A;refine Xk (F:=Code.wp _ _ _ _) (aL c.A f.c) λa h=>?_;have s:J (∃T z F x,a.1[δ w.1+1]?=B' (k' #[j' T,i' z F x] 133 (0,0))/\dK a T z F x (Jz P p es n i (k+1))/\Bl w a/\a.1[δ w.1]?=B' kN):=by refine⟨_,_,_,_,h.a,?_,h.c (H y.c l) I,(h.b _ I).trans (aL l y.C)⟩;rw[X.o,aB B];exact h.C c.a
  clear l K;go_wp2;go_roundw
  ·exact⟨k+1,u,f',s.o⟩
  exact G'
end
section
variable {b:u'} {d:Bool} {a:x'} {c:Nat} {e:EV}
def NS(w:u')(nb:Bool)(a:x')(n c:Nat)(e:EV):Prop:=match e with|none=>nb=O'|some vs=>nb=P'/\n=ζ vs/\ρ w 0 138 3 (i' a n c) n (dy vs)
def NS.at{w:u'}{b:Bool}{a:x'}{n c:Nat}{e:EV}(h:NS w b a n c e):dK w b a n c e:=by
 cases e with
 |none=>exact h
 |some E=>
  obtain⟨C,a,N⟩:=h;subst a;refine⟨C,rfl,QC N,λe=>?_⟩;subst e;rcases N.2 with⟨R,_⟩|⟨g,u,Y,R,_⟩
  ·simp at R;exact R.2
  simp at R
def NS.below(h:NS w d a n c e)(f:Bl w b):NS b d a n c e:=by
 cases e with
 |none=>exact h
 |some E=>exact⟨h.1,h.2.1,aZ h.2.2 f⟩
def NS.grown{q:Option Nat}(h:NS w d a n c e)(f:ξ w b q)(g:∀k,q=B' k->∃Y t,w.1[k]?=B' (c7 Y t)/\138≠t):NS b d a n c e:=by
 cases e with
 |none=>exact h
 |some E=>
  refine⟨h.1,h.2.1,h.2.2.kept f ?_⟩;by_cases V:φ (i' a n c)=C'
  ·exact aI V
  refine aK (λu=>?_);obtain⟨k,a⟩:=Option.ne_none_iff_exists'.1 V;obtain⟨Y,t,C,b⟩:=g k (u.symm.trans a);exact eh h.2.2 C b a
def Ie(w:u')(ev:EV)(e:Ending)(w':u'):Prop:=∃nb a n c,e=p' (cu nb a n c)/\NS w' nb a n c ev/\Bl w w'
def Ie.mk(h:NS b d a n c e)(f:Bl w b):Ie w e (p' (cu d a n c)) b:=⟨d,a,n,c,rfl,h,f⟩
def L2(h:p:=by
 go_wp2_with (at_builtin;refine gu rfl _ _ 131 rfl (h+1) 138 i0 (l' o4) 3 24 underlying131 HI.a HI.b HI.c HI.C rfl aj (i' j i s) i (dy ((x.vals.map (eZ r)).take i)) rfl (B.d.alloc _) (O T.1.size 0) 1 1 [j' O',G 0,G 0] rfl rfl (pB (cv T _)) (by intro u C;simp only[dr,ke,jf]at C;rcases C with rfl|rfl|rfl<;>rfl) (by simp only[maxLen];omega) I (by have:=B.D;simp;omega) ?_;intro v9 l k F _;obtain⟨a9,c9,rfl⟩:=aV k;have a:=cz T (k' #[j' O',G 0,G 0] 138);have y0:d' l h (dI j i s) 133:=(F.block h (mG B.D a.size) (λe=>eh (aZ B.d a) (aL a B.c) aj e.symm)).trans (aL a B.c);have W:=hid (A k (A F y0));clear k F E g Y d a;obtain⟨Y,d⟩:=M y0;clear y0);go_roundw
 case rel=>
  refine⟨i+1,a9,c9,L,f',?_,?_,?_⟩
  ·rw[aq W.B _];rfl
  ·rw[Ql.o _ f];exact W.a.kept (bX l h 1 _) (aK (λe=>eh W.a W.B aj e))
  exact(((D.B.trans (B.b.mono (J' (blt D.a)))).alloc (J' B.D) _).grown W.b (by have:=B.D;simp;omega) (λq e=>J' ((B.d.lt q e).1))).setCell aF _
 exact G'):p:=h
def Rk(h:p:=by
 go_roundw
 case rel=>
  refine⟨i+1,a9,c9,L,f',?_,?_,?_⟩
  ·rw[aq W.B _];rfl
  ·rw[Ql.o _ f];exact W.a.kept (bX l h 1 _) (aK (λe=>eh W.a W.B aj e))
  exact(((D.B.trans (B.b.mono (J' (blt D.a)))).alloc (J' B.D) _).grown W.b (by have:=B.D;simp;omega) (λq e=>J' ((B.d.lt q e).1))).setCell aF _
 exact G'):p:=h
def Zn(h:p:=by
 have iz:¬(i:Int)<N:=I;obtain rfl:N=i:=I;obtain⟨Y,d⟩:=M D.a;have X:=u0 D.B U.c I;obtain⟨z1,z2⟩:=M X;go_wp2;have q4:χ (κ wr (O (δ w.1+1) 0) (j' P')) (O (δ w.1+1) 0)=B' (j' P'):=by rw[(M (aq X _)).1];rfl
 have y:χ (κ (κ wr (O (δ w.1+1) 0) (j' P')) (O (δ w.1+1) 1) (i' j N s)) (O (δ w.1+1) 1)=B' (i' j N s):=by rw[(M (aq (aq X _) _)).1];rfl
 refine aC (v:=cu P' j N s) (by simp[results107,go_sem,q4,y]) rfl ?_;rw[HE.o];have ho:=D.b;have hlm:ζ (x.vals.map (eZ r))=N:=by rw[b!,K.o]
 rw[cH (by rw[hlm];exact aF)]at ho;refine Ie.mk (show NS _ P' j N s (B' (x.vals.map (eZ r)))from⟨rfl,hlm.symm,?_⟩) ((gb.o.setCell H' _).setCell H' _);have ho2:=(a! ho bj).kept (bX wr (δ w.1+1) 0 (j' P')) (aK (λe=>eh ho X aj e))
 exact ho2.kept (bX _ (δ w.1+1) 1 (i' j N s)) (aK (λe=>eh ho X aj e))):p:=h
def Zm(h:p:=by
 have f:eZ r v=⟨P',v.lo,v.hi⟩:=by rw[eZ,aB k3]
 go_wp2_with (at_builtin;refine gu rfl _ _ 131 rfl (h+1) 138 i0 (l' o4) 3 24 underlying131 HI.a HI.b HI.c HI.C rfl aj (i' j i s) i (dy ((x.vals.map (eZ r)).take i)) rfl (B.d.alloc _) (O T.1.size 0) 1 1 [j' P',G v.lo,G v.hi] rfl rfl (pB (cv T _)) (by intro u C;simp only[dr,ke,jf]at C;rcases C with rfl|rfl|rfl<;>rfl) (by simp only[maxLen];omega) I (by have:=B.D;simp;omega) ?_;intro v9 l k F _;obtain⟨a9,c9,rfl⟩:=aV k;have a:=cz T (k' #[j' P',G v.lo,G v.hi] 138);have y0:d' l h (dI j i s) 133:=(F.block h (mG B.D a.size) (λe=>eh (aZ B.d a) (aL a B.c) aj e.symm)).trans (aL a B.c);have W:=hid (A k (A F y0));clear k F E g Y d a;obtain⟨Y,d⟩:=M y0;clear y0)
 exact Rk):p:=h
def Zl(h:p:=by
 have f:eZ r v=VV.one v.lo:=by rw[eZ,aA k3,aB k1]
 go_wp2_with (at_builtin;refine gu rfl _ _ 131 rfl (h+1) 138 i0 (l' o4) 3 24 underlying131 HI.a HI.b HI.c HI.C rfl aj (i' j i s) i (dy ((x.vals.map (eZ r)).take i)) rfl (B.d.alloc _) (O T.1.size 0) 1 1 [j' P',G v.lo,G v.lo] rfl rfl (pB (cv T _)) (by intro u C;simp only[dr,ke,jf]at C;rcases C with rfl|rfl|rfl<;>rfl) (by simp only[maxLen];omega) I (by have:=B.D;simp;omega) ?_;intro v9 l k F _;obtain⟨a9,c9,rfl⟩:=aV k;have a:=cz T (k' #[j' P',G v.lo,G v.lo] 138);have y0:d' l h (dI j i s) 133:=(F.block h (mG B.D a.size) (λe=>eh (aZ B.d a) (aL a B.c) aj e.symm)).trans (aL a B.c);have W:=hid (A k (A F y0));clear k F E g Y d a;obtain⟨Y,d⟩:=M y0;clear y0)
 exact Rk):p:=h
def Zk(h:p:=by
 have hm:(x.vals.map (eZ r))[i]?=B' z:=by rw[cg,R,<-f];rfl
 rw[cX (bm.1 hm).1,(bm.1 hm).2,xp]):p:=h
def Bg(a l z:x')(Y q c rc b:Nat)(x:Nd)(r:Int)(w:u')(h:lk w z x.vals)(K:ζ x.vals<=8):
  Cl 107 #[l' #[i' a Y q,i' l c rc,j' x.aD,G x.rank,i' z (ζ x.vals) b],G r] w (Ie w (oO x r)):=by
 obtain⟨i0,S,D,P,a⟩:=cQ Dx;have HI:J (_/\_/\_/\_):=⟨S,D,P,a⟩;clear S D P a;have HH:=hid h;clear h;obtain⟨N,a⟩:=Ea (ζ x.vals);rw[<-a]at K⊢;have K:=hid a;clear a;obtain⟨d,Y⟩:=Ea x.aD;obtain⟨rk0,W⟩:=Ea x.rank;obtain⟨c,L⟩:=Ea (oO x r);have a:d=P'\/(0<=r/\r<=rk0)->c=C':=by rw[Y,W,L];intro q;rw[oO,aB q]
 have s:¬(d=P'\/(0<=r/\r<=rk0))->c=B' (x.vals.map (eZ r)):=by rw[Y,W,L];intro q;rw[oO,aA q]
 have HNO:=hid a;have HGO:=hid s;rw[<-Y,<-W,<-L];clear a s Y W L;go_enter func107,ntmps107;go_upto_region 1 with fail
 refine vZ (F:=Code.wp _ _ _ _) λW0 H0=>?_;obtain⟨E,g⟩:=M H0.a.1;obtain⟨z1,z2⟩:=M H0.a.2;have q4:χ (κ W0 (O (δ w.1+1) 0) (j' O')) (O (δ w.1+1) 0)=B' (j' O'):=by rw[(M (aq H0.a.2 _)).1];rfl
 have y:χ (κ (κ W0 (O (δ w.1+1) 0) (j' O')) (O (δ w.1+1) 1) (i' C' 0 0)) (O (δ w.1+1) 1)=B' (i' C' 0 0):=by rw[(M (aq (aq H0.a.2 _) _)).1];rfl
 have HQ:=hid (A q4 y);clear q4 y;have aaz:J (c=C'->Ie w c (p' (cu O' C' 0 0)) (κ (κ W0 (O (δ w.1+1) 0) (j' O')) (O (δ w.1+1) 1) (i' C' 0 0))):=λe=>by rw[e];exact Ie.mk (show NS _ O' C' 0 0 C' from rfl) ((H0.b.setCell H' _).setCell H' _)
 cases d
 ·go_wp2;obtain⟨q4,y⟩:=HQ.o;exact aC (v:=cu O' C' 0 0) (by simp[results107,go_sem,q4,y]) rfl (aaz.o (HNO.o (by first|exact aI rfl|exact aI trivial)))
 by_cases hr0:0<=r;rotate_left
 ·have HE:=hid (HGO.o (by rintro(q|q);(· cases q);exact hr0 q.1));go_upto_region 4 with fail
  clear E g z1 z2;refine gS (F:=Code.wp _ _ _ _) λt c=>?_;have U:J (Bl w t/\_/\_/\_):=⟨H H0.b c.b,aL c.b H0.a.1,aL c.b H0.a.2,c.a⟩;have uR:=blt H0.a.2;generalize δ W0.1=h at U uR⊢;go_wp2;go_loopw[6] (λiv wr=>∃(i:Nat) (j:x') (s:Nat),i<=N/\iv=G i/\J (wr.1[h]?=B' (k' (dI j i s) 133 (0,0))/\ρ wr (h+1) 138 3 (i' j i s) i (dy ((x.vals.map (eZ r)).take i))/\Below h t wr)) (λiv _=>N-(intOf iv).toNat)
  case atStart=>exact⟨0,C',0,bj,rfl,U.C,cb,aQ⟩
  obtain⟨i,j,s,S,rfl,D⟩:=hrel;obtain⟨E,g⟩:=M (u0 D.B U.b I);have gb:=hid (U.a.trans (D.B.mono I));by_cases L:i<N;rotate_left
  ·exact Zn
  have iz:(i:Int)<N:=I;obtain⟨v,R⟩:=La (l:=x.vals) (i:=i) (by rw[<-K.o];exact L);obtain⟨b,o,rfl,c0,Q,p,c3,P,c5⟩:=HH.o.below gb.o i v R;have Qc:∀z,eZ r v=z->dy ((x.vals.map (eZ r)).take (i+1))=dy ((x.vals.map (eZ r)).take i)++dw z:=λz f=>by exact Zk
  have Ql:=hid Qc;clear Qc R;go_upto_region 9 with fail
  clear c0 Q p c3 P c5 E g;refine gS (F:=Code.wp _ _ _ _) λT HT=>?_;have B:J (T.1[δ wr.1]?=B' _/\Bl wr T/\d' T h (dI j i s) 133/\ρ T (h+1) 138 3 (i' j i s) i (dy ((x.vals.map (eZ r)).take i))/\h<δ T.1):=⟨HT.a,HT.b,aL HT.b D.a,aZ D.b HT.b,blt (aL HT.b D.a)⟩;obtain⟨E,g⟩:=M B.a;obtain⟨Y,d⟩:=M B.c;by_cases k3:v.aG=3
  ·exact Zm
  have k3b:=I' k3;by_cases k1:v.aG=1
  ·exact Zl
  have k1b:=I' k1;cases he:v.bJ
  ·have f:eZ r v=VV.gT:=by rw[eZ,aA k3,aA k1,he];rfl
   rw[he]at E;exact L2
  rw[he]at E;have f:eZ r v=VV.gT:=by rw[eZ,aA k3,aA k1,aA (by rw[he];simp;omega)]
  exact L2
 by_cases hr1:r<=rk0
 ·go_wp2;obtain⟨q4,y⟩:=HQ.o;exact aC (v:=cu O' C' 0 0) (by simp[results107,go_sem,q4,y]) rfl (aaz.o (HNO.o (aK ⟨hr0,hr1⟩)))
 have HE:=hid (HGO.o (by rintro(q|q);(· cases q);exact hr1 q.2));go_upto_region 4 with fail
 clear E g z1 z2;refine gS (F:=Code.wp _ _ _ _) λt c=>?_;have U:J (Bl w t/\_/\_/\_):=⟨H H0.b c.b,aL c.b H0.a.1,aL c.b H0.a.2,c.a⟩;have uR:=blt H0.a.2;generalize δ W0.1=h at U uR⊢;go_wp2;go_loopw[6] (λiv wr=>∃(i:Nat) (j:x') (s:Nat),i<=N/\iv=G i/\J (wr.1[h]?=B' (k' (dI j i s) 133 (0,0))/\ρ wr (h+1) 138 3 (i' j i s) i (dy ((x.vals.map (eZ r)).take i))/\Below h t wr)) (λiv _=>N-(intOf iv).toNat)
 case atStart=>exact⟨0,C',0,bj,rfl,U.C,cb,aQ⟩
 obtain⟨i,j,s,S,rfl,D⟩:=hrel;obtain⟨E,g⟩:=M (u0 D.B U.b I);have gb:=hid (U.a.trans (D.B.mono I));by_cases L:i<N;rotate_left
 ·exact Zn
 have iz:(i:Int)<N:=I;obtain⟨v,R⟩:=La (l:=x.vals) (i:=i) (by rw[<-K.o];exact L);obtain⟨b,o,rfl,c0,Q,p,c3,P,c5⟩:=HH.o.below gb.o i v R;have Qc:∀z,eZ r v=z->dy ((x.vals.map (eZ r)).take (i+1))=dy ((x.vals.map (eZ r)).take i)++dw z:=λz f=>by exact Zk
 have Ql:=hid Qc;clear Qc R;go_upto_region 9 with fail
 clear c0 Q p c3 P c5 E g;refine gS (F:=Code.wp _ _ _ _) λT HT=>?_;have B:J (T.1[δ wr.1]?=B' _/\Bl wr T/\d' T h (dI j i s) 133/\ρ T (h+1) 138 3 (i' j i s) i (dy ((x.vals.map (eZ r)).take i))/\h<δ T.1):=⟨HT.a,HT.b,aL HT.b D.a,aZ D.b HT.b,blt (aL HT.b D.a)⟩;obtain⟨E,g⟩:=M B.a;obtain⟨Y,d⟩:=M B.c;by_cases k3:v.aG=3
 ·exact Zm
 have k3b:=I' k3;by_cases k1:v.aG=1
 ·exact Zl
 have k1b:=I' k1;cases he:v.bJ
 ·have f:eZ r v=VV.gT:=by rw[eZ,aA k3,aA k1,he];rfl
  rw[he]at E;exact L2
 rw[he]at E;by_cases b:r<=v.rank
 ·have f:eZ r v=VV.one v.first:=by rw[eZ,aA k3,aA k1,he];simp[hr0,b]
  go_wp2_with (at_builtin;refine gu rfl _ _ 131 rfl (h+1) 138 i0 (l' o4) 3 24 underlying131 HI.a HI.b HI.c HI.C rfl aj (i' j i s) i (dy ((x.vals.map (eZ r)).take i)) rfl (B.d.alloc _) (O T.1.size 0) 1 1 [j' P',G v.first,G v.first] rfl rfl (pB (cv T _)) (by intro u C;simp only[dr,ke,jf]at C;rcases C with rfl|rfl|rfl<;>rfl) (by simp only[maxLen];omega) I (by have:=B.D;simp;omega) ?_;intro v9 l k F _;obtain⟨a9,c9,rfl⟩:=aV k;have a:=cz T (k' #[j' P',G v.first,G v.first] 138);have y0:d' l h (dI j i s) 133:=(F.block h (mG B.D a.size) (λe=>eh (aZ B.d a) (aL a B.c) aj e.symm)).trans (aL a B.c);have W:=hid (A k (A F y0));clear k F E g Y d a;obtain⟨Y,d⟩:=M y0;clear y0);exact Rk
 have f:eZ r v=VV.gT:=by rw[eZ,aA k3,aA k1,he];simp[hr0,b]
 exact L2
def DY(ds:List (Bool×x'×Nat×Nat)):List A':=ds.flatMap λd=>[j' d.1,i' d.2.1 d.2.2.1 d.2.2.2]
def Nr:∀(y:List (Bool×x'×Nat×Nat)) (j:Nat) (d:Bool×x'×Nat×Nat),y[j]?=B' d->(DY y)[j*2]?=B' (j' d.1)/\(DY y)[j*2+1]?=B' (aO d.2.1 d.2.2.1 d.2.2.2)
 |[],j,d,h=>by simp at h
 |a::l,0,d,h=>by simp at h;subst h;simp[DY]
 |a::l,j+1,d,h=>by have:=Nr l j d (I' h);simp only[DY,cN,cW,ej]at this⊢;rw[show(j+1)*2=j*2+1+1 by omega];simpa using this
def Tw:(Tryz.prog.info? 133).map (λi=>(i.zero,i.size,i.bytes))=B' (B' (l' vP),2,32):=au
def Oy(p g:Int)(T:x')(a:Nat)(v:List Nd)(r:Int)(w:u')(h:b9 w T v)(K:ζ v<=60)(W:∀x∈v,ζ x.vals<=8):
  Cl 106 #[l' #[G p,G g,i' T (ζ v) a],G r] w λe b=>∃a c,e=p' (i' a (ζ v) c)/\zL b a (v.map λx=>oO x r)/\Bl w b:=by
 obtain⟨N,S,D,P,a⟩:=cQ Tw;have k:J (_/\_/\_/\_):=⟨S,D,P,a⟩;have s:=hid (A h W);clear S D P a h W;go_enter func106,ntmps106;go_upto_region 1 with fail
 refine gS (F:=Code.wp _ _ _ _) λV B=>?_;go_wp2;go_loopw[5,6] (λa y wr=>∃(i:Nat) (D:x') (t:Nat) (w:List (Bool×x'×Nat×Nat)),i<=ζ v/\y=G i/\a=i' D i t/\J (ρ wr V.1.size 133 2 (i' D i t) i (DY w)/\ζ w=i/\(∀(j:Nat) (d:Bool×x'×Nat×Nat) (x:Nd),w[j]?=B' d->v[j]?=B' x->NS wr d.1 d.2.1 d.2.2.1 d.2.2.2 (oO x r))/\Bl V wr)) (λ_ y _=>ζ v-(intOf y).toNat)
 case atStart=>exact⟨0,C',0,[],bj,rfl,rfl,cb,rfl,λj d x h=>by simp at h,aQ⟩
 obtain⟨i,D,t,w,S,rfl,rfl,c⟩:=hrel;have E:=M (aL c.C B.a);by_cases L:i<ζ v;rotate_left
 ·have a:¬(i:Int)<(ζ v:Int):=I;obtain rfl:i=ζ v:=I;go_wp2;refine aC (v:=i' D (ζ v) t) (by simp[results106,go_sem]) rfl ⟨D,⟨t,rfl⟩,?_,H B.b c.C⟩;intro j e K;rw[cg]at K;obtain⟨x,F,rfl⟩:=I6.1 K;obtain⟨d,Q⟩:=La (l:=w) (i:=j) (by rw[c.b];exact(bm.1 F).1);have f:=Nr w j d Q;rcases c.a.2 with⟨_,e⟩|⟨g,S,h,R,_⟩
  ·have:=(bm.1 F).1;omega
  simp at R;obtain⟨rfl,rfl⟩:=R;have U:=c.a.cells (g:=g) rfl _ _ f.1;have b:=c.a.cells (g:=g) rfl _ _ f.2;rw[eX]at U b;exact⟨g,0,d.1,d.2.1,d.2.2.1,d.2.2.2,rfl,U,b,(c.c j d x Q F).at⟩
 have a:(i:Int)<(ζ v:Int):=I;obtain⟨x,F⟩:=La L;obtain⟨b,o,a,l,z,q,rc,f,rfl,T,v,p,y,P,b⟩:=(s.a.below (H B.b c.C)) i x F;have Y:J (∀W,Bl wr W->Cl 107 #[l' #[i' a (ζ x.facts) q,i' l (ζ x.aW) rc,j' x.aD,G x.rank,i' z (ζ x.vals) f],G r] W (Ie W (oO x r))):=λW o=>Bg a l z _ q _ rc f x r W (b.vals.below o) (s.A x (aT F));have z:=hid F;clear F b;go_upto_region 6 with(go_at_call 107;refine(Y.o _ aQ).mono ?_;rintro e Y ⟨b,q,o,s,rfl,l,X⟩;have u:=hid (A l X);clear l X E T v p y P)
 refine gS (F:=Code.wp _ _ _ _) λU a=>?_;have f:J (Bl wr U/\NS U b q o s (oO x r)/\U.1[δ Y.1]?=B' _):=⟨H u.A a.b,u.a.below a.b,a.a⟩;have a:=M f.B;go_wp2_with (at_builtin;refine gu rfl _ _ 130 rfl V.1.size 133 N (l' vP) 2 32 underlying130 k.a k.b k.c k.C rfl aj (i' D i t) i (DY w) rfl ((aZ c.a f.a).alloc _) (O U.1.size 0) 1 1 [j' b,i' q o s] rfl rfl (pB (cv U _)) (by intro u C;simp only[dr,ke,jf]at C;rcases C with rfl|rfl<;>rfl) (by simp only[maxLen];omega) I (by have:=(H c.C f.a).size;simp;omega) ?_;intro k l k F _;obtain⟨u,r,rfl⟩:=aV k;have W:=hid (A k F);clear k F a)
 have l:=cz U (k' #[j' b,i' q o s] 133);have a:∀k,φ (i' D i t)=B' k->∃h t,(U.alloc (k' #[j' b,i' q o s] 133)).1[k]?=B' (c7 h t)/\138≠t:=by
  intro k p;rcases(aZ c.a (H f.a l)).2 with⟨e,_⟩|⟨g,S,h,e,_,N,_⟩
  ·rw[e]at p;simp[Value.ownBlock]at p
  rw[e]at p;have:g=k:=by simpa[Value.ownBlock]using p
  subst this;exact⟨h,_,N,aj⟩
 have g:=hid a;clear a l;go_roundw
 case rel=>
  refine⟨i+1,u,r,w++[(b,q,o,s)],L,f',rfl,?_,by simp[c.b],?_,?_⟩
  ·have e:DY (w++[(b,q,o,s)])=DY w++[j' b,i' q o s]:=by simp[DY]
   rw[e];exact W.a
  ·intro j d y Q B;by_cases K:j<ζ w
   ·rw[jN K]at Q;exact(((c.c j d y Q B).below f.a).below bf).grown W.A g.o
   have r:=(bm.1 Q).1;simp at r;have s:j=ζ w:=I;subst s;rw[ek aF,kH]at Q;simp at Q;subst Q;rw[c.b,z.o]at B;cases B;exact(f.b.below bf).grown W.A g.o
  exact((H c.C f.a).alloc (H c.C f.a).size _).grown W.A (by have:=(H c.C f.a).size;simp;omega) (λq e=>((aZ c.a f.a).lt q e).1)
 exact G'
end
def acX(c:Ct)(r:Int):XV (c.nodes.map λx=>oO x r)=jL c r:=by
 funext m;rw[XV,jL,Ct.at,getD,getD,cg];cases c.nodes[m]? with
 |none=>rfl
 |some x=>rfl
structure af0(c:Ct)(nv:Nat):Prop where
  p:c.aE=5\/c.aE=6
  h8:∀x∈c.nodes,ζ x.vals<=8
  ok:∀x∈c.nodes,∀r,kf c.aE nv (oO x r)
  rk:∀x∈c.nodes,0<=x.rank/\x.rank<=100000
  ln:∀x∈c.nodes,x.aD=O'->ζ x.vals=nv
def VF(P:Pm)(c:Ct)(n:Nat):Bool:=Ew c.aE (P.say c.aE n (jL c (-1))) (jL c (-1) n)
def erV(P:Pm)(c:Ct)(n j:Nat):Bool:=match (c.at n).vals[j]? with|some v=>!v.bJ||K6 (P.say c.aE n (jL c v.rank)) j|none=>O'
def vlN(P:Pm)(c:Ct):Int:=if qt P c=P' then 7 else if c.grade=1/\Ai P c=P' then 8 else 0
theorem Zi(h:p:=by
 go_wp2_with fail;go_ret
 exact⟨by rw[HF8.o (by first|rfl|trivial)];rfl,H Ya.o.1 HUC.o.2.2⟩):p:=h
def E9 (pb:Nat) (D:List RC) (X:List (List Nat)) (P:Pm) (g:x') (nc:Nat) (c:Ct) (w:u') (h:DP w pb D X P.nv) (t:DR D X P) (hO:dC P) (T:wR P) (o:b9 w g c.nodes) (j:ζ c.nodes=ζ D) (f:af0 c P.nv):
   Cl 63 #[o' (B' (O pb 0)),l' #[G c.aE,G c.grade,i' g (ζ D) nc]] w (Rb w (G (vlN P c))):=by
 have Y:ζ D<=60:=by rw[t.len];exact hO.most
 have z:ζ D=ζ P.nd:=t.len;have P3:J (∀(W:u') (r:Int),Bl w W->Cl 106 #[l' #[G c.aE,G c.grade,i' g (ζ D) nc],G r] W λe w'=>∃a m,e=p' (aO a (ζ D) m)/\zL w' a (c.nodes.map λx=>oO x r)/\Bl W w'):=λW r hW=>by have:=Oy c.aE c.grade g nc c.nodes r W (o.below hW) I f.h8;rwa[j]at this
 have Ic:J (∀(W:u') (n:Nat) (r:Int) (a:x') (m:Nat),Bl w W->zL W a (c.nodes.map λx=>oO x r)->Cl 71 #[o' (B' (O pb 0)),G c.aE,G n,i' a (ζ D) m] W (lu W (P.say c.aE n (jL c r)))):=λW n r a m hW Y=>by have:=Oh pb n c.aE f.p D X P a m (c.nodes.map λx=>oO x r) W (h.below hW) t hO T Y (by simp[j]) (λe l=>by obtain⟨x,F,rfl⟩:=cZ.1 l;exact f.ok x F r);rwa[acX]at this
 have b:∀(r:Int) (m:Nat),kf c.aE P.nv (jL c r m):=λr m=>by
   rw[jL,Ct.at,getD];cases e:c.nodes[m]? with
   |none=>exact λvs hv=>by simp[oO,uK]at hv
   |some x=>exact f.ok x (aT e) r
 have HBL:J (∀(W:u') (g Y:Bool) (aa ba:x') (an ac bn X:Nat) (x y:EV),dK W g aa an ac x->dK W Y ba bn X y->kf c.aE P.nv x->kf c.aE P.nv y->Cl 72 #[G c.aE,l' #[j' g,i' aa an ac],l' #[j' Y,i' ba bn X]] W (Rb W (j' (Ew c.aE x y)))):=λW g Y aa ba an ac bn X x y F hy ox oy=>J7 c.aE P.nv g Y aa ba an ac bn X x y W F hy hO.nv (Vy.of ox) (Vy.of oy)
 have HOK:=hid (A b (λn r=>aaU f.p T n (b r)));obtain⟨g,g,g,g,xb,g,hb,_,_⟩:=h.box;have s:=hid (A hb (A o (A j (A f z))));clear hb o j f b h t T z;obtain⟨vl,Z3⟩:=Ea (vlN P c);have HVL:J ((∀n,n<ζ D->VF P c n=P'->vl=7)/\((range (ζ D)).all (VF P c)=O'->c.grade≠1->vl=0)/\((range (ζ D)).all (VF P c)=O'->c.grade=1->(∀n,n<ζ D->vW P c n=P'->vl=8)/\((range (ζ D)).all (vW P c)=O'->vl=0))):=by
   have r:qt P c=(range (ζ D)).all (VF P c):=by rw[qt,s.D];try rfl
   have g:Ai P c=(range (ζ D)).all (vW P c):=by rw[Ai,s.D];try rfl
   refine⟨λn hn Y=>?_,λha o=>?_,λha o=>⟨λn hn Y=>?_,λhb=>?_⟩⟩
   · rw[Z3,vlN,r,kR Y hn,aB rfl]
   · rw[Z3,vlN,r,ha,aA aj,aA (λq=>o q.1)]
   · rw[Z3,vlN,r,ha,aA aj,g,kR Y hn,aB ⟨o,rfl⟩]
   rw[Z3,vlN,r,ha,aA aj,g,hb,aA (λq=>by cases q.2)]
 rw[<-Z3];clear Z3;obtain⟨pr,f⟩:=Ea c.aE;obtain⟨gr,b⟩:=Ea c.grade;rw[<-f,<-b]at P3;rw[<-f]at Ic HBL HOK;rw[<-b]at HVL;rw[<-f,<-b];have HPR:=hid f;clear f b;go_enter func63,ntmps63;go_upto_region 1 with fail
 refine gS (F:=Code.wp _ _ _ _) λg g=>?_;have E:=M g.a;go_upto_region 2 with(go_at_call 106;refine(P3.o _ (-1) g.b).mono ?_;rintro e r ⟨aa,am,rfl,L,hb⟩;have H1:=hid (A L (A hb (aL hb g.a)));clear L hb E)
 have Yf:=hid (H g.b H1.b);go_wp2_with fail;go_loopw[6] (λiv wr=>∃n:Nat,n<=ζ D/\iv=G n/\J ((range n).all (VF P c)=O'/\Bl r wr)) (λiv _=>ζ D-(intOf iv).toNat)
 case atStart=>exact⟨0,bj,rfl,rfl,aQ⟩
 obtain⟨n,hn,rfl,HK⟩:=hrel;have gb:=hid (H Yf.o HK.A);have E:=M (aL gb.o s.a);have B:=M (aL HK.A H1.B);by_cases rW:n<ζ D
 · have iz:(n:Int)<(ζ D:Int):=I
   obtain⟨x,F⟩:=La (l:=c.nodes) (i:=n) (by rw[s.c];exact rW);have hcx:jL c (-1) n=oO x (-1):=by rw[jL,Ct.at,getD,F];rfl
   obtain⟨b5,o5,nb5,va5,vn5,vc5,haa,d0,d1,hv5⟩:=H1.a.below HK.A n (oO x (-1)) (by rw[cg,F];rfl);subst haa;rw[<-hcx]at hv5;have HV5:=hid (A d0 (A d1 hv5));clear F hcx d0 d1 hv5;go_upto_region 6 with(go_at_call 71;refine(Ic.o _ n (-1) _ _ gb.o (H1.a.below HK.A)).mono ?_;rintro e Y ⟨vC,a2,n2,m2,rfl,l,hb⟩;have g:=hid (A l hb);clear l hb E B)
   refine gS (F:=Code.wp _ _ _ _) λU HU=>?_;have Ch:J (Below wr.1.size wr U/\U.1[δ Y.1]?=B' _/\dK U vC a2 n2 m2 (P.say pr n (jL c (-1)))/\U.1[δ w.1]?=B' _):=⟨H g.A HU.b,HU.a,g.a.below HU.b,aL (H g.A HU.b) (aL HK.A H1.B)⟩;generalize δ Y.1=qe at Ch⊢;obtain⟨t,j⟩:=Ea (VF P c n)
   have HC:J (∀W,Bl U W->Cl 72 #[G pr,l' #[j' vC,i' a2 n2 m2],l' #[j' nb5,i' va5 vn5 vc5]] W (Rb W (j' t))):=λW hW=>by
     have e:t=Ew pr (P.say pr n (jL c (-1))) (jL c (-1) n):=by rw[j,VF,HPR.o]
     rw[e];exact HBL.o W vC nb5 a2 va5 n2 m2 vn5 vc5 _ _ (Ch.c.below hW) ((HV5.B.below Ch.a).below hW) (HOK.A n (-1)) (HOK.a (-1) n)
   have HN1:J (t=P'->vl=7):=λq=>HVL.a n rW (j.symm.trans q);have HT:J (t=O'->(range (n+1)).all (VF P c)=O'):=λq=>by rw[c8,HK.a,<-j,q];rfl
   clear j;refine wp_region_held_drew (S:=λW'=>Bl U W') au aQ.drew (λaM=>?_);refine tq 0 (o' (dO w.1.size)) ?_;refine tr 1 (G pr) (λW' bN=>(M (aL bN Ch.C)).1) ?_;refine tr 2 (l' #[j' vC,i' a2 n2 m2]) (λW' bN=>(M (aL bN Ch.b)).1) ?_;refine tq 3 (oY b5 o5 (ζ D) am) ?_;refine tq 4 (G n) ?_;refine tq 5 (o' (B' (O b5 (o5+n*2)))) ?_;refine tr 6 (l' #[j' nb5,i' va5 vn5 vc5]) (λW' bN=>A (ax (ax HV5.a Ch.a) bN) (ax (ax HV5.b Ch.a) bN)) ?_;refine r1 7 λK hK=>?_;go_simp;refine(HC.o _ aQ.drew).mono ?_;rintro e Z ⟨rfl,hb⟩;have HZ:J (Bl U Z):=H aQ.drew hb;clear hb;refine hK.out _ _ HZ.o (λaM=>?_);clear hK K;refine pt ?_;refine tq 8 (j' t) ?_;refine wpAnyH_done au ?_ _;clear aM;cases t
   · go_wp2_with fail
     go_ret;exact⟨by rw[HN1.o (by trivial)];rfl,H gb.o (H Ch.a HZ.o)⟩
   go_wp2_with fail;go_roundw
   case rel=>exact⟨n+1,rW,f',HT.o (by trivial),H HK.A (H Ch.a HZ.o)⟩
   exact G'
 have iz:¬(n:Int)<(ζ D:Int):=I;obtain rfl:n=ζ D:=I;have IE:=hid (A gb.o (A (aL HK.A H1.B) HK.a));go_wp2_with fail;generalize wr=g at IE⊢;go_loopw[9] (λiv wr=>∃n:Nat,n<=ζ D/\iv=G n/\J ((0<n->gr=1)/\(range n).all (vW P c)=O'/\Bl g wr)) (λiv _=>ζ D-(intOf iv).toNat)
 case atStart=>exact⟨0,bj,rfl,λq=>I,rfl,aQ⟩
 obtain⟨n,hn,rfl,HK⟩:=hrel;have gb:=hid (H IE.a HK.B);have E:=M (aL gb.o s.a);have B:=M (aL HK.B IE.b);by_cases rW:n<ζ D;rotate_left
 · have iz:¬(n:Int)<(ζ D:Int):=I
   obtain rfl:n=ζ D:=I;go_wp2_with fail;go_ret
   refine⟨?_,gb.o⟩;have g:vl=0:=by
     by_cases o:gr=1
     · exact(HVL.B IE.B o).2 HK.b
     exact HVL.b IE.B o
   rw[g];rfl
 have iz:(n:Int)<(ζ D:Int):=I;by_cases o:gr=1;rotate_left
 · have g:(gr==1)=P':=I' o
   go_wp2_with fail;go_ret;exact⟨by rw[HVL.b IE.B o];rfl,gb.o⟩
 subst o;have F:c.nodes[n]?=B' (c.at n):=by rw[Ct.at,getD,bR (by rw[s.c];exact rW)];rfl
 have f:=aT F;obtain⟨b,o,fa,ra,va,fc,rc,vc,rfl,c0,c1,c2,u,c4,c5⟩:=s.b.below gb.o n _ F;obtain⟨a3,a4⟩:=s.d.rk _ f;have h8:=s.d.h8 _ f;have g:(c.at n).aD=P'->vW P c n=O':=λq=>by rw[vW,q];rfl
 have HLS:J ((c.at n).aD=O'->vW P c n=(Ew pr (oO (c.at n) ((c.at n).rank+1)) (P.say pr n (jL c (c.at n).rank))&&(range (ζ (c.at n).vals)).all (erV P c n))):=λq=>by rw[vW,q,HPR.o];rfl
 have C:=hid g;have H8:J (∀q:(range (ζ D)).all (VF P c)=O',vW P c n=P'->vl=8):=λq e=>(HVL.B q rfl).1 n rW e;have HEN:J (∀W,Below wr.1.size wr W->Cl 107 #[l' #[i' fa (ζ (c.at n).facts) fc,i' ra (ζ (c.at n).aW) rc,j' (c.at n).aD,G (c.at n).rank,i' va (ζ (c.at n).vals) vc],G ((c.at n).rank+1)] W (Ie W (oO (c.at n) ((c.at n).rank+1)))):=λW hW=>Bg fa ra va _ fc _ rc vc _ _ W (c5.vals.below hW) h8;have Vv:=hid (A c5.vals (s.d.ln _ f));have agA:=hid (s.d.ok _ f);clear F f c5 g;obtain⟨F,f⟩:=Ea (ζ (c.at n).vals);rw[<-f]at HEN c4 HLS h8;have HVN:=hid f;clear f;generalize(c.at n).facts.length=fl at HEN c0;generalize(c.at n).aW.length=rl at HEN c1;generalize(c.at n).aD=rd at C HLS HEN Vv c2;generalize(c.at n).rank=f at HLS HEN a3 a4 u;go_upto_region 13 with fail
 clear c0 c1 c2 u c4 E B;refine gS (F:=Code.wp _ _ _ _) λT g=>?_;have B:J (True/\T.1[δ wr.1]?=B' _/\T.1[δ w.1]?=B' _/\Bl w T):=⟨trivial,g.a,aL g.b (aL HK.B IE.b),H gb.o g.b⟩;have HTW:=hid g.b;generalize δ wr.1=xb at B⊢;have E:=M B.b;cases rd
 · go_wp2_with fail
   go_roundw
   case rel=>exact⟨n+1,rW,f',λ_=>by trivial,by rw[c8,HK.b,C.o (by trivial)];rfl,H HK.B HTW.o⟩
   exact G'
 go_upto_region 14 with fail
 clear E;obtain⟨tb,N⟩:=Ea T.1.size;have qB:J (∀W,Below tb T W↔Below T.1.size T W):=λW=>by rw[N]
 clear N;refine wp_region_held_drew (S:=λW'=>Below tb T W') au ((qB.o _).2 aQ.drew) (λaM=>?_);refine tq 0 (vh pb) ?_;refine tq 1 (o' (dO w.1.size)) ?_;refine tr 2 (G pr) (λW' bN=>(M (aL ((qB.o _).1 bN) B.c)).1) ?_;refine tq 3 (G n) ?_;refine tr 4 (l' #[G pr,G 1,i' (B' (O b o)) (ζ D) nc]) (λW' bN=>(M (aL ((qB.o _).1 bN) B.c)).1) ?_;refine tq 5 (qJ xb) ?_;refine tr 6 (G f) (λW' bN=>(M (aL ((qB.o _).1 bN) B.b)).1) ?_;refine wpAnyH_ready (rs:=[7,9]) au ak ?_;refine AllReadyH.cons rfl (λK hK=>?_) (AllReadyH.cons rfl (λK hK=>?_) AllReadyH.nil)
 all_goals first
  | (
   go_simp;refine(P3.o _ f B.C.drew).mono ?_;rintro e Y1 ⟨a1,m1,rfl,L,hb⟩;have HE:J (zL Y1 a1 (c.nodes.map λx=>oO x f)/\Below T.1.size T Y1):=⟨L,H aQ.drew hb⟩;clear L hb;refine hK.out _ _ ((qB.o _).2 HE.A) (λaM=>?_);clear hK K;refine pt ?_;refine wpAnyH_ready (rs:=[8,9]) au ak ?_;refine AllReadyH.cons rfl (λK hK=>?_) (AllReadyH.cons rfl (λK hK=>?_) AllReadyH.nil)
   all_goals first
    |(
     go_simp;refine(Ic.o _ n f _ _ (H B.C HE.A) HE.a).mono ?_;rintro e Y2 ⟨vC,a2,n2,m2,rfl,l,hb⟩;have HS:J (dK Y2 vC a2 n2 m2 (P.say pr n (jL c f))/\Below T.1.size T Y2):=⟨l,H HE.A hb⟩;clear l hb;refine hK.out _ _ ((qB.o _).2 HS.A) (λaM=>?_);clear hK K;refine pt ?_;refine r1 9 λK hK=>?_;go_simp;refine hK.out _ _ ((qB.o _).2 (H HS.A bf)) (λaM=>?_);clear hK K;refine pt ?_;clear aM;refine gS (F:=λV=>wpAnyH _ _ _ _ _ _ _ _ V) λZ tY=>?_;have HZ:J (Z.1[δ Y2.1]?=B' kN/\dK Z vC a2 n2 m2 (P.say pr n (jL c f))/\Below T.1.size T Z/\δ T.1<=δ Y2.1):=⟨tY.a,HS.a.below tY.b,H HS.A tY.b,HS.A.size⟩;generalize δ Y2.1=qe at HZ⊢
    )
    |(
     go_simp;refine hK.out _ _ ((qB.o _).2 (H HE.A bf)) (λaM=>?_);clear hK K;refine pt ?_;clear aM;refine gS (F:=λV=>wpAnyH _ _ _ _ _ _ _ _ V) λY3 tY=>?_;have aM:=(qB.o _).2 (H HE.A tY.b);refine r1 8 λK hK=>?_;go_simp;refine(Ic.o _ n f _ _ (H B.C (H HE.A tY.b)) (HE.a.below tY.b)).mono ?_;rintro e Z ⟨vC,a2,n2,m2,rfl,l,hb⟩;have HZ:J (Z.1[δ Y1.1]?=B' kN/\dK Z vC a2 n2 m2 (P.say pr n (jL c f))/\Below T.1.size T Z/\δ T.1<=δ Y1.1):=⟨aL hb tY.a,l,H (H HE.A tY.b) hb,HE.A.size⟩;clear l hb;refine hK.out _ _ ((qB.o _).2 HZ.c) (λaM=>?_);clear hK K;refine pt ?_;clear aM;generalize δ Y1.1=qe at HZ⊢
    ))
  |(
   go_simp;refine hK.out _ _ ((qB.o _).2 (cz T _).drew) (λaM=>?_);clear hK K;refine pt ?_;clear aM;refine Xl (F:=λV=>wpAnyH _ _ _ _ _ _ _ _ V) λY3 tY=>?_;have aM:=(qB.o _).2 tY.A;refine r1 7 λK hK=>?_;go_simp;refine(P3.o _ f (H B.C tY.A)).mono ?_;rintro e Y1 ⟨a1,m1,rfl,L,hb⟩;have HE:J (zL Y1 a1 (c.nodes.map λx=>oO x f)/\Below T.1.size T Y1/\Y1.1[δ T.1]?=B' kN):=⟨L,H tY.A hb,aL hb tY.a⟩;clear L hb;refine hK.out _ _ ((qB.o _).2 HE.b) (λaM=>?_);clear hK K;refine pt ?_;refine r1 8 λK hK=>?_;go_simp;refine(Ic.o _ n f _ _ (H B.C HE.b) HE.a).mono ?_;rintro e Z ⟨vC,a2,n2,m2,rfl,l,hb⟩;have HZ:J (Z.1[δ T.1]?=B' kN/\dK Z vC a2 n2 m2 (P.say pr n (jL c f))/\Below T.1.size T Z/\δ T.1<=δ T.1):=⟨aL hb HE.B,l,H HE.b hb,aF⟩;clear l hb;refine hK.out _ _ ((qB.o _).2 HZ.c) (λaM=>?_);clear hK K;refine pt ?_;clear aM;obtain⟨qe,WZ⟩:=Ea T.1.size;have HQE:=hid WZ;have X!:J (Z.1[qe]?=B' kN/\dK Z vC a2 n2 m2 (P.say pr n (jL c f))/\Below T.1.size T Z/\δ T.1<=qe):=by rw[WZ];exact HZ.o
   rw[<-WZ];clear WZ;have HZ:=X!
   )
 all_goals
   have aM:=(qB.o _).2 HZ.c;refine r1 10 λK hK=>?_;obtain⟨k1,k2⟩:=M HZ.a;go_simp;refine hK.out _ _ ((qB.o _).2 ((HZ.c.setCell HZ.C _).setCell HZ.C _)) (λaM=>?_);clear k1 k2;clear hK K;refine pt ?_;refine wpAnyH_done au ?_ _;clear aM
 all_goals
   refine Xk (F:=λV=>Exit.then _ _ _ _ V) HZ.a λU HU=>?_;have g:=HZ.C;have Ch:J (U.1[qe]?=B' _/\dK U vC a2 n2 m2 (P.say pr n (jL c f))/\Below T.1.size T U/\U.1[xb]?=B' _/\U.1[δ w.1]?=B' _):=⟨HU.a,HU.C HZ.b,HU.c HZ.c g,aL (HU.c HZ.c g) B.b,aL (HU.c HZ.c g) B.c⟩;clear g;go_upto_region 15 with fail
   have g:=kT (x:=f+1) (b:=1) (by unfold aP;simp;omega) aj aj;rw[LA]at g;refine wp_region_held_drew (S:=λW'=>Bl U W') au aQ.drew (λaM=>?_);refine tq 0 (o' (dO w.1.size)) ?_;refine tr 1 (G pr) (λW' bN=>(M (aL bN Ch.D)).1) ?_;refine tr 2 (l' #[i' fa fl fc,i' ra rl rc,j' O',G f,i' va F vc]) (λW' bN=>(M (aL bN Ch.d)).1) ?_;refine tq 3 (qJ xb) ?_;refine tr 4 (G f) (λW' bN=>(M (aL bN Ch.d)).1) ?_;refine tq 5 (G (f+1)) ?_;refine tr 7 (l' #[j' vC,i' a2 n2 m2]) (λW' bN=>(M (aL bN Ch.a)).1) ?_;refine r1 6 λK hK=>?_;go_simp;refine(HEN.o _ (H HTW.o (H Ch.c aQ.drew))).mono ?_;rintro e Y4 ⟨nb6,a6,n6,m6,rfl,l,hb⟩;have HY4:J (dK Y4 nb6 a6 n6 m6 (oO (c.at n) (f+1))/\Bl U Y4):=⟨l.at,H aQ.drew hb⟩;clear l hb;refine hK.out _ _ HY4.A (λaM=>?_);clear hK K;refine pt ?_;obtain⟨t,j⟩:=Ea (Ew pr (oO (c.at n) (f+1)) (P.say pr n (jL c f)));have HC:J (∀W,Bl Y4 W->Cl 72 #[G pr,l' #[j' nb6,i' a6 n6 m6],l' #[j' vC,i' a2 n2 m2]] W (Rb W (j' t))):=λW hW=>by rw[j];exact HBL.o W nb6 vC a6 a2 n6 m6 n2 m2 _ _ (HY4.a.below hW) ((Ch.b.below HY4.A).below hW) (by have:=agA.o (f+1);rwa[<-HPR.o]at this) (HOK.A n f)
   have HL2:J (vW P c n=(t&&(range F).all (erV P c n))):=by rw[j];exact HLS.o (by trivial)
   clear j;refine r1 8 λK hK=>?_;go_simp;refine(HC.o _ aQ).mono ?_;rintro e Z2 ⟨rfl,hb⟩;have X!:J (Bl U Z2):=H HY4.A hb;clear hb;refine hK.out _ _ X!.o (λaM=>?_);clear hK K;refine pt ?_;refine tq 9 (j' t) ?_;refine wpAnyH_done au ?_ _;clear aM;have HZB:J (Bl w Z2/\Z2.1[xb]?=B' _/\Z2.1[δ w.1]?=B' _/\Below T.1.size T Z2):=⟨H B.C (H Ch.c X!.o),aL X!.o Ch.d,aL X!.o Ch.D,H Ch.c X!.o⟩;cases t
   · go_wp2_with fail
     go_ret;exact⟨by rw[H8.o IE.B (by rw[HL2.o];rfl)];rfl,HZB.a⟩
   go_wp2_with fail;go_loopw[13] (λf wr=>∃j:Nat,j<=F/\f=G j/\J ((range j).all (erV P c n)=O'/\Bl Z2 wr)) (λf _=>F-(intOf f).toNat)
   case atStart=>exact⟨0,bj,rfl,rfl,aQ⟩
   obtain⟨j,f,rfl,N⟩:=hrel;have E:=M (aL N.A HZB.b);by_cases hlj:j<F;rotate_left
   · have acn:¬(j:Int)<F:=I
     obtain rfl:F=j:=I;go_wp2_with fail;go_roundw
     case rel=>exact⟨n+1,rW,f',λ_=>by trivial,by rw[c8,HK.b,HL2.o,N.a];rfl,H HK.B (H HTW.o (H HZB.C N.A))⟩
     exact G'
   have acn:(j:Int)<F:=I;obtain⟨v,hv⟩:=La (l:=(c.at n).vals) (i:=j) (by rw[<-HVN.o];exact hlj);obtain⟨b6,o6,hva,c0,c1,c2,u,c4,c5⟩:=(Vv.a.below (H HTW.o (H HZB.C N.A))) j v hv;subst hva;have f:erV P c n j=(!v.bJ||K6 (P.say pr n (jL c v.rank)) j):=by rw[erV,hv,<-HPR.o]
   have Ye:=hid f;have HCV:=hid c5;clear f hv c0 c1 c2 c4 c5;generalize v.rank=rv at Ye HCV;cases f:v.bJ
   · rw[f]at u Ye
     go_wp2_with fail;go_roundw
     case rel=>exact⟨j+1,hlj,f',by rw[c8,N.a,Ye.o];rfl,N.A⟩
     exact G'
   rw[f]at u Ye;clear f;go_upto_region 22 with fail
   clear u E;have Ya:J (Bl w wr/\wr.1[xb]?=B' _/\wr.1[δ w.1]?=B' _):=⟨H HZB.a N.A,aL N.A HZB.b,aL N.A HZB.c⟩;obtain⟨tc,u⟩:=Ea wr.1.size;have qB:J (∀W,Below tc wr W↔Below wr.1.size wr W):=λW=>by rw[u]
   clear u;refine wp_region_held_drew (S:=λW'=>Below tc wr W') au ((qB.o _).2 aQ.drew) (λaM=>?_);refine tq 0 (vh pb) ?_;refine tq 1 (o' (dO w.1.size)) ?_;refine tr 2 (G pr) (λW' bN=>(M (aL ((qB.o _).1 bN) Ya.B)).1) ?_;refine tq 3 (G n) ?_;refine tr 4 (l' #[G pr,G 1,i' (B' (O b o)) (ζ D) nc]) (λW' bN=>(M (aL ((qB.o _).1 bN) Ya.B)).1) ?_;refine tq 5 (o' (B' (O xb 4))) ?_;refine tr 6 (oY b6 o6 F vc) (λW' bN=>(M (aL ((qB.o _).1 bN) Ya.b)).1) ?_;refine tq 7 (G j) ?_;refine tq 8 (o' (B' (O b6 (o6+j*6)))) ?_;refine tq 9 (o' (B' (O b6 (o6+j*6+5)))) ?_;refine tr 10 (G rv) (λW' bN=>ax HCV.o ((qB.o _).1 bN)) ?_;refine wpAnyH_ready (rs:=[11,13]) au ak ?_;refine AllReadyH.cons rfl (λK hK=>?_) (AllReadyH.cons rfl (λK hK=>?_) AllReadyH.nil)
   all_goals first
    | (
     go_simp;refine(P3.o _ rv Ya.a.drew).mono ?_;rintro e Y1 ⟨a1,m1,rfl,L,hb⟩;have HE:J (zL Y1 a1 (c.nodes.map λx=>oO x rv)/\Below wr.1.size wr Y1):=⟨L,H aQ.drew hb⟩;clear L hb;refine hK.out _ _ ((qB.o _).2 HE.A) (λaM=>?_);clear hK K;refine pt ?_;refine wpAnyH_ready (rs:=[12,13]) au ak ?_;refine AllReadyH.cons rfl (λK hK=>?_) (AllReadyH.cons rfl (λK hK=>?_) AllReadyH.nil)
     all_goals first
      |(
       go_simp;refine(Ic.o _ n rv _ _ (H Ya.a HE.A) HE.a).mono ?_;rintro e Y2 ⟨vC,a2,n2,m2,rfl,l,hb⟩;have HS:J (dK Y2 vC a2 n2 m2 (P.say pr n (jL c rv))/\Below wr.1.size wr Y2):=⟨l,H HE.A hb⟩;clear l hb;refine hK.out _ _ ((qB.o _).2 HS.A) (λaM=>?_);clear hK K;refine pt ?_;refine r1 13 λK hK=>?_;go_simp;refine hK.out _ _ ((qB.o _).2 (H HS.A bf)) (λaM=>?_);clear hK K;refine pt ?_;clear aM;refine gS (F:=λV=>wpAnyH _ _ _ _ _ _ _ _ V) λZ tY=>?_;have HZ:J (Z.1[δ Y2.1]?=B' kN/\dK Z vC a2 n2 m2 (P.say pr n (jL c rv))/\Below wr.1.size wr Z/\δ wr.1<=δ Y2.1):=⟨tY.a,HS.a.below tY.b,H HS.A tY.b,HS.A.size⟩;generalize δ Y2.1=qe at HZ⊢
      )
      |(
       go_simp;refine hK.out _ _ ((qB.o _).2 (H HE.A bf)) (λaM=>?_);clear hK K;refine pt ?_;clear aM;refine gS (F:=λV=>wpAnyH _ _ _ _ _ _ _ _ V) λY3 tY=>?_;have aM:=(qB.o _).2 (H HE.A tY.b);refine r1 12 λK hK=>?_;go_simp;refine(Ic.o _ n rv _ _ (H Ya.a (H HE.A tY.b)) (HE.a.below tY.b)).mono ?_;rintro e Z ⟨vC,a2,n2,m2,rfl,l,hb⟩;have HZ:J (Z.1[δ Y1.1]?=B' kN/\dK Z vC a2 n2 m2 (P.say pr n (jL c rv))/\Below wr.1.size wr Z/\δ wr.1<=δ Y1.1):=⟨aL hb tY.a,l,H (H HE.A tY.b) hb,HE.A.size⟩;clear l hb;refine hK.out _ _ ((qB.o _).2 HZ.c) (λaM=>?_);clear hK K;refine pt ?_;clear aM;generalize δ Y1.1=qe at HZ⊢
      ))
    |(
     go_simp;refine hK.out _ _ ((qB.o _).2 (cz wr _).drew) (λaM=>?_);clear hK K;refine pt ?_;clear aM;refine Xl (F:=λV=>wpAnyH _ _ _ _ _ _ _ _ V) λY3 tY=>?_;have aM:=(qB.o _).2 tY.A;refine r1 11 λK hK=>?_;go_simp;refine(P3.o _ rv (H Ya.a tY.A)).mono ?_;rintro e Y1 ⟨a1,m1,rfl,L,hb⟩;have HE:J (zL Y1 a1 (c.nodes.map λx=>oO x rv)/\Below wr.1.size wr Y1/\Y1.1[δ wr.1]?=B' kN):=⟨L,H tY.A hb,aL hb tY.a⟩;clear L hb;refine hK.out _ _ ((qB.o _).2 HE.b) (λaM=>?_);clear hK K;refine pt ?_;refine r1 12 λK hK=>?_;go_simp;refine(Ic.o _ n rv _ _ (H Ya.a HE.b) HE.a).mono ?_;rintro e Z ⟨vC,a2,n2,m2,rfl,l,hb⟩;have HZ:J (Z.1[δ wr.1]?=B' kN/\dK Z vC a2 n2 m2 (P.say pr n (jL c rv))/\Below wr.1.size wr Z/\δ wr.1<=δ wr.1):=⟨aL hb HE.B,l,H HE.b hb,aF⟩;clear l hb;refine hK.out _ _ ((qB.o _).2 HZ.c) (λaM=>?_);clear hK K;refine pt ?_;clear aM;obtain⟨qe,WZ⟩:=Ea wr.1.size;have HQE:=hid WZ;have X!:J (Z.1[qe]?=B' kN/\dK Z vC a2 n2 m2 (P.say pr n (jL c rv))/\Below wr.1.size wr Z/\δ wr.1<=qe):=by rw[WZ];exact HZ.o
     rw[<-WZ];clear WZ;have HZ:=X!
     )
   all_goals
     have aM:=(qB.o _).2 HZ.c;refine r1 14 λK hK=>?_;obtain⟨k1,k2⟩:=M HZ.a;go_simp;refine hK.out _ _ ((qB.o _).2 ((HZ.c.setCell HZ.C _).setCell HZ.C _)) (λaM=>?_);clear k1 k2;clear hK K;refine pt ?_;refine wpAnyH_done au ?_ _;clear aM
   all_goals
     refine Xk (F:=λV=>Exit.then _ _ _ _ V) HZ.a λb HU=>?_;have HUC:J (b.1[qe]?=B' _/\dK b vC a2 n2 m2 (P.say pr n (jL c rv))/\Below wr.1.size wr b):=⟨HU.a,HU.C HZ.b,HU.c HZ.c HZ.C⟩;obtain⟨sy,u⟩:=Ea (P.say pr n (jL c rv));have hos:=HOK.A n rv;rw[<-u]at HUC Ye hos;clear u;have E:=M HUC.a;have HF8:J (K6 sy j=P'->vl=8):=λq=>H8.o IE.B (by rw[HL2.o,dW];exact kR (by rw[Ye.o,q];rfl) hlj);cases sy with
     |none=>obtain rfl:vC=O':=HUC.b;exact Zi
     |some vs=>
       obtain⟨TG,hn2,hvv,_⟩:=HUC.b;have Z3:=(hos vs rfl).1;have hlv:F=P.nv:=HVN.o.trans (Vv.A (by trivial));obtain⟨u,hu⟩:=La (l:=vs) (i:=j) I;obtain⟨b,b,ha2,d0,d1,d2⟩:=hvv j u hu;have b:(j:Int)<n2:=I;have her:K6 (B' vs) j=u.any:=by show(vs.getD j _).any=_;rw[getD,hu];rfl
       rw[her]at Ye HF8;subst TG ha2;clear hos Z3 hlv hu d1 d2 hvv her hn2;cases b:u.any
       ·rw[b]at d0 HF8;exact Zi
       rw[b]at d0 Ye;go_wp2_with fail;go_roundw
       case rel=>exact⟨j+1,hlj,f',by rw[c8,N.a,Ye.o];rfl,H N.A HUC.B⟩
       exact G'
def ac8(b k:Nat):((O b 0):Addr).add k=(O b k):=by unfold Addr.add;split<;>simp_all
def row_one{W:u'}{B e n a:Nat}{q:x'}{D:List A'}(h:ρ W B e 1 (i' q n a) (ζ D) D){i:Nat}{v:A'}(R:D[i]?=B' v):∃g,q=B' (O g 0)/\χ W (O g i)=B' v:=by
 have S:=(bm.1 R).1;rcases h.2 with⟨_,e⟩|⟨g,a,Y,e,_⟩
 ·omega
 cases e;have C:=h.cells (g:=g) rfl i v R;rw[ac8]at C;exact⟨g,rfl,C⟩
def adI(k:Nat):(k:Int).tdiv 4=((k / 4:Nat):Int):=by rw[Int.tdiv_eq_ediv_of_nonneg I];omega
def adD(k:Nat)(h:k<=100000):wrap64 ((k / 4:Nat):Int)=((k / 4:Nat):Int)/\wrap64 (-7-((k / 4:Nat):Int))=-7-((k / 4:Nat):Int):=by unfold wrap64;omega
def Rt(h:p:=by
 have S:=adI k;obtain⟨b,c⟩:=adD k I;have a:((-7-((k / 4:Nat):Int)) !=(-7-((k / 4:Nat):Int)))=P':=ak;clear p;go_wp2;clear S b c a
 exact⟨⟨j+1,I,rfl,N⟩,by simp only[intOf];omega⟩):p:=h
def Rs(h:p:=by
 have C:¬(j:Int)<n:=I;clear p;go_wp2
 exact⟨⟨k+1,I,rfl,N⟩,by simp only[intOf];omega⟩):p:=h
def Ks(c B:Nat)(T q h:x')(b a D:Nat)(o g:A')(U P K:List A')(w:u')(d:BN w c B (aO T (ζ U) b) (i' q (ζ P) a) (aO h (ζ K) D) o g U P K)(C:ζ K<=100000):
  Cl 33 (di c) w (Rb w (j' O')):=by
 have s:=hid d;clear d;go_enter func33,ntmps33;go_wp2;go_loopw[3] (λi x=>i=G 0/\J (Bl w x)) (λ_ _=>0)
 ·exact⟨rfl,aQ⟩
 obtain⟨rfl,c⟩:=hrel;obtain⟨W,k⟩:=M (s.o.below c.o).box;simp only[dn]at W;go_wp2;clear W k;go_loopw[5] (λi wr=>∃k:Nat,k<=ζ K/\i=G k/\J (Bl w wr)) (λi _=>ζ K-(intOf i).toNat)
 ·exact⟨0,bj,rfl,c⟩
 obtain⟨k,a,rfl,b⟩:=hrel;obtain⟨E,g⟩:=M (s.o.below b.o).box;simp only[dn]at E;by_cases L:k<ζ K;rotate_left
 ·have a:¬(k:Int)<(ζ K:Int):=I;go_wp2;clear E g;go_ret;exact⟨rfl,b.o⟩
 have a:(k:Int)<(ζ K:Int):=I;go_wp2;obtain⟨v,R⟩:=La L;obtain⟨q,n,c,rfl,y,p⟩:=(s.o.m5 k v R).form;have B:=hid R;clear R y p E g;go_loopw[6] (λi x=>∃j:Nat,j<=n/\i=G j/\J (Bl w x)) (λi _=>n-(intOf i).toNat)
 ·exact⟨0,bj,rfl,b⟩
 obtain⟨j,f,rfl,N⟩:=hrel;have r:=s.o.below N.o;obtain⟨a,d⟩:=M r.box;simp only[dn]at a;obtain⟨g,rfl,Q⟩:=row_one r.r5 B.o;obtain⟨t,u,a,o,y,p⟩:=(r.m5 k _ B.o).form;cases o;have l:n<=9223372036854775807:=y;clear r y;by_cases z:j<n;rotate_left
 ·exact Rs
 have C:(j:Int)<n:=I;obtain⟨b,rfl,Y⟩:=p j 0 _ z rfl;obtain⟨X,V,a⟩:=p j 3 _ z rfl;cases V;simp only[cC,gN,bW,gD]at Y a;exact Rt
def Kr(bb B:Nat)(T q h:x')(qd X D:Nat)(wn rn:A')(U P K:List A')(w:u')(t2:BN w bb B (aO T (ζ U) qd) (i' q (ζ P) X) (aO h (ζ K) D) wn rn U P K)(a:ζ U<=100000)(a:ζ P<=100000)(u:ζ K<=100000):
  Cl 12 (di bb) w (Rb w (j' O')):=by
 have s:=hid t2;clear t2;go_enter func12,ntmps12;go_wp2;go_loopw[3] (λi wr=>∃k:Nat,k<=ζ U/\i=G k/\J (Bl w wr)) (λi _=>ζ U-(intOf i).toNat)
 ·exact⟨0,bj,rfl,aQ⟩
 obtain⟨k,hk,rfl,V⟩:=hrel;obtain⟨E,x2⟩:=M (s.o.below V.o).box;simp only[dn]at E;by_cases L:k<ζ U
 ·have F:(k:Int)<(ζ U:Int):=I;go_wp2;obtain⟨v,R⟩:=La L;obtain⟨ao,n,t3,rfl,y,p⟩:=(s.o.m1 k v R).form;have HV:=hid R;clear R y p E x2;go_loopw[4] (λi x=>∃j:Nat,j<=n/\i=G j/\J (Bl w x)) (λi _=>n-(intOf i).toNat)
  ·exact⟨0,bj,rfl,V⟩
  obtain⟨j,f,rfl,N⟩:=hrel;have r:=s.o.below N.o;obtain⟨y1,d⟩:=M r.box;simp only[dn]at y1;obtain⟨g,rfl,Q⟩:=row_one r.r1 HV.o;obtain⟨t,n',c',o,y,p⟩:=(r.m1 k _ HV.o).form;cases o;have l:n<=9223372036854775807:=y;clear r y;by_cases z:j<n;rotate_left
  ·exact Rs
  have C:(j:Int)<n:=I;obtain⟨t2,rfl,Y⟩:=p j 0 _ z rfl;simp only[cC,gN,bW,gD,LB]at Y;exact Rt
 have F:¬(k:Int)<(ζ U:Int):=I;go_wp2;clear E x2;go_loopw[5] (λi x=>i=G 0/\J (Bl w x)) (λ_ _=>0)
 ·exact⟨rfl,V⟩
 obtain⟨rfl,HZ⟩:=hrel;obtain⟨W,z2⟩:=M (s.o.below HZ.o).box;simp only[dn]at W;go_wp2;clear W z2;go_loopw[7] (λi wr=>∃k:Nat,k<=ζ P/\i=G k/\J (Bl w wr)) (λi _=>ζ P-(intOf i).toNat)
 ·exact⟨0,bj,rfl,HZ⟩
 obtain⟨k,hk,rfl,V⟩:=hrel;obtain⟨E,x2⟩:=M (s.o.below V.o).box;simp only[dn]at E;by_cases L:k<ζ P;rotate_left
 ·have F:¬(k:Int)<(ζ P:Int):=I;go_wp2_with fail;clear E x2;refine D' (Ks bb B T q h qd X D wn rn U P K _ (s.o.below V.o) u) λe y0=>?_;have W:=hid (H V.o y0);clear y0;go_wp2;go_ret;exact⟨rfl,W.o⟩
 have F:(k:Int)<(ζ P:Int):=I;go_wp2;obtain⟨v,R⟩:=La L;obtain⟨ao,n,t3,rfl,y,p⟩:=(s.o.m4 k v R).form;have HV:=hid R;clear R y p E x2;go_loopw[8] (λi x=>∃j:Nat,j<=n/\i=G j/\J (Bl w x)) (λi _=>n-(intOf i).toNat)
 ·exact⟨0,bj,rfl,V⟩
 obtain⟨j,f,rfl,N⟩:=hrel;have r:=s.o.below N.o;obtain⟨y1,d⟩:=M r.box;simp only[dn]at y1;obtain⟨g,rfl,Q⟩:=row_one r.r4 HV.o;obtain⟨t,n',c',o,y,p⟩:=(r.m4 k _ HV.o).form;cases o;have l:n<=9223372036854775807:=y;clear r y;by_cases z:j<n;rotate_left
 ·exact Rs
 have C:(j:Int)<n:=I;obtain⟨t2,rfl,t⟩:=p j 0 _ z rfl;obtain⟨X,V,Y⟩:=p j 1 _ z rfl;cases V;obtain⟨X,V,t2⟩:=p j 2 _ z rfl;cases V;obtain⟨X,V,t3⟩:=p j 3 _ z rfl;cases V;obtain⟨X,V,F⟩:=p j 4 _ z rfl;cases V;obtain⟨X,V,B⟩:=p j 5 _ z rfl;cases V;simp only[cC,gN,bW,gD]at t Y t2 t3 F B;exact Rt
