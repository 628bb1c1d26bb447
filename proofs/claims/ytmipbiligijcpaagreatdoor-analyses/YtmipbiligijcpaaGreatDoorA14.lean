import Derived.Test.YtmipbiligijcpaaGreatDoorA10
import Derived.Test.YtmipbiligijcpaaGreatDoorA06
namespace Go.Proofs.YtmipbiligijcpaaGreatDoor
set_option linter.all false
set_option maxHeartbeats 0
set_option maxRecDepth 99999
open Go.RowKit Go.Proofs Go.Maps Tryz List open List renaming length->ζ open _root_.Array renaming size->δ open World renaming setCell->κ,ownsRow->ρ,cell?->χ open Value renaming ownBlock->φ open Value renaming slice->g',bool->h',agg->j',string->k',tuple->o' open Obj renaming cells->i' open Ending renaming returned->n' open Option renaming some->z',none->A' open Bool renaming true->N',false->O'
variable {B N T a c f i k m n p q t:Nat}{D:List y'}{W:p'}
def kx0:Key:=((O',0,0),0,(O',0,0))
def Io(ks:List Key)(v:Int)(m:Nat):BS:=(range m).foldl (λs i=>if qC (ks.getD i kx0) v then fU s (de [i]) else s) (0,0)
def EB(ks:List Key)(n:SN):BS:=if hU n then Io ks n.var (ζ ks) else(0,0)
def zf(R:List Key)(v:Int)(m:Nat):Io R v (m+1)=if qC (R.getD m kx0) v then fU (Io R v m) (de [m]) else Io R v m:=by simp[Io,kq]
def Ki(R:List Key)(v:Int):∀m,m<=128->b! (Io R v m)
 |0,_=>(show b! (0,0)from⟨aj,aj⟩)
 |m+1,h=>by
  have B:=Ki R v m I;rw[zf];split
  .exact ib B<|oR I
  exact B
def BO(N:x')(wa:t')(wl wc:Nat)(ea:t')(V B:Nat)(n:SN)(a:t')(c:Nat)(R:List Key)(w:p')(h:Hx w a R)(hl:ζ R<=60)(b:0<=n.aH):
  Cl 288 #[j'<|aS N (g' wa wl wc) n<|g' ea V B,g' a (ζ R) c] w (Rb w<|cW<|EB R n):=by
 have Ev:J (∀W,Cl 282 #[j'<|aS N (g' wa wl wc) n<|g' ea V B] W<|Rb W<|h'<|hU n):=λW=>(lO N _ _ n W b).mono λe w' c=>⟨c.1,by rw[c.2];exact bA⟩;obtain⟨t,o⟩:=Ea<|hU n;have HE:J (EB R n=if t then Io R n.var (ζ R) else(0,0)):=by show _=_;rw[o];rfl
 rw[<-o]at Ev;have HH:=hid h;clear o h b;obtain⟨x,q,op,Y,⟨ai,f,ac⟩,⟨bi,D,bc⟩,g⟩:=n;simp only[aS]at Ev HE|-;generalize EB R _=z at HE|-;go_enter func288,ntmps288;go_upto_region 2 with(fail)
 generalize j:((w.alloc<|i' #[k' N,g' wa wl wc,G x,G q,G op,G Y,h' ai,G f,G ac,h' bi,G D,G bc,g' ea V B,k' g] 152).alloc gY).alloc gY=c;have U:J (Bl w c/\b' c w.1.size #[k' N,g' wa wl wc,G x,G q,G op,G Y,h' ai,G f,G ac,h' bi,G D,G bc,g' ea V B,k' g] 152/\c.1[δ w.1+1]?=z' lC/\c.1[δ w.1+1+1]?=z' lC):=by subst j;obtain⟨c,e1,e2,_⟩:=qd w (i' #[k' N,g' wa wl wc,G x,G q,G op,G Y,h' ai,G f,G ac,h' bi,G D,G bc,g' ea V B,k' g] 152) gY gY<|i' #[] 0;rw[bR<|by simp;try omega]at c e1 e2;exact⟨eD,c,e1,e2⟩
 clear j;have E:=A U.b;have c:=blt U.C;cases t
 .rw[aA ak]at HE;go_wp2_with (go_at_call 282;refine(Ev.o _).mono ?_;rintro e t ⟨rfl,l⟩;have r:=hid l;clear l E;have E:=A<|aG r.o U.C;have y1:=A<|aG r.o U.c);have v:=aG r.o U.c;have r0:χ (κ t (O (δ w.1+1) 0)<|Z 0) (O (δ w.1+1) 0)=z' (Z 0):=by rw[(A<|H v _).1];rfl
  have r1:χ (κ (κ t (O (δ w.1+1) 0)<|Z 0) (O (δ w.1+1) 1)<|Z 0) (O (δ w.1+1) 1)=z' (Z 0):=by rw[(A<|H (H v _) _).1];rfl
  refine aE (v:=cW (0,0)) (by simp[results288,go_sem,cW,r0,r1]) rfl ⟨by rw[HE.o],?_⟩;exact((aq U.a r.o).setCell G' _).setCell G' _
 rw[aD rfl]at HE;go_wp2_with (go_at_call 282;refine(Ev.o _).mono ?_;rintro e t ⟨rfl,l⟩;have r:=hid l;clear l E);generalize j' #[k' N,g' wa wl wc,G x,G q,G op,G Y,h' ai,G f,G ac,h' bi,G D,G bc,g' ea V B,k' g]=c;go_loopw[14] (λc wr=>∃j:Nat,j<=ζ R/\c=G j/\J (Bl w wr/\wr.1[δ w.1]?=z' (i' #[k' N,g' wa wl wc,G x,G q,G op,G Y,h' ai,G f,G ac,h' bi,G D,G bc,g' ea V B,k' g] 152 (0,0))/\wr.1[δ w.1+1]?=z' lC/\wr.1[δ w.1+1+1]?=z' (i' #[Z ((Io R q j).1:Int),Z ((Io R q j).2:Int)] 267 (0,0)))) (λc _=>ζ R-(intOf c).toNat)
 case atStart=>exact⟨0,bm,rfl,aq U.a r.o,aG r.o U.b,aG r.o U.c,aG r.o U.C⟩
 clear r;obtain⟨j,f,rfl,r⟩:=hrel;have D:=blt r.C;by_cases L:j<ζ R;rotate_left
 .have c:¬(j:Int)<(ζ R:Int):=I;have f:j=ζ R:=I;have x:=r.C;rw[f,<-HE.o]at x;have E:=A x;have y1:=A r.c;have n1:δ w.1+1≠δ w.1+1+1:=I;go_wp2_with fail;have v:=r.c;have r0:χ (κ wr (O (δ w.1+1) 0)<|Z z.1) (O (δ w.1+1) 0)=z' (Z z.1):=by rw[(A<|H v _).1];rfl
  have r1:χ (κ (κ wr (O (δ w.1+1) 0)<|Z z.1) (O (δ w.1+1) 1)<|Z z.2) (O (δ w.1+1) 1)=z' (Z z.2):=by rw[(A<|H (H v _) _).1];rfl
  refine aE (v:=cW z) (by simp[results288,go_sem,cW,r0,r1]) rfl ⟨rfl,?_⟩;exact(r.a.setCell G' _).setCell G' _
 have c:(j:Int)<(ζ R:Int):=I;obtain⟨k,F⟩:=La L;obtain⟨b,o,rfl,X⟩:=(HH.o.below r.a) j k F;have T:χ wr (O b<|o+j*7)=z' (h' k.1.1):=X 0 _ rfl;have c1:χ wr (O b<|o+j*7+1)=z' (G k.1.2.1):=X 1 _ rfl;have p:χ wr (O b<|o+j*7+2)=z' (G k.1.2.2):=X 2 _ rfl;have c3:χ wr (O b<|o+j*7+3)=z' (G k.2.1):=X 3 _ rfl;have c4:χ wr (O b<|o+j*7+4)=z' (h' k.2.2.1):=X 4 _ rfl;have c5:χ wr (O b<|o+j*7+5)=z' (G k.2.2.2.1):=X 5 _ rfl;have c6:χ wr (O b<|o+j*7+6)=z' (G k.2.2.2.2):=X 6 _ rfl;have l:Io R q (j+1)=if qC k q then fU (Io R q j) (de [j]) else Io R q j:=by rw[zf,getD,F];rfl
 have Xy:=Ki R q j I;obtain⟨u,C⟩:=Ea<|Io R q j;rw[<-C]at l Xy;have HX:=hid<|Aa l (show wr.1[δ w.1+1+1]?=z' (xS u.1 u.2)by rw[C];exact r.C);have CI:J (∀W,Cl 333 #[j'<|tW k,G q] W<|Rb W<|h'<|qC k q):=λW=>PO k q W;obtain⟨yes,s⟩:=Ea<|qC k q;rw[<-s]at CI HX;simp only[tW]at CI;clear C l F X s;go_upto_region 7 with(fail)
 generalize l:wr.alloc (i' (r6 k.1.1 k.1.2.1 k.1.2.2 k.2.1 k.2.2.1 k.2.2.2.1 k.2.2.2.2) 430)=V;have HV:J (Bl wr V/\b' V wr.1.size (r6 k.1.1 k.1.2.1 k.1.2.2 k.2.1 k.2.2.1 k.2.2.2.1 k.2.2.2.2) 430):=by subst l;exact⟨bA,cv⟩
 clear l T c1 p c3 c4 c5 c6;have E:=A HV.A;have y1:=A<|aG HV.a r.b;cases yes
 .go_wp2_with (go_at_call 333;refine(CI.o _).mono ?_;rintro e F ⟨rfl,p⟩;have l:=hid<|aq HV.a p;clear p E y1);go_roundw
  case rel=>
   refine⟨j+1,L,e',aq r.a l.o,aG l.o r.b,aG l.o r.c,?_⟩;rw[HX.a];exact aG l.o HX.A
  exact F'
 have s:J (∀X b,χ X (O b 0)=z' (G j)->Cl 241 (oq b) X (Rb X<|cW<|de [j])):=λX b T=>mc X b j I T;have HU:J (∀(X:p') b,χ X (O b 0)=z' (Z u.1)->χ X (O b 1)=z' (Z u.2)->χ X (O b 2)=z' (Z ((de [j]).1:Int))->χ X (O b 3)=z' (Z ((de [j]).2:Int))->Cl 267 (r7 b) X (Rb X<|cW<|fU u<|de [j])):=λX b D C c N=>by have:=gu X b u (de [j]) Xy (oR I) D C c N;exact this
 have HN:J (Io R q (j+1)=fU u (de [j])):=by rw[HX.a];rfl
 obtain⟨b,Ar⟩:=Ea<|de [j];obtain⟨y,hy⟩:=Ea<|fU u<|de [j];rw[<-hy]at HN HU;rw[<-Ar]at s HU;clear Ar hy Xy;simp only[cW]at s HU;go_upto_region 8 with(go_at_call 333;refine(CI.o _).mono ?_;rintro e F ⟨rfl,p⟩;have l:=hid<|aq HV.a p;clear p E y1)
 have E:=A<|aG l.o HX.A;have b:=l.o.size;have n1:δ w.1+1+1≠δ F.1:=I;have c:=n1.symm;have c:∀(o:Obj)(i:Nat),χ (F.alloc o) (O (δ w.1+1+1) i)=(#[Z u.1,Z u.2]:Array y')[i]?:=λo i=>(bh<|rY F o _ I).trans<|E.1 i
 go_region_law (first|(go_simp;refine bP (s.o _ _ ak) ?_;rintro e o ⟨rfl,Y⟩;have D:J (Bl F o):=aq ay Y;clear E Y;have E:=A<|aG D.o<|aG l.o HX.A)|(go_simp;refine bP (HU.o _ _ ak ak ak ak) ?_;rintro e b ⟨rfl,v⟩;have k:J (Bl F b):=aq (aq D.o ay) v;clear E v;have E:=A<|aG k.o<|aG l.o HX.A))
 all_goals
  go_wp2_with fail;go_roundw
  case rel=>
   have p:=aq l.o k.o;refine⟨j+1,L,e',((aq r.a p).setCell G' _).setCell G' _,?_,?_,?_⟩
   .rw[aJ G',aJ G'];exact aG p r.b
   .rw[aJ G',aJ G'];exact aG p r.c
   rw[HN.o];exact Aw (aG p HX.A) y
  exact F'
def tK(g cap nv rb B k:Nat)(D:List NC)(P:Pm)(rl:List RR)(e:Ef)(w:p')(hP:PM w g cap D P)(hO:cN P)(hk:k<ζ P.nd)(hS:Sys w B rb 2 393 404 rl)(hl:ζ rl=ζ P.nd)(hB:B<=δ w.1)(XG:∀r∈rl,ζ r.es<=200):
  Cl 285 #[du rb<|ζ P.nd,je g (ζ P.nd) cap nv,G k,EE e] w λr b=>(∃v,r=n' v)/\∃a,Sys b B rb 2 393 404 a/\a.map RR.pr=(P.qk k).foldl (λl t=>wL l k (t,vH e)) (rl.map RR.pr)/\TF B 393 404 w b:=by
 have BN:=True.intro;exact adY
section
variable {c:List RR}{r:RR}{F:Nat->RA}
abbrev kA(N:Nat)(F:Nat->RA):List RA:=(range N).map F
def BG(N k:Nat)(F:Nat->RA)(g:RA->RA):(kA N F).modify k g=kA N λn=>if n=k then g (F n) else F n:=by
 refine et λj=>?_;rw[IJ,a!,a!];by_cases f:j<N
 .rw[j7 f];by_cases e:k=j
  .subst e;simp
  simp[e,jH e]
 rw[cq<|H' f];simp
def NQ(N t:Nat)(F:Nat->RA)(x:Nat×y'):wL (kA N F) t x=kA N λn=>if n=t then((F n).1,(F n).2++[x]) else F n:=BG N t F _
def UW(N k:Nat)(e:y'):∀(R:List Nat)(F:Nat->RA),R.foldl (λl t=>wL l k (t,e)) (kA N F)=kA N λn=>if n=k then((F n).1,(F n).2++R.map λt=>(t,e)) else F n
 |[],F=>by rw[qT];refine eQ λn _=>?_;split<;>simp
 |t::R,F=>by
  rw[ij,NQ,UW N k e R];congr 1;funext n;split
  .rename_i h;simp[h]
  rename_i h;simp[h]
def T1(N:Nat)(x:Nat×y'):∀(R:List Nat)(j:Nat)(F:Nat->RA),R.foldl (λl t=>wL l t x) (kA N F)=kA N λn=>((F n).1,(F n).2++(fm n j R).map λ_=>x)
 |[],j,F=>by rw[qT];refine eQ λn _=>?_;simp[fm]
 |t::R,j,F=>by
  rw[ij,NQ,T1 N x R<|j+1];congr 1;funext n;simp only[fm];by_cases h:n=t
  .subst h;simp
  have s:¬t=n:=λe=>h e.symm;simp[h,s]
def Sys.start{s z:BS}(h:Sys W B a 2 T p c)(U:p≠T)(v:c[k]?=z' r)(y:r.st=fV s):
  Sys (κ (κ W (O a<|k*3)<|Z z.1) (O a<|k*3+1)<|Z z.2) B a 2 T p (c.set k ⟨fV z,r.ea,r.ec,r.es⟩):=by
 have o:=(aX.1 v).1;have b:∀q,q≠a->(κ (κ W (O a<|k*3)<|Z z.1) (O a<|k*3+1)<|Z z.2).1[q]?=W.1[q]?:=λq a=>(aJ a).trans<|aJ a;refine⟨?_,h.low,?_,?_,?_⟩
 .rw[H (H h.dy _) _];congr 2;rw[cj,cj];congr 1;have V:=pJ c k r ⟨[Z z.1,Z s.2],r.ea,r.ec,r.es⟩ 0 (Z z.1) h.len v I (by simp[n0,y,fV,RR.ev]);rw[e!]at V;rw[V];have u:=pJ (c.set k ⟨[Z z.1,Z s.2],r.ea,r.ec,r.es⟩) k ⟨[Z z.1,Z s.2],r.ea,r.ec,r.es⟩ ⟨fV z,r.ea,r.ec,r.es⟩ 1 (Z z.2) (by intro x F;rcases gJ F with F|rfl;(· exact h.len x F);rfl) (by rw[e5,aD rfl,aD o]) I (by simp[n0,fV,RR.ev]);rw[u,set_set]
 .intro x F;rcases gJ F with F|rfl
  .exact h.len x F
  rfl
 .intro x F
  have l:ρ W B p 2 x.ev (ζ x.es) (ix x.es):=by
   rcases gJ F with F|rfl
   .exact h.row x F
   exact h.row r<|aO v
  refine⟨l.1,?_⟩;rcases l.2 with a|⟨g,e,Y,C,f,N,d⟩
  .exact aP a
  refine aR ⟨g,e,Y,C,f,(b g ?_).trans N,d⟩;rintro rfl;rw[h.dy]at N;simp at N;exact U N.2.symm
 intro i j a b S f t;have d:∀{i:Nat} {a:RR},(c.set k ⟨fV z,r.ea,r.ec,r.es⟩)[i]?=z' a->∃g,c[i]?=z' g/\g.ev=a.ev:=by
  intro i a S;rw[e5]at S;by_cases e:k=i
  .subst e;rw[aD rfl,aD o]at S;cases S;exact⟨r,v,rfl⟩
  rw[aA e]at S;exact⟨a,S,rfl⟩
 obtain⟨g,c,e⟩:=d S;obtain⟨X,a,b⟩:=d f;rw[<-e,<-b];exact h.wG i j g X c a t
def Sys.su{v v':y'}(h:Sys W B a 2 T p c):TF B T p W (κ (κ W (O a<|k*3) v) (O a<|k*3+1) v'):=by
 refine⟨(aQ.setCell h.low _).setCell h.low _,λq L t f e C b=>?_⟩;have s:q≠a:=by rintro rfl;rw[h.dy]at e;simp at e;exact C e.2.1.symm
 rw[aJ s,aJ s]
def JZ{st:List y'}(U:c.map RR.pr=kA N F)(b:c[k]?=z' r):(c.set k ⟨st,r.ea,r.ec,r.es⟩).map RR.pr=kA N λn=>if n=k then(st,(F n).2) else F n:=by
 have e:(c.set k ⟨st,r.ea,r.ec,r.es⟩).map RR.pr=(c.map RR.pr).modify k λx=>(st,x.2):=by
  refine et λj=>?_;rw[a!,e5,IJ,a!];by_cases s:k=j
  .subst s;rw[aD rfl,aD (aX.1 b).1,b];simp[RR.pr]
  rw[aA s];cases c[j]?<;>simp[s]
 rw[e,U,BG]
def FY(U:c.map RR.pr=kA N F)(b:k<N):∃r,c[k]?=z' r/\r.st=(F k).1/\r.es=(F k).2:=by
 have X:ζ c=N:=by have:=cZ length U;simpa using this
 have h:=cZ (λl=>l[k]?) U;obtain⟨r,a⟩:=La (l:=c) (i:=k) I;simp only[a!,a,gK,j7 b,dU,RR.pr]at h;exact⟨r,a,by rw[<-h],by rw[<-h]⟩
def yL(U:c.map RR.pr=kA N F):ζ c=N:=by have:=cZ length U;simpa using this
def Dg{m:Nat}(U:c.map RR.pr=kA N F)(hF:∀n,n<N->ζ (F n).2<=m):∀r∈c,ζ r.es<=m:=by intro r a;obtain⟨j,f⟩:=gF.1 a;have X:=(aX.1 f).1;rw[yL U]at X;obtain⟨g,C,_,N⟩:=FY U X;rw[f]at C;cases C;rw[N];exact hF j X
end
section
variable {F:Nat->RA}{c:List RR}{r:RR}
def ef0:Ef:=⟨(0,0),(0,0)⟩
def Qn:RA:=([Z 0,Z 0],[])
def S1(n:SN):Ef:=if hU n then⟨de [n.var.toNat],(0,0)⟩ else ef0
def S0(P:Pm)(n:Nat):RA:=(fV<|QX<|P.at n,(P.qk n).map λt=>(t,vH<|S1<|P.at n))
def upto(F:Nat->RA)(k:Nat)(n:Nat):RA:=if n<k then F n else Qn
def N!(F:Nat->RA)(N:Nat):kA N (upto F 0)=replicate N Qn:=by refine CD.2 ⟨ak,λb a=>?_⟩;obtain⟨n,_,rfl⟩:=bG.1 a;simp[upto]
def E0(F:Nat->RA)(N:Nat):kA N (upto F N)=kA N F:=eQ λn K=>by simp[upto,cx.1 K]
def EZ(hF:∀n,n<N->ζ (F n).2<=m):∀n,n<N->ζ (upto F k n).2<=m:=by
 intro n K;unfold upto;split
 .exact hF n K
 simp[Qn]
def J4{P:Pm}(h:cN P){n:SN}(K:n∈P.nd):∀o∈nu n,o.aU=N'->0<=o.var/\o.var<128:=by
 have R:=h.nv;intro o a i;have b:=h.a n K;have c:=h.b n K;unfold nu at a;unfold dZ at b c;split at a
 .rename_i d;simp at a;subst a;have:=b (by split<;>simp_all) i;omega
 split at a
 .rename_i d;simp at a;rcases a with rfl|rfl
  .have:=b (by split<;>simp_all) i;omega
  have:=c (by simp_all) i;omega
 simp at a
def Sys.deep{f:Nat}(h:Sys W B a m T p c)(v:f<=B):Sys W f a m T p c:=by
 refine⟨h.dy,bX v h.low,h.len,λr a=>?_,h.wG⟩;have D:=h.row r a;refine⟨D.1,?_⟩;rcases D.2 with a|⟨g,b,Y,C,c,N⟩
 .exact aP a
 exact aR ⟨g,b,Y,C,bX v c,N⟩
def Sys.two{s:BS}(h:Sys W B a 2 T p c)(b:c[k]?=z' r)(y:r.st=fV s):(χ W (O a<|k*3)=z' (Z s.1)/\W.frozen? (O a<|k*3)=O')/\χ W (O a<|k*3+1)=z' (Z s.2)/\W.frozen? (O a<|k*3+1)=O':=
 ⟨h.cell (j:=0) b<|by simp[n0,y,fV],h.cell (j:=1) b<|by simp[n0,y,fV]⟩
def zI{b:List RR}{st:List y'}{R:List Nat}{e:y'}(U:b.map RR.pr=kA N (upto F k))(c:b[k]?=z' r)(hF:F k=(st,R.map λt=>(t,e))):R.foldl (λl t=>wL l k (t,e)) ((b.set k ⟨st,r.ea,r.ec,r.es⟩).map RR.pr)=kA N (upto F<|k+1):=by
 rw[JZ U c,UW];refine eQ λn _=>?_;by_cases h:n=k
 .subst h;simp[upto,Qn,hF]
 have:n<k+1↔n<k:=I;simp[h,upto,this]
def afX{p:Prop}(h:p:=by
 subst u;have l:=aq c.B<|cf t<|.cells (eu rb N) 260;have hs:=c.a.below<|cf t<|.cells (eu rb N) 260
 exact⟨aq U.a l,aG l U.b,aG l U.B,cv,hs.deep U.a.size,by rw[c.b,N!]⟩):p:=h
def S5(g cap:Nat)(nl:List NC)(P:Pm)(w:p')(hP:PM w g cap nl P)(h:cN P):
  Cl 221 #[je g (ζ P.nd) cap P.nv] w λe w'=>∃rb d,e=n' (o' #[du rb<|ζ P.nd,G P.nv])/\Sys w' w.1.size rb 2 393 404 d/\d.map RR.pr=kA (ζ P.nd) (S0 P)/\Bl w w':=by
 have p:=h.most;have i:=h.nv;have s:=hid<|Aa hP h;have f:J (∀W,Cl 280 #[je g (ζ P.nd) cap P.nv] W λe w'=>∃rb d,e=n' (du rb<|ζ P.nd)/\Sys w' W.1.size rb 2 393 404 d/\d.map RR.pr=replicate (ζ P.nd) Qn/\Bl W w'):=λW=>lG g (ζ P.nd) cap P.nv W p;have a:∀n,n<ζ P.nd->ζ (S0 P n).2<=200:=by intro n K;obtain⟨c,R,_,_,_,q,B,_⟩:=hP.nodes K;have:=(h.nx R<|aO q).1;simp[S0,B];omega
 obtain⟨N,b⟩:=Ea<|ζ P.nd;obtain⟨Q,c⟩:=Ea P.nv;rw[<-b]at p a;rw[<-c]at i;rw[<-b,<-c]at f|-;have K:=hid<|Aa b<|Aa c a;clear hP h b c a;simp only[je,du]at f|-;go_enter func221,ntmps221;go_upto_region 1 with(fail)
 generalize u:(w.alloc<|i' (fC g N cap Q) 86).alloc (i' EM 260)=a;have U:J (Bl w a/\a.1[δ w.1]?=z' (i' (fC g N cap Q) 86 (0,0))/\a.1[δ w.1+1]?=z' um):=by subst u;exact⟨dH,hJ.1,hJ.2⟩
 clear u;have E:=A U.b;go_upto_region 2 with(go_at_call 280;refine(f.o _).mono ?_;rintro e t ⟨rb,d,rfl,S,Y,l⟩;have c:=hid<|Aa S<|Aa Y l;clear S Y l E)
 generalize u:t.alloc (i' (eu rb N) 260)=F;have p:J (Bl w F/\F.1[δ w.1]?=z' (i' (fC g N cap Q) 86 (0,0))/\F.1[δ w.1+1]?=z' um/\F.1[δ t.1]?=z' (i' (eu rb N) 260 (0,0))/\Sys F w.1.size rb 2 393 404 d/\d.map RR.pr=kA N (upto (S0 P) 0)):=by exact afX
 clear u;have a:δ w.1+1<δ t.1:=by have:=c.B.size;have:=blt U.B;omega
 have B:rb<δ t.1:=blt c.a.dy;have b:δ w.1+1<rb:=by have:=c.a.low;have:=blt U.B;omega
 generalize δ t.1=sb at p a B|-;have E:=A p.b;go_wp2_with fail;clear E;go_loopw[13] (λy wr=>∃(i:Nat)(ql:List RR),i<=N/\y=G i/\J (Sys wr w.1.size rb 2 393 404 ql/\ql.map RR.pr=kA N (upto (S0 P) i)/\TF w.1.size 393 404 F wr)) (λy _=>N-(intOf y).toNat)
 case atStart=>exact⟨0,d,bm,rfl,p.e,p.E,AF⟩
 obtain⟨i,ql,S,rfl,S⟩:=hrel;have D:=blt<|S.B.box p.d aj aj;by_cases L:i<N;rotate_left
 .have a:¬(i:Int)<N:=I;have d:i=N:=I;have Y:=S.B;have E:=A<|Y.box p.d aj aj;have y1:=A<|Y.box p.b aj aj;have z1:=A<|Y.box p.c aj aj;have n1:δ w.1+1≠sb:=I;have n2:=n1.symm;have c:δ w.1+1≠δ w.1:=I;clear Y;go_upto_region 11 with fail
  go_region_law fail
  all_goals
   go_wp2_with fail;have v:wr.1[δ w.1+1]?=z' um:=S.B.box p.c aj aj;have b:=(A<|H (o:=2) (H (o:=1) (H (o:=0) v<|cG rb N) kX) r8).1;refine aE (v:=o' #[du rb N,G Q]) (by simp[results221,go_sem,(A<|H (o:=0) v<|cG rb N).1,(A<|H (o:=1) (H (o:=0) v<|cG rb N) kX).1,b,du]) rfl ⟨rb,rfl,ql,?_,?_,?_⟩
   .exact S.a.keep v ⟨aj,aj⟩ (λk b=>by show(((wr.setCell _ _).setCell _ _).setCell _ _).1[k]?=_;rw[aJ b,aJ b,aJ b])
   .rw[S.b,d,E0]
   exact((((p.a.trans S.B.low)).setCell (by show _<=δ w.1+1;omega) _).setCell (by show _<=δ w.1+1;omega) _).setCell (by show _<=δ w.1+1;omega) _ |>.drew
 have a:(i:Int)<N:=I;have k:=(s.a.below p.a).tf S.B aj aj aj aj;obtain⟨r,R,T,z,B,_,TA,_⟩:=k.nodes (by rw[<-K.a];exact L);have X:=λj (f:j<14)=>(mQ k T j f);have f:=aO z;obtain⟨j,tX⟩:=Ea r.n;rw[<-tX]at X z B f;simp only[NC.wv,NC.ev]at X;generalize r.bB=U at X;generalize r.wa=y at X;generalize r.wl=wl at X;generalize r.wc=wc at X;generalize r.ea=ea at X;generalize r.el=el at X;generalize r.ec=ec at X;have D:J (∀W,Cl 284 #[j'<|aS U (g' y wl wc) j<|g' ea el ec] W<|Rb W<|cW<|QX j):=λW=>QW U (g' y wl wc) (g' ea el ec) j W<|J4 s.A f;have Ev:J (∀W,Cl 282 #[j'<|aS U (g' y wl wc) j<|g' ea el ec] W<|Rb W<|h'<|hU j):=λW=>(lO U _ _ j W (s.A.aH j f).1).mono λe w' V=>⟨V.1,by rw[V.2];exact bA⟩;have Vn:J (hU j=N'->0<=j.var/\j.var<8):=λh=>by have:=s.A.var j f (by simpa[hU]using h);have:=s.A.nv;omega
 obtain⟨c,V⟩:=Ea<|QX j;obtain⟨ok,o⟩:=Ea<|hU j;obtain⟨r,hr,R,XG⟩:=FY S.b L;have d:J (ql[i]?=z' r/\r.st=fV (0,0)/\S0 P i=(fV c,(P.qk i).map λt=>(t,vH<|if ok then⟨de [j.var.toNat],(0,0)⟩ else ef0))):=⟨hr,by rw[R];simp[upto,Qn,fV],by unfold S0 S1;rw[B,V,o]⟩;have gW:J (∀W e b,PM W g cap nl P->Sys W w.1.size rb 2 393 404 b->ζ b=N->δ w.1<=δ W.1->(∀r∈b,ζ r.es<=200)->Cl 285 #[du rb N,je g N cap Q,G i,EE e] W λr w'=>(∃v,r=n' v)/\∃a,Sys w' w.1.size rb 2 393 404 a/\a.map RR.pr=(P.qk i).foldl (λl t=>wL l i (t,vH e)) (b.map RR.pr)/\TF w.1.size 393 404 W w'):=by intro W e b C h2 h3 h4 l;have:=tK g cap Q rb w.1.size i nl P b e W C s.A (by rw[<-K.a];exact L) h2 (by rw[<-K.a];exact h3) h4 l;rw[<-K.a]at this;exact this
 have HF:J (∀x∈ql.set i ⟨fV c,r.ea,r.ec,r.es⟩,ζ x.es<=200):=by
  have b:=Dg S.b<|EZ K.B;intro x q;rcases gJ q with q|q
  .exact b x q
  rw[q];exact b r<|aO hr
 have HL:=hid<|yL S.b;rw[<-V]at D;rw[<-o]at Ev Vn;obtain⟨x,q,op,K,⟨ai,av,b⟩,⟨bi,bv,bc⟩,l⟩:=j;have j:=Oc X;simp only[aS,cW]at D Ev Vn;simp only[du,je,EE]at gW;clear X V o tX z hr R XG B f T k TA;go_upto_region 5 with(fail)
 generalize f:wr.alloc (i' #[k' U,g' y wl wc,G x,G q,G op,G K,h' ai,G av,G b,h' bi,G bv,G bc,g' ea el ec,k' l] 152)=V;have B:J (Below wr.1.size wr V/\V.1[δ wr.1]?=z' (i' #[k' U,g' y wl wc,G x,G q,G op,G K,h' ai,G av,G b,h' bi,G bv,G bc,g' ea el ec,k' l] 152 (0,0))):=by subst f;exact⟨bA,cv⟩
 clear f j;have E:=A<|aG B.a<|S.B.box p.d aj aj;have y1:=A B.A;have X:=B.a.size;have n1:rb≠sb:=I;have n2:=n1.symm
 go_region_law (go_simp;refine bP (D.o _) ?_;rintro e o ⟨rfl,f⟩;have D:J (Bl V o):=aq ay f;clear f E y1;have E:=A<|aG D.o<|aG B.a<|S.B.box p.d aj aj;have y1:=A<|aG D.o B.A;have z1:=((S.a.below B.a).below D.o).two d.a d.b)
 all_goals
  generalize u:κ (κ o (O rb<|i*3)<|Z c.1) (O rb<|i*3+1) (Z c.2)=j;have X:J (Sys j w.1.size rb 2 393 404 (ql.set i ⟨fV c,r.ea,r.ec,r.es⟩)/\TF w.1.size 393 404 F j/\j.1[δ wr.1]?=z' (i' #[k' U,g' y wl wc,G x,G q,G op,G K,h' ai,G av,G b,h' bi,G bv,G bc,g' ea el ec,k' l] 152 (0,0))):=by subst u;have hs:=(S.a.below B.a).below D.o;have Y:=hs.su (k:=i) (v:=Z c.1) (v':=Z c.2);exact⟨hs.start aj d.a d.b,(S.B.trans<|TF.bJ (aq B.a D.o) I).trans Y,Y.box (aG D.o B.A) aj aj⟩
  clear u;clear E y1 z1;generalize δ wr.1=D at X B|-;go_upto_region 7 with fail
  generalize u:j.alloc (i' xT 397)=z;have f:J (Below j.1.size j z/\z.1[δ j.1]?=z' (i' xT 397 (0,0))/\δ w.1<=δ j.1/\δ F.1<=δ j.1):=by subst u;exact⟨bA,cv,by have:=X.b.low.size;have:=blt<|X.b.box p.b aj aj;omega,X.b.low.size⟩
  clear u;have o:=hid<|Aa f.a f.c;generalize δ j.1=k at f|-;have E:=A<|aG o.a X.B;have H6:J (∀W,Bl z W->PM W g cap nl P/\Sys W w.1.size rb 2 393 404 (ql.set i ⟨fV c,r.ea,r.ec,r.es⟩)/\δ w.1<=δ W.1/\TF w.1.size 393 404 F W/\W.1[D]?=z' (i' #[k' U,g' y wl wc,G x,G q,G op,G K,h' ai,G av,G b,h' bi,G bv,G bc,g' ea el ec,k' l] 152 (0,0))/\W.1[sb]?=z' (i' (eu rb N) 260 (0,0))/\W.1[δ w.1]?=z' (i' (fC g N cap Q) 86 (0,0))/\W.1[k]?=z' (i' xT 397 (0,0))):=by intro W j;have b:=aq o.a j;have Y:=X.b.trans<|TF.bJ b o.A;exact⟨(s.a.below p.a).tf Y aj aj aj aj,X.a.below b,bX o.A b.size,Y,aG b X.B,Y.box p.d aj aj,Y.box p.b aj aj,aG j f.b⟩
  have b:=f.C;cases ok
  .go_upto_region 9 with(go_at_call 282;refine(Ev.o _).mono ?_;rintro e U ⟨rfl,f⟩;have u:=hid f;clear f E)
   obtain⟨B,y,l,Y,_,o,x,j⟩:=H6.o U u.o;have E:=A o;have y1:=A x;have z1:=A j;have W:J (Cl 285 #[j'<|eu rb N,j'<|fC g N cap Q,G i,j' xT] U λr w'=>(∃v,r=n' v)/\∃a,Sys w' w.1.size rb 2 393 404 a/\a.map RR.pr=kA N (upto (S0 P)<|i+1)/\TF w.1.size 393 404 F w'):=by refine bP (gW.o U ef0 _ B y (by rw[dh];exact HL.o) l HF.o) ?_;rintro r w' ⟨C,a,h2,h3,h4⟩;exact⟨C,a,h2,h3.trans<|zI S.b d.a d.B,Y.trans h4⟩
   clear B y l Y o x j;go_wp2_with (go_at_call 285;refine W.o.mono ?_;rintro e D ⟨⟨v,rfl⟩,a,V⟩;have b:=hid V;clear V E y1 z1);go_roundw
   case rel=>exact⟨i+1,a,L,e',b.o⟩
   exact F'
  have R:=Vn.o rfl;obtain⟨K,rfl⟩:∃K:Nat,q=(K:Int):=⟨q.toNat,I' R.1⟩;have q:K<128:=by have:=R.2;omega
  have s:J (∀X b,χ X (O b 0)=z' (G K)->Cl 241 (oq b) X (Rb X<|cW<|de [K])):=λX b T=>mc X b K q T;have T:J (S0 P i=(fV c,(P.qk i).map λt=>(t,vH ⟨de [K],(0,0)⟩))):=by show _=_;rw[d.B];simp
  obtain⟨b,q⟩:=Ea<|de [K];rw[<-q]at s T;clear R q;simp only[cW]at s;go_upto_region 8 with(go_at_call 282;refine(Ev.o _).mono ?_;rintro e U ⟨rfl,f⟩;have u:=hid f;clear f E)
  have E:=A (H6.o U u.o).2.2.2.2.1
  skip
  go_upto_region 9 with(go_at_call 241;refine(s.o _ _ ak).mono ?_;rintro e D ⟨rfl,q⟩;have f:=hid<|aq u.o<|aq bA q;clear q E;have z1:=A (H6.o D f.o).2.2.2.2.2.2.2)
  have s:J (PM (κ (κ D (O k 0)<|Z b.1) (O k 1)<|Z b.2) g cap nl P/\Sys (κ (κ D (O k 0)<|Z b.1) (O k 1)<|Z b.2) w.1.size rb 2 393 404 (ql.set i ⟨fV c,r.ea,r.ec,r.es⟩)/\δ w.1<=δ (κ (κ D (O k 0)<|Z b.1) (O k 1)<|Z b.2).1/\TF w.1.size 393 404 F (κ (κ D (O k 0)<|Z b.1) (O k 1)<|Z b.2)/\(κ (κ D (O k 0)<|Z b.1) (O k 1)<|Z b.2).1[sb]?=z' (i' (eu rb N) 260 (0,0))/\(κ (κ D (O k 0)<|Z b.1) (O k 1)<|Z b.2).1[δ w.1]?=z' (i' (fC g N cap Q) 86 (0,0))/\(κ (κ D (O k 0)<|Z b.1) (O k 1)<|Z b.2).1[k]?=z' (i' #[Z b.1,Z b.2,Z 0,Z 0] 397 (0,0))):=by
   obtain⟨B,y,l,Y,_,o,x,j⟩:=H6.o D f.o;have c:∀q,q≠k->(κ (κ D (O k 0)<|Z b.1) (O k 1)<|Z b.2).1[q]?=D.1[q]?:=λq f=>(aJ f).trans<|aJ f;have z:sb≠k:=by rintro rfl;rw[o]at j;simp at j
   have K:δ w.1≠k:=by intro h;rw[<-h,x]at j;simp at j
   refine⟨B.keep λq u t f e U=>c q ?_,y.keep j ⟨aj,aj⟩ c,?_,?_,(c _ z).trans o,(c _ K).trans x,?_⟩
   .rintro rfl;rw[j]at e;simp at e;obtain⟨_,rfl,_⟩:=e;rcases U with h|h<;>exact absurd h aj
   .simpa using l
   .exact⟨(Y.low.setCell (by show _<=k;have:=p.a.size;omega) _).setCell (by show _<=k;have:=p.a.size;omega) _,λq u t f e C h2=>(c q<|I' ((bq.1 e).1)).trans<|Y.keep q u t f e C h2⟩
   rw[H (H j _) _];rfl
  clear z1;generalize(κ D (O k 0)<|Z b.1).setCell (O k 1) (Z b.2)=c at s|-;obtain⟨B,y,l,Y,o,x,j⟩:=s.o;have E:=A o;have y1:=A x;have z1:=A j;have W:J (Cl 285 #[j'<|eu rb N,j'<|fC g N cap Q,G i,j' #[Z b.1,Z b.2,Z 0,Z 0]] c λr w'=>(∃v,r=n' v)/\∃a,Sys w' w.1.size rb 2 393 404 a/\a.map RR.pr=kA N (upto (S0 P)<|i+1)/\TF w.1.size 393 404 F w'):=by refine bP (gW.o c ⟨b,(0,0)⟩ _ B y (by rw[dh];exact HL.o) l HF.o) ?_;rintro r w' ⟨C,a,h2,h3,h4⟩;exact⟨C,a,h2,h3.trans<|zI S.b d.a T.o,Y.trans h4⟩
  clear B y l Y o x j;go_wp2_with (go_at_call 285;refine W.o.mono ?_;rintro e l ⟨⟨v,rfl⟩,a,Y⟩;have W:=hid Y;clear Y E y1 z1);go_roundw
  case rel=>exact⟨i+1,a,L,e',W.o⟩
  exact F'
end
section
variable {P:Pm}{w:p'}{v:y'}
def uU(P:Pm)(st:Nat->List y')(E:Nat->Ef)(k n:Nat):RA:=(st n,(range k).flatMap λm=>(fm n 0<|P.qk m).map λ_=>(m,vH<|E m))
def G3(P:Pm)(E:Nat->Ef)(N:Nat):kA N (uU P (λ_=>fV (0,0)) E 0)=replicate N Qn:=by refine CD.2 ⟨ak,λb a=>?_⟩;obtain⟨n,_,rfl⟩:=bG.1 a;simp[uU,Qn,fV]
def G4(P:Pm)(st:Nat->List y')(E:Nat->Ef)(N k:Nat):(P.qk k).foldl (λl t=>wL l t (k,vH<|E k)) (kA N<|uU P st E k)=kA N (uU P st E<|k+1):=by rw[T1 N (k,vH<|E k) (P.qk k) 0];refine eQ λn _=>?_;simp[uU,kq]
def GN(n:Nat):∀(j:Nat)(R:List Nat),ζ (fm n j R)<=ζ R
 |_,[]=>by simp[fm]
 |j,t::R=>by have:=GN n (j+1) R;simp only[fm];split<;>simp<;>omega
def w?{P:Pm}{st:Nat->List y'}{E:Nat->Ef}(b:∀m,ζ (P.qk m)<=2){n:Nat}:∀k,ζ (uU P st E k n).2<=2*k
 |0=>by simp[uU]
 |k+1=>by have B:=w? b (st:=st) (E:=E) (n:=n) k;have C:=GN n 0<|P.qk k;have N:=b k;simp only[uU,kq,IA,bg,bW,xF,iE,b9]at B|-;omega
def sS(h:cN P)(m:Nat):ζ (P.qk m)<=2:=by
 rw[Pm.qk,getD];cases e:P.nx[m]? with
 |none=>simp
 |some l=>exact(h.nx l<|aO e).1
def yP{a:p'}{T p:Nat}(h:ρ w B t m v n D)(e:TF f T p w a)(C:t≠T)(d:t≠p):ρ a B t m v n D:=by
 refine⟨h.1,?_⟩;rcases h.2 with a|⟨g,b,Y,V,u,c,f⟩
 .exact aP a
 exact aR ⟨g,b,Y,V,u,(e.keep g _ _ _ c C d).trans c,f⟩
def oN(h:ρ w B t m v n D)(d:f<=B):ρ w f t m v n D:=by
 refine⟨h.1,?_⟩;rcases h.2 with a|⟨g,b,Y,V,u,c⟩
 .exact aP a
 exact aR ⟨g,b,Y,V,bX d u,c⟩
def rK(P:Pm):ζ P.ex<=ζ P.nd:=by have:=Uk (ζ P.nd) P;rwa[c! aK]at this
def Ui(h:∀n∈P.nd,nF<|jx n):∀x∈P.ex,nF x:=by have:=DV (ζ P.nd) P h;rwa[c! aK]at this
def uW{n:SN}(K:n∈P.nd)(l:KM n=N'):jx n∈P.ex:=by have:z' (jx n)∈P.nd.map tZ:=bG.2 ⟨n,K,by rw[DW,aD l]⟩;exact(XZ _ _).2 this
def S4(ks:List Key)(n:SN):Ef:=⟨zA ks n,EB ks n⟩
def lkS(ks:List Key)(n:Nat):List y':=fV (if n=0 then jK (ζ ks) else(0,0))
def lkR(P:Pm):Nat->RA:=uU P (lkS P.ex) (λm=>S4 P.ex<|P.at m)<|ζ P.nd
end
def Gt(g cap Q:Nat)(D:List NC)(P:Pm)(w:p')(hP:PM w g cap D P)(q:cN P)(d:∀n∈P.nd,nF<|jx n):
  Cl 222 #[je g (ζ P.nd) cap Q] w λe w'=>∃rb f,e=n' (o' #[du rb<|ζ P.nd,G<|ζ P.ex])/\Sys w' w.1.size rb 2 393 404 f/\f.map RR.pr=kA (ζ P.nd) (lkR P)/\Bl w w':=by
 have p:=q.most;have j:=q.pos;have b:=rK P;have s:=hid<|Aa hP<|Aa q d;have l:J (∀W,Cl 280 #[je g (ζ P.nd) cap Q] W λe w'=>∃rb f,e=n' (du rb<|ζ P.nd)/\Sys w' W.1.size rb 2 393 404 f/\f.map RR.pr=replicate (ζ P.nd) Qn/\Bl W w'):=λW=>lG g (ζ P.nd) cap Q W p;have o:J (∀W,Bl w W->Cl 286 #[je g (ζ P.nd) cap Q] W λe w'=>∃a c,e=n' (bk a (ζ P.ex) c)/\ρ w' W.1.size 430 7 (bk a (ζ P.ex) c) (ζ P.ex) (lH P.ex)/\Bl W w'):=λW hW=>B3 g cap Q D P W (hP.below hW) p d;obtain⟨N,c⟩:=Ea<|ζ P.nd;obtain⟨R,i⟩:=Ea P.ex;rw[<-c]at p j b;rw[<-i]at b;rw[<-c,<-i]at o|-;rw[<-c]at l;have K:=hid<|Aa c i;have k:J (∀W,Cl 208 #[G<|ζ R] W<|Rb W<|cW<|jK<|ζ R):=λW=>ou (ζ R) W I;obtain⟨h,a⟩:=Ea<|jK<|ζ R;rw[<-a]at k;have r:=hid a;clear hP q c i d a;simp only[je,du,cW]at l o k|-;go_enter func222,ntmps222;go_upto_region 1 with(fail)
 generalize u:(w.alloc<|i' (fC g N cap Q) 86).alloc (i' EM 260)=a;have U:J (Bl w a/\a.1[δ w.1]?=z' (i' (fC g N cap Q) 86 (0,0))/\a.1[δ w.1+1]?=z' um):=by subst u;exact⟨dH,hJ.1,hJ.2⟩
 clear u;have E:=A U.b;go_upto_region 2 with(go_at_call 280;refine(l.o _).mono ?_;rintro e t ⟨rb,f,rfl,S,Y,l⟩;have c:=hid<|Aa S<|Aa Y l;clear S Y l E)
 generalize u:t.alloc (i' (eu rb N) 260)=F;have b:J (Bl w F/\F.1[δ w.1]?=z' (i' (fC g N cap Q) 86 (0,0))/\F.1[δ w.1+1]?=z' um/\F.1[δ t.1]?=z' (i' (eu rb N) 260 (0,0))/\Sys F w.1.size rb 2 393 404 f/\f.map RR.pr=kA N (uU P (λ_=>fV (0,0)) (λm=>S4 R<|P.at m) 0)):=by subst u;have l:=aq c.B<|cf t<|i' (eu rb N) 260;have y:=c.a.below<|cf t<|i' (eu rb N) 260;exact⟨aq U.a l,aG l U.b,aG l U.B,cv,y.deep U.a.size,by rw[c.b,G3]⟩
 clear u;have a:δ w.1+1<δ t.1:=by have:=c.B.size;have:=blt U.B;omega
 have B:rb<δ t.1:=blt c.a.dy;generalize δ t.1=sb at b a B|-;have E:=A b.b;go_upto_region 3 with(go_at_call 286;refine(o.o _ b.a).mono ?_;rintro e o ⟨q,t,rfl,a,Y⟩;have z:=hid<|Aa a Y;clear a Y E)
 obtain⟨c,d,TB,_⟩:=FY b.E j;have a:J (f[0]?=z' c/\c.st=fV (0,0)):=⟨d,TB⟩;clear d TB;have E:=A<|aG z.A b.d;have j:rb≠sb:=I;have x:=j.symm;have d:(0:Int)<N:=I
 go_region_law (go_simp;refine bP (k.o _) ?_;rintro e i ⟨rfl,v⟩;have k:J (Bl o i):=aq ay v;clear v E;have E:=A<|aG k.o<|aG z.A b.d;have d:=((b.e.below z.A).below k.o).two a.a a.A;simp only[e6,bH]at d;have o:=d)
 all_goals
  generalize u:κ (κ i (O rb 0)<|Z h.1) (O rb 1) (Z h.2)=C;have U:J (Bl w C/\PM C g cap D P/\ρ C w.1.size 430 7 (g' q (ζ R) t) (ζ R) (lH R)/\Sys C w.1.size rb 2 393 404 (f.set 0 ⟨fV h,c.ea,c.ec,c.es⟩)/\(f.set 0 ⟨fV h,c.ea,c.ec,c.es⟩).map RR.pr=kA N (uU P (lkS R) (λm=>S4 R<|P.at m) 0)/\C.1[δ w.1]?=z' (i' (fC g N cap Q) 86 (0,0))/\C.1[δ w.1+1]?=z' um/\C.1[sb]?=z' (i' (eu rb N) 260 (0,0))):=by
   subst u;have c:=aq z.A k.o;have y:=b.e.below c;have Y:=y.su (k:=0) (v:=Z h.1) (v':=Z h.2);have d:=y.start aj a.a a.A (z:=h);simp only[e6,bH]at Y d;have p:=aq b.a c;refine⟨p.trans Y.low,(s.a.below p).tf Y aj aj aj aj,yP (aZ (oN z.a b.a.size) k.o) Y aj aj,d,?_,Y.box (aG c b.b) aj aj,Y.box (aG c b.c) aj aj,Y.box (aG c b.d) aj aj⟩;rw[JZ b.E a.a];refine eQ λn _=>?_;by_cases a:n=0
   .subst a;simp[uU,lkS,r.o]
   simp[uU,lkS,a]
  clear u;clear E o;have E:=A U.f;go_wp2_with fail;clear E;go_loopw[22] (λy wr=>∃(i:Nat)(b:List RR),i<=N/\y=G i/\J (Sys wr w.1.size rb 2 393 404 b/\b.map RR.pr=kA N (uU P (lkS R) (λm=>S4 R<|P.at m) i)/\TF w.1.size 393 404 C wr)) (λy _=>N-(intOf y).toNat)
  case atStart=>exact⟨0,_,bm,rfl,U.d,U.e,AF⟩
  obtain⟨i,b,S,rfl,u⟩:=hrel;have EC:δ w.1<=δ wr.1:=bX U.a.size u.B.low.size;by_cases L:i<N;rotate_left
  .have a:¬(i:Int)<N:=I;have d:i=N:=I;have Y:=u.B;have v:=Y.box U.g aj aj;have E:=A<|Y.box U.G aj aj;have o:=A v;have j:δ w.1+1≠sb:=I;have x:=j.symm;clear Y;go_wp2_with fail;have F:=(A<|H (o:=2) (H (o:=1) (H (o:=0) v<|cG rb N) kX) r8).1;refine aE (v:=o' #[du rb N,G<|ζ R]) (by simp[results222,go_sem,(A<|H (o:=0) v<|cG rb N).1,(A<|H (o:=1) (H (o:=0) v<|cG rb N) kX).1,F,du]) rfl ⟨rb,rfl,b,?_,?_,?_⟩
   .exact u.a.keep v ⟨aj,aj⟩ (λk c=>by rw[aJ c,aJ c,aJ c])
   .rw[u.b,d,lkR,<-K.a,<-K.A]
   exact(((U.a.trans u.B.low).setCell G' _).setCell G' _).setCell G' _
  have a:(i:Int)<N:=I;have S:=U.b.tf u.B aj aj aj aj;obtain⟨r,a,T,V,hat,_,TA,_⟩:=S.nodes (by rw[<-K.a];exact L);have X:=λj (f:j<14)=>(mQ S T j f);have h:=aO V;obtain⟨j,tX⟩:=Ea r.n;rw[<-tX]at X V hat h;simp only[NC.wv,NC.ev]at X;generalize r.bB=k at X;generalize r.wa=y at X;generalize r.wl=wl at X;generalize r.wc=wc at X;generalize r.ea=ea at X;generalize r.el=Y at X;generalize r.ec=B at X;have o:=yP U.c u.B aj aj;have AS:J (∀W,Bl wr W->Cl 287 #[j'<|aS k (g' y wl wc) j<|g' ea Y B,g' q (ζ R) t] W (Rb W<|cW<|zA R j)):=λW hW=>qG k y wl wc ea Y B j q t R W (zc<|aZ o hW) (by rw[K.A];exact Ui s.B) I λa=>⟨s.B j h,by rw[K.A];exact uW h a⟩;have d:J (∀W,Bl wr W->Cl 288 #[j'<|aS k (g' y wl wc) j<|g' ea Y B,g' q (ζ R) t] W (Rb W<|cW<|EB R j)):=λW hW=>BO k y wl wc ea Y B j q t R W (zc<|aZ o hW) I (s.b.aH j h).1;have E:J (∀W,Bl wr W->Cl 283 #[du rb N,je g N cap Q,G i,EE ⟨zA R j,EB R j⟩] W λr w'=>(∃v,r=n' v)/\∃a,Sys w' w.1.size rb 2 393 404 a/\a.map RR.pr=kA N (uU P (lkS R) (λm=>S4 R<|P.at m)<|i+1)/\TF w.1.size 393 404 C w'/\TF w.1.size 393 404 W w'):=by intro W hW;have:=vQ g cap Q rb w.1.size i D P b ⟨zA R j,EB R j⟩ W (S.below hW) s.b (by rw[<-K.a];exact L) (u.a.below hW) (by rw[<-K.a];exact yL u.b) (bX EC hW.size) (Dg u.b λn _=>by have:=w? (st:=lkS R) (E:=λm=>S4 R<|P.at m) (n:=n) (sS s.b) i;omega);rw[<-K.a]at this;refine this.mono ?_;rintro r w' ⟨C,a,h2,K,s⟩;refine⟨C,a,h2,?_,(u.B.trans<|TF.bJ hW EC).trans s,s⟩;rw[K,u.b,<-G4,hat];rfl
  obtain⟨b,C⟩:=Ea<|zA R j;obtain⟨c,v⟩:=Ea<|EB R j;rw[<-C]at AS E;rw[<-v]at d E;obtain⟨x,q,op,r,⟨P,f,b⟩,⟨bi,D,z⟩,c⟩:=j;have t:=Oc X;simp only[aS,cW,du,je,EE]at AS d E;clear X C v tX V hat h T S TA o;go_upto_region 7 with(fail)
  generalize h:wr.alloc (i' #[k' k,g' y wl wc,G x,G q,G op,G r,h' P,G f,G b,h' bi,G D,G z,g' ea Y B,k' c] 152)=V;have j:J (Bl wr V/\V.1[δ wr.1]?=z' (i' #[k' k,g' y wl wc,G x,G q,G op,G r,h' P,G f,G b,h' bi,G D,G z,g' ea Y B,k' c] 152 (0,0))/\V.1[sb]?=z' (i' (eu rb N) 260 (0,0))/\V.1[δ w.1]?=z' (i' (fC g N cap Q) 86 (0,0))):=by subst h;exact⟨bA,cv,aG bA<|u.B.box U.G aj aj,aG bA<|u.B.box U.f aj aj⟩
  clear h t;have S:J (∀W,TF w.1.size 393 404 V W->χ W (O wr.1.size 0)=z' (k' k)/\χ W (O wr.1.size 1)=z' (g' y wl wc)/\χ W (O wr.1.size 2)=z' (G x)/\χ W (O wr.1.size 3)=z' (G q)/\χ W (O wr.1.size 4)=z' (G op)/\χ W (O wr.1.size 5)=z' (G r)/\χ W (O wr.1.size 6)=z' (h' P)/\χ W (O wr.1.size 7)=z' (G f)/\χ W (O wr.1.size 8)=z' (G b)/\χ W (O wr.1.size 9)=z' (h' bi)/\χ W (O wr.1.size 10)=z' (G D)/\χ W (O wr.1.size 11)=z' (G z)/\χ W (O wr.1.size 12)=z' (g' ea Y B)/\χ W (O wr.1.size 13)=z' (k' c)/\χ W (O sb 0)=z' (cG rb N)/\χ W (O sb 1)=z' kX/\χ W (O sb 2)=z' r8/\χ W (O w.1.size 0)=z' (gX g N cap)/\χ W (O w.1.size 1)=z' (G Q)):=by intro W hW;have R:=(A<|hW.box j.b aj aj).1;have F:=(A<|hW.box j.c aj aj).1;have h:=(A<|hW.box j.C aj aj).1;exact⟨R 0,R 1,R 2,R 3,R 4,R 5,R 6,R 7,R 8,R 9,R 10,R 11,R 12,R 13,F 0,F 1,F 2,h 0,h 1⟩
  have h:δ w.1<=δ V.1:=bX EC j.a.size;have o:=S.o V AF
  go_region_held3 (λw'=>χ w' (O wr.1.size 0)=z' (k' k)/\χ w' (O wr.1.size 1)=z' (g' y wl wc)/\χ w' (O wr.1.size 2)=z' (G x)/\χ w' (O wr.1.size 3)=z' (G q)/\χ w' (O wr.1.size 4)=z' (G op)/\χ w' (O wr.1.size 5)=z' (G r)/\χ w' (O wr.1.size 6)=z' (h' P)/\χ w' (O wr.1.size 7)=z' (G f)/\χ w' (O wr.1.size 8)=z' (G b)/\χ w' (O wr.1.size 9)=z' (h' bi)/\χ w' (O wr.1.size 10)=z' (G D)/\χ w' (O wr.1.size 11)=z' (G z)/\χ w' (O wr.1.size 12)=z' (g' ea Y B)/\χ w' (O wr.1.size 13)=z' (k' c)/\χ w' (O sb 0)=z' (cG rb N)/\χ w' (O sb 1)=z' kX/\χ w' (O sb 2)=z' r8/\χ w' (O w.1.size 0)=z' (gX g N cap)/\χ w' (O w.1.size 1)=z' (G Q)) (go_keep) ((first|(go_at_call 287;refine(AS.o _<|aq j.a ay).mono ?_;rintro e f ⟨rfl,l⟩;have p:Bl V f:=aq ay l;have D:=hid p;have P:=S.o f<|TF.bJ p h;clear l p)|(go_at_call 288;refine(d.o _<|aq j.a<|aq D.o ay).mono ?_;rintro e b ⟨rfl,X⟩;have p:Bl V b:=aq (aq D.o ay) X;have c:=hid p;have o0:=S.o b<|TF.bJ p h;clear X p)|(go_at_call 283;refine(E.o _<|aq j.a<|aq c.o ay).mono ?_;rintro e E ⟨⟨b,rfl⟩,a,h2,K,s,b⟩;have l:=hid<|Aa h2<|Aa K s;have Q:=S.o E ((TF.bJ (aq c.o ay) h).trans b);clear h2 K s b)))
  all_goals
   go_wp2_with fail;go_roundw
   case rel=>exact⟨i+1,a,L,e',l.o⟩
   exact F'
section
variable {R:List Key}{n:SN}
def lzS(ks:List Key)(n:SN):BS:=if n.aH=6 then jK (ζ ks) else fI (EB ks n) (zA ks n)
def lzE(ks:List Key)(n:SN):Ef:=⟨zA ks n,(0,0)⟩
def SZ(P:Pm)(n:Nat):RA:=(fV<|lzS P.ex<|P.at n,(P.qk n).map λt=>(t,vH<|lzE P.ex<|P.at n))
def KN(h:KM n=N'->jx n∈R)(X:ζ R<=60):b! (zA R n):=by
 unfold zA;split
 .rename_i l;exact oR<|I'<|qu<|h l
 exact⟨aj,aj⟩
def Td(X:ζ R<=60):b! (EB R n):=by
 unfold EB;split
 .exact Ki _ _ _ I
 exact⟨aj,aj⟩
def Zl{p:Prop}(h:p:=by
 go_wp2_with (go_at_call 285;refine k.o.mono ?_;rintro e s ⟨⟨v,rfl⟩,a,p⟩;have W:=hid p;clear p E q z1);go_roundw
 case rel=>exact⟨i+1,a,L,e',W.o⟩
 simp[intOf];omega):p:=h
def S!(g cap Q:Nat)(D:List NC)(P:Pm)(w:p')(hP:PM w g cap D P)(k:cN P)(d:∀n∈P.nd,nF<|jx n):
  Cl 223 #[je g (ζ P.nd) cap Q] w λe w'=>∃rb f,e=n' (o' #[du rb<|ζ P.nd,G<|ζ P.ex])/\Sys w' w.1.size rb 2 393 404 f/\f.map RR.pr=kA (ζ P.nd) (SZ P)/\Bl w w':=by
 have p:=k.most;have j:=k.pos;have b:=rK P;have s:=hid<|Aa hP<|Aa k d;have i:J (∀W,Cl 280 #[je g (ζ P.nd) cap Q] W λe w'=>∃rb f,e=n' (du rb<|ζ P.nd)/\Sys w' W.1.size rb 2 393 404 f/\f.map RR.pr=replicate (ζ P.nd) Qn/\Bl W w'):=λW=>lG g (ζ P.nd) cap Q W p;have h:=hid λW hW=>B3 g cap Q D P W (hP.below hW) p d;obtain⟨N,c⟩:=Ea<|ζ P.nd;obtain⟨R,A9⟩:=Ea P.ex;rw[<-c]at p j b;rw[<-A9]at b;rw[<-c,<-A9]at h|-;rw[<-c]at i;have K:=hid<|Aa c A9;have GA:=hid λW=>ou (ζ R) W I;obtain⟨up,a⟩:=Ea<|jK<|ζ R;rw[<-a]at GA;have HU:=hid a;clear hP k c A9 d a;simp only[je,du,cW]at i h GA|-;go_enter func223,ntmps223;go_upto_region 1 with(fail)
 generalize u:(w.alloc<|i' (fC g N cap Q) 86).alloc (i' EM 260)=a;have U:J (Bl w a/\b' a w.1.size (fC g N cap Q) 86/\a.1[δ w.1+1]?=z' um):=by subst u;exact⟨dH,hJ.1,hJ.2⟩
 clear u;have E:=A U.b;go_upto_region 2 with(go_at_call 280;refine(i.o _).mono ?_;rintro e t ⟨rb,f,rfl,S,Y,l⟩;have c:=hid<|Aa S<|Aa Y l;clear S Y l E)
 generalize u:t.alloc (i' (eu rb N) 260)=F;have b:J (Bl w F/\b' F w.1.size (fC g N cap Q) 86/\F.1[δ w.1+1]?=z' um/\b' F t.1.size (eu rb N) 260/\Sys F w.1.size rb 2 393 404 f/\f.map RR.pr=kA N (upto (SZ P) 0)):=by exact afX
 clear u;have a:δ w.1+1<δ t.1:=by have:=c.B.size;have:=blt U.B;omega
 have B:=blt c.a.dy;generalize δ t.1=sb at b a B|-;have E:=A b.b;go_upto_region 3 with(go_at_call 286;refine(h.o _ b.a).mono ?_;rintro e o ⟨c,p,rfl,a,Y⟩;have z:=hid<|Aa a Y;clear a Y E)
 have HT:J (Bl w o/\PM o g cap D P/\ρ o w.1.size 430 7 (bk c (ζ R) p) (ζ R) (lH R)/\Sys o w.1.size rb 2 393 404 f/\f.map RR.pr=kA N (upto (SZ P) 0)/\b' o w.1.size (fC g N cap Q) 86/\o.1[δ w.1+1]?=z' um/\b' o sb (eu rb N) 260):=
  ⟨aq b.a z.A,s.a.below<|aq b.a z.A,oN z.a b.a.size,b.e.below z.A,b.E,aG z.A b.b,aG z.A b.c,aG z.A b.d⟩
 have a:∀n,n<N->ζ (SZ P n).2<=200:=by intro n _;have:=sS s.b n;simp[SZ];omega
 have q:=hid a;clear a;have E:=A HT.f;go_wp2_with fail;clear E;go_loopw[16] (λy wr=>∃(i:Nat)(b:List RR),i<=N/\y=G i/\J (Sys wr w.1.size rb 2 393 404 b/\b.map RR.pr=kA N (upto (SZ P) i)/\TF w.1.size 393 404 o wr)) (λy _=>N-(intOf y).toNat)
 case atStart=>exact⟨0,f,bm,rfl,HT.d,HT.e,AF⟩
 obtain⟨i,b,S,rfl,HK⟩:=hrel;have EC:=bX HT.a.size HK.B.low.size;by_cases L:i<N;rotate_left
 .have a:¬(i:Int)<N:=I;have d:i=N:=I;have U:=HK.B;have Iq:=U.box HT.g aj aj;have E:=A<|U.box HT.G aj aj;have z1:=A Iq;have f:δ w.1+1≠sb:=I;have x:=f.symm;clear U;go_wp2_with fail;have q2:=(A<|H (o:=2) (H (o:=1) (H (o:=0) Iq<|cG rb N) kX) r8).1;refine aE (v:=o' #[du rb N,G<|ζ R]) (by simp[results223,go_sem,(A<|H (o:=0) Iq<|cG rb N).1,(A<|H (o:=1) (H (o:=0) Iq<|cG rb N) kX).1,q2,du]) rfl ⟨rb,rfl,b,?_,?_,?_⟩
  .exact HK.a.keep Iq ⟨aj,aj⟩ (λk hk=>by rw[aJ hk,aJ hk,aJ hk])
  .rw[HK.b,d,E0]
  exact(((HT.a.trans HK.B.low).setCell G' _).setCell G' _).setCell G' _
 have a:(i:Int)<N:=I;have DO:=HT.b.tf HK.B aj aj aj aj;obtain⟨r,a,T,V,hat,_,TA,_⟩:=DO.nodes (by rw[<-K.a];exact L);have X:=λj (f:j<14)=>(mQ DO T j f);have h:=aO V;obtain⟨j,tX⟩:=Ea r.n;rw[<-tX]at X V hat h;simp only[NC.wv,NC.ev]at X;generalize r.bB=k at X;generalize r.wa=y at X;generalize r.wl=wl at X;generalize r.wc=wc at X;generalize r.ea=ea at X;generalize r.el=el at X;generalize r.ec=B at X;have S:=yP HT.c HK.B aj aj;have AS:J (∀W,Bl wr W->Cl 287 #[j'<|aS k (g' y wl wc) j<|g' ea el B,g' c (ζ R) p] W (Rb W<|cW<|zA R j)):=λW hW=>qG k y wl wc ea el B j c p R W (zc<|aZ S hW) (by rw[K.A];exact Ui s.B) I λa=>⟨s.B j h,by rw[K.A];exact uW h a⟩;have d:=hid λW hW=>BO k y wl wc ea el B j c p R W (zc<|aZ S hW) I (s.b.aH j h).1;have CC:J (∀W,Cl 153 #[cW<|EB R j,cW<|zA R j] W<|Rb W<|cW<|fI (EB R j)<|zA R j):=λW=>jJ _ _ W (Td I)<|KN (λa=>by rw[K.A];exact uW h a) I
 obtain⟨r,hr,TC,_⟩:=FY HK.b L;have gW:J (∀(W:p')(z:BS),(if j.aH=6 then up else fI (EB R j) (zA R j))=z->Sys W w.1.size rb 2 393 404 (b.set i ⟨fV z,r.ea,r.ec,r.es⟩)->TF w.1.size 393 404 o W->Cl 285 #[du rb N,je g N cap Q,G i,EE ⟨zA R j,(0,0)⟩] W λr w'=>(∃v,r=n' v)/\∃a,Sys w' w.1.size rb 2 393 404 a/\a.map RR.pr=kA N (upto (SZ P)<|i+1)/\TF w.1.size 393 404 o w'):=by
  intro W z f C p;have c:=Dg HK.b<|EZ q.o
  have:=tK g cap Q rb w.1.size i D P _ ⟨zA R j,(0,0)⟩ W (HT.b.tf p aj aj aj aj) s.b (by rw[<-K.a];exact L) C (by rw[dh,<-K.a];exact yL HK.b) (bX HT.a.size p.low.size) (by
   intro x F;rcases gJ F with F|F
   .exact c x F
   .rw[F];exact c r<|aO hr)
  rw[<-K.a]at this;refine this.mono ?_;rintro c w' ⟨q,a,s,h5,c⟩;refine⟨q,a,s,h5.trans<|zI HK.b hr ?_,p.trans c⟩;rw[SZ,lzS,lzE,hat,<-K.A,<-f,HU.o]
 have HR:J (b[i]?=z' r/\r.st=fV (0,0)):=⟨hr,by rw[TC];simp[upto,Qn,fV]⟩;obtain⟨C,D⟩:=Ea<|zA R j;obtain⟨c,f⟩:=Ea<|EB R j;rw[<-D]at AS;rw[<-f]at d;rw[<-D,<-f]at gW CC;obtain⟨K,Hd⟩:=Ea<|fI c C;rw[<-Hd]at gW CC;obtain⟨c,q,op,s,⟨ai,av,ac⟩,⟨F,bv,z⟩,p⟩:=j;have t:=Oc X;simp only[aS,cW,du,je,EE]at AS d CC gW;clear X D f Hd tX V hat h T DO TA S hr TC;go_upto_region 6 with(fail)
 generalize f:wr.alloc (i' #[k' k,g' y wl wc,G c,G q,G op,G s,h' ai,G av,G ac,h' F,G bv,G z,g' ea el B,k' p] 152)=V;have j:J (Bl wr V/\b' V wr.1.size #[k' k,g' y wl wc,G c,G q,G op,G s,h' ai,G av,G ac,h' F,G bv,G z,g' ea el B,k' p] 152):=by subst f;exact⟨bA,cv⟩
 clear f t;have E:=A j.A;go_upto_region 7 with(go_at_call 287;refine(AS.o _ j.a).mono ?_;rintro e f ⟨rfl,l⟩;have D:=hid l;clear l E)
 generalize u:f.alloc (nI C.1 C.2)=X;have h:J (Bl wr X/\b' X wr.1.size #[k' k,g' y wl wc,G c,G q,G op,G s,h' ai,G av,G ac,h' F,G bv,G z,g' ea el B,k' p] 152/\X.1[δ f.1]?=z' (xS C.1 C.2)/\b' X sb (eu rb N) 260/\b' X w.1.size (fC g N cap Q) 86):=by subst u;have t:=aq (aq j.a D.o)<|cf f<|nI C.1 C.2;exact⟨t,aG bA<|aG D.o j.A,cv,aG t<|HK.B.box HT.G aj aj,aG t<|HK.B.box HT.f aj aj⟩
 clear u;have l:δ wr.1<δ f.1:=by have:=D.o.size;have:=blt j.A;omega
 have j:=blt HK.a.dy;generalize δ f.1=j at h l|-;have S:J (∀W,TF w.1.size 393 404 X W->χ W (O wr.1.size 0)=z' (k' k)/\χ W (O wr.1.size 1)=z' (g' y wl wc)/\χ W (O wr.1.size 2)=z' (G c)/\χ W (O wr.1.size 3)=z' (G q)/\χ W (O wr.1.size 4)=z' (G op)/\χ W (O wr.1.size 5)=z' (G s)/\χ W (O wr.1.size 6)=z' (h' ai)/\χ W (O wr.1.size 7)=z' (G av)/\χ W (O wr.1.size 8)=z' (G ac)/\χ W (O wr.1.size 9)=z' (h' F)/\χ W (O wr.1.size 10)=z' (G bv)/\χ W (O wr.1.size 11)=z' (G z)/\χ W (O wr.1.size 12)=z' (g' ea el B)/\χ W (O wr.1.size 13)=z' (k' p)/\χ W (O sb 0)=z' (cG rb N)/\χ W (O j 0)=z' (Z C.1)/\χ W (O j 1)=z' (Z C.2)):=by intro W hW;have f:=(A<|hW.box h.b aj aj).1;have q2:=(A<|hW.box h.d aj aj).1;have l:=(A<|hW.box h.c aj aj).1;exact⟨f 0,f 1,f 2,f 3,f 4,f 5,f 6,f 7,f 8,f 9,f 10,f 11,f 12,f 13,q2 0,l 0,l 1⟩
 have f:=bX EC h.a.size;have l:=S.o X AF;have D:rb≠sb:=I;have T:rb≠δ wr.1:=I;have l:rb≠j:=I;have V:=D.symm;have D:=T.symm;have D:=l.symm
 go_region_held3 (λw'=>χ w' (O wr.1.size 0)=z' (k' k)/\χ w' (O wr.1.size 1)=z' (g' y wl wc)/\χ w' (O wr.1.size 2)=z' (G c)/\χ w' (O wr.1.size 3)=z' (G q)/\χ w' (O wr.1.size 4)=z' (G op)/\χ w' (O wr.1.size 5)=z' (G s)/\χ w' (O wr.1.size 6)=z' (h' ai)/\χ w' (O wr.1.size 7)=z' (G av)/\χ w' (O wr.1.size 8)=z' (G ac)/\χ w' (O wr.1.size 9)=z' (h' F)/\χ w' (O wr.1.size 10)=z' (G bv)/\χ w' (O wr.1.size 11)=z' (G z)/\χ w' (O wr.1.size 12)=z' (g' ea el B)/\χ w' (O wr.1.size 13)=z' (k' p)/\χ w' (O sb 0)=z' (cG rb N)/\χ w' (O j 0)=z' (Z C.1)/\χ w' (O j 1)=z' (Z C.2)) (go_keep) ((first|(go_at_call 288;refine(d.o _<|aq h.a ay).mono ?_;rintro e d ⟨rfl,Y⟩;have p:Bl X d:=aq ay Y;have l:=hid p;have j:=S.o d<|TF.bJ p f;clear Y p)|(go_at_call 153;refine(CC.o _).mono ?_;rintro e j ⟨rfl,Iq⟩;have p:Bl X j:=aq (aq l.o ay) Iq;have d:=hid p;have o0:=S.o j<|TF.bJ p f;have z1:=((HK.a.below h.a).below p).two HR.a HR.A;clear Iq p)))
 all_goals
  generalize u:κ (κ j (O rb<|i*3)<|Z K.1) (O rb<|i*3+1) (Z K.2)=j;have Y:J (Sys j w.1.size rb 2 393 404 (b.set i ⟨fV K,r.ea,r.ec,r.es⟩)/\TF w.1.size 393 404 o j/\TF w.1.size 393 404 X j):=by subst u;have t:=aq h.a d.o;have hs:=HK.a.below t;have U:=hs.su (k:=i) (v:=Z K.1) (v':=Z K.2);exact⟨hs.start aj HR.a HR.A,(HK.B.trans<|TF.bJ t EC).trans U,(TF.bJ d.o f).trans U⟩
  clear u
  try clear z1
  have A9:=cZ (λx=>x) (rfl:ζ R=ζ R);have E:=A<|Y.B.box h.b aj aj;by_cases hk:c=6;rotate_left
  .clear E;have E:=A<|Y.B.box h.b aj aj;go_upto_region 10 with fail
   clear E;have k:=hid<|gW.o j _ (by simp[hk]) Y.a Y.b;have E:=A<|Y.B.box h.d aj aj;have q:=A<|Y.B.box h.D aj aj;have z1:=A<|Y.B.box h.c aj aj;exact Zl
  go_upto_region 9 with fail
  clear E;have E:=A<|Y.B.box h.d aj aj;have z1:=Y.a.two (k:=i) (r:=⟨fV K,r.ea,r.ec,r.es⟩) (s:=K) (by rw[e5,aD rfl,aD (aX.1 HR.a).1]) rfl
  go_region_law (go_simp;refine bP (GA.o _) ?_;rintro e l ⟨rfl,d⟩;have c:J (Bl j l):=aq ay d;clear d E z1;have E:=A<|aG c.o<|Y.B.box h.d aj aj;have z1:=(Y.a.below c.o).two (k:=i) (r:=⟨fV K,r.ea,r.ec,r.es⟩) (s:=K) (by rw[e5,aD rfl,aD (aX.1 HR.a).1]) rfl)
  all_goals
   generalize u:κ (κ l (O rb<|i*3)<|Z up.1) (O rb<|i*3+1) (Z up.2)=l;have d:J (Sys l w.1.size rb 2 393 404 (b.set i ⟨fV up,r.ea,r.ec,r.es⟩)/\TF w.1.size 393 404 o l/\TF w.1.size 393 404 X l):=by subst u;have hs:=Y.a.below c.o;have h5:δ w.1<=δ j.1:=bX f Y.B.low.size;have U:=hs.su (k:=i) (v:=Z up.1) (v':=Z up.2);have TC:=hs.start (k:=i) (r:=⟨fV K,r.ea,r.ec,r.es⟩) (s:=K) (z:=up) aj (by rw[e5,aD rfl,aD (aX.1 HR.a).1]) rfl;rw[set_set]at TC;exact⟨TC,(Y.b.trans<|TF.bJ c.o h5).trans U,(Y.B.trans<|TF.bJ c.o h5).trans U⟩
   clear u;clear E z1;have k:J (Cl 285 #[j'<|eu rb N,j'<|fC g N cap Q,G i,j' #[Z C.1,Z C.2,Z 0,Z 0]] l λr w'=>(∃v,r=n' v)/\∃a,Sys w' w.1.size rb 2 393 404 a/\a.map RR.pr=kA N (upto (SZ P)<|i+1)/\TF w.1.size 393 404 o w'):=gW.o l _ (by simp[hk]) d.a d.b;have E:=A<|d.B.box h.d aj aj;have q:=A<|d.B.box h.D aj aj;have z1:=A<|d.B.box h.c aj aj;exact Zl
end
section
variable {P:Pm}
def U5(S:i<ζ P.nd)(X:ζ P.nd<=60)(Y:f<128):bt (zA P.ex<|P.at i) f=P.ev i f:=by
 have d:P.at i∈P.nd:=by rw[Pm.at,getD,bj S];exact eG S
 have R:=rK P;rw[zA,Pm.ev,DW];by_cases l:KM (P.at i)=N';rotate_left
 .rw[aA l,aA l,j3]
 have L:=qu<|uW d l;rw[aD l,aD l,qI _ _ Y G'];cases F:P.ex[f]? with
 |none=>have:ζ P.ex<=f:=qQ.1 F;simp;omega
 |some y=>
  have j:=(aX.1 F).1;have b:P.ex.Nodup:=PQ _;simp only[j9];refine xt.2 ⟨λe=>?_,λe=>?_⟩
  .subst e;have:=AQ L;have a:=(aX.1 F).2;rw[<-a,this]
  subst e;have a:=(aX.1 F).2;have:=b.idxOf_getElem f j;rw[a]at this;exact this.symm
def U4{ks:List Key}{v:Int}{f:Nat}(Y:f<128):∀m,m<=60->m<=ζ ks->bt (Io ks v m) f=(decide (f<m)&&match ks[f]? with|some y=>qC y v|none=>O')
 |0,_,_=>by simp[Io,j3]
 |m+1,h,hl=>by
  have B:=U4 (ks:=ks) (v:=v) Y m I I;have a:ks.getD m kx0=ks[m]:=by rw[getD,bj I];rfl
  rw[zf,a];have y:∀b:Bool,(decide (f<m+1)&&b)=((decide (f<m)&&b)||(decide (f=m)&&b)):=by
   intro b;cases b
   .simp
   simp only[xJ];rw[<-Bool.decide_or];exact xt.2 I
  split
  .rename_i R;rw[iy,B,qI _ _ Y G',y];congr 1;by_cases e:f=m
   .subst e;rw[bj I];simp[R]
   simp[e]
  rename_i R;rw[B,y];by_cases e:f=m
  .subst e;rw[bj I];simp[R]
  simp[e]
def aaB(X:ζ P.nd<=60)(Y:f<128):bt (EB P.ex<|P.at i) f=P.kl i f:=by
 have R:=rK P;unfold EB Pm.kl;cases Q:hU (P.at i)
 .simp[j3]
 rw[aD rfl,U4 Y _ I aK];simp only[eN];cases F:P.ex[f]? with
 |none=>simp
 |some y=>have:=(aX.1 F).1;simp[this]
end
section
variable {P:Pm}{p:Prop}{S:SN->BS}{E:Nat->Ef}{r:BS×List (Nat×Ef)}
def UZ{f:Nat}(Y:f<128):∀(a:List lz)(u:BS),(∀o∈a,o.aU=N'->0<=o.var/\o.var<128)->bt (a.foldl (λs o=>if o.aU then fU s (de [o.var.toNat]) else s) u) f=(bt u f||a.any λo=>o.aU&&o.var==(f:Int))
 |[],u,_=>ak
 |o::a,u,h=>by
  rw[ij,UZ Y a _ λx F=>h x<|by simp[F],qM];cases R:o.aU
  .simp
  have D:=h o ak R;rw[aD rfl,iy,qI _ _ Y G',qL];congr 1;congr 1;simp only[eN,j9];rw[cC,xm,dP];omega
def af9{n:SN}(h:∀o∈nu n,o.aU=N'->0<=o.var/\o.var<128)(Y:f<128):bt (QX n) f=VZ n (f:Int):=by
 rw[QX,Ib,UZ Y _ _ h,j3,ko];unfold nu VZ dZ;split
 .simp
 split
 .simp
 simp
def VY(h:cN P){n:SN}(K:n∈P.nd)(C:VZ n (f:Int)=N'):f<P.nv:=by
 unfold VZ at C;simp only[eZ,aY,bM,dP]at C;rcases C with⟨⟨C,a⟩,N⟩|⟨⟨C,a⟩,N⟩
 .have:=h.a n K C a;omega
 have:=h.b n K C a;omega
def wI(P:Pm)(S:SN->BS)(E:SN->Ef):RS:=(range<|ζ P.nd).map λn=>(S<|P.at n,(P.qk n).map λt=>(t,E<|P.at n))
def UX(P:Pm)(S:SN->BS)(E:SN->Ef):Jw (wI P S E)=kA (ζ P.nd) λn=>(fV<|S<|P.at n,(P.qk n).map λt=>(t,vH<|E<|P.at n)):=by rw[Jw,wI,fS];refine eQ λn _=>?_;simp[Function.comp]
def Zj(h:p:=by
 have X:=(aX.1 h).1;simp at X;rw[a!,j7 X]at h;simp at h
 exact⟨X,h.symm⟩):p:=h
def i!{E:SN->Ef}(h:(wI P S E)[n]?=z' r):n<ζ P.nd/\r=(S<|P.at n,(P.qk n).map λt=>(t,E<|P.at n)):=by unfold wI at h;exact Zj
def abW(h:cN P)(m:Nat):∀t∈P.qk m,t<ζ P.nd:=by
 rw[Pm.qk,getD];cases e:P.nx[m]? with
 |none=>simp
 |some l=>exact(h.nx l<|aO e).2
def at_mem{i:Nat}(S:i<ζ P.nd):P.at i∈P.nd:=by rw[Pm.at,getD,bj S];exact eG S
def Ny{E:SN->Ef}(h:cN P)(u:∀n∈P.nd,b!<|S n)(a:∀n∈P.nd,Ew<|E n):Lf (wI P S E) (ζ P.nd):=by
 refine⟨by simp[wI],h.most,λr b=>?_⟩;obtain⟨n,K⟩:=gF.1 b;obtain⟨X,rfl⟩:=i! K;refine⟨u _<|at_mem X,?_,λe l=>?_⟩
 .have:=sS h n;simp;omega
 obtain⟨t,U,rfl⟩:=bG.1 l;exact⟨a _<|at_mem X,abW h n t U⟩
def CL:b! (0,0):=⟨aj,aj⟩
def ab8(h:cN P){n:SN}(K:n∈P.nd):Ew (S1 n):=by
 unfold S1;split
 .rename_i Q;have:=h.var n K (by simpa[hU]using Q);have:=h.nv;exact⟨oR I,CL⟩
 exact⟨CL,CL⟩
def Xh(h:cN P):Es P 2 (wI P QX S1):=by
 have a:=h.nv;have E:P.facts 2=P.nv:=by simp[Pm.facts]
 refine⟨Ny h (λn K=>by have:=Jg (ζ<|nu n) (nu n)<|J4 h K;rwa[c! aK]at this) λn K=>ab8 h K,I,?_,?_,?_,?_⟩
 .intro n r a f Y;obtain⟨X,rfl⟩:=i! a;have d:=at_mem X;simp only;rw[af9 (J4 h d) Y,E];have e:P.st 2 n f=VZ (P.at n) f:=by simp[Pm.st]
  rw[e];cases C:VZ (P.at n) (f:Int)
  .simp
  simp[VY h d C]
 .intro n r a;obtain⟨X,rfl⟩:=i! a;simp[Pm.Qo,qY]
 .intro n r a e l f Y;obtain⟨X,rfl⟩:=i! a;obtain⟨t,U,rfl⟩:=bG.1 l;have:(S1<|P.at n).add=(0,0):=by unfold S1;split<;>rfl
  simp only;rw[this,j3];simp[Pm.ad]
 intro n r a e l f Y;obtain⟨X,rfl⟩:=i! a;obtain⟨t,U,rfl⟩:=bG.1 l;have u:P.ps 2 n t f=!(hU (P.at n)&&(P.at n).var==(f:Int)):=by simp[Pm.ps]
 simp only;rw[u,ub];unfold S1;cases Q:hU (P.at n)
 .simp[ef0,j3]
 have R:=h.var _ (at_mem X) (by simpa[hU]using Q);rw[aD rfl,qI _ _ I G'];simp only[eN,j9];rw[cC,xm,dP];omega
def Zk(h:p:=by
 intro i f b;unfold Pm.kl at b;cases F:P.ex[f]? with
 |none=>rw[F]at b;simp at b
 |some y=>exact(aX.1 F).1):p:=h
def Xk(h:cN P):Es P 4 (wI P (lzS P.ex)<|lzE P.ex):=by
 have p:=h.most;have b:=rK P;have j:P.facts 4=ζ P.ex:=by simp[Pm.facts]
 have z:∀n∈P.nd,b! (zA P.ex n):=λn K=>KN (λl=>uW K l) I;have a:∀i f,P.kl i f=N'->f<ζ P.ex:=by exact Zk
 refine⟨Ny h (λn K=>?_) λn K=>⟨z n K,CL⟩,I,?_,?_,?_,?_⟩
 .unfold lzS;split
  .exact oz _ I
  exact po
 .intro n r c f Y;obtain⟨X,rfl⟩:=i! c;have e:P.st 4 n f=((P.at n).aH==6||(P.kl n f&&!P.ev n f)):=by simp[Pm.st]
  simp only;rw[e,j];unfold lzS;by_cases b:(P.at n).aH=6
  .rw[aD b,vV _ _ I Y];simp[b]
  rw[aA b,lU (z _<|at_mem X) Y,aaB p Y,U5 X p Y];have:((P.at n).aH==6)=O':=by simp[b]
  rw[this,ko];cases o:P.kl n f
  .simp
  simp[a n f o]
 .intro n r c;obtain⟨X,rfl⟩:=i! c;simp[Pm.Qo,qY]
 .intro n r c e l f Y;obtain⟨X,rfl⟩:=i! c;obtain⟨t,U,rfl⟩:=bG.1 l;simp[lzE,j3,Pm.ad]
 intro n r c e l f Y;obtain⟨X,rfl⟩:=i! c;obtain⟨t,U,rfl⟩:=bG.1 l;have u:P.ps 4 n t f=!P.ev n f:=by simp[Pm.ps]
 simp only[lzE];rw[u,ub,U5 X p I]
def wE(P:Pm)(S:Nat->BS)(E:Nat->Ef):RS:=(range<|ζ P.nd).map λn=>(S n,(range<|ζ P.nd).flatMap λm=>(fm n 0<|P.qk m).map λ_=>(m,E m))
def T5(P:Pm)(S:Nat->BS)(E:Nat->Ef):Jw (wE P S E)=kA (ζ P.nd) (uU P (λn=>fV<|S n) E<|ζ P.nd):=by rw[Jw,wE,fS];refine eQ λn _=>?_;simp[qY,uU,map_flatMap]
def iV{S:Nat->BS}(h:(wE P S E)[n]?=z' r):n<ζ P.nd/\r=(S n,(range<|ζ P.nd).flatMap λm=>(fm n 0<|P.qk m).map λ_=>(m,E m)):=by unfold wE at h;exact Zj
def BT(n:Nat):∀(l:List<|List Nat)(i:Nat),(dD n i l).map Prod.fst=(range<|ζ l).flatMap λj=>(fm n 0<|l.getD j []).map λ_=>i+j
 |[],i=>by simp[dD]
 |x::l,i=>by
  rw[dD,fq,BT n l<|i+1,bU,range_succ_eq_map,bW,flatMap_map];congr 1
  .simp[qY]
  have e:∀j,i+1+j=i+(j+1):=λj=>I;simp[e]
def y7{e:Nat×Ef}(h:e∈(range<|ζ P.nd).flatMap λm=>(fm n 0<|P.qk m).map λ_=>(m,E m)):e.1<ζ P.nd/\e.2=E e.1:=by obtain⟨m,d,l⟩:=mem_flatMap.1 h;obtain⟨_,_,rfl⟩:=bG.1 l;exact⟨cx.1 d,rfl⟩
def M8{S:Nat->BS}(h:cN P)(u:∀n,b!<|S n)(a:∀m,m<ζ P.nd->Ew (E m)):Lf (wE P S E) (ζ P.nd):=by
 refine⟨by simp[wE],h.most,λr b=>?_⟩;obtain⟨n,K⟩:=gF.1 b;obtain⟨X,rfl⟩:=iV K;refine⟨u n,?_,λe l=>?_⟩
 .have C:=w? (st:=λn=>fV<|S n) (E:=E) (n:=n) (sS h)<|ζ P.nd;have b:=h.most;have N:ζ ((range<|ζ P.nd).flatMap λm=>(fm n 0<|P.qk m).map λ_=>(m,E m))=ζ (uU P (λn=>fV<|S n) E (ζ P.nd) n).2:=by simp[uU,length_flatMap]
  simp only;rw[N];omega
 obtain⟨C,b⟩:=y7 l;exact⟨by rw[b];exact a _ C,C⟩
def T4{p:Int}(U:p=1\/p=3)(F:ζ P.nx=ζ P.nd):((range<|ζ P.nd).flatMap λm=>(fm n 0<|P.qk m).map λ_=>(m,E m)).map Prod.fst=P.Qo p n:=by have z:¬(p=2\/p=4):=I;rw[Pm.Qo,Pm.ins,aA z,BT,F,map_flatMap];simp[qY,Pm.qk]
def Kh(h:cN P)(F:ζ P.nx=ζ P.nd):Es P 3 (wE P (λn=>if n=0 then jK (ζ P.ex) else(0,0)) λm=>S4 P.ex<|P.at m):=by
 have p:=h.most;have b:=rK P;have u:P.facts 3=ζ P.ex:=by simp[Pm.facts]
 have z:∀n∈P.nd,b! (zA P.ex n):=λn K=>KN (λl=>uW K l) I;have a:∀i f,P.kl i f=N'->f<ζ P.ex:=by exact Zk
 refine⟨M8 h (λn=>?_) λm d=>⟨z _<|at_mem d,Td I⟩,I,?_,?_,?_,?_⟩
 .split
  .exact oz _ I
  exact CL
 .intro n r b f Y;obtain⟨X,rfl⟩:=iV b;have e:P.st 3 n f=(n==0):=by simp[Pm.st]
  simp only;rw[e,u];by_cases D:n=0
  .rw[aD D,vV _ _ I Y];simp[D]
  rw[aA D,j3];simp[D]
 .intro n r b;obtain⟨X,rfl⟩:=iV b;exact T4 (aR rfl) F
 .intro n r b e l f Y;obtain⟨X,rfl⟩:=iV b;obtain⟨C,c⟩:=y7 l;have d:P.ad 3 e.1 f=P.kl e.1 f:=by simp[Pm.ad]
  rw[c,d,u];simp only[S4];rw[aaB p Y];cases o:P.kl e.1 f
  .simp
  simp[a _ f o]
 intro n r b e l f Y;obtain⟨X,rfl⟩:=iV b;obtain⟨C,c⟩:=y7 l;have d:P.ps 3 n e.1 f=!P.ev e.1 f:=by simp[Pm.ps]
 rw[c,d,ub];simp only[S4];rw[U5 C p I]
end
section
variable {P:Pm}
def D5:∀(l r:List SN)(i:Nat),nS i (l++r)=nS i l++nS (i+ζ l) r
 |[],r,i=>by simp[nS]
 |n::l,r,i=>by have B:=D5 l r<|i+1;have e:i+1+ζ l=i+(ζ l+1):=I;rw[fW,nS,nS,B,bU,e];split<;>simp
def D3:∀(l:List SN)(i m:Nat),m∈nS i l↔∃j n,l[j]?=z' n/\hU n=N'/\m=i+j
 |[],i,m=>by simp[nS]
 |x::l,i,m=>by
  have B:=D3 l (i+1) m;constructor
  .intro h;rw[nS]at h;split at h
   .rename_i F;rcases cM.1 h with rfl|h
    .exact⟨0,x,rfl,F,I⟩
    obtain⟨j,n,C,a,N⟩:=B.1 h;exact⟨j+1,n,H' C,a,I⟩
   obtain⟨j,n,C,a,N⟩:=B.1 h;exact⟨j+1,n,H' C,a,I⟩
  rintro⟨j,n,C,a,N⟩;rw[nS];cases j with
  |zero=>simp at C;subst C;rw[aD a];simp[N]
  |succ j=>
   have:=B.2 ⟨j,n,H' C,a,I⟩;split
   .simp[this]
   exact this
def B6:∀(l:List SN)(i:Nat),(nS i l).Nodup
 |[],i=>by simp[nS]
 |x::l,i=>by
  have B:=B6 l<|i+1;rw[nS];split
  .refine Cm.2 ⟨λh=>?_,B⟩;obtain⟨j,n,_,_,N⟩:=(D3 l (i+1) i).1 h;omega
  exact B
def D4:∀(l:List SN)(i:Nat),ζ (nS i l)<=ζ l
 |[],i=>by simp[nS]
 |x::l,i=>by have B:=D4 l<|i+1;rw[nS];split<;>simp<;>omega
def p6(P:Pm)(k:Nat):Nat:=P.nv+ζ (nS 0<|P.nd.take k)
def Ux(P:Pm):p6 P 0=P.nv:=by simp[p6,nS]
def Yc(P:Pm):p6 P (ζ P.nd)=P.facts 1:=by simp[p6,Pm.facts]
def Uy(a:k<ζ P.nd):p6 P (k+1)=if hU (P.at k) then p6 P k+1 else p6 P k:=by
 have e:P.at k=P.nd[k]:=by unfold Pm.at;rw[getD,bj a];rfl
 unfold p6;rw[ep a,D5,e];simp only[nS];split<;>simp<;>omega
def KT(a:k<ζ P.nd)(Q:hU (P.at k)=N'):(nS 0 P.nd)[p6 P k-P.nv]?=z' k:=by
 have e:P.at k=P.nd[k]:=by rw[Pm.at,getD,bj a];rfl
 have C:P.nd=P.nd.take k++P.nd[k]::P.nd.drop (k+1):=by rw[getElem_cons_drop,ug]
 have a:nS 0 P.nd=nS 0 (P.nd.take k)++k::nS (k+1) (P.nd.drop<|k+1):=by
  conv=>lhs;rw[C]
  rw[D5,nS,<-e,aD Q];have:0+ζ (P.nd.take k)=k:=by rw[jk];omega
  rw[this]
 rw[a];rw[p6,IZ,eB aK];simp
def p7{m:Nat}:P.mU f=z' m↔m<ζ P.nd/\hU (P.at m)=N'/\f=p6 P m:=by
 constructor;rotate_left
 .rintro⟨X,Q,rfl⟩;rw[Pm.mU,aA (by unfold p6;omega)];exact KT X Q
 intro h;unfold Pm.mU at h;split at h
 .cases h
 rename_i Y;obtain⟨j,n,C,a,N⟩:=(D3 P.nd 0 m).1<|aO h;have f:m=j:=I;subst f;have X:=(aX.1 C).1;have Q:hU (P.at m)=N':=by rw[Pm.at,getD,C];exact a
 refine⟨X,Q,?_⟩;have l:=(getElem?_inj (aX.1 h).1<|B6 P.nd 0).1<|h.trans (KT X Q).symm;have:P.nv<=p6 P m:=by unfold p6;omega
 omega
def D6(a:k<ζ P.nd)(Q:hU (P.at k)=N'):p6 P k<P.facts 1:=by
 have h:=(aX.1<|KT a Q).1;have:P.nv<=p6 P k:=by unfold p6;omega
 have e:P.facts 1=P.nv+ζ (nS 0 P.nd):=by simp[Pm.facts]
 omega
def zt(h:cN P):P.facts 1<=68:=by
 have e:P.facts 1=P.nv+ζ (nS 0 P.nd):=by simp[Pm.facts]
 have:=D4 P.nd 0;have:=h.most;have:=h.nv;omega
def qB(P:Pm)(i:Nat):BS:=if hU (P.at i) then de [p6 P i] else(0,0)
def wV(P:Pm)(k v:Nat):BS:=(range k).foldl (λs i=>if hU (P.at i)&&(P.at i).var==(v:Int) then fU s (qB P i) else s)<|de [v]
def vB(P:Pm)(i:Nat):Ef:=if hU (P.at i) then⟨wV P (ζ P.nd) (P.at i).var.toNat,qB P i⟩ else ef0
def OM(P:Pm)(n:Nat):BS:=if n=0 then jK P.nv else(0,0)
def JS(h:cN P)(S:i<ζ P.nd):b! (qB P i):=by
 unfold qB;split
 .rename_i Q;have:=D6 S Q;have:=zt h;exact oR I
 exact CL
def oJ(P:Pm)(k v:Nat):wV P (k+1) v=if hU (P.at k)&&(P.at k).var==(v:Int) then fU (wV P k v) (qB P k) else wV P k v:=by simp[wV,kq]
def C!{P:Pm}(h:cN P){v:Nat}(R:v<128):∀k,k<=ζ P.nd->b! (wV P k v)
 |0,_=>oR R
 |k+1,hk=>by
  rw[oJ];split
  .exact ib (C! h R k I)<|JS h I
  exact C! h R k I
def ada(h:cN P)(S:i<ζ P.nd)(Y:f<128):bt (qB P i) f=(decide (f<P.facts 1)&&(P.mU f==z' i)):=by
 have t:=zt h;have e:(P.mU f==z' i)=decide (hU (P.at i)=N'/\f=p6 P i):=by rw[cC,dP,xm,p7];exact⟨λx=>x.2,λx=>⟨S,x⟩⟩
 rw[e];unfold qB;by_cases Q:hU (P.at i)=N'
 .have L:=D6 S Q;rw[aD Q,qI _ _ Y G',cC];simp[Q];omega
 rw[aA Q,j3];simp[Q]
def U2{P:Pm}(h:cN P){v f:Nat}(R:v<128)(Y:f<128):∀k,k<=ζ P.nd->bt (wV P k v) f=(decide (f=v)||decide (∃i,i<k/\hU (P.at i)=N'/\(P.at i).var=(v:Int)/\f=p6 P i))
 |0,_=>by rw[show wV P 0 v=de [v] from rfl,qI _ _ Y<|by simp;exact R];simp
 |k+1,hk=>by
  have B:=U2 h R Y k I;have t:=zt h;rw[oJ];by_cases T:(hU (P.at k)&&(P.at k).var==(v:Int))=N';rotate_left
  .rw[aA T,B];congr 1;refine xt.2 ⟨λ⟨i,C,a⟩=>⟨i,I,a⟩,λ⟨i,C,a,N,d⟩=>⟨i,?_,a,N,d⟩⟩;by_cases E:i=k
   .subst E;exact absurd (by simp[a,N]) T
   omega
  rw[aD T,iy,B];simp only[aY,dP]at T;have L:=D6 (P:=P) (k:=k) I T.1;have e:bt (qB P k) f=decide (f=p6 P k):=by rw[qB,aD T.1,qI _ _ Y G'];simp
  rw[e,qL];congr 1;rw[cC];simp only[eZ,bM];constructor
  .rintro(⟨i,C,a⟩|C)
   .exact⟨i,I,a⟩
   exact⟨k,I,T.1,T.2,C⟩
  rintro⟨i,C,a,N,d⟩;by_cases E:i=k
  .subst E;exact aR d
  exact aP ⟨i,I,a,N,d⟩
end
section
variable {P:Pm}
def UA{f v:Nat}(Y:f<P.facts 1)(R:v<P.nv):(P.KU f=(v:Int))↔(f=v\/∃i,i<ζ P.nd/\hU (P.at i)=N'/\(P.at i).var=(v:Int)/\f=p6 P i):=by
 unfold Pm.KU;by_cases h:f<P.nv
 .rw[aD h];constructor
  .intro e;left;omega
  rintro(e|⟨i,C,a,N,d⟩)
  .omega
  have:P.nv<=p6 P i:=by unfold p6;omega
  omega
 rw[aA h];have X:f-P.nv<ζ (nS 0 P.nd):=by
  have e:P.facts 1=P.nv+ζ (nS 0 P.nd):=by simp[Pm.facts]
  omega
 cases Q:P.mU f with
 |none=>unfold Pm.mU at Q;rw[aA h,bj X]at Q;cases Q
 |some m=>
  obtain⟨C,a,N⟩:=p7.1 Q;simp only;constructor
  .intro e;exact aR ⟨m,C,a,e,N⟩
  rintro(e|⟨i,N,k,j,a⟩)
  .omega
  have:=p7.2 ⟨N,k,a⟩;rw[Q]at this;cases this;exact j
def aby(h:cN P){i:Nat}(S:i<ζ P.nd):Ew (vB P i):=by
 unfold vB;split
 .rename_i Q;have:=h.var _ (at_mem S) (by simpa[hU]using Q);have:=h.nv;exact⟨C! h I _ aK,JS h S⟩
 exact⟨CL,CL⟩
def FG(h:cN P)(F:ζ P.nx=ζ P.nd):Es P 1 (wE P (OM P)<|vB P):=by
 have p:=h.most;have d:=h.nv;have t:=zt h;have R:P.nv<=P.facts 1:=by simp[Pm.facts]
 refine⟨M8 h (λn=>?_) λm d=>aby h d,t,?_,?_,?_,?_⟩
 .unfold OM;split
  .exact oz _ I
  exact CL
 .intro n r a f Y;obtain⟨X,rfl⟩:=iV a;have e:P.st 1 n f=(n==0&&decide (f<P.nv)):=by simp[Pm.st]
  simp only;rw[e];unfold OM;by_cases D:n=0
  .rw[aD D,vV _ _ I Y,cC];simp[D];omega
  rw[aA D,j3];simp[D]
 .intro n r a;obtain⟨X,rfl⟩:=iV a;exact T4 (aP rfl) F
 .intro n r a e l f Y;obtain⟨X,rfl⟩:=iV a;obtain⟨C,c⟩:=y7 l;have u:P.ad 1 e.1 f=(P.mU f==z' e.1):=by simp[Pm.ad]
  rw[c,u];by_cases Q:hU (P.at e.1)=N'
  .have b:(vB P e.1).add=qB P e.1:=by rw[vB,aD Q]
   rw[b,ada h C Y]
  have b:(vB P e.1).add=(0,0):=by rw[vB,aA Q];rfl
  have d:(P.mU f==z' e.1)=O':=by rw[rZ,Ne,dP,p7];exact λx=>Q x.2.1
  rw[b,d,j3,AL]
 intro n r a e l f Y;obtain⟨X,rfl⟩:=iV a;obtain⟨C,c⟩:=y7 l;have u:P.ps 1 n e.1 f=!(hU (P.at e.1)&&(P.at e.1).var==P.KU f):=by simp[Pm.ps]
 rw[c,u,ub];by_cases Q:hU (P.at e.1)=N'
 .have R:=h.var _ (at_mem C) (by simpa[hU]using Q);obtain⟨v,c⟩:∃v:Nat,(P.at e.1).var=(v:Int):=⟨(P.at e.1).var.toNat,I⟩;have b:(vB P e.1).drop=wV P (ζ P.nd) v:=by rw[vB,aD Q,c];rfl
  have a:v<P.nv:=I;rw[b,U2 h I I _ aK,Q,c,eN,cC,eZ,xm,xm,dP];exact(UA Y a).symm.trans ⟨Eq.symm,Eq.symm⟩
 have b:(vB P e.1).drop=(0,0):=by rw[vB,aA Q];rfl
 rw[b,j3];simp[Q]
end
def wS{w:p'}{B a:Nat}{c:List RR}{R:RS}(h:Sys w B a 2 393 404 c)(U:c.map RR.pr=Jw R):vg w B a R:=⟨c,h,U⟩
def afs(P:Pm):kA (ζ P.nd) (S0 P)=Jw (wI P QX S1):=(UX P QX S1).symm
def afr(P:Pm):kA (ζ P.nd) (SZ P)=Jw (wI P (lzS P.ex)<|lzE P.ex):=(UX P (lzS P.ex)<|lzE P.ex).symm
def aft(P:Pm):kA (ζ P.nd) (lkR P)=Jw (wE P (λn=>if n=0 then jK (ζ P.ex) else(0,0)) λm=>S4 P.ex<|P.at m):=(T5 P _ _).symm
def Pm.rs(P:Pm)(p:Int):RS:=if p=1 then wE P (OM P) (vB P) else if p=2 then wI P QX S1 else if p=3 then wE P (λn=>if n=0 then jK (ζ P.ex) else(0,0)) (λm=>S4 P.ex<|P.at m) else wI P (lzS P.ex) (lzE P.ex)
def R0{P:Pm}(h:cN P)(F:ζ P.nx=ζ P.nd){p:Int}(U:1<=p/\p<=4):Es P p (P.rs p):=by
 unfold Pm.rs;by_cases C:p=1
 .subst C;rw[aD rfl];exact FG h F
 rw[aA C];by_cases a:p=2
 .subst a;rw[aD rfl];exact Xh h
 rw[aA a];by_cases N:p=3
 .subst N;rw[aD rfl];exact Kh h F
 rw[aA N];obtain rfl:p=4:=I;exact Xk h
section
variable {l:List BS}
def dC(l:List BS):List y':=l.flatMap fV
def Jn(l:List BS)(s:BS):dC (l++[s])=dC l++fV s:=by simp[dC]
def A!(l:List BS):ζ (dC l)=ζ l*2:=by
 induction l with
 |nil=>rfl
 |cons a l B=>simp only[dC,bW,bg,bU,fV,eY]at B|-;omega
def A?:∀(l:List BS)(k:Nat)(z:BS),k<ζ l->((dC l).set (k*2)<|Z z.1).set (k*2+1) (Z z.2)=dC (l.set k z)
 |[],k,z,h=>by simp at h
 |a::l,0,z,_=>by simp[dC,fV]
 |a::l,k+1,z,h=>by have B:=A? l k z<|H' h;have V:(k+1)*2=k*2+1+1:=I;have u:(k+1)*2+1=k*2+1+1+1:=I;simp only[dC,bW,fV,fW,gg,cO,V]at B|-;rw[B]
def E8:∀(l:List BS)(k:Nat)(s:BS),l[k]?=z' s->(dC l)[k*2]?=z' (Z s.1)/\(dC l)[k*2+1]?=z' (Z s.2)
 |[],k,s,h=>by simp at h
 |a::l,0,s,h=>by simp at h;subst h;simp[dC,fV]
 |a::l,k+1,s,h=>by have B:=E8 l k s<|H' h;have V:(k+1)*2=k*2+1+1:=I;simp only[dC,bW,fV,fW,gg,V,q?]at B|-;exact B
def F4{z:BS}(h:ρ W B t 2 (g' (z'<|O q 0) n c) n<|dC l)(a:k<n):
  ρ (κ (κ W (O q<|k*2)<|Z z.1) (O q<|k*2+1)<|Z z.2) B t 2 (g' (z'<|O q 0) n c) n (dC<|l.set k z):=by
 have X:ζ l=n:=by have:=h.1;rw[A!]at this;omega
 refine⟨by rw[A!,dh,X],?_⟩;rcases h.2 with⟨a,_⟩|⟨g,b,Y,V,u,e,f,o,b,d⟩
 .cases a
 simp at V;obtain⟨rfl,rfl⟩:=V;refine aR ⟨q,c,_,rfl,u,H (H e _) _,f,o,by simp[b],?_⟩;rw[I4,I4,take_set,take_set,d];exact A? l k z I
def pQ{s:BS}(h:ρ W B t 2 (g' (z'<|O q 0) n c) n<|dC l)(a:l[k]?=z' s):
  (χ W (O q<|k*2)=z' (Z s.1)/\W.frozen? (O q<|k*2)=O')/\χ W (O q<|k*2+1)=z' (Z s.2)/\W.frozen? (O q<|k*2+1)=O':=by
 have T:=λj u f=>h.cells (g:=q) rfl j u f
 obtain⟨C,c⟩:=E8 l k s a;have f:∀o,W.frozen? (O q o)=O':=by
  rcases h.2 with⟨a,_⟩|⟨g,b,Y,V,u,b,_⟩
  .cases a
  simp at V;obtain⟨rfl,rfl⟩:=V;exact(A b).2
 refine⟨⟨?_,f _⟩,?_,f _⟩
 .have:=T _ _ C;simp only[Addr.add]at this;by_cases b:k*2=0
  .simpa[b]using this
  simpa[b]using this
 have:=T _ _ c;simpa[Addr.add]using this
def jD{b m o:Nat}{v u:y'}{D:List y'}(h:ρ W B t m v n D)(c:φ v=A'\/φ v≠z' b):ρ (κ W (O b o) u) B t m v n D:=by
 refine⟨h.1,?_⟩;rcases h.2 with a|⟨g,b,Y,V,u,d,e⟩
 .exact aP a
 refine aR ⟨g,b,Y,V,u,(aJ ?_).trans d,e⟩;rintro rfl;rw[V]at c;rcases c with h|h
 .cases h
 exact h rfl
end
section
variable {P:Pm}{Q v o:Nat}{L:Array y'}
def J6(j:Nat):List BS:=(range j).map λv=>de [v]
def O6(j:Nat):J6 (j+1)=J6 j++[de [j]]:=by simp[J6,kq]
def np(P:Pm)(N k:Nat):List BS:=(range N).map λi=>if i<k then qB P i else(0,0)
def oI(P:Pm)(nv k:Nat):List BS:=(range nv).map<|wV P k
def OO(P:Pm)(N:Nat):np P N 0=replicate N (0,0):=by refine CD.2 ⟨by simp[np],λb a=>?_⟩;obtain⟨n,_,rfl⟩:=bG.1 a;simp
def Sd(P:Pm)(N:Nat):np P N N=(range N).map (qB P):=eQ λn K=>by simp[cx.1 K]
def Wt(a:k<N):(np P N k)[k]?=z' (0,0):=by simp[np,a]
def Sc(a:k<N):(np P N k).set k (qB P k)=np P N (k+1):=by
 refine et λi=>?_;rw[e5];simp only[np,b9,qP,a!];by_cases h:k=i
 .subst h;simp[a]
 have e:i<k+1↔i<k:=I;by_cases S:i<N
 .simp[h,e,S]
 simp[h,S]
def OP(Q:hU (P.at k)=O'):np P N (k+1)=np P N k:=by
 refine eQ λi _=>?_;by_cases h:i=k
 .subst h;simp[qB,Q]
 have e:i<k+1↔i<k:=I;simp[e]
def Mg(R:v<Q):(oI P Q k)[v]?=z' (wV P k v):=by simp[oI,R]
def Sb(R:v<Q)(a:hU (P.at k)=N')(l:(P.at k).var=(v:Int)):(oI P Q k).set v (fU (wV P k v)<|qB P k)=oI P Q (k+1):=by
 refine et λi=>?_;rw[e5];simp only[oI,b9,qP,a!];by_cases h:v=i
 .subst h;simp[R,oJ,a,l]
 have e:¬((v:Int)=i):=I;by_cases S:i<Q
 .simp[h,S,oJ,a,l,e]
 simp[h,S]
def OL(a:hU (P.at k)=O'):oI P Q (k+1)=oI P Q k:=eQ λi _=>by rw[oJ];simp[a]
def TF.cell{f:Nat×Nat}{v:y'}(h:W.1[q]?=z' (i' L t f))(a:B<=q):TF B t t W (κ W (O q o) v):=by refine⟨aQ.setCell a _,λp s b a e C _=>aJ ?_⟩;rintro rfl;rw[h]at e;simp at e;exact C e.2.1.symm
def TF.aaz{b:Nat}{v g:y'}(h:W.1[q]?=z' (cU L t))(a:B<=q):TF B t t W (κ (κ W (O q o) v) (O q b) g):=(TF.cell h a).trans<|TF.cell (H h _) a
def jE(h:ρ W B t m (g' (z'<|O q 0) n c) n D):B<=q/\∃Y,W.1[q]?=z' (cU Y t):=by
 rcases h.2 with⟨a,_⟩|⟨g,b,Y,V,u,b,_⟩
 .cases a
 simp at V;obtain⟨rfl,rfl⟩:=V;exact⟨u,Y,b⟩
def F3{a:t'}(h:ρ W B t m (g' a n c) n D)(K:0<n):∃q,a=z' (O q 0):=by
 rcases h.2 with⟨e,u⟩|⟨g,a,Y,V,_⟩
 .omega
 simp at V;exact⟨g,V.1⟩
def wH(g W:Nat)(nl:List NC)(P:Pm)(w:p')(hP:PM w g W nl P)(c:cN P):
  Cl 281 #[je g (ζ P.nd) W P.nv] w λe w'=>∃ob va vc,e=n' (o' #[g' (z'<|O ob 0) (ζ P.nd)<|ζ P.nd,g' va P.nv vc,G (P.facts 1:Int)])/\ρ w' w.1.size 267 2 (cG ob<|ζ P.nd) (ζ P.nd) (dC ((range<|ζ P.nd).map<|qB P))/\ρ w' w.1.size 267 2 (bk va P.nv vc) P.nv (dC<|oI P P.nv<|ζ P.nd)/\Bl w w':=by
 obtain⟨i0,S,D,b,a⟩:=cI td;have u:J (_/\_/\_/\_):=⟨S,D,b,a⟩;clear S D b a;have p:=c.most;have tj:=c.nv;have HH:=hid<|Aa hP c;obtain⟨N,b⟩:=Ea<|ζ P.nd;obtain⟨Q,a⟩:=Ea P.nv;rw[<-b]at p;rw[<-a]at tj;rw[<-b,<-a];have K:=hid<|Aa b a;clear hP c b a;simp only[je];go_enter func281,ntmps281;go_upto_region 1 with(fail)
 generalize BC:w.alloc (i' (fC g N W Q) 86)=W0;have U:J (Bl w W0/\b' W0 w.1.size (fC g N W Q) 86):=by subst BC;exact⟨bA,cv⟩
 clear BC;have x1:=A U.A;have a:=blt U.A;go_upto_region 2 with(at_make;refine gL _ rfl (.tmp 10) (.tmp 10) 264 rfl w.1.size 267 i0 _ 2 underlying264 u.a u.b u.c .i64 .i64 N N N rfl rfl rfl rfl (by rw[u.C];omega) (by unfold maxLen;omega) I ?_;intro t b d;have V:=hid<|Aa b d;clear b d)
 have HW:J (Bl w t/\b' t w.1.size (fC g N W Q) 86/\ρ t w.1.size 267 2 (cG W0.1.size N) N (dC<|replicate N (0,0))):=by
  have C:=V.a;rw[mN _ 2 (by simp[Value.cells]) N]at C;have e:(replicate N ([Z 0,Z 0])).flatten=dC (replicate N (0,0)):=by simp[dC,fV,flatMap,qR]
  refine⟨U.a.grown V.A I (λq e=>by cases e),(V.A.block w.1.size a ak).trans U.A,?_⟩;rw[<-e];exact C
 have Is:δ w.1<δ W0.1:=a;generalize δ W0.1=ob at HW Is|-;clear a x1;have x1:=A HW.b;go_wp2_with fail;clear x1;go_loopw[3,14] (λp y wr=>∃(j:Nat)(a:t')(c:Nat),j<=Q/\y=G j/\p=g' a j c/\J (ρ wr t.1.size 267 2 (g' a j c) j (dC<|J6 j)/\Bl t wr)) (λ_ y _=>Q-(intOf y).toNat)
 case atStart=>exact⟨0,A',0,bm,rfl,rfl,dj,aQ⟩
 obtain⟨j,a,c,hj,rfl,rfl,HK⟩:=hrel;by_cases L:j<Q
 .have jy:(j:Int)<Q:=I;have s:J (∀X b,χ X (O b 0)=z' (G j)->Cl 241 (oq b) X (Rb X<|cW<|de [j])):=λX b T=>mc X b j I T;have YN:J (dC (J6<|j+1)=dC (J6 j)++fV (de [j])):=by show _=_;rw[O6,Jn]
  obtain⟨S,Ar⟩:=Ea<|de [j];rw[<-Ar]at s YN;clear Ar;simp only[cW]at s;go_wp2_with (first|(go_at_call 241;refine(s.o _ _ ak).mono ?_;rintro e U ⟨rfl,p⟩;have D:=hid<|aq bA p;clear p)|(at_builtin;refine fz rfl _ _ 264 rfl t.1.size 267 i0 (j' #[Z 0,Z 0]) 2 16 underlying264 u.a u.b u.c u.C rfl aj (g' a j c) j (dC<|J6 j) rfl ((aZ HK.a D.o).alloc _) (O U.1.size 0) 1 1 [Z S.1,Z S.2] rfl rfl (Gd<|cF U _) (by intro u p;simp at p;rcases p with rfl|rfl<;>rfl) (by simp only[maxLen];omega) I (by have:=(aq HK.A D.o).size;simp;omega) ?_;intro U l o9 g9 _;obtain⟨a9,c9,rfl⟩:=aV o9;have H9:=hid<|Aa o9 g9;clear o9 g9));go_roundw
  case rel=>
   refine⟨j+1,a9,c9,L,e',rfl,?_,?_⟩
   .rw[YN.o];exact H9.a
   exact((aq HK.A D.o).alloc (aq HK.A D.o).size _).grown H9.A (by have:=(aq HK.A D.o).size;simp;omega) λq e=>((aZ HK.a D.o).lt q e).1
  exact F'
 have jy:¬(j:Int)<Q:=I;obtain rfl:j=Q:=I;have x1:=A<|aG HK.A HW.b;go_wp2_with fail;clear x1;have HT:J (ρ wr w.1.size 267 2 (cG ob N) N (dC<|np P N 0)/\ρ wr t.1.size 267 2 (g' a j c) j (dC<|oI P j 0)/\PM wr g W nl P/\Bl w wr/\ob<δ t.1/\δ t.1<=δ wr.1):=by have C:=HW.B;obtain⟨_,Y,T⟩:=jE C;exact⟨by rw[OO];exact aZ C HK.A,HK.a,HH.a.below<|aq HW.a HK.A,aq HW.a HK.A,blt T,HK.A.size⟩
 have IM:J (p6 P 0=j):=by show _=_;rw[Ux];exact K.A.symm
 obtain⟨W2,h⟩:=Ea wr;subst h;go_loopw[4,29] (λg y wr=>∃(k:Nat),k<=N/\y=G k/\g=G (p6 P k:Int)/\J (ρ wr w.1.size 267 2 (cG ob N) N (dC<|np P N k)/\ρ wr t.1.size 267 2 (g' a j c) j (dC<|oI P j k)/\TF w.1.size 267 267 W2 wr)) (λ_ y _=>N-(intOf y).toNat)
 case atStart=>exact⟨0,bm,rfl,by rw[IM.o],HT.a,HT.b,AF⟩
 obtain⟨k,g,rfl,rfl,f⟩:=hrel;by_cases L:k<N;rotate_left
 .have jy:¬(k:Int)<N:=I;obtain rfl:k=N:=I;have g:J (p6 P k=P.facts 1):=by show _=_;rw[K.a];exact Yc P
  generalize p6 P k=dk at g|-;go_wp2_with fail;refine aE (v:=o' #[g' (z'<|O ob 0) k k,g' a j c,G dk]) (by simp[results281,go_sem]) rfl ⟨ob,a,c,by rw[g.o],?_,?_,?_⟩
  .rw[<-Sd];exact f.a
  .have:=oN f.b<|bX (mE Is)<|mE HT.e;exact this
  exact HT.d.trans f.B.low
 have jy:(k:Int)<N:=I;have EC:δ w.1<=δ wr.1:=bX HT.d.size f.B.low.size;have R:=HT.c.tf f.B aj aj aj aj;obtain⟨r,a,T,F,i,_,TA,_⟩:=R.nodes (by rw[<-K.a];exact L);have E:=λj (hj:j<14)=>(mQ R T j hj);have d:=aO F;obtain⟨v,tX⟩:=Ea r.n;rw[<-tX]at E F i d;simp only[NC.wv,NC.ev]at E;generalize r.bB=bB at E;generalize r.wa=wa at E;generalize r.wl=wl at E;generalize r.wc=wc at E;generalize r.ea=ea at E;generalize r.el=el at E;generalize r.ec=B at E;have Ev:J (∀W,Cl 282 #[j'<|aS bB (g' wa wl wc) v<|g' ea el B] W<|Rb W<|h'<|hU v):=λW=>(lO bB _ _ v W (HH.A.aH v d).1).mono λe w' V=>⟨V.1,by rw[V.2];exact bA⟩;have Vn:J (hU v=N'->0<=v.var/\v.var<j):=λh=>by have:=HH.A.var v d (by simpa[hU]using h);have:=K.A;omega
 have C3:J (p6 P (k+1)=if hU v then p6 P k+1 else p6 P k):=by have:=Uy (P:=P) (k:=k) (by rw[<-K.a];exact L);rwa[i]at this
 have GS:J (hU v=N'->p6 P k<128):=λh=>by have:=D6 (P:=P) (k:=k) (by rw[<-K.a];exact L) (by rw[i];exact h);have:=zt HH.A;omega
 have GC:J (qB P k=if hU v then de [p6 P k] else(0,0)):=by show _=_;rw[qB,i]
 have YR:J (hU (P.at k)=hU v/\(P.at k).var=v.var):=by rw[i];exact⟨rfl,rfl⟩
 obtain⟨ok,o⟩:=Ea<|hU v;rw[<-o]at Ev Vn C3 GS GC YR;obtain⟨x,var,op,test,⟨ai,av,ac⟩,⟨bi,bv,bc⟩,bD⟩:=v;have v:=Oc E;simp only[aS,cW]at Ev Vn YR;clear E o tX F i d T R TA;obtain⟨dk,d⟩:=Ea<|p6 P k;rw[<-d]at C3 GS GC|-;clear d;go_upto_region 11 with(fail)
 generalize d:wr.alloc (i' #[k' bB,g' wa wl wc,G x,G var,G op,G test,h' ai,G av,G ac,h' bi,G bv,G bc,g' ea el B,k' bD] 152)=V;have HV:J (Below wr.1.size wr V/\b' V wr.1.size #[k' bB,g' wa wl wc,G x,G var,G op,G test,h' ai,G av,G ac,h' bi,G bv,G bc,g' ea el B,k' bD] 152):=by subst d;exact⟨bA,cv⟩
 clear d v;have x1:=A HV.A;cases ok
 .go_wp2_with (go_at_call 282;refine(Ev.o _).mono ?_;rintro e W6 ⟨rfl,E⟩;have o:=hid<|aq HV.a E;clear E x1);go_roundw
  case rel=>
   refine⟨k+1,L,e',by rw[C3.o];rfl,?_,?_,?_⟩
   .rw[OP YR.a];exact aZ f.a o.o
   .rw[OL YR.a];exact aZ f.b o.o
   exact f.B.trans<|TF.bJ o.o EC
  exact F'
 have R:=Vn.o rfl;obtain⟨F,rfl⟩:∃F:Nat,var=(F:Int):=⟨var.toNat,I' R.1⟩;have AT:F<j:=by have:=R.2;omega
 have Iv:dk<128:=GS.o rfl;obtain⟨q,rfl⟩:=F3 f.b I;have nq:q≠ob:=by have:=(jE f.b).1;have:=HT.e;omega
 have s:J (∀X b,χ X (O b 0)=z' (G dk)->Cl 241 (oq b) X (Rb X<|cW<|de [dk])):=λX b T=>mc X b dk Iv T;have v:J (∀(X:p')(b:Nat),χ X (O b 0)=z' (Z ((wV P k F).1:Int))->χ X (O b 1)=z' (Z ((wV P k F).2:Int))->χ X (O b 2)=z' (Z ((qB P k).1:Int))->χ X (O b 3)=z' (Z ((qB P k).2:Int))->Cl 267 (r7 b) X (Rb X<|cW<|fU (wV P k F)<|qB P k)):=by have C:=K.a;have h2:=K.A;have a:=HH.A.nv;exact λX b g Q p a=>gu X b _ _ (C! HH.A I k I) (JS HH.A I) g Q p a
 have d:J ((oI P j k)[F]?=z' (wV P k F)/\(oI P j k).set F (fU (wV P k F)<|qB P k)=oI P j (k+1)/\(np P N k).set k (qB P k)=np P N (k+1)/\(np P N k)[k]?=z' (0,0)/\(np P N<|k+1)[k]?=z' (qB P k)):=⟨Mg AT,Sb AT YR.a YR.A,Sc L,Wt L,by simp[np,L]⟩;obtain⟨S,Ar⟩:=Ea<|de [dk];have Im:qB P k=S:=by rw[GC.o,Ar];rfl
 rw[Im]at d v;rw[<-Ar]at s;obtain⟨u1,Hi⟩:=Ea<|fU (wV P k F) S;rw[<-Hi]at d v;obtain⟨a,i⟩:=Ea<|wV P k F;rw[<-i]at d v;clear R Ar Im Hi i;simp only[cW]at s v;go_upto_region 12 with(go_at_call 282;refine(Ev.o _).mono ?_;rintro e W6 ⟨rfl,E⟩;have o:=hid<|aq HV.a E;have r:=hid<|aG E HV.A;clear E x1)
 go_upto_region 13 with(go_at_call 241;refine(s.o _ _ ak).mono ?_;rintro e b ⟨rfl,g⟩;have a:=hid<|aq bA g;clear g;have z1:=pQ (aZ f.a<|aq o.o a.o) d.d)
 have i:J (ρ (κ (κ b (O ob<|k*2)<|Z S.1) (O ob<|k*2+1)<|Z S.2) w.1.size 267 2 (cG ob N) N (dC<|np P N<|k+1)/\ρ (κ (κ b (O ob<|k*2)<|Z S.1) (O ob<|k*2+1)<|Z S.2) t.1.size 267 2 (g' (z'<|O q 0) j c) j (dC<|oI P j k)/\TF w.1.size 267 267 W2 (κ (κ b (O ob<|k*2)<|Z S.1) (O ob<|k*2+1)<|Z S.2)/\b' (κ (κ b (O ob<|k*2)<|Z S.1) (O ob<|k*2+1)<|Z S.2) wr.1.size #[k' bB,g' wa wl wc,G x,G F,G op,G test,h' ai,G av,G ac,h' bi,G bv,G bc,g' ea el B,k' bD] 152/\δ w.1<=δ (κ (κ b (O ob<|k*2)<|Z S.1) (O ob<|k*2+1)<|Z S.2).1):=by
  have p:=aq o.o a.o;have C:=aZ f.a p;obtain⟨hl,Y,T⟩:=jE C;have g:TF w.1.size 267 267 b (κ (κ b (O ob<|k*2)<|Z S.1) (O ob<|k*2+1)<|Z S.2):=TF.aaz T hl;have E:φ (g' (z'<|O q 0) j c)≠z' ob:=by simp[Value.ownBlock];exact nq
  refine⟨?_,jD (jD (aZ f.b p)<|aR E)<|aR E,(f.B.trans<|TF.bJ p EC).trans g,g.box (aG a.o r.o) aj aj,?_⟩
  .rw[<-d.c];exact F4 C L
  have:=p.size;simp;omega
 clear z1;generalize(κ b (O ob<|k*2)<|Z S.1).setCell (O ob<|k*2+1) (Z S.2)=a at i|-;generalize δ wr.1=b at i|-;have s:b≠q:=by rintro rfl;obtain⟨_,Y,T⟩:=jE i.b;rw[i.d]at T;simp at T
 have x:b≠ob:=by rintro rfl;obtain⟨_,Y,T⟩:=jE i.a;rw[i.d]at T;simp at T
 have f:=s.symm;have V:=x.symm;have f:=nq.symm;have f:b<δ a.1:=blt i.d;have b:q<δ a.1:=by obtain⟨_,Y,T⟩:=jE i.b;exact blt T
 have D:ob<δ a.1:=by obtain⟨_,Y,T⟩:=jE i.a;exact blt T
 have y1:=A i.d;have z1:=pQ i.a d.D;have b:=pQ i.b d.a
 go_region_law (go_simp;refine bP (v.o _ _ ak ak ak ak) ?_;rintro e l ⟨rfl,BV⟩;have R:J (Bl a l):=aq ay BV;clear BV y1 z1 b;have z1:=pQ (aZ i.b R.o) d.a;have y1:=A<|aG R.o i.d)
 all_goals
  generalize BC:κ (κ l (O q<|F*2)<|Z u1.1) (O q<|F*2+1) (Z u1.2)=a;have H9:J (ρ a w.1.size 267 2 (cG ob N) N (dC<|np P N<|k+1)/\ρ a t.1.size 267 2 (g' (z'<|O q 0) j c) j (dC<|oI P j<|k+1)/\TF w.1.size 267 267 W2 a):=by
   subst BC;have h2:=aZ i.b R.o;obtain⟨hl,Y,T⟩:=jE h2;have E:φ (g' (z'<|O ob 0) N N)≠z' q:=by simp[Value.ownBlock];exact λh=>nq h.symm
   refine⟨jD (jD (aZ i.a R.o)<|aR E)<|aR E,?_,(i.c.trans<|TF.bJ R.o i.D).trans<|TF.aaz T<|I' HT.e⟩;rw[<-d.b];exact F4 h2 AT
  clear BC;clear z1 y1;go_wp2_with fail;go_roundw
  case rel=>exact⟨k+1,L,e',by rw[C3.o];go_num,H9.o⟩
  exact F'
end
def C7(g cap:Nat)(D:List NC)(P:Pm)(w:p')(hP:PM w g cap D P)(l:cN P):
  Cl 220 #[je g (ζ P.nd) cap P.nv] w λe w'=>∃rb c,e=n' (o' #[du rb<|ζ P.nd,G (P.facts 1:Int)])/\Sys w' w.1.size rb 2 393 404 c/\c.map RR.pr=kA (ζ P.nd) (uU P (λn=>fV<|OM P n) (vB P)<|ζ P.nd)/\Bl w w':=by
 have hN:=l.most;have C:=l.pos;have tj:=l.nv;have s:=hid<|Aa hP l;have Eu:J (∀W,Cl 280 #[je g (ζ P.nd) cap P.nv] W λe w'=>∃rb c,e=n' (du rb<|ζ P.nd)/\Sys w' W.1.size rb 2 393 404 c/\c.map RR.pr=replicate (ζ P.nd) Qn/\Bl W w'):=λW=>lG g (ζ P.nd) cap P.nv W hN;have GP:=hid λW hW=>wH g cap D P W hW l;obtain⟨N,j⟩:=Ea<|ζ P.nd;obtain⟨nv,f⟩:∃nv,nv=P.nv:=⟨_,rfl⟩;obtain⟨fc,b⟩:=Ea<|P.facts 1;rw[<-j]at hN C;rw[<-f]at tj;rw[<-j,<-f]at Eu;rw[<-j,<-f,<-b]at GP;rw[<-j,<-f,<-b];have HN:=hid<|Aa j f;have R:J (∀W,Cl 208 #[G nv] W<|Rb W<|cW<|jK nv):=λW=>ou nv W I;obtain⟨up,k⟩:=Ea<|jK nv;rw[<-k]at R;have HU:J (up=jK P.nv):=by show _=_;rw[k,f]
 clear hP l j f k b;simp only[je,du,cW]at Eu GP R|-;go_enter func220,ntmps220;go_upto_region 1 with(fail)
 generalize u:(w.alloc<|i' (fC g N cap nv) 86).alloc (i' EM 260)=W0;have HB:J (Bl w W0/\W0.1[δ w.1]?=z' (i' (fC g N cap nv) 86 (0,0))/\W0.1[δ w.1+1]?=z' um):=by subst u;exact⟨dH,hJ.1,hJ.2⟩
 clear u;obtain⟨E,x2⟩:=A HB.b;go_upto_region 2 with(go_at_call 280;refine(Eu.o _).mono ?_;rintro e W1 ⟨rb,c,rfl,b,Y,l⟩;have H1:=hid<|Aa b<|Aa Y l;clear b Y l E x2)
 generalize u:W1.alloc (i' (eu rb N) 260)=W2;have b:J (Bl w W2/\W2.1[δ w.1]?=z' (i' (fC g N cap nv) 86 (0,0))/\W2.1[δ w.1+1]?=z' um/\W2.1[δ W1.1]?=z' (i' (eu rb N) 260 (0,0))/\Sys W2 w.1.size rb 2 393 404 c/\c.map RR.pr=kA N (uU P (λ_=>fV (0,0)) (vB P) 0)):=by subst u;have l:=aq H1.B<|cf W1<|i' (eu rb N) 260;have y:=H1.a.below<|cf W1<|i' (eu rb N) 260;exact⟨aq HB.a l,aG l HB.b,aG l HB.B,cv,y.deep HB.a.size,by rw[H1.b,G3]⟩
 clear u;have l:δ w.1+1<δ W1.1:=by have:=H1.B.size;have:=blt HB.B;omega
 have It:rb<δ W1.1:=blt H1.a.dy;generalize δ W1.1=sb at b l It|-;obtain⟨r0,f,TB,_⟩:=FY b.E C;have BY:J (c[0]?=z' r0/\r0.st=fV (0,0)):=⟨f,TB⟩;clear f TB;obtain⟨E,x2⟩:=A b.d;obtain⟨y1,y2⟩:=A b.b;have n1:rb≠sb:=I;have n2:=n1.symm;have l:(0:Int)<N:=I
 go_region_law (go_simp;refine bP (R.o _) ?_;rintro e l ⟨rfl,j⟩;have k:J (Bl W2 l):=aq ay j;clear j E x2 y1 y2;obtain⟨E,x2⟩:=A<|aG k.o b.d;have f:=(b.e.below k.o).two BY.a BY.A;simp only[e6,bH]at f;obtain⟨⟨z1,z2⟩,p,o⟩:=f)
 all_goals
  generalize u:κ (κ l (O rb 0)<|Z up.1) (O rb 1) (Z up.2)=C;have HT:J (Bl w C/\PM C g cap D P/\Sys C w.1.size rb 2 393 404 (c.set 0 ⟨fV up,r0.ea,r0.ec,r0.es⟩)/\(c.set 0 ⟨fV up,r0.ea,r0.ec,r0.es⟩).map RR.pr=kA N (uU P (λn=>fV<|OM P n) (vB P) 0)/\C.1[δ w.1]?=z' (i' (fC g N cap nv) 86 (0,0))/\C.1[δ w.1+1]?=z' um/\C.1[sb]?=z' (i' (eu rb N) 260 (0,0))):=by
   subst u;have hb:=k.o;have y:=b.e.below hb;have Y:=y.su (k:=0) (v:=Z up.1) (v':=Z up.2);have R:=y.start aj BY.a BY.A (z:=up);simp only[e6,bH]at Y R;have k:=aq b.a hb;refine⟨k.trans Y.low,(s.a.below k).tf Y aj aj aj aj,R,?_,Y.box (aG hb b.b) aj aj,Y.box (aG hb b.c) aj aj,Y.box (aG hb b.d) aj aj⟩;rw[JZ b.E BY.a];refine eQ λn _=>?_;by_cases h0:n=0
   .subst h0;simp[uU,OM,HU.o]
   simp[uU,OM,h0,fV]
  clear u;clear E x2 z1 z2 p o;obtain⟨E,x2⟩:=A HT.e;go_upto_region 4 with(go_at_call 281;refine(GP.o _ HT.b).mono ?_;rintro e U ⟨ob,va,vc,rfl,Ar,b,f⟩;have k:=hid<|Aa Ar<|Aa b f;clear Ar b f E x2)
  have B:J (Bl w U/\PM U g cap D P/\Sys U w.1.size rb 2 393 404 (c.set 0 ⟨fV up,r0.ea,r0.ec,r0.es⟩)/\U.1[δ w.1]?=z' (i' (fC g N cap nv) 86 (0,0))/\U.1[δ w.1+1]?=z' um/\U.1[sb]?=z' (i' (eu rb N) 260 (0,0))/\ρ U w.1.size 267 2 (cG ob N) N (dC ((range N).map<|qB P))/\ρ U w.1.size 267 2 (g' va nv vc) nv (dC<|oI P nv N)):=by have hb:=k.B;exact⟨aq HT.a hb,HT.b.below hb,HT.c.below hb,aG hb HT.e,aG hb HT.f,aG hb HT.F,oN k.a HT.a.size,oN k.b HT.a.size⟩
  have b:=hid HT.d;obtain⟨E,x2⟩:=A B.d;go_wp2_with fail;clear E x2;go_loopw[29] (λy wr=>∃(i:Nat)(ql:List RR),i<=N/\y=G i/\J (Sys wr w.1.size rb 2 393 404 ql/\ql.map RR.pr=kA N (uU P (λn=>fV<|OM P n) (vB P) i)/\TF w.1.size 393 404 U wr)) (λy _=>N-(intOf y).toNat)
  case atStart=>exact⟨0,_,bm,rfl,B.c,b.o,AF⟩
  obtain⟨i,ql,hi,rfl,u⟩:=hrel;have EC:δ w.1<=δ wr.1:=bX B.a.size u.B.low.size;have ID:δ U.1<=δ wr.1:=u.B.low.size;by_cases L:i<N;rotate_left
  .have b:¬(i:Int)<N:=I;have c:i=N:=I;have Y:=u.B;have j:=Y.box B.e aj aj;obtain⟨E,x2⟩:=A<|Y.box B.f aj aj;obtain⟨z1,z2⟩:=A j;have n1:δ w.1+1≠sb:=I;have n2:=n1.symm;clear Y;go_wp2_with fail;have k:=(A<|H (o:=2) (H (o:=1) (H (o:=0) j<|cG rb N) kX) r8).1;refine aE (v:=o' #[du rb N,G fc]) (by simp[results220,go_sem,(A<|H (o:=0) j<|cG rb N).1,(A<|H (o:=1) (H (o:=0) j<|cG rb N) kX).1,k,du]) rfl ⟨rb,rfl,ql,?_,?_,?_⟩
   .exact u.a.keep j ⟨aj,aj⟩ (λk j=>by rw[aJ j,aJ j,aJ j])
   .rw[u.b,c]
   exact(((B.a.trans u.B.low).setCell G' _).setCell G' _).setCell G' _
  have b:(i:Int)<N:=I;have q:=B.b.tf u.B aj aj aj aj;obtain⟨r,R,T,z,F,_,TA,_⟩:=q.nodes (by rw[<-HN.a];exact L);have X:=λj (b:j<14)=>(mQ q T j b);have f:=aO z;obtain⟨p,V⟩:=Ea r.n;rw[<-V]at X z F f;simp only[NC.wv,NC.ev]at X;generalize r.bB=bB at X;generalize r.wa=wa at X;generalize r.wl=wl at X;generalize r.wc=wc at X;generalize r.ea=ea at X;generalize r.el=el at X;generalize r.ec=ec at X;have Ev:J (∀W,Cl 282 #[j'<|aS bB (g' wa wl wc) p<|g' ea el ec] W<|Rb W<|h'<|hU p):=λW=>(lO bB _ _ p W (s.A.aH p f).1).mono λe w' b=>⟨b.1,by rw[b.2];exact bA⟩;have Vn:J (hU p=N'->0<=p.var/\p.var<nv):=λh=>by have:=s.A.var p f (by simpa[hU]using h);have:=HN.A;omega
  have Qc:J (vB P i=if hU p then⟨wV P N p.var.toNat,qB P i⟩ else ef0):=by show _=_;unfold vB;rw[F,<-HN.a]
  have EH:J (∀W,PM W g cap D P->Sys W w.1.size rb 2 393 404 ql->δ w.1<=δ W.1->TF w.1.size 393 404 U W->Cl 283 #[du rb N,je g N cap nv,G i,EE<|vB P i] W λr w'=>(∃v,r=n' v)/\∃Z?,Sys w' w.1.size rb 2 393 404 Z?/\Z?.map RR.pr=kA N (uU P (λn=>fV<|OM P n) (vB P)<|i+1)/\TF w.1.size 393 404 U w'):=by intro W j c k b;have:=vQ g cap nv rb w.1.size i D P ql (vB P i) W j s.A (by rw[<-HN.a];exact L) c (by rw[<-HN.a];exact yL u.b) k (Dg u.b λn _=>by have:=w? (st:=(λn=>fV<|OM P n)) (E:=vB P) (n:=n) (sS s.A) i;omega);rw[<-HN.a]at this;refine this.mono ?_;rintro r w' ⟨h1,Z?,h2,c,j⟩;refine⟨h1,Z?,h2,?_,b.trans j⟩;rw[c,u.b,<-G4]
  obtain⟨ok,o⟩:=Ea<|hU p;rw[<-o]at Ev Vn Qc;obtain⟨x,var,op,test,⟨ai,av,ac⟩,⟨bi,bv,bc⟩,bD⟩:=p;have t:=Oc X;simp only[aS]at Ev Vn Qc;simp only[du,je,EE]at EH;clear X o V z F f T q TA;go_upto_region 8 with(fail)
  generalize f:(wr.alloc<|i' #[k' bB,g' wa wl wc,G x,G var,G op,G test,h' ai,G av,G ac,h' bi,G bv,G bc,g' ea el ec,k' bD] 152).alloc (i' xT 397)=V;have HV:J (Below wr.1.size wr V/\V.1[δ wr.1]?=z' (i' #[k' bB,g' wa wl wc,G x,G var,G op,G test,h' ai,G av,G ac,h' bi,G bv,G bc,g' ea el ec,k' bD] 152 (0,0))/\V.1[δ wr.1+1]?=z' (i' xT 397 (0,0))):=by subst f;exact⟨dH,hJ.1,hJ.2⟩
  clear f t;have CE:J (∀W,Bl V W->PM W g cap D P/\Sys W w.1.size rb 2 393 404 ql/\δ w.1<=δ W.1/\TF w.1.size 393 404 U W/\W.1[δ wr.1]?=z' (i' #[k' bB,g' wa wl wc,G x,G var,G op,G test,h' ai,G av,G ac,h' bi,G bv,G bc,g' ea el ec,k' bD] 152 (0,0))/\W.1[sb]?=z' (i' (eu rb N) 260 (0,0))/\W.1[δ w.1]?=z' (i' (fC g N cap nv) 86 (0,0))/\W.1[δ wr.1+1]?=z' (i' xT 397 (0,0))):=by intro W hW;have hb:=aq HV.a hW;have Y:=u.B.trans<|TF.bJ hb EC;exact⟨B.b.tf Y aj aj aj aj,u.a.below hb,bX EC hb.size,Y,aG hW HV.b,Y.box B.f aj aj,Y.box B.d aj aj,aG hW HV.B⟩
  generalize δ wr.1=T at CE EC ID HV|-;obtain⟨E,x2⟩:=A HV.b;cases ok
  .have GB:J (vB P i=ef0):=Qc.o;rw[GB.o]at EH;simp only[ef0]at EH;go_upto_region 10 with(go_at_call 282;refine(Ev.o _).mono ?_;rintro e W7 ⟨rfl,f⟩;have DD:=hid f;clear f E x2)
   obtain⟨AR,AN,Ip,Y,_,o,b3,b4⟩:=CE.o W7 DD.o;obtain⟨E,x2⟩:=A o;obtain⟨y1,y2⟩:=A b3;obtain⟨z1,z2⟩:=A b4;have CR:=hid<|EH.o W7 AR AN Ip Y;clear AR AN Ip Y o b3 b4;go_wp2_with (go_at_call 283;refine bP CR.o ?_;rintro e W8 ⟨⟨v,rfl⟩,Z?,b⟩;have H8:=hid b;clear b E x2 y1 y2 z1 z2);go_roundw
   case rel=>exact⟨i+1,Z?,L,e',H8.o⟩
   exact F'
  have t:=Vn.o rfl;obtain⟨F,rfl⟩:∃F:Nat,var=(F:Int):=⟨var.toNat,I' t.1⟩;have AT:F<nv:=by have:=t.2;omega
  have GB:J (vB P i=⟨wV P N F,qB P i⟩):=by show _=_;rw[Qc.o];simp
  rw[GB.o]at EH;simp only at EH;obtain⟨q,rfl⟩:=F3 B.G I;have HRW:J (∀W,TF w.1.size 393 404 U W->((χ W (O ob<|i*2)=z' (Z ((qB P i).1:Int))/\W.frozen? (O ob<|i*2)=O')/\χ W (O ob<|i*2+1)=z' (Z ((qB P i).2:Int))/\W.frozen? (O ob<|i*2+1)=O')/\((χ W (O q<|F*2)=z' (Z ((wV P N F).1:Int))/\W.frozen? (O q<|F*2)=O')/\χ W (O q<|F*2+1)=z' (Z ((wV P N F).2:Int))/\W.frozen? (O q<|F*2+1)=O')/\q<T/\ob<T):=λW hW=>by have h1:=B.g;have h2:=B.G;obtain⟨_,b,c⟩:=jE h1;obtain⟨_,b,b⟩:=jE h2;have:=blt c;have:=blt b;exact⟨pQ (yP h1 hW aj aj)<|by simp[L],pQ (yP h2 hW aj aj)<|Mg AT,I,I⟩
  obtain⟨o1,Ar⟩:=Ea<|qB P i;obtain⟨X,p⟩:=Ea<|wV P N F;rw[<-Ar,<-p]at HRW EH;clear t Ar p;go_upto_region 9 with(go_at_call 282;refine(Ev.o _).mono ?_;rintro e W7 ⟨rfl,f⟩;have DD:=hid f;clear f E x2)
  obtain⟨_,_,_,Y,b,_,_,b4⟩:=CE.o W7 DD.o;obtain⟨E,x2⟩:=A b;obtain⟨z1,z2⟩:=A b4;have r1:=HRW.o W7 Y;clear Y b b4;have y:q≠T+1:=I;have r:=y.symm;have b:ob≠T+1:=I;have c:=b.symm;have b:T≠T+1:=I;have u:=b.symm
  go_region_law fail
  all_goals
   have H8:J (PM (κ (κ (κ (κ W7 (O (T+1) 0)<|Z X.1) (O (T+1) 1)<|Z X.2) (O (T+1) 2)<|Z o1.1) (O (T+1) 3)<|Z o1.2) g cap D P/\Sys (κ (κ (κ (κ W7 (O (T+1) 0)<|Z X.1) (O (T+1) 1)<|Z X.2) (O (T+1) 2)<|Z o1.1) (O (T+1) 3)<|Z o1.2) w.1.size rb 2 393 404 ql/\δ w.1<=δ (κ (κ (κ (κ W7 (O (T+1) 0)<|Z X.1) (O (T+1) 1)<|Z X.2) (O (T+1) 2)<|Z o1.1) (O (T+1) 3)<|Z o1.2).1/\TF w.1.size 393 404 U (κ (κ (κ (κ W7 (O (T+1) 0)<|Z X.1) (O (T+1) 1)<|Z X.2) (O (T+1) 2)<|Z o1.1) (O (T+1) 3)<|Z o1.2)/\(κ (κ (κ (κ W7 (O (T+1) 0)<|Z X.1) (O (T+1) 1)<|Z X.2) (O (T+1) 2)<|Z o1.1) (O (T+1) 3)<|Z o1.2).1[sb]?=z' (i' (eu rb N) 260 (0,0))/\(κ (κ (κ (κ W7 (O (T+1) 0)<|Z X.1) (O (T+1) 1)<|Z X.2) (O (T+1) 2)<|Z o1.1) (O (T+1) 3)<|Z o1.2).1[δ w.1]?=z' (i' (fC g N cap nv) 86 (0,0))/\(κ (κ (κ (κ W7 (O (T+1) 0)<|Z X.1) (O (T+1) 1)<|Z X.2) (O (T+1) 2)<|Z o1.1) (O (T+1) 3)<|Z o1.2).1[T+1]?=z' (i' #[Z X.1,Z X.2,Z o1.1,Z o1.2] 397 (0,0))):=by
    obtain⟨AR,AN,Ip,Y,_,o,b3,b4⟩:=CE.o W7 DD.o;have keep:∀p,p≠T+1->(κ (κ (κ (κ W7 (O (T+1) 0)<|Z X.1) (O (T+1) 1)<|Z X.2) (O (T+1) 2)<|Z o1.1) (O (T+1) 3)<|Z o1.2).1[p]?=W7.1[p]?:=λp U=>(aJ U).trans ((aJ U).trans ((aJ U).trans<|aJ U));have b:sb≠T+1:=by rintro rfl;rw[o]at b4;simp at b4
    have c:δ w.1≠T+1:=by intro h;rw[<-h,b3]at b4;simp at b4
    refine⟨AR.keep λp cs t f e ht=>keep p ?_,AN.keep b4 ⟨aj,aj⟩ keep,?_,?_,(keep _ b).trans o,(keep _ c).trans b3,?_⟩
    .rintro rfl;rw[b4]at e;simp at e;obtain⟨_,rfl,_⟩:=e;rcases ht with h|h<;>exact absurd h aj
    .simpa using Ip
    .exact⟨(((Y.low.setCell G' _).setCell G' _).setCell G' _).setCell G' _,λp cs t f e h1 h2=>(keep p<|I' ((bq.1 e).1)).trans<|Y.keep p cs t f e h1 h2⟩
    rw[H (H (H (H b4 _) _) _) _];rfl
   clear E x2 z1 z2 r1;generalize(κ (κ (κ (κ W7 (O (T+1) 0)<|Z X.1) (O (T+1) 1)<|Z X.2) (O (T+1) 2)<|Z o1.1) (O (T+1) 3)<|Z o1.2)=W8 at H8|-;obtain⟨AR,AN,Ip,Y,o,b3,b4⟩:=H8.o;have b:Bl W8 W8.drew:=aQ.drew;obtain⟨E,x2⟩:=A<|aG b o;obtain⟨y1,y2⟩:=A<|aG b b3;obtain⟨z1,z2⟩:=A<|aG b b4;have CR:=hid<|EH.o W8.drew (AR.below b) (AN.below b) (bX Ip b.size)<|Y.trans<|TF.bJ b Ip;clear b;generalize W8.drew=b at CR E x2 y1 y2 z1 z2|-;clear AR AN Ip Y o b3 b4;go_wp2_with (go_at_call 283;refine bP CR.o ?_;rintro e l ⟨⟨v,rfl⟩,Z?,Y⟩;have W:=hid Y;clear Y E x2 y1 y2 z1 z2);go_roundw
   case rel=>exact⟨i+1,Z?,L,e',W.o⟩
   exact F'
def aek(P:Pm):kA (ζ P.nd) (uU P (λn=>fV<|OM P n) (vB P)<|ζ P.nd)=Jw (wE P (OM P)<|vB P):=(T5 P _ _).symm
def LQ{p:Prop}(h:p:=by
 have v:=aG c.A hJ.2;have F:=(A<|H (o:=2) (H (o:=1) (H (o:=0) v<|cG f N) kX) r8).1;refine aE (v:=o' #[du f N,G q]) (by simp[results150,go_sem,(A<|H (o:=0) v<|cG f N).1,(A<|H (o:=1) (H (o:=0) v<|cG f N) kX).1,F,du]) rfl ⟨f,rfl,?_,?_⟩
 .obtain⟨u,C,o⟩:=c.a;exact⟨u,(C.deep G').keep v ⟨aj,aj⟩ λk p=>by rw[aJ p,aJ p,aJ p],o⟩
 exact(((aq dH c.A).setCell G' _).setCell G' _).setCell G' _):p:=h
def Ou(g h:Nat)(D:List NC)(P:Pm)(p:Int)(w:p')(hP:PM w g h D P)(x:cN P)(d:∀n∈P.nd,nF<|jx n)(U:1<=p/\p<=4):
  Cl 150 #[je g (ζ P.nd) h P.nv,G p] w λe i=>∃f,e=n' (o' #[du f<|ζ P.nd,G (P.facts p:Int)])/\vg i w.1.size f (P.rs p)/\Bl w i:=by
 obtain⟨N,l⟩:=Ea<|ζ P.nd;obtain⟨Q,a⟩:=Ea P.nv;have T:p=1\/p=2\/p=3\/p=4:=I;clear U;rcases T with rfl|rfl|rfl|rfl
 .have Y:J (∀W,Bl w W->Cl 220 #[je g (ζ P.nd) h P.nv] W λe i=>∃f,e=n' (o' #[du f<|ζ P.nd,G (P.facts 1:Int)])/\vg i W.1.size f (P.rs 1)/\Bl W i):=by intro W j;refine(C7 g h D P W (hP.below j) x).mono ?_;rintro e i ⟨f,u,rfl,C,o,y⟩;exact⟨f,rfl,wS C<|o.trans<|aek P,y⟩
  obtain⟨q,b⟩:=Ea<|P.facts 1;rw[<-l,<-a,<-b]at Y|-;clear hP x d l a b;simp only[je,du]at Y|-;go_enter func150,ntmps150;go_wp2_with (go_at_call 220;refine(Y.o _ dH).mono ?_;rintro e t ⟨f,rfl,s,r⟩;have c:=hid<|Aa s r;clear s r;have E:=A<|aG c.A hJ.2);exact LQ
 .have Y:J (∀W,Bl w W->Cl 221 #[je g (ζ P.nd) h P.nv] W λe i=>∃f,e=n' (o' #[du f<|ζ P.nd,G (P.facts 2:Int)])/\vg i W.1.size f (P.rs 2)/\Bl W i):=by intro W j;refine(S5 g h D P W (hP.below j) x).mono ?_;rintro e i ⟨f,u,rfl,C,o,y⟩;exact⟨f,rfl,wS C<|o.trans<|afs P,y⟩
  obtain⟨q,b⟩:=Ea<|P.facts 2;rw[<-l,<-a,<-b]at Y|-;clear hP x d l a b;simp only[je,du]at Y|-;go_enter func150,ntmps150;go_wp2_with (go_at_call 221;refine(Y.o _ dH).mono ?_;rintro e t ⟨f,rfl,s,r⟩;have c:=hid<|Aa s r;clear s r;have E:=A<|aG c.A hJ.2);exact LQ
 .have Y:J (∀W,Bl w W->Cl 222 #[je g (ζ P.nd) h P.nv] W λe i=>∃f,e=n' (o' #[du f<|ζ P.nd,G (P.facts 3:Int)])/\vg i W.1.size f (P.rs 3)/\Bl W i):=by intro W j;refine(Gt g h P.nv D P W (hP.below j) x d).mono ?_;rintro e i ⟨f,u,rfl,C,o,y⟩;exact⟨f,rfl,wS C<|o.trans<|aft P,y⟩
  obtain⟨q,b⟩:=Ea<|P.facts 3;rw[<-l,<-a,<-b]at Y|-;clear hP x d l a b;simp only[je,du]at Y|-;go_enter func150,ntmps150;go_wp2_with (go_at_call 222;refine(Y.o _ dH).mono ?_;rintro e t ⟨f,rfl,s,r⟩;have c:=hid<|Aa s r;clear s r;have E:=A<|aG c.A hJ.2);exact LQ
 have Y:J (∀W,Bl w W->Cl 223 #[je g (ζ P.nd) h P.nv] W λe i=>∃f,e=n' (o' #[du f<|ζ P.nd,G (P.facts 4:Int)])/\vg i W.1.size f (P.rs 4)/\Bl W i):=by intro W j;refine(S! g h P.nv D P W (hP.below j) x d).mono ?_;rintro e i ⟨f,u,rfl,C,o,y⟩;exact⟨f,rfl,wS C<|o.trans<|afr P,y⟩
 obtain⟨q,b⟩:=Ea<|P.facts 4;rw[<-l,<-a,<-b]at Y|-;clear hP x d l a b;simp only[je,du]at Y|-;go_enter func150,ntmps150;go_wp2_with (go_at_call 223;refine(Y.o _ dH).mono ?_;rintro e t ⟨f,rfl,s,r⟩;have c:=hid<|Aa s r;clear s r;have E:=A<|aG c.A hJ.2);exact LQ
end Go.Proofs.YtmipbiligijcpaaGreatDoor
