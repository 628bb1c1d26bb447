import Derived.Test.YtmipbiligijcpaaGreatDoorA05
import Derived.Deep.CutRange
namespace Go.Proofs.YtmipbiligijcpaaGreatDoor
set_option linter.all false
set_option maxHeartbeats 0
set_option maxRecDepth 99999
open Go.RowKit Go.Proofs Go.Maps Tryz List open List renaming length->ζ,toArray->θ open _root_.Array renaming size->δ open World renaming setCell->κ,ownsRow->ρ,cell?->χ,grownBy->ξ open Value renaming ownBlock->φ open Value renaming slice->g',bool->h',agg->j',string->k',tuple->o' open Obj renaming cells->i' open Ending renaming returned->n' open Option renaming some->z',none->A' open Bool renaming true->N',false->O'
variable {k:Nat}{w:p'}
section
variable {B T p a q m g:Nat}{v:y'}{W X l b:p'}{L:Array y'}{t:TypeId}{D:List NC}{P:Pm}
structure TF(B tR tE:Nat)(w w':p'):Prop where
  low:Below B w w'
  keep:∀(q:Nat)(cs:Array y')(t:TypeId)(f:Nat×Nat),w.1[q]?=z' (i' cs t f)->t≠tR->t≠tE->w'.1[q]?=w.1[q]?
def TF.refl(B T p:Nat)(w:p'):TF B T p w w:=⟨aQ,λ_ _ _ _ _ _ _=>rfl⟩
def AF{a b c d}:=@TF.refl a b c d
def TF.trans{u v:p'}(h:TF B T p u v)(k:TF B T p v w):TF B T p u w:=
 ⟨h.low.trans k.low,λq L t f e C a=>by
  have V:=h.keep q L t f e C a
  exact(k.keep q L t f (V.trans e) C a).trans V⟩
def TF.bJ{a:p'}(h:Below w.1.size w a)(v:B<=δ w.1):TF B T p w a:=
 ⟨h.mono v,λq L t f e _ _=>h.block q (bq.1 e).1⟩
def TF.box{a:p'}(h:TF B T p w a){f:Nat×Nat}(e:w.1[q]?=z' (i' L t f))(C:t≠T)(b:t≠p):a.1[q]?=z' (i' L t f):=(h.keep q L t f e C b).trans e
def Sys.frame{d:Nat}{c:List RR}{r:RR}(h:Sys W B d m T p c)(e:c[k]?=z' r)(b:Below W.1.size W X)(a:B<=δ W.1)
  (F:ξ X l<|φ r.ev) (o:Nat):TF B T p W (κ l (O d o) v):=by
 have l:=(h.below b).row r<|aO e;refine⟨?_,?_⟩
 .exact((b.mono a).grown F (bX a b.size) λq e=>(l.lt q e).1).setCell h.low _
 intro q L t f e C c;have a:=(bq.1 e).1;have V:=(b.block q a).trans e;have s:q≠d:=by rintro rfl;rw[h.dy]at e;simp at e;exact C e.2.1.symm
 rw[aJ s,e];refine(F.block q (bq.1 V).1 ?_).trans V;intro u;rcases l.2 with⟨a,_⟩|⟨g,b,Y,a,_,N,_⟩
 .rw[a]at u;simp[Value.ownBlock]at u
 rw[a]at u;have:q=g:=by simpa[Value.ownBlock]using u
 subst this;rw[N]at V;simp at V;exact c V.2.1.symm
def Sys.UQ{c:List RR}{j:Nat}{r:RR}(h:Sys W B a m T p c)(U:p≠T)(d:c[k]?=z' r)(e:Bl W X)(F:ξ X l<|φ r.ev)(f:(n0 r)[j]?=z' v):χ l (O a<|k*(m+1)+j)=z' v/\l.frozen? (O a<|k*(m+1)+j)=O':=by
 have b:=h.below e;have z:some a≠φ r.ev:=λe=>dV (b.row r<|aO d) b.dy U e.symm;have w:=(F.block a (bq.1 b.dy).1 z).trans b.dy;have E:=A w;refine⟨?_,E.2 _⟩;have X:=h.len r<|aO d;have L:j<m+1:=by have:=(aX.1 f).1;simp[n0]at this;omega
 rw[E.1,cL,yk c k r j h.len d L,f]
structure PM(w:p')(g cap:Nat)(nl:List NC)(P:Pm):Prop where
  row:iB w g cap nl
  len:ζ nl=ζ P.nd
  nd:∀(j:Nat)(c:NC)(n:SN),nl[j]?=z' c->P.nd[j]?=z' n->c.n=n
  Xi:ζ P.nx=ζ P.nd
  nx:∀(j:Nat)(c:NC)(l:List Nat),nl[j]?=z' c->P.nx[j]?=z' l->Er w c.ev (l.map Int.ofNat)
def Er.tf{a:y'}{c:List Int}(h:Er w a c)(V:∀(q:Nat)(L:Array y')(t:TypeId)(f:Nat×Nat),w.1[q]?=z' (i' L t f)->t=3->b.1[q]?=w.1[q]?):Er b a c:=by
 rcases h with a|⟨b,e,c⟩
 .exact aP a
 exact aR ⟨b,e,(V _ _ _ _ c rfl).trans c⟩
def PM.keep(h:PM w g a D P)(V:∀(q:Nat)(L:Array y')(t:TypeId)(f:Nat×Nat),w.1[q]?=z' (i' L t f)->t=3\/t=152->b.1[q]?=w.1[q]?):PM b g a D P:=by refine⟨?_,h.len,h.nd,h.Xi,λj c l a b=>(h.nx j c l a b).tf λq L t f e U=>V q L t f e<|aP U⟩;obtain⟨Y,a,b⟩:=h.row;exact⟨Y,(V _ _ _ _ a<|aR rfl).trans a,b⟩
def PM.below(h:PM w g a D P)(c:Bl w b):PM b g a D P:=
 h.keep λq L t f e _=>c.block q (bq.1 e).1
def PM.tf(h:PM w g a D P)(Y:TF B T p w b)(C:T≠3)(c:p≠3)(N:T≠152)(d:p≠152):PM b g a D P:=
 h.keep λq L t f e U=>Y.keep q L t f e (by rcases U with rfl|rfl;(· exact jH C);exact jH N) (by rcases U with rfl|rfl;(· exact jH c);exact jH d)
structure cN(P:Pm):Prop where
  nv:P.nv<=8
  pos:0<ζ P.nd
  most:ζ P.nd<=60
  nx:∀l∈P.nx,ζ l<=2/\∀t∈l,t<ζ P.nd
  aH:∀n∈P.nd,0<=n.aH/\n.aH<=6
  var:∀n∈P.nd,n.aH<=2->0<=n.var/\n.var<P.nv
  a:∀n∈P.nd,0<dZ n->n.a.aU=N'->0<=n.a.var/\n.a.var<P.nv
  b:∀n∈P.nd,1<dZ n->n.b.aU=N'->0<=n.b.var/\n.b.var<P.nv
def PM.nodes(h:PM w g a D P)(a:k<ζ P.nd):∃c l,D[k]?=z' c/\P.nd[k]?=z' c.n/\P.at k=c.n/\P.nx[k]?=z' l/\P.qk k=l/\Er w c.ev (l.map Int.ofNat):=by
 have C:=h.len;have b:=h.Xi;have V:D[k]?=z' D[k]:=bj I;have u:=bj a;have a:P.nx[k]?=z' P.nx[k]:=bj I;have b:=h.nd k _ _ V u;refine⟨_,_,V,by rw[b];exact u,?_,a,?_,h.nx k _ _ V a⟩
 .rw[Pm.at,getD,u];exact b.symm
 rw[Pm.qk,getD,a];rfl
def Er.ints{c:y'}{b:List Int}(h:Er w c b):∃a,c=g' a (ζ b) (ζ b)/\bK w a b:=by
 rcases h with⟨rfl,rfl⟩|⟨b,rfl,a⟩
 .exact⟨A',rfl,λj x f=>by simp at f⟩
 refine⟨z'<|O b 0,rfl,λj x f=>⟨b,0,rfl,?_⟩⟩;rw[(A a).1];simp[f]
def Sys.keep{d:p'}{c:List RR}(h:Sys W B a m T p c)(b:W.1[q]?=z' (cU L t))(U:t≠T/\t≠p)(V:∀k,k≠q->d.1[k]?=W.1[k]?):Sys d B a m T p c:=by
 have nq:a≠q:=by rintro rfl;rw[h.dy]at b;simp at b;exact U.1 b.2.symm
 refine⟨(V _ nq).trans h.dy,h.low,h.len,λr a=>?_,h.wG⟩;have D:=h.row r a;refine⟨D.1,?_⟩;rcases D.2 with a|⟨g,c,Y,C,e,N,d⟩
 .exact aP a
 refine aR ⟨g,c,Y,C,e,(V _ ?_).trans N,d⟩;rintro rfl;rw[N]at b;simp at b;exact U.2 b.2.symm
abbrev RA:=List y'×List (Nat×y')
def RR.pr(r:RR):RA:=(r.st,r.es)
def wL(l:List RA)(ar:Nat)(e:Nat×y'):List RA:=l.modify ar λr=>(r.1,r.2++[e])
def Vf{c:List RR}{r:RR}{e:Nat×y'}{d:t'}{b:Nat}(a:c[k]?=z' r):(c.set k ⟨r.st,d,b,r.es++[e]⟩).map RR.pr=wL (c.map RR.pr) k e:=by
 refine et λj=>?_;rw[a!,e5,wL,IJ,a!];by_cases s:k=j
 .subst s;rw[aD rfl,aD (aX.1 a).1,a];simp[RR.pr]
 rw[aA s];cases c[j]?<;>simp[s]
abbrev je(g n cap nv:Nat):y':=j'<|fC g n cap nv
def Tq:(Tryz.prog.info? 393).map (λi=>(i.zero,i.size,i.bytes))=z' (z'<|j' #[Z 0,Z 0,g' A' 0 0],3,40):=M
def Tv:(Tryz.prog.info? 404).map (λi=>(i.zero,i.size,i.bytes))=z' (z'<|j' #[G 0,.nilFunc],2,16):=M
def mN(z:Array y')(m:Nat)(d:z.size=m):∀n,(madeCells z<|n*m).toList=(replicate n z.toList).flatten
 |0=>by simp[madeCells]
 |n+1=>by have B:=mN z m d n;simp only[madeCells,Array.toList_map,Array.toList_range]at B|-;rw[lZ,Nat.one_mul,xr,fq,B,IU,flatten_append];congr 1;rw[fS];simp only[oj,flatten_nil,iE];refine xy (by simp[d]) λi C a=>?_;simp only[b9,qP]at C;simp only[xx,IX,Function.comp,d];rw[qZ n m,Nat.mul_add_mod,AP C,getElem!_pos z i I];simp
def XT(n:Nat)(st:List y'):(replicate n<|st++[g' A' 0 0]).flatten=il (replicate n ⟨st,A',0,[]⟩):=by
 induction n with
 |zero=>rfl
 |succ n B=>rw[gM,oj,B,gM];rfl
def Sys.made{b n:Nat}{st:List y'}(p:Nat)(h:ρ W B T (m+1) (cG b n) n (replicate n<|st++[g' A' 0 0]).flatten)(R:ζ st=m):
  Sys W B b m T p (replicate n ⟨st,A',0,[]⟩):=by
 rcases h.2 with⟨e,_⟩|⟨g,b,Y,e,C,b,N,_,l,c⟩
 .simp at e
 simp at e;obtain⟨rfl,rfl⟩:=e;refine⟨?_,C,?_,?_,?_⟩
 .rw[b];congr 2;rw[c!<|by simp[l]]at c;rw[<-XT,<-c]
 .intro r b;rw[fB b];exact R
 .intro r b;rw[fB b];exact dj
 intro i j a b b f _;rw[fB<|aO b];exact aP rfl
def lG(g n b Q:Nat)(w:p')(K:n<=60):
  Cl 280 #[je g n b Q] w λe a=>∃d c,e=n' (du d n)/\Sys a w.1.size d 2 393 404 c/\c.map RR.pr=replicate n ([Z 0,Z 0],[])/\Bl w a:=by
 obtain⟨X,S,D,P,a⟩:=cI Tq;have c:J (_/\_/\_/\_):=⟨S,D,P,a⟩;clear S D P a;go_enter func280,ntmps280;go_wp2_with (at_make;refine gL _ rfl (.tmp 5) (.tmp 5) 256 rfl w.1.size 393 X _ 3 underlying256 c.a c.b c.c .i64 .i64 n n n rfl rfl rfl rfl (by rw[c.C];omega) (by unfold maxLen;omega) (by simp;try omega) ?_;intro t a d;have E:=A ((d.block (δ w.1+1) ak ak).trans (bE w _ _).2);have V:=hid<|Aa a d;clear a d);have X:=(V.A.block (δ w.1+1) ak ak).trans (bE w _ _).2;have r:=(A<|H (o:=0) X<|g' (z'<|O (δ w.1+1+1) 0) n n).1;have R:=(A<|H (o:=1) (H (o:=0) X<|g' (z'<|O (δ w.1+1+1) 0) n n) kX).1;have F:=(A<|H (o:=2) (H (o:=1) (H (o:=0) X<|g' (z'<|O (δ w.1+1+1) 0) n n) kX) r8).1;have a:Sys t w.1.size (δ w.1+1+1) 2 393 404 (replicate n ⟨[Z 0,Z 0],A',0,[]⟩):=by have C:=V.a;rw[mN _ 3 (by simp[Value.cells]) n]at C;have e:δ ((w.alloc<|i' (fC g n b Q) 86).alloc<|i' EM 260).1=δ w.1+1+1:=ak;rw[e]at C;exact Sys.made _ C rfl
 refine aE (v:=du (δ w.1+1+1) n) (by simp[results280,go_sem,r,R,F]) rfl ⟨δ w.1+1+1,_,rfl,a.keep X ⟨aj,aj⟩ λk a=>by rw[aJ a,aJ a,aJ a],by simp[RR.pr],?_⟩;have L:Bl w t:=(u! w _ _).grown V.A G' (λq e=>by cases e);exact((L.setCell G' _).setCell G' _).setCell G' _
def Sys.Yp{c:List RR}{r:RR}(h:Sys W B a m T p c)(d:c[k]?=z' r)(a:Bl W X)(F:ξ X l<|φ r.ev)(b:W.1[q]?=z' (cU L t))(U:p≠t):l.1[q]?=z' (cU L t):=by have V:=(a.block q (bq.1 b).1).trans b;exact(F.block q (bq.1 V).1 λe=>dV ((h.below a).row r<|aO d) V U e.symm).trans V
def adY{p:Prop}(h:p:=by
 obtain⟨i0,S,c,f,d⟩:=cI Tv;have q:J (_/\_/\_/\_):=⟨S,c,f,d⟩;clear S c f d;obtain⟨c,R,T,z,x,f,j,o⟩:=hP.nodes hk;have Q:=hO.nx R<|aO f;obtain⟨C,d,y⟩:=o.ints;rw[b9]at d;have u:χ w (O g<|k*14+12)=z' (g' C (ζ R)<|ζ R):=by rw[hP.row.cells k c T 12 I,<-d];rfl
 rw[j];have E:=hO.most;have s:=hid<|Aa hP<|Aa hO<|Aa hS<|Aa XG<|Aa Q<|Aa T<|Aa f d;obtain⟨N,i⟩:=Ea<|ζ P.nd;rw[<-i]at hl hk E|-;have Q:=hid i;clear hP hO hS XG y o T z x f j d i
 first|(have _:=BN;go_enter func285,ntmps285)|(go_enter func283,ntmps283)
 simp only[du,je,EE];go_upto_region 1 with(fail)
 generalize j:((w.alloc<|i' (eu rb N) 260).alloc<|i' (fC g N cap nv) 86).alloc (i' #[Z e.drop.1,Z e.drop.2,Z e.add.1,Z e.add.2] 397)=f;have U:J (Bl w f/\f.1[δ w.1]?=z' (i' (eu rb N) 260 (0,0))/\f.1[δ w.1+1]?=z' (i' (fC g N cap nv) 86 (0,0))/\f.1[δ w.1+1+1]?=z' (i' #[Z e.drop.1,Z e.drop.2,Z e.add.1,Z e.add.2] 397 (0,0))):=by
  subst j;refine⟨eD,?_,?_,?_⟩
  .rw[bR G'];exact(bE w _ _).1
  .rw[bR ak];exact(bE w _ _).2
  have:=cF ((w.alloc<|i' (eu rb N) 260).alloc<|i' (fC g N cap nv) 86)<|i' #[Z e.drop.1,Z e.drop.2,Z e.add.1,Z e.add.2] 397;simpa using this
 clear j;have d:=aB u U.a;have E:=A U.c;have K:(k:Int)<N:=I;go_wp2_with fail;clear E u d;generalize j' (eu rb N)=d;generalize j' (fC g N cap nv)=d
 first|(have _:=BN;go_loopw[17] (λi wr=>∃(j:Nat)(d:List RR),j<=ζ R/\i=G j/\J (Sys wr B rb 2 393 404 d/\d.map RR.pr=(R.take j).foldl (λl t=>wL l k (t,vH e)) (rl.map RR.pr)/\TF B 393 404 f wr/\ζ d=N/\∀r∈d,ζ r.es<=200+j)) (λi _=>ζ R-(intOf i).toNat))|(go_loopw[17] (λi wr=>∃(j:Nat)(d:List RR),j<=ζ R/\i=G j/\J (Sys wr B rb 2 393 404 d/\d.map RR.pr=(R.take j).foldl (λl t=>wL l t (k,vH e)) (rl.map RR.pr)/\TF B 393 404 f wr/\ζ d=N/\∀r∈d,ζ r.es<=200+j)) (λi _=>ζ R-(intOf i).toNat))
 case atStart=>exact⟨0,rl,bm,rfl,s.c.below U.a,rfl,AF,hl,s.d⟩
 obtain⟨j,d,f,rfl,f⟩:=hrel;by_cases L:j<ζ R;rotate_left
 .have o:¬(j:Int)<(ζ R:Int):=I;have u:R.take j=R:=c! I;go_wp2_with fail
  go_end0
  refine⟨⟨_,rfl⟩,d,f.a,?_,(TF.bJ U.a hB).trans f.c⟩;rw[f.b,u]
 have o:(j:Int)<(ζ R:Int):=I;obtain⟨t,F⟩:=La L;have o:t<N:=by rw[Q.o];exact s.e.2 t<|aO F
 have z:=(s.a.below U.a).tf f.c aj aj aj aj;obtain⟨x,X,u⟩:=(z.nx k c R s.f s.g).ints;rw[b9,s.G]at X;obtain rfl:C=x:=by simpa using X
 obtain⟨c,c,rfl,T⟩:=u j (t:Int) (by rw[a!,F];rfl)
 first|(have _:=BN;obtain⟨r,y⟩:=La (l:=d) (i:=k)<|by rw[f.d];exact hk)|(obtain⟨r,y⟩:∃r,d[t]?=z' r:=⟨_,bj<|by rw[f.d];exact o⟩)
 have Y:=f.a.cell (j:=2) y (v:=r.ev) (by have:=f.a.len r<|aO y;simp[n0,this]);simp only[Nat.reduceAdd,RR.ev]at Y;have E:=A<|f.c.box U.b aj aj;have K:=A<|f.c.box U.C aj aj;have c:=(bq.1<|f.c.box U.C aj aj).1;have C:=(bq.1 f.a.dy).1;have d:δ w.1≠δ wr.1:=I;have x:δ w.1+1+1≠δ wr.1:=I;have c:rb≠δ wr.1:=I;have V:=d.symm;have d:=x.symm;have d:=c.symm;have c:∀(o:Obj)(i:Nat),χ (wr.alloc o) (O w.1.size i)=((eu rb N):Array y')[i]?:=λo i=>(bh<|rY wr o _ I).trans<|E.1 i;have c:∀(o:Obj)(i:Nat),χ (wr.alloc o) (O (δ w.1+1+1) i)=(#[Z e.drop.1,Z e.drop.2,Z e.add.1,Z e.add.2]:Array y')[i]?:=λo i=>(bh<|rY wr o _ I).trans<|K.1 i
 first|(have _:=BN;have d:∀(o:Obj),χ (wr.alloc o) (O rb<|k*3+2)=z' (bk r.ea (ζ r.es) r.ec):=λo=>(bh<|rY wr o _ C).trans Y.1)|(have d:∀(o:Obj),χ (wr.alloc o) (O rb<|t*3+2)=some (bk r.ea (ζ r.es) r.ec):=λo=>(bh<|rY wr o _ C).trans Y.1)
 have c:=(bq.1 s.c.dy).1;have c:rb≠δ w.1:=I;have d:rb≠δ w.1+1+1:=I;have i:=c.symm;have c:=d.symm;have c:(t:Int)<N:=I;have c:=f.D r<|aO y;have d:=hid<|Aa y<|Aa (f.a.row r<|aO y) F;have c:=s.e.1;clear y z u X F;go_wp2_with fail
 first|(have _:=BN;go_region_law (refine gw rfl (.tmp 29) (.tmp 34) 391 rfl B 404 i0 (j' #[G 0,.nilFunc]) 2 16 underlying391 q.a q.b q.c q.C rfl aj (bk r.ea (ζ r.es) r.ec) (ζ r.es) (ix r.es) (by simp[Act.eval,Act.put]) (by exact aZ d.b ay) (O wr.1.size 0) 1 1 [G t,vH e] (by simp[Act.eval,Act.put]) rfl (by exact Gd<|cF wr _) (by intro u C;simp at C;rcases C with rfl|rfl<;>rfl) (by unfold maxLen;omega) I (by have:=f.a.low;simp;omega) ?_;intro E F c W y;obtain⟨o,s,rfl⟩:=aV c;obtain⟨i,x⟩:=f.a.UQ (j:=2) aj d.a ay W (v:=r.ev) (by have:=f.a.len r<|aO d.a;simp[n0,this]);simp only[Nat.reduceAdd,RR.ev]at i x;have z:=A<|f.a.Yp d.a ay W (f.c.box U.b aj aj) aj;have R:=A<|f.a.Yp d.a ay W (f.c.box U.C aj aj) aj))|(go_region_law (refine gw rfl (.tmp 29) (.tmp 34) 391 rfl B 404 i0 (j' #[G 0,.nilFunc]) 2 16 underlying391 q.a q.b q.c q.C rfl aj (bk r.ea (ζ r.es) r.ec) (ζ r.es) (ix r.es) (by simp[Act.eval,Act.put]) (by exact aZ d.b ay) (O wr.1.size 0) 1 1 [G k,vH e] (by simp[Act.eval,Act.put]) rfl (by exact Gd<|cF wr _) (by intro u C;simp at C;rcases C with rfl|rfl<;>rfl) (by unfold maxLen;omega) I (by have:=f.a.low;simp;omega) ?_;intro E F c W y;obtain⟨o,s,rfl⟩:=aV c;obtain⟨i,x⟩:=f.a.UQ (j:=2) aj d.a ay W (v:=r.ev) (by have:=f.a.len r<|aO d.a;simp[n0,this]);simp only[Nat.reduceAdd,RR.ev]at i x;have z:=A<|f.a.Yp d.a ay W (f.c.box U.b aj aj) aj;have R:=A<|f.a.Yp d.a ay W (f.c.box U.C aj aj) aj))
 all_goals
  first|(have _:=BN;have i:=f.a.grow (e:=(t,vH e)) aj d.a ay W c y;have Y:=f.a.frame (v:=g' o (ζ r.es+1) s) d.a ay (I' f.a.low) W<|k*3+2)|(have i:=f.a.grow (e:=(k,vH e)) aj d.a ay W c y;have Y:=f.a.frame (v:=g' o (ζ r.es+1) s) d.a ay (I' f.a.low) W<|t*3+2)
  have o:=hid<|Aa i Y;clear i Y c W y;go_wp2_with fail;go_roundw
  case rel=>
   refine⟨j+1,_,I,e',o.a,?_,f.c.trans o.A,by rw[dh];exact f.d,?_⟩
   .rw[Vf d.a,f.b,ep L,xh,(aX.1 d.B).2];rfl
   intro q c;rcases gJ c with c|rfl
   .have:=f.D q c;omega
   simp;omega
  exact F'):p:=h
def vQ(g cap nv rb B k:Nat)(D:List NC)(P:Pm)(rl:List RR)(e:Ef)(w:World)(hP:PM w g cap D P)(hO:cN P)(hk:k<P.nd.length)(hS:Sys w B rb 2 393 404 rl)(hl:rl.length=P.nd.length)(hB:B<=w.heap.size)(XG:∀r∈rl,r.es.length<=200):
  Cl 283 #[du rb P.nd.length,je g P.nd.length cap nv,G k,EE e] w λr b=>(∃v,r=.returned v)/\∃a,Sys b B rb 2 393 404 a/\a.map RR.pr=(P.qk k).foldl (λl t=>wL l t (k,vH e)) (rl.map RR.pr)/\TF B 393 404 w b:=by
 exact adY
end
section
variable {p:Prop}
def LR(h:p:=by
 go_enter func282,ntmps282;go_wp2_with fail;go_ret
 exact⟨rfl,rfl⟩):p:=h
def lO(a:x')(P b:y')(n:SN)(w:p')(d:0<=n.aH):
  Cl 282 #[j'<|aS a P n b] w λe c=>e=n' (h'<|hU n)/\c=w.alloc (i' (aS a P n b) 152):=by
 obtain⟨x,q,i,a,⟨L,f,b⟩,⟨F,D,X⟩,g⟩:=n;simp only at d;obtain⟨d,Q⟩:=Ea<|hU ⟨x,q,i,a,⟨L,f,b⟩,⟨F,D,X⟩,g⟩;rw[<-Q];have B:J (d=decide (x<=2)):=Q;clear Q;simp only[aS];cases D:(x==0);rotate_left
 .obtain rfl:d=N':=by rw[B.o];simp at D|-;omega
  exact LR
 cases C:(x==1);rotate_left
 .obtain rfl:d=N':=by rw[B.o];simp at C|-;omega
  exact LR
 cases a:(x==2)
 .obtain rfl:d=O':=by rw[B.o];simp at D C a|-;omega
  exact LR
 obtain rfl:d=N':=by rw[B.o];simp at a|-;omega
 exact LR
def nu(n:SN):List lz:=if n.aH=0\/n.aH=3 then[n.a] else if n.aH=1\/n.aH=4 then[n.a,n.b] else[]
def opC(o:lz):List y':=[h' o.aU,G o.var,G o.cg]
def Ch(w:p')(ao:t')(os:List lz):Prop:=∀j o,os[j]?=z' o->∃b q,ao=z' (O b q)/\χ w (O b<|q+j*3)=z' (h' o.aU)/\χ w (O b<|q+j*3+1)=z' (G o.var)/\χ w (O b<|q+j*3+2)=z' (G o.cg)
def Mw{w:p'}{q t:Nat}{b:List lz}(h:w.1[q]?=z' (i' (θ<|b.flatMap opC) t (0,0))):Ch w (z'<|O q 0) b:=by
 have X:∀(b:List lz)(j:Nat)(o:lz),b[j]?=z' o->(b.flatMap opC)[j*3]?=z' (h' o.aU)/\(b.flatMap opC)[j*3+1]?=z' (G o.var)/\(b.flatMap opC)[j*3+2]?=z' (G o.cg):=by
  intro b;induction b with
  |nil=>intro j o h;simp at h
  |cons a r B=>
   intro j o h;cases j with
   |zero=>simp at h;subst h;simp[opC]
   |succ j=>have:=B j o<|H' h;simp only[bW,opC,fW,gg]at this|-;rw[show(j+1)*3=j*3+1+1+1 by omega];simpa using this
 intro j o f;obtain⟨U,a,k⟩:=X b j o f;have E:=A h;exact⟨q,0,rfl,by rw[E.1];simpa using U,by rw[E.1];simpa[iH]using a,by rw[E.1];simpa[iH]using k⟩
def Zw(h:p:=by
 go_enter func329,ntmps329;go_wp2_with fail;go_ret
 exact⟨_,rfl,c.a _ _ ak,dH⟩):p:=h
def Zv(h:p:=by
 go_enter func329,ntmps329;go_wp2_with fail;go_ret
 exact⟨_,rfl,c.A _ _ ak,dH⟩):p:=h
def Dj(a:x')(P b:y')(n:SN)(w:p'):
  Cl 329 #[j'<|aS a P n b] w λe b=>∃a,e=n' (g' a (ζ<|nu n)<|ζ<|nu n)/\Ch b a (nu n)/\Bl w b:=by
 obtain⟨x,q,i,c,⟨L,f,b⟩,⟨F,r,e⟩,g⟩:=n;obtain⟨a,k⟩:=Ea<|nu ⟨x,q,i,c,⟨L,f,b⟩,⟨F,r,e⟩,g⟩;rw[<-k];have V:=hid k;clear k;simp only[aS];have l:∀(X:p')(q:Nat),q=δ X.1->Ch (X.alloc<|i' (cD L f b) 150) (z'<|O q 0) [⟨L,f,b⟩]:=λX q c=>by subst c;exact Mw<|cF X _
 have p:∀(X:p')(q:Nat),q=δ X.1->Ch (X.alloc<|i' #[h' L,G f,G b,h' F,G r,G e] 150) (z'<|O q 0) [⟨L,f,b⟩,⟨F,r,e⟩]:=λX q c=>by subst c;exact Mw<|cF X _
 have c:=hid<|Aa l p;clear l p;cases D:(x==0);rotate_left
 .obtain rfl:a=[⟨L,f,b⟩]:=by rw[V.o,nu];simp at D;simp[D]
  exact Zw
 cases N:(x==3);rotate_left
 .obtain rfl:a=[⟨L,f,b⟩]:=by rw[V.o,nu];simp at N;simp[N]
  exact Zw
 cases C:(x==1);rotate_left
 .obtain rfl:a=[⟨L,f,b⟩,⟨F,r,e⟩]:=by rw[V.o,nu];simp at C;simp[C]
  exact Zv
 cases d:(x==4)
 .obtain rfl:a=[]:=by rw[V.o,nu];simp at D N C d;simp[D,N,C,d]
  go_enter func329,ntmps329;go_wp2_with fail;go_ret;exact⟨A',rfl,λj o h=>by simp at h,bA⟩
 obtain rfl:a=[⟨L,f,b⟩,⟨F,r,e⟩]:=by rw[V.o,nu];simp at D N d;simp[d]
 exact Zv
def tW(k:Key):Array y':=(r6 k.1.1 k.1.2.1 k.1.2.2 k.2.1 k.2.2.1 k.2.2.2.1 k.2.2.2.2)
def EY(h:p:=by
 go_enter func333,ntmps333;go_wp2_with fail;go_ret
 exact⟨rfl,bA⟩):p:=h
def PO(k:Key)(v:Int)(w:p'):
  Cl 333 #[j'<|tW k,G v] w (Rb w<|h'<|qC k v):=by
 obtain⟨⟨L,f,b⟩,i,F,D,X⟩:=k;obtain⟨d,Q⟩:=Ea<|qC ((L,f,b),i,F,D,X) v;rw[<-Q];have B:J (d=((L&&f==v)||(F&&D==v))):=Q;clear Q;simp only[tW];cases L
 .cases F
  .obtain rfl:d=O':=by rw[B.o];rfl
   exact EY
  obtain rfl:d=(D==v):=by rw[B.o];simp
  exact EY
 cases h:(f==v);rotate_left
 .obtain rfl:d=N':=by rw[B.o,h];rfl
  exact EY
 cases F
 .obtain rfl:d=O':=by rw[B.o,h];rfl
  exact EY
 obtain rfl:d=(D==v):=by rw[B.o,h];simp
 exact EY
end
def Ib(os:List lz):BS:=os.foldl (λs o=>if o.aU then fU s (de [o.var.toNat]) else s) (0,0)
def QX(n:SN):BS:=Ib<|nu n
def EW(a:List lz)(o:lz):Ib (a++[o])=if o.aU then fU (Ib a) (de [o.var.toNat]) else Ib a:=by simp[Ib]
def oR{v:Nat}(h:v<128):b! (de [v]):=me _ λg a=>by rw[j9.1 a];exact h
def Jg:∀(k:Nat)(a:List lz),(∀o∈a,o.aU=N'->0<=o.var/\o.var<128)->b! (Ib<|a.take k)
 |0,a,_=>(show b! (0,0)from⟨aj,aj⟩)
 |k+1,a,h=>by
  have B:=Jg k a h;by_cases b:k<ζ a
  .rw[ep b,EW];split
   .rename_i R;have:=h _ (eG b) R;exact ib B<|oR I
   exact B
  rw[c! I]at B|-;exact B
def Aw{w:p'}{q t:Nat}{s:BS}(h:w.1[q]?=z' (i' #[Z s.1,Z s.2] t (0,0)))(z:BS):(κ (κ w (O q 0)<|Z z.1) (O q 1)<|Z z.2).1[q]?=z' (i' #[Z z.1,Z z.2] t (0,0)):=by rw[H (H h _) _];rfl
def QW(c:x')(wv ev:y')(n:SN)(w:p')(R:∀o∈nu n,o.aU=N'->0<=o.var/\o.var<128):
  Cl 284 #[j'<|aS c wv n ev] w (Rb w<|cW<|QX n):=by
 obtain⟨os,k⟩:=Ea<|nu n;have W:ζ os<=2:=by rw[k];unfold nu;split;(· simp);split<;>simp
 have HP:J (∀W,Cl 329 #[j'<|aS c wv n ev] W λe N=>∃a,e=n' (g' a (ζ os)<|ζ os)/\Ch N a os/\Bl W N):=by rw[k];exact λW=>Dj c wv ev n W
 rw[<-k]at R;have l:QX n=Ib os:=by rw[k];rfl
 rw[l];have HH:=hid R;clear k l R;obtain⟨x,y,op,v,⟨ai,av,ac⟩,⟨F,D,X⟩,g⟩:=n;simp only[aS]at HP|-;go_enter func284,ntmps284;go_upto_region 2 with(fail)
 generalize j:((w.alloc<|i' #[k' c,wv,G x,G y,G op,G v,h' ai,G av,G ac,h' F,G D,G X,ev,k' g] 152).alloc gY).alloc gY=W;have U:J (Bl w W/\b' W w.1.size #[k' c,wv,G x,G y,G op,G v,h' ai,G av,G ac,h' F,G D,G X,ev,k' g] 152/\W.1[δ w.1+1]?=z' lC/\W.1[δ w.1+1+1]?=z' lC):=by subst j;obtain⟨W,e1,e2,_⟩:=qd w (i' #[k' c,wv,G x,G y,G op,G v,h' ai,G av,G ac,h' F,G D,G X,ev,k' g] 152) gY gY<|i' #[] 0;rw[bR<|by simp;try omega]at W e1 e2;exact⟨eD,W,e1,e2⟩
 clear j;have E:=A U.b;go_wp2_with (go_at_call 329;refine(HP.o _).mono ?_;rintro e W1 ⟨a,rfl,b,l⟩;have V:=hid<|Aa b l;clear b l);clear E;have W:=blt U.C;have b:=V.A.size;generalize j' #[k' c,wv,G x,G y,G op,G v,h' ai,G av,G ac,h' F,G D,G X,ev,k' g]=c;go_loopw[9] (λy wr=>∃k:Nat,k<=ζ os/\y=G k/\J (Bl w wr/\wr.1[δ w.1+1]?=z' lC/\wr.1[δ w.1+1+1]?=z' (i' #[Z ((Ib<|os.take k).1:Int),Z ((Ib<|os.take k).2:Int)] 267 (0,0))/\Ch wr a os)) (λy _=>ζ os-(intOf y).toNat)
 case atStart=>exact⟨0,bm,rfl,aq U.a V.A,aG V.A U.c,aG V.A U.C,V.a⟩
 clear V b;obtain⟨k,c,rfl,R⟩:=hrel;have D:=blt R.c;by_cases L:k<ζ os;rotate_left
 .have jy:¬(k:Int)<(ζ os:Int):=I;have ah:os.take k=os:=c! I;obtain⟨z,f⟩:=Ea<|Ib os;have x:=R.c;rw[ah,<-f]at x;have c:=hid f;clear f ah;have E:=A x;have y1:=A R.b;have n1:δ w.1+1≠δ w.1+1+1:=I;go_wp2_with fail;have v:=R.b;have g:χ (κ wr (O (δ w.1+1) 0)<|Z z.1) (O (δ w.1+1) 0)=z' (Z z.1):=by rw[(A<|H v _).1];rfl
  have r1:χ (κ (κ wr (O (δ w.1+1) 0)<|Z z.1) (O (δ w.1+1) 1)<|Z z.2) (O (δ w.1+1) 1)=z' (Z z.2):=by rw[(A<|H (H v _) _).1];rfl
  refine aE (v:=cW z) (by simp[results284,go_sem,cW,g,r1]) rfl ⟨by rw[c.o],?_⟩;exact(R.a.setCell G' _).setCell G' _
 have jy:(k:Int)<(ζ os:Int):=I;obtain⟨o,s⟩:=La L;obtain⟨b,q,rfl,T,c1,p⟩:=R.C k o s;have Vx:=HH.o o<|aO s;have j:Ib (os.take<|k+1)=if o.aU then fU (Ib<|os.take k) (de [o.var.toNat]) else Ib (os.take k):=by rw[ep L,(aX.1 s).2,EW]
 have B:=Jg k os HH.o;obtain⟨u,C⟩:=Ea<|Ib<|os.take k;rw[<-C]at j B;obtain⟨oi,ov,r⟩:=o;simp only at T c1 p Vx j;have HX:=hid<|Aa j (show wr.1[δ w.1+1+1]?=z' (xS u.1 u.2)by rw[C];exact R.c);clear C j s;cases oi
 .go_wp2_with fail;go_roundw
  case rel=>
   have c:=cf wr<|i' #[h' O',G ov,G r] 150;refine⟨k+1,L,e',aq R.a c,aG c R.b,?_,λj o hj=>by obtain⟨b,q,e,t,Y,d2⟩:=R.C j o hj;exact⟨b,q,e,aB t c,aB Y c,aB d2 c⟩⟩;rw[HX.a];exact aG c HX.A
  exact F'
 obtain⟨h0,C⟩:=Vx rfl;obtain⟨m,rfl⟩:∃m:Nat,ov=m:=⟨ov.toNat,I⟩;have s:J (∀X b,χ X (O b 0)=z' (G m)->Cl 241 (oq b) X (Rb X<|cW<|de [m])):=λX b c=>mc X b m I c;have HU:J (∀(X:p') b,χ X (O b 0)=z' (Z u.1)->χ X (O b 1)=z' (Z u.2)->χ X (O b 2)=z' (Z ((de [m]).1:Int))->χ X (O b 3)=z' (Z ((de [m]).2:Int))->Cl 267 (r7 b) X (Rb X<|cW<|fU u<|de [m])):=λX b h0 C c N=>by have:=gu X b u (de [m]) B (oR I) h0 C c N;exact this
 have HN:J (Ib (os.take<|k+1)=fU u (de [m])):=by rw[HX.a];rfl
 obtain⟨b,V⟩:=Ea<|de [m];obtain⟨z,f⟩:=Ea<|fU u<|de [m];rw[<-f]at HN HU;rw[<-V]at s HU;clear V f B;simp only[cW]at s HU;go_upto_region 6 with(fail)
 generalize f:wr.alloc (qy m r)=V;have B:J (Bl wr V/\b' V wr.1.size #[h' N',G m,G r] 150):=by subst f;exact⟨bA,cv⟩
 clear f T c1 p;have E:=A<|aG B.a HX.A;have y1:=A B.A;have b:=B.a.size;have r:=blt B.A;have n1:δ w.1+1+1≠δ V.1:=I;have x:δ wr.1≠δ V.1:=I;have c:=n1.symm;have b:=x.symm;have c:∀(o:Obj)(i:Nat),χ (V.alloc o) (O (δ w.1+1+1) i)=(#[Z u.1,Z u.2]:Array y')[i]?:=λo i=>(bh<|rY V o _ I).trans<|E.1 i
 go_region_law (first|(go_simp;refine bP (s.o _ _ ak) ?_;rintro e W1 ⟨rfl,l⟩;have r:J (Bl V W1):=aq ay l;clear E y1 l;have E:=A<|aG r.o<|aG B.a HX.A;have y1:=A<|aG r.o B.A)|(go_simp;refine bP (HU.o _ _ ak ak ak ak) ?_;rintro e l ⟨rfl,X⟩;have b:J (Bl V l):=aq (aq r.o ay) X;clear E y1 X;have E:=A<|aG b.o<|aG B.a HX.A))
 all_goals
  go_wp2_with fail;go_roundw
  case rel=>
   have p:=aq B.a b.o;refine⟨k+1,L,e',((aq R.a p).setCell G' _).setCell G' _,?_,?_,?_⟩
   .rw[aJ G',aJ G'];exact aG p R.b
   .rw[HN.o];exact Aw (aG p HX.A) z
   intro j o hj;obtain⟨f,q',e,t,Y,d2⟩:=R.C j o hj;have T:f≠δ w.1+1+1:=by
    rintro rfl;rw[(A HX.A).1]at t Y;generalize q'+j*3=i at t Y
    match i,t,Y with
    |0,t,_=>simp at t
    |1,t,_=>simp at t
    |i+2,t,_=>simp at t
   have V:(κ (κ l (O (δ w.1+1+1) 0)<|Z z.1) (O (δ w.1+1+1) 1)<|Z z.2).1[f]?=l.1[f]?:=by rw[aJ T,aJ T]
   exact⟨f,q',e,(bh V).trans<|aB t p,(bh V).trans<|aB Y p,(bh V).trans<|aB d2 p⟩
  exact F'
def jx(n:SN):Key:=(jT n.a,n.op,jT n.b)
def KM(n:SN):Bool:=n.aH==1&&(n.a.aU||n.b.aU)
def DW(n:SN):tZ n=if KM n then z' (jx n) else A':=by
 unfold tZ KM jx;by_cases h:n.aH=1/\(n.a.aU=N'\/n.b.aU=N')
 .rw[aD h,aD<|by simp[h.1];exact h.2]
 rw[aA h,aA<|H' h]
def ade{X:p'}{q t:Nat}{T Q p a P b g:y'}(h:X.1[q]?=z' (i' #[T,Q,p,a,P,b,g] t (0,0)))(L c R b E S a:y'):(κ (κ (κ (κ (κ (κ (κ X (O q 0) L) (O q 1) c) (O q 2) R) (O q 3) b) (O q 4) E) (O q 5) S) (O q 6) a).1[q]?=z' (i' #[L,c,R,b,E,S,a] t (0,0)):=by have V:=H (o:=6) (H (o:=5) (H (o:=4) (H (o:=3) (H (o:=2) (H (o:=1) (H (o:=0) h L) c) R) b) E) S) a;rw[V];simp only[cj,dm,cO]
def G9(h:x')(P k:y')(n:SN)(w:p'):
  Cl 330 #[j'<|aS h P n k] w λe a=>e=n' (o' #[j'<|tW<|jx n,h'<|KM n])/\Below w.1.size w a:=by
 obtain⟨x,q,i,a,⟨L,f,b⟩,⟨F,D,X⟩,g⟩:=n;obtain⟨d,Q⟩:=Ea<|KM ⟨x,q,i,a,⟨L,f,b⟩,⟨F,D,X⟩,g⟩;rw[<-Q];have B:J (d=(x==1&&(L||F))):=Q;clear Q;simp only[aS,tW,jx,jT];go_enter func330,ntmps330;go_upto_region 2 with(fail)
 generalize j:((w.alloc<|i' #[k' h,P,G x,G q,G i,G a,h' L,G f,G b,h' F,G D,G X,k,k' g] 152).alloc<|i' EL 430).alloc (i' (r6 L f b i F D X) 430)=e;have U:J (Below w.1.size w e/\b' e w.1.size #[k' h,P,G x,G q,G i,G a,h' L,G f,G b,h' F,G D,G X,k,k' g] 152/\b' e (δ w.1+1) EL 430/\b' e (δ w.1+1+1) (r6 L f b i F D X) 430):=by subst j;obtain⟨o,V,u,_⟩:=qd w (i' #[k' h,P,G x,G q,G i,G a,h' L,G f,G b,h' F,G D,G X,k,k' g] 152) (i' EL 430) (i' (r6 L f b i F D X) 430)<|i' #[] 0;rw[bR<|by simp;try omega]at o V u;exact⟨eD,o,V,u⟩
 clear j;have E:=A U.b;have c:=A U.c;have W:=A U.C;have s:δ w.1≠δ w.1+1:=I;have j:δ w.1+1+1≠δ w.1+1:=I;have c:=s.symm;have V:=j.symm;have R:δ w.1<=δ w.1+1:=I;generalize j' #[k' h,P,G x,G q,G i,G a,h' L,G f,G b,h' F,G D,G X,k,k' g]=h;cases c:(x==1)
 .obtain rfl:d=O':=by rw[B.o,c];rfl
  go_region
  all_goals
   go_wp2_with fail;have a:=ade U.c (h' L) (G f) (G b) (G i) (h' F) (G D)<|G X;have l:Below w.1.size w (κ (κ (κ (κ (κ (κ (κ e (O (δ w.1+1) 0)<|h' L) (O (δ w.1+1) 1)<|G f) (O (δ w.1+1) 2)<|G b) (O (δ w.1+1) 3)<|G i) (O (δ w.1+1) 4)<|h' F) (O (δ w.1+1) 5)<|G D) (O (δ w.1+1) 6)<|G X):=by(iterate 7 refine jI ?_ R _);exact U.a
   generalize(κ (κ (κ (κ (κ (κ (κ e (O (δ w.1+1) 0)<|h' L) (O (δ w.1+1) 1)<|G f) (O (δ w.1+1) 2)<|G b) (O (δ w.1+1) 3)<|G i) (O (δ w.1+1) 4)<|h' F) (O (δ w.1+1) 5)<|G D) (O (δ w.1+1) 6)<|G X)=Y at a l|-;refine aE (v:=o' #[j'<|r6 L f b i F D X,h' O']) (by simp[results330,go_sem,(A a).1]) rfl ⟨rfl,l.drew⟩
 cases L
 .obtain rfl:d=F:=by rw[B.o,c];simp
  go_region
  all_goals
   go_wp2_with fail;have a:=ade U.c (h' O') (G f) (G b) (G i) (h' d) (G D)<|G X;have l:Below w.1.size w (κ (κ (κ (κ (κ (κ (κ e (O (δ w.1+1) 0)<|h' O') (O (δ w.1+1) 1)<|G f) (O (δ w.1+1) 2)<|G b) (O (δ w.1+1) 3)<|G i) (O (δ w.1+1) 4)<|h' d) (O (δ w.1+1) 5)<|G D) (O (δ w.1+1) 6)<|G X):=by(iterate 7 refine jI ?_ R _);exact U.a
   generalize(κ (κ (κ (κ (κ (κ (κ e (O (δ w.1+1) 0)<|h' O') (O (δ w.1+1) 1)<|G f) (O (δ w.1+1) 2)<|G b) (O (δ w.1+1) 3)<|G i) (O (δ w.1+1) 4)<|h' d) (O (δ w.1+1) 5)<|G D) (O (δ w.1+1) 6)<|G X)=Y at a l|-;refine aE (v:=o' #[j' #[h' O',G f,G b,G i,h' d,G D,G X],h' d]) (by simp[results330,go_sem,(A a).1]) rfl ⟨rfl,l.drew⟩
 obtain rfl:d=N':=by rw[B.o,c];rfl
 go_region
 all_goals
  go_wp2_with fail;have a:=ade U.c (h' N') (G f) (G b) (G i) (h' F) (G D)<|G X;have l:Below w.1.size w (κ (κ (κ (κ (κ (κ (κ e (O (δ w.1+1) 0)<|h' N') (O (δ w.1+1) 1)<|G f) (O (δ w.1+1) 2)<|G b) (O (δ w.1+1) 3)<|G i) (O (δ w.1+1) 4)<|h' F) (O (δ w.1+1) 5)<|G D) (O (δ w.1+1) 6)<|G X):=by(iterate 7 refine jI ?_ R _);exact U.a
  generalize(κ (κ (κ (κ (κ (κ (κ e (O (δ w.1+1) 0)<|h' N') (O (δ w.1+1) 1)<|G f) (O (δ w.1+1) 2)<|G b) (O (δ w.1+1) 3)<|G i) (O (δ w.1+1) 4)<|h' F) (O (δ w.1+1) 5)<|G D) (O (δ w.1+1) 6)<|G X)=Y at a l|-;refine aE (v:=o' #[j' #[h' N',G f,G b,G i,h' F,G D,G X],h' N']) (by simp[results330,go_sem,(A a).1]) rfl ⟨rfl,l.drew⟩
section
variable {a b k:Key}{R:List Key}
structure nF(k:Key):Prop where
  av:(Lit.int .i64 k.1.2.1).wf=N'
  ac:(Lit.int .i64 k.1.2.2).wf=N'
  op:(Lit.int .i64 k.2.1).wf=N'
  bv:(Lit.int .i64 k.2.2.2.1).wf=N'
  bc:(Lit.int .i64 k.2.2.2.2).wf=N'
def kxL(k:Key):List Lit:=[.bool k.1.1,.int .i64 k.1.2.1,.int .i64 k.1.2.2,.int .i64 k.2.1,.bool k.2.2.1,.int .i64 k.2.2.2.1,.int .i64 k.2.2.2.2]
def Xn:kxL a=kxL b↔a=b:=by obtain⟨⟨N,c,c⟩,C,t,U,e⟩:=a;obtain⟨⟨a,o,x⟩,j,l,g,c⟩:=b;simp[kxL,and_assoc]
def UM:Tryz.prog.cellsOf 430=7:=M
def UN:Tryz.prog.cellsOf 150=3:=M
def UO:Tryz.prog.cellsOf 147=1:=M
def ac5:Tryz.prog.cellsOf 4=1:=M
def ac6:Tryz.prog.cellsOf 3=1:=M
def ac7:Tryz.prog.cellsOf 2=1:=M
def MR(h:nF k):Tryz.prog.keyLits 5 430 (tW k).toList=z' (kxL k):=by obtain⟨⟨N,a,b⟩,C,t,U,e⟩:=k;obtain⟨C,a,N,d,l⟩:=h;simp only at C a N d l;simp[Program.keyLits,tW,kxL,underlying430,underlying147,underlying150,underlying4,underlying3,underlying2,UM,UN,UO,ac5,ac6,ac7,C,a,N,d,l];rw[aD aj,aD aj];rfl
def acj:Tryz.prog.keyTypeAt 5 430=N':=M
def af3(d:nF a)(e:nF b)(w:p'):(binOp .eql 430 (j'<|tW a)<|j'<|tW b).run Tryz.prog w=.ok (h' (decide (a=b))) w:=by
 rw[run_eql_struct];obtain⟨r,c,S⟩:=II (P:=Tryz.prog) 9995 5 430 acj w 5 5 (j'<|tW a) (j'<|tW b) _ _ M M (MR d)<|MR e;rw[Xn]at S;have:r=decide (a=b):=by rw[cC,S];simp
 rw[<-this];simp only[Nat.reduceAdd]at c;rw[c];rfl
def Hx(w:p')(ao:t')(ks:List Key):Prop:=∀j k,ks[j]?=z' k->∃b o,ao=z' (O b o)/\∀i v,(tW k)[i]?=z' v->χ w (O b<|o+j*7+i)=z' v
def Hx.below{w a:p'}{q:t'}(h:Hx w q R)(d:Bl w a):Hx a q R:=by intro j k f;obtain⟨b,o,e,c⟩:=h j k f;exact⟨b,o,e,λi v S=>aB (c i v S) d⟩
def Aq(ks:List Key)(k:Key):Int:=if k∈ks then(ks.idxOf k:Nat) else -1
def Xv{j:Nat}(K:k∉R.take j)(f:R[j]?=z' k):Aq R k=j:=by
 unfold Aq;have X:=(aX.1 f).1;rw[aD<|aO f];congr 1;have e:=(ug j R).symm;rw[e,xM,aA K];have u:R.drop j=k::R.drop (j+1):=by rw[mX X,(aX.1 f).2]
 rw[u,idxOf_cons_self,jk];omega
def B4(a:t')(c:Nat)(R:List Key)(k:Key)(w:p')(h:Hx w a R)(b:nF k)(N:∀x∈R,nF x)(X:ζ R<=100):
  Cl 332 #[g' a (ζ R) c,j'<|tW k] w (Rb w<|G<|Aq R k):=by
 have s:=hid<|Aa h<|Aa b N;clear h b N;simp only[tW];go_enter func332,ntmps332;go_wp2_with fail;generalize u:w.alloc (i' (r6 k.1.1 k.1.2.1 k.1.2.2 k.2.1 k.2.2.1 k.2.2.2.1 k.2.2.2.2) 430)=a;have U:J (Bl w a/\b' a w.1.size (r6 k.1.1 k.1.2.1 k.1.2.2 k.2.1 k.2.2.1 k.2.2.2.1 k.2.2.2.2) 430):=by subst u;exact⟨bA,cv⟩
 clear u;go_loopw[8] (λy wr=>∃j:Nat,j<=ζ R/\y=G j/\J (k∉R.take j/\Bl a wr)) (λy _=>ζ R-(intOf y).toNat)
 case atStart=>exact⟨0,bm,rfl,ak,aQ⟩
 obtain⟨j,f,rfl,a⟩:=hrel;by_cases L:j<ζ R;rotate_left
 .have b:¬(j:Int)<(ζ R:Int):=I;have c:J (Aq R k=-1):=by have C:=a.a;rw[c! I]at C;show _=_;rw[Aq,aA C]
  go_wp2_with fail;go_ret;exact⟨by rw[c.o];rfl,aq U.a a.A⟩
 have b:(j:Int)<(ζ R:Int):=I;obtain⟨x,F⟩:=La L;obtain⟨b,o,rfl,X⟩:=(s.a.below<|aq U.a a.A) j x F;have T:χ wr (O b<|o+j*7)=z' (h' x.1.1):=X 0 _ rfl;have Q:χ wr (O b<|o+j*7+1)=z' (G x.1.2.1):=X 1 _ rfl;have p:χ wr (O b<|o+j*7+2)=z' (G x.1.2.2):=X 2 _ rfl;have d:χ wr (O b<|o+j*7+3)=z' (G x.2.1):=X 3 _ rfl;have P:χ wr (O b<|o+j*7+4)=z' (h' x.2.2.1):=X 4 _ rfl;have d:χ wr (O b<|o+j*7+5)=z' (G x.2.2.2.1):=X 5 _ rfl;have g:χ wr (O b<|o+j*7+6)=z' (G x.2.2.2.2):=X 6 _ rfl;have E:=A<|aG a.A U.A;have b:=λw=>af3 s.b (s.B x<|aO F) w;simp only[tW]at b;have V:Tryz.prog.eqGuardType Tryz.prog.depth 430=O':=M;have d:=hid F;clear X F;by_cases l:k=x
 .rw[eC l]at b;have c:=hid (Xv a.a<|by rw[l];exact d.o);have v:=hid l;clear l;go_wp2_with fail
  go_region
  all_goals
   go_wp2_with fail;go_ret;exact⟨by rw[c.o];rfl,(aq U.a a.A).drew⟩
 rw[dp l]at b;have v:=hid l;clear l;go_wp2_with fail
 go_region
 all_goals
  go_wp2_with fail;go_roundw
  case rel=>
   refine⟨j+1,L,e',?_,a.A.drew⟩;rw[ep L,(aX.1 d.o).2];simp only[iF,j9,not_or];exact⟨a.a,v.o⟩
  exact F'
def PT(a:t')(c:Nat)(R:List Key)(k:Key)(w:p')(h:Hx w a R)(d:nF k)(N:∀x∈R,nF x)(X:ζ R<=100):
  Cl 331 #[g' a (ζ R) c,j'<|tW k] w (Rb w<|h' (decide (k∈R))):=by
 have f:=hid λW j=>B4 a c R k W (h.below j) d N X;clear h d N;obtain⟨d,Q⟩:=Ea<|Aq R k;have B:J (decide (k∈R)=decide (0<=d)):=by show _=_;rw[Q];unfold Aq;split<;>simp_all
 rw[<-Q]at f;clear Q;simp only[tW]at f|-;go_enter func331,ntmps331;go_wp2_with (go_at_call 332;refine(f.o _ bA).mono ?_;rintro e t ⟨rfl,(U:J _)⟩);go_ret;exact⟨by rw[B.o];rfl,aq bA U.o⟩
end
section
variable {α β K:Type}
structure Two{α β:Type}(R:α->β->Prop)(l:List α)(m:List β):Prop where
  len:ζ l=ζ m
  each:∀(j:Nat) a b,l[j]?=z' a->m[j]?=z' b->R a b
def Two.nil{R:α->β->Prop}:Two R [] []:=⟨rfl,λj a b h=>by simp at h⟩
def Two.snoc{R:α->β->Prop}{l:List α}{m:List β}{x:α}{y:β}(h:Two R l m)(c:R x y):Two R (l++[x]) (m++[y]):=by
 refine⟨by simp[h.len],λj a b d e=>?_⟩;have X:=h.len;by_cases f:j<ζ l
 .rw[gI f]at d;rw[gI I]at e;exact h.each j a b d e
 have C:=(aX.1 d).1;simp at C;obtain rfl:j=ζ l:=I;rw[eB I]at d;rw[X,eB I]at e;simp at d e;rw[<-d,<-e];exact c
def Two.tail{R:α->β->Prop}{l:List α}{m:List β}{x:α}{y:β}(h:Two R (x::l)<|y::m):R x y/\Two R l m:=
 ⟨h.each 0 x y rfl rfl,by have:=h.len;simpa using this,λj a b c d=>h.each (j+1) a b (H' c)<|H' d⟩
def Two.mem{R:α->β->Prop}{l:List α}{m:List β}(h:Two R l m)(v:∀a b c o,R a b->R c o->(a=c↔b=o)){x:α}{y:β}(c:R x y):x∈l↔y∈m:=by
 constructor
 .intro F;obtain⟨j,f⟩:=EJ F;obtain⟨b,d⟩:=La (l:=m) (i:=j) (by have:=(aX.1 f).1;have:=h.len;omega);have:=(v _ _ _ _ (h.each j x b f d) c).1 rfl;rw[<-this];exact aO d
 intro B;obtain⟨j,f⟩:=EJ B;obtain⟨a,b⟩:=La (l:=l) (i:=j) (by have:=(aX.1 f).1;have:=h.len;omega);have:=(v _ _ _ _ (h.each j a y b f) c).2 rfl;rw[<-this];exact aO b
def agW(R:α->β->Prop)(a:Option α)(b:Option β):Prop:=match a,b with|none,none=>True|some x,some y=>R x y|_,_=>False
def Nf{K d:Type}[DecidableEq K][DecidableEq d]{R:K->d->Prop}(e:∀a b c o,R a b->R c o->(a=c↔b=o)):
  ∀(a:List<|Option K)(c:List<|Option d)(u:List K)(v:List d),Two (agW R) a c->Two R u v->Two R (a.foldl eH u) (c.foldl eH v)
 |[],[],u,v,_,ae=>ae
 |[],_::_,u,v,h,_=>by have:=h.len;simp at this
 |_::_,[],u,v,h,_=>by have:=h.len;simp at this
 |k::a,j::c,u,v,h,ae=>by
  obtain⟨h1,b⟩:=h.tail;rw[ij,ij];refine Nf e a c _ _ b ?_
  match k,j,h1 with
  |none,none,_=>exact ae
  |some x,some y,h1=>
   have d:=ae.mem e (x:=x) (y:=y) h1;show Two R (if x∈u then u else u++[x]) (if y∈v then v else v++[y]);by_cases F:x∈u
   .rw[aD F,aD<|d.1 F];exact ae
   rw[aA F,aA λe=>F<|d.2 e];exact ae.snoc h1
def DU[DecidableEq K]{u:List K}(h:u.Nodup)(o:Option K):(eH u o).Nodup:=by
 unfold eH;split
 .exact h
 split
 .exact h
 rw[AO];exact⟨h,ak,by rintro a a b a rfl;simp at a;subst a;contradiction⟩
def tB{K:Type}[DecidableEq K]:∀(R:List<|Option K)(u:List K),u.Nodup->(R.foldl eH u).Nodup
 |[],u,h=>h
 |k::R,u,h=>tB R _<|DU h k
def KK[DecidableEq K](u:List K)(o:Option K):u <+: eH u o:=by
 unfold eH;split
 .exact iG
 split
 .exact iG
 exact Qz _ _
def zw{K:Type}[DecidableEq K]:∀(R:List<|Option K)(u:List K),u <+: R.foldl eH u
 |[],u=>iG
 |k::R,u=>(KK u k).trans<|zw R _
def zx{K:Type}[DecidableEq K]:∀(R:List<|Option K)(u:List K)(x:K),z' x∈R->x∈R.foldl eH u
 |[],u,x,h=>by cases h
 |k::R,u,x,h=>by
  rw[ij];rcases cM.1 h with rfl|h
  .refine(zw R _).subset ?_;show x∈(if x∈u then u else u++[x]);split
   .assumption
   simp
  exact zx R _ x h
def vR{K:Type}[DecidableEq K]:∀(R:List<|Option K)(u:List K)(x:K),x∈R.foldl eH u->x∈u\/z' x∈R
 |[],u,x,h=>aP h
 |k::R,u,x,h=>by
  rw[ij]at h;rcases vR R _ x h with h|h;rotate_left
  .exact aR (by simp[h])
  unfold eH at h;split at h
  .exact aP h
  split at h
  .exact aP h
  rcases iF.1 h with h|h
  .exact aP h
  simp at h;subst h;exact aR ak
def KL[DecidableEq K](u:List K)(o:Option K):ζ (eH u o)<=ζ u+1:=by
 unfold eH;split
 .omega
 split
 .omega
 simp
def zy{K:Type}[DecidableEq K]:∀(R:List<|Option K)(u:List K),ζ (R.foldl eH u)<=ζ u+ζ R
 |[],u=>ak
 |k::R,u=>by have C:=KL u k;have a:=zy R<|eH u k;rw[ij,bU];omega
def Ng[DecidableEq K](R:List<|Option K):ζ (zv R)<=ζ R:=by have:=zy R [];simpa[zv]using this
def PQ[DecidableEq K](R:List<|Option K):(zv R).Nodup:=tB R [] Ll
def XZ[DecidableEq K](R:List<|Option K)(x:K):x∈zv R↔z' x∈R:=
 ⟨λh=>by rcases vR R [] x h with h|h;(· cases h);exact h,λh=>zx R [] x h⟩
end
section
variable {P:Pm}
def acs:(Tryz.prog.info? 430).map (λi=>(i.zero,i.size,i.bytes))=z' (z'<|j' EL,7,56):=M
def lH(ks:List Key):List y':=ks.flatMap λk=>(tW k).toList
def ze:∀(R:List Key)(j:Nat)(k:Key),R[j]?=z' k->∀i v,(tW k)[i]?=z' v->(lH R)[j*7+i]?=z' v
 |[],j,k,h,i,v,hv=>by simp at h
 |a::r,0,k,h,i,v,hv=>by simp at h;subst h;have S:=(bq.1 hv).1;simp only[lH,bW,e6,bH];rw[gI<|H' S];simpa using hv
 |a::r,j+1,k,h,i,v,hv=>by have:=ze r j k (H' h) i v hv;simp only[lH,bW]at this|-;rw[eB<|by simp[tW];omega,<-this];congr 1;simp[tW];omega
def zc{B n c:Nat}{a:t'}{b:List Key}(h:ρ w B 430 7 (g' a n c) n<|lH b):Hx w a b:=by
 intro j k f;have a:=ze b j k f 0 _ rfl;rcases h.2 with⟨R,_⟩|⟨g,c,Y,R,_⟩
 .exfalso;have C:=h.1;simp at R;have:=(aX.1 a).1;simp_all
 simp at R;obtain⟨rfl,rfl⟩:=R;refine⟨g,0,rfl,λi v R=>?_⟩;have:=h.cells (g:=g) rfl _ _ (ze b j k f i v R);rwa[dY,<-iH]at this
def G?{n:SN}(h:P.nd[k]?=z' n):zv ((P.nd.take<|k+1).map tZ)=eH (zv ((P.nd.take k).map tZ)) (tZ n):=by have X:=(aX.1 h).1;rw[ep X,(aX.1 h).2,fq];simp[zv]
def Uk(k:Nat)(P:Pm):ζ (zv ((P.nd.take k).map tZ))<=k:=by have:=Ng ((P.nd.take k).map tZ);rw[b9,jk]at this;omega
def DV:∀(k:Nat)(P:Pm),(∀n∈P.nd,nF<|jx n)->∀x∈zv ((P.nd.take k).map tZ),nF x
 |0,P,_,x,hx=>by simp[zv]at hx
 |k+1,P,h,x,hx=>by
  have B:=DV k P h;by_cases a:k<ζ P.nd;rotate_left
  .rw[c! I]at hx;rw[c! I]at B;exact B x hx
  rw[G?<|bj a,DW]at hx;split at hx;rotate_left
  .exact B x hx
  unfold eH at hx;simp only at hx;split at hx
  .exact B x hx
  rcases iF.1 hx with hx|hx
  .exact B x hx
  rw[j9.1 hx];exact h _<|eG a
def afo{X:p'}{q:Nat}{a b c d e f h:y'}{t:TypeId}(V:X.1[q]?=z' (i' #[a,b,c,d,e,f,h] t (0,0))):∀(j:Nat)(u:y'),[a,b,c,d,e,f,h][j]?=z' u->χ X (((O q 0):Addr).add j)=z' u:=by intro j u f;rw[dY,bH,(A V).1];simpa using f
def mQ{g a:Nat}{D:List NC}{c:NC}(h:PM w g a D P)(T:D[k]?=z' c)(j:Nat)(f:j<14):χ w (O g<|k*14+j)=(aS c.bB c.wv c.n c.ev)[j]?:=h.row.cells k c T j f
def B3(g f Q:Nat)(D:List NC)(P:Pm)(w:p')(hP:PM w g f D P)(p:ζ P.nd<=60)(d:∀n∈P.nd,nF<|jx n):
  Cl 286 #[je g (ζ P.nd) f Q] w λe E=>∃a c,e=n' (bk a (ζ P.ex) c)/\ρ E w.1.size 430 7 (bk a (ζ P.ex) c) (ζ P.ex) (lH P.ex)/\Bl w E:=by
 obtain⟨i0,S,D,h,b⟩:=cI acs;have HI:J (_/\_/\_/\_):=⟨S,D,h,b⟩;clear S D h b;have s:=hid<|Aa hP d;obtain⟨N,b⟩:=Ea<|ζ P.nd;rw[<-b]at p|-;have K:=hid b;clear hP d b;simp only[je];go_enter func286,ntmps286;go_wp2_with fail;generalize u:w.alloc (i' (fC g N f Q) 86)=b;have U:J (Bl w b):=by subst u;exact bA
 clear u;go_loopw[3,11] (λr y wr=>∃(i:Nat)(a:t')(c:Nat),i<=N/\y=G i/\r=g' a (ζ<|zv ((P.nd.take i).map tZ)) c/\J (ρ wr w.1.size 430 7 (g' a (ζ<|zv ((P.nd.take i).map tZ)) c) (ζ<|zv ((P.nd.take i).map tZ)) (lH<|zv ((P.nd.take i).map tZ))/\Bl w wr)) (λ_ y _=>N-(intOf y).toNat)
 case atStart=>exact⟨0,A',0,bm,rfl,rfl,dj,U.o⟩
 obtain⟨i,a,c,S,rfl,rfl,Q⟩:=hrel;by_cases L:i<N;rotate_left
 .have b:¬(i:Int)<N:=I;have l:zv ((P.nd.take i).map tZ)=P.ex:=by rw[c!<|by rw[<-K.o];omega];rfl
  rw[l]at Q|-;go_wp2_with fail;go_ret;exact⟨a,c,rfl,Q.a,Q.A⟩
 have b:(i:Int)<N:=I;obtain⟨r,R,T,z,_,_,_,_⟩:=s.a.nodes (by rw[<-K.o];exact L);have X:=λj (f:j<14)=>(mQ (s.a.below Q.A) T j f);obtain⟨v,j⟩:=Ea r.n;rw[<-j]at X z;have b:=G? z;have u:=Uk i P;have B:=DV i P s.A;have p:=s.A v<|aO z;obtain⟨R,N⟩:=Ea<|zv ((P.nd.take i).map tZ);rw[<-N]at Q b u B|-;rw[DW]at b;simp only[NC.wv,NC.ev]at X;generalize r.bB=h at X;generalize r.wa=y at X;generalize r.wl=wl at X;generalize r.wc=wc at X;generalize r.ea=U at X;generalize r.el=D at X;generalize r.ec=r at X;have C:J (∀W,Cl 330 #[j'<|aS h (g' y wl wc) v<|g' U D r] W<|Rb W<|o' #[j'<|tW<|jx v,h'<|KM v]):=λW=>G9 h (g' y wl wc) (g' U D r) v W;obtain⟨t,o⟩:=Ea<|KM v;rw[<-o]at C b;obtain⟨T,d⟩:=Ea<|jx v;rw[<-d]at b p;obtain⟨x,q,op,l,⟨S,f,ac⟩,⟨F,bv,K⟩,g⟩:=v;have v:J (tW T=#[h' S,G f,G ac,G op,h' F,G bv,G K]):=by rw[d];rfl
 have k:=hid b;rw[<-d,v.o]at C;have Y:=Oc X;simp only[aS]at C;clear X b o d j z N;have s:J (∀W,Bl wr W->Cl 331 #[g' a (ζ R) c,j' #[h' S,G f,G ac,G op,h' F,G bv,G K]] W (Rb W<|h' (decide (T∈R)))):=by intro W j;rw[<-v.o];exact PT a c R T W (zc<|aZ Q.a j) p B I
 have b:ζ R<=60:=I;clear B p u;go_upto_region 5 with(fail)
 generalize b:wr.alloc (i' #[k' h,g' y wl wc,G x,G q,G op,G l,h' S,G f,G ac,h' F,G bv,G K,g' U D r,k' g] 152)=V;have B:J (Bl wr V/\b' V wr.1.size #[k' h,g' y wl wc,G x,G q,G op,G l,h' S,G f,G ac,h' F,G bv,G K,g' U D r,k' g] 152):=by subst b;exact⟨bA,cv⟩
 clear b Y;have E:=A B.A;go_upto_region 6 with(go_at_call 330;refine(C.o _).mono ?_;rintro e b ⟨rfl,l⟩;have r:=hid<|aq B.a l;clear l E)
 generalize p:b.alloc (i' #[h' S,G f,G ac,G op,h' F,G bv,G K] 430)=d;have h:J (Bl wr d/\b' d b.1.size #[h' S,G f,G ac,G op,h' F,G bv,G K] 430):=by subst p;exact⟨aq r.o bA,cv⟩
 clear p;generalize δ b.1=y at h|-;have E:=A h.A;cases t
 .rw[aA ak]at k;have b:J (zv ((P.nd.take<|i+1).map tZ)=R):=k.o;go_wp2_with fail;go_roundw
  case rel=>
   refine⟨i+1,a,c,L,e',by rw[b.o],?_⟩;rw[b.o];exact⟨aZ Q.a h.a,aq Q.A h.a⟩
  exact F'
 rw[aD rfl]at k;by_cases d:T∈R
 .rw[eC d]at s;have b:J (zv ((P.nd.take<|i+1).map tZ)=R):=by show _=_;rw[k.o];simp[eH,d]
  go_wp2_with (go_at_call 331;refine(s.o _ h.a).mono ?_;rintro e o ⟨rfl,Y⟩;have D:=hid<|aq h.a Y;clear Y E);go_roundw
  case rel=>
   refine⟨i+1,a,c,L,e',by rw[b.o],?_⟩;rw[b.o];exact⟨aZ Q.a D.o,aq Q.A D.o⟩
  exact F'
 rw[dp d]at s;have b:J (zv ((P.nd.take<|i+1).map tZ)=R++[T]):=by show _=_;rw[k.o];simp[eH,d]
 go_wp2_with (first|(go_at_call 331;refine(s.o _ h.a).mono ?_;rintro e o ⟨rfl,Y⟩;have D:=hid<|Aa (aq h.a Y)<|aG Y h.A;clear Y E;have E:=A D.A)|(at_builtin;refine fz rfl _ _ 400 rfl w.1.size 430 i0 (j' EL) 7 56 underlying400 HI.a HI.b HI.c HI.C rfl aj (bk a (ζ R) c) (ζ R) (lH R) rfl ((aZ Q.a D.a).alloc _) (O o.1.size 0) 1 1 [h' S,G f,G ac,G op,h' F,G bv,G K] rfl rfl (afo<|cF o _) (by intro u C;simp at C;rcases C with rfl|rfl|rfl|rfl|rfl|rfl|rfl<;>rfl) (by simp only[maxLen];omega) I (by have:=(aq Q.A D.a).size;simp;omega) ?_;intro U l k a _;obtain⟨d,c,rfl⟩:=aV k;have W:=hid<|Aa k a;clear k a E));go_roundw
 case rel=>
  refine⟨i+1,d,c,L,e',by rw[b.o,bg];rfl,?_⟩;rw[b.o];refine⟨?_,?_⟩
  .rw[bg,e4,show lH (R++[T])=lH R++[h' S,G f,G ac,G op,h' F,G bv,G K] by simp[lH,v.o]];exact W.a
  exact((aq Q.A D.a).alloc (aq Q.A D.a).size _).grown W.A (by have:=(aq Q.A D.a).size;simp;omega) λq e=>((aZ Q.a D.a).lt q e).1
 exact F'
end
def zA(ks:List Key)(n:SN):BS:=if KM n then de [ks.idxOf<|jx n] else(0,0)
def qG(k:x')(y:t')(wl wc:Nat)(p:t')(V B:Nat)(n:SN)(a:t')(c:Nat)(R:List Key)(w:p')(h:Hx w a R)(N:∀x∈R,nF x)(X:ζ R<=60)(b:KM n=N'->nF (jx n)/\jx n∈R):
  Cl 287 #[j'<|aS k (g' y wl wc) n<|g' p V B,g' a (ζ R) c] w (Rb w<|cW<|zA R n):=by
 have C:J (∀W,Cl 330 #[j'<|aS k (g' y wl wc) n<|g' p V B] W<|Rb W<|o' #[j'<|tW<|jx n,h'<|KM n]):=λW=>G9 k _ _ n W;have Y:J (KM n=N'->∀W,Bl w W->Cl 332 #[g' a (ζ R) c,j'<|tW<|jx n] W (Rb W<|G ((R.idxOf (jx n):Nat):Int))):=by intro l W j;have:=B4 a c R (jx n) W (h.below j) (b l).1 N I;unfold Aq at this;rwa[aD (b l).2]at this
 have j:J (KM n=N'->R.idxOf (jx n)<128):=λl=>by have:=qu (b l).2;omega
 obtain⟨m,c⟩:=Ea<|R.idxOf<|jx n;obtain⟨t,o⟩:=Ea<|KM n;have W:J (zA R n=if t then de [m] else(0,0)):=by show _=_;rw[o,c];rfl
 rw[<-c,<-o]at Y j;rw[<-o]at C;clear c o h N b;obtain⟨x,q,op,c,⟨L,f,b⟩,⟨F,D,X⟩,g⟩:=n;simp only[aS,tW,jx,jT]at C Y|-;generalize zA R _=z at W|-;go_enter func287,ntmps287;go_upto_region 1 with(fail)
 generalize u:(w.alloc<|i' #[k' k,g' y wl wc,G x,G q,G op,G c,h' L,G f,G b,h' F,G D,G X,g' p V B,k' g] 152).alloc gY=l;have U:J (Bl w l/\b' l w.1.size #[k' k,g' y wl wc,G x,G q,G op,G c,h' L,G f,G b,h' F,G D,G X,g' p V B,k' g] 152/\l.1[δ w.1+1]?=z' lC):=by subst u;exact⟨dH,hJ.1,hJ.2⟩
 clear u;have E:=A U.b;go_upto_region 2 with(go_at_call 330;refine(C.o _).mono ?_;rintro e g ⟨rfl,l⟩;have r:=hid<|Aa (aq U.a l)<|aG l U.B;clear l E)
 generalize u:g.alloc (i' #[h' L,G f,G b,G op,h' F,G D,G X] 430)=p;have c:J (Bl w p/\b' p g.1.size #[h' L,G f,G b,G op,h' F,G D,G X] 430/\p.1[δ w.1+1]?=z' lC):=by subst u;exact⟨aq r.a bA,cv,aG bA r.A⟩
 clear u;generalize δ g.1=y at c|-;have E:=A c.b;have l:=A c.B;cases t
 .rw[aA ak]at W;go_wp2_with fail;have v:=c.B;have g:χ (κ p (O (δ w.1+1) 0)<|Z 0) (O (δ w.1+1) 0)=z' (Z 0):=by rw[(A<|H v _).1];rfl
  have r1:χ (κ (κ p (O (δ w.1+1) 0)<|Z 0) (O (δ w.1+1) 1)<|Z 0) (O (δ w.1+1) 1)=z' (Z 0):=by rw[(A<|H (H v _) _).1];rfl
  refine aE (v:=cW (0,0)) (by simp[results287,go_sem,cW,g,r1]) rfl ⟨by rw[W.o],?_⟩;exact(c.a.setCell G' _).setCell G' _
 rw[aD rfl]at W;have f:=j.o rfl;have s:J (∀X b,χ X (O b 0)=z' (G m)->Cl 241 (oq b) X (Rb X<|cW<|de [m])):=λX b T=>mc X b m f T;rw[<-W.o]at s;simp only[cW]at s;go_wp2_with (first|(go_at_call 332;refine(Y.o rfl _ c.a).mono ?_;rintro e o ⟨rfl,Y⟩;have D:=hid<|Aa (aq c.a Y)<|aG Y c.B;clear Y E l)|(go_at_call 241;refine(s.o _ _ ak).mono ?_;rintro e b ⟨rfl,v⟩;have k:=hid<|Aa (aq D.a<|aq bA v)<|aG v<|aG bA D.A;clear v;have l:=A k.A));have v:=k.A;have g:χ (κ b (O (δ w.1+1) 0)<|Z z.1) (O (δ w.1+1) 0)=z' (Z z.1):=by rw[(A<|H v _).1];rfl
 have r1:χ (κ (κ b (O (δ w.1+1) 0)<|Z z.1) (O (δ w.1+1) 1)<|Z z.2) (O (δ w.1+1) 1)=z' (Z z.2):=by rw[(A<|H (H v _) _).1];rfl
 refine aE (v:=cW z) (by simp[results287,go_sem,cW,g,r1]) rfl ⟨rfl,?_⟩;exact(k.a.setCell G' _).setCell G' _
end Go.Proofs.YtmipbiligijcpaaGreatDoor
