import Derived.Test.YtmipbiligijcpaaGreatDoorA03
import Derived.Test.YtmipbiligijcpaaGreatDoorA04
namespace Go.Proofs.YtmipbiligijcpaaGreatDoor
set_option linter.all false
set_option maxHeartbeats 0
set_option maxRecDepth 99999
open Go.RowKit Go.Proofs Go.Maps Tryz List open List renaming length→ζ,toArray→θ open _root_.Array renaming size→δ open World renaming setCell→κ,ownsRow→ρ,cell?→χ,grownBy→ξ open Value renaming ownBlock→φ open Value renaming slice→i',bool→j',agg→l',string→m',pointer→o',tuple→t' open Obj renaming cells→k' open Ending renaming returned→p' open Option renaming some→B',none→C' open Bool renaming true→O',false→P'
variable {B a:Nat}{W b w:u'}{p:Prop}{s:z'}
section
variable {T p q m k g:Nat} {v:A'} {X l:u'} {L:Array A'} {t:TypeId} {D:List NC} {P:Pm}
structure TF(B tR tE:Nat)(w w':u'):Prop where
  low:Below B w w'
  keep:∀(q:Nat) (cs:Array A') (t:TypeId) (f:Nat×Nat),w.1[q]?=B' (k' cs t f)->t≠tR->t≠tE->w'.1[q]?=w.1[q]?
def TF.refl(B T p:Nat)(w:u'):TF B T p w w:=⟨aQ,λ_ _ _ _ _ _ _=>rfl⟩
def AF{a b c d}:=@TF.refl a b c d
def TF.trans{u v:u'}(h:TF B T p u v)(k:TF B T p v w):TF B T p u w:=
 ⟨h.low.trans k.low,λq L t f e C a=>by
  have V:=h.keep q L t f e C a
  exact(k.keep q L t f (V.trans e) C a).trans V⟩
def TF.aX{a:u'}(h:Below w.1.size w a)(v:B<=δ w.1):TF B T p w a:=
 ⟨h.mono v,λq L t f e _ _=>h.block q (aY.1 e).1⟩
def TF.box{a:u'}(h:TF B T p w a){f:Nat×Nat}(e:w.1[q]?=B' (k' L t f))(C:t≠T)(b:t≠p):a.1[q]?=B' (k' L t f):=(h.keep q L t f e C b).trans e
def afx{p:Prop}(h:p:=by
 intro u;rcases l.2 with⟨a,_⟩|⟨g,b,Y,a,_,N,_⟩
 ·rw[a]at u;simp[Value.ownBlock]at u
 rw[a]at u;have:q=g:=by simpa[Value.ownBlock]using u
 subst this;rw[N]at V;simp at V
 exact c V.2.1.symm):p:=h
def Sys.frame{d:Nat}{c:List RR}{r:RR}(h:Sys W B d m T p c)(e:c[k]?=B' r)(b:Below W.1.size W X)(a:B<=δ W.1)
  (F:ξ X l (φ r.ev)) (o:Nat):TF B T p W (κ l (O d o) v):=by
 have l:=(h.below b).row r (aT e);refine⟨?_,?_⟩
 ·exact((b.mono a).grown F (bD a b.size) (λq e=>(l.lt q e).1)).setCell h.low _
 intro q L t f e C c;have a:=(aY.1 e).1;have V:=(b.block q a).trans e;have s:q≠d:=by rintro rfl;rw[h.lQ]at e;simp at e;exact C e.2.1.symm
 rw[aJ s,e];refine(F.block q (aY.1 V).1 ?_).trans V;exact afx
def Sys.UE{c:List RR}{j:Nat}{r:RR}(h:Sys W B a m T p c)(U:p≠T)(b:c[k]?=B' r)(e:Bl W X)(F:ξ X l (φ r.ev))(f:(rz r)[j]?=B' v):χ l (O a (k*(m+1)+j))=B' v/\l.frozen? (O a (k*(m+1)+j))=P':=by have d:=h.below e;have z:some a≠φ r.ev:=λe=>eh (d.row r (aT b)) d.lQ U e.symm;have w:=(F.block a (aY.1 d.lQ).1 z).trans d.lQ;have E:=M w;exact afy
structure PM(w:u')(g cap:Nat)(nl:List NC)(P:Pm):Prop where
  row:jH w g cap nl
  len:ζ nl=ζ P.nd
  nd:∀(j:Nat) (c:NC) (n:SN),nl[j]?=B' c->P.nd[j]?=B' n->c.n=n
  WI:ζ P.nx=ζ P.nd
  nx:∀(j:Nat) (c:NC) (l:List Nat),nl[j]?=B' c->P.nx[j]?=B' l->Er w c.ev (l.map Int.ofNat)
def Er.tf{a:A'}{c:List Int}(h:Er w a c)(V:∀(q:Nat) (L:Array A') (t:TypeId) (f:Nat×Nat),w.1[q]?=B' (k' L t f)->t=3->b.1[q]?=w.1[q]?):Er b a c:=by
 rcases h with a|⟨b,e,c⟩
 ·exact aI a
 exact aK ⟨b,e,(V _ _ _ _ c rfl).trans c⟩
def PM.keep(h:PM w g a D P)(V:∀(q:Nat) (L:Array A') (t:TypeId) (f:Nat×Nat),w.1[q]?=B' (k' L t f)->t=3\/t=152->b.1[q]?=w.1[q]?):PM b g a D P:=by refine⟨?_,h.len,h.nd,h.WI,λj c l a b=>(h.nx j c l a b).tf λq L t f e U=>V q L t f e (aI U)⟩;obtain⟨Y,a,b⟩:=h.row;exact⟨Y,(V _ _ _ _ a (aK rfl)).trans a,b⟩
def PM.below(h:PM w g a D P)(c:Bl w b):PM b g a D P:=
 h.keep λq L t f e _=>c.block q (aY.1 e).1
def PM.tf(h:PM w g a D P)(Y:TF B T p w b)(C:T≠3)(c:p≠3)(N:T≠152)(d:p≠152):PM b g a D P:=
 h.keep λq L t f e U=>Y.keep q L t f e (by rcases U with rfl|rfl;(· exact gG C);exact gG N) (by rcases U with rfl|rfl;(· exact gG c);exact gG d)
structure dC(P:Pm):Prop where
  nv:P.nv<=8
  pos:0<ζ P.nd
  most:ζ P.nd<=60
  nx:∀l∈P.nx,ζ l<=2/\∀t∈l,t<ζ P.nd
  aG:∀n∈P.nd,0<=n.aG/\n.aG<=6
  var:∀n∈P.nd,n.aG<=2->0<=n.var/\n.var<P.nv
  a:∀n∈P.nd,0<d! n->n.a.aS=O'->0<=n.a.var/\n.a.var<P.nv
  b:∀n∈P.nd,1<d! n->n.b.aS=O'->0<=n.b.var/\n.b.var<P.nv
def PM.nodes(h:PM w g a D P)(a:k<ζ P.nd):∃c l,D[k]?=B' c/\P.nd[k]?=B' c.n/\P.at k=c.n/\P.nx[k]?=B' l/\P.si k=l/\Er w c.ev (l.map Int.ofNat):=by
 have C:=h.len;have b:=h.WI;have V:D[k]?=B' D[k]:=bR I;have u:=bR a;have a:P.nx[k]?=B' P.nx[k]:=bR I;have b:=h.nd k _ _ V u;refine⟨_,_,V,by rw[b];exact u,?_,a,?_,h.nx k _ _ V a⟩
 ·rw[Pm.at,getD,u];exact b.symm
 rw[Pm.si,getD,a];rfl
def Er.ints{c:A'}{b:List Int}(h:Er w c b):∃a,c=i' a (ζ b) (ζ b)/\cE w a b:=by
 rcases h with⟨rfl,rfl⟩|⟨b,rfl,a⟩
 ·exact⟨C',rfl,λj x f=>by simp at f⟩
 refine⟨B' (O b 0),rfl,λj x f=>⟨b,0,rfl,?_⟩⟩;rw[(M a).1];simp[f]
def Sys.keep{d:u'}{c:List RR}(h:Sys W B a m T p c)(b:W.1[q]?=B' (c7 L t))(U:t≠T/\t≠p)(V:∀k,k≠q->d.1[k]?=W.1[k]?):Sys d B a m T p c:=by
 have nq:a≠q:=by rintro rfl;rw[h.lQ]at b;simp at b;exact U.1 b.2.symm
 refine⟨(V _ nq).trans h.lQ,h.low,h.len,λr a=>?_,h.zp⟩;have D:=h.row r a;refine⟨D.1,?_⟩;rcases D.2 with a|⟨g,c,Y,C,e,N,d⟩
 ·exact aI a
 refine aK ⟨g,c,Y,C,e,(V _ ?_).trans N,d⟩;rintro rfl;rw[N]at b;simp at b;exact U.2 b.2.symm
abbrev RA:=List A'×List (Nat×A')
def RR.pr(r:RR):RA:=(r.st,r.es)
def wo(l:List RA)(Iv:Nat)(e:Nat×A'):List RA:=l.modify Iv λr=>(r.1,r.2++[e])
def U1{c:List RR}{r:RR}{e:Nat×A'}{d:x'}{b:Nat}(a:c[k]?=B' r):(c.set k ⟨r.st,d,b,r.es++[e]⟩).map RR.pr=wo (c.map RR.pr) k e:=by
 refine lV λj=>?_;rw[cg,fG,wo,IQ,cg];by_cases s:k=j
 ·subst s;rw[aB rfl,aB (bm.1 a).1,a];simp[RR.pr]
 rw[aA s];cases c[j]?<;>simp[s]
abbrev i!(g n cap nv:Nat):A':=l' (e! g n cap nv)
def Ts:(Tryz.prog.info? 393).map (λi=>(i.zero,i.size,i.bytes))=B' (B' (l' #[Z 0,Z 0,i' C' 0 0]),3,40):=au
def Tx:(Tryz.prog.info? 404).map (λi=>(i.zero,i.size,i.bytes))=B' (B' (l' #[G 0,.nilFunc]),2,16):=au
def ik(z:Array A')(m:Nat)(d:z.size=m):∀n,(madeCells z (n*m)).toList=(replicate n z.toList).flatten
 |0=>by simp[madeCells]
 |n+1=>by have B:=ik z m d n;simp only[madeCells,Cu,Cs]at B⊢;rw[oR,Nat.one_mul,Cp,eW,B,Qq,LC];congr 1;rw[lW];simp only[oU,flatten_nil,gO];refine ext_getElem (by simp[d]) λi C a=>?_;simp only[b!,Co]at C;simp only[IP,getElem_range,Function.comp,d];rw[oX n m,Nat.mul_add_mod,nk C,getElem!_pos z i I];simp
def Xn(n:Nat)(st:List A'):(replicate n (st++[i' C' 0 0])).flatten=ic (replicate n ⟨st,C',0,[]⟩):=by
 induction n with
 |zero=>rfl
 |succ n B=>rw[gF,oU,B,gF];rfl
def Sys.made{b n:Nat}{st:List A'}(p:Nat)(h:ρ W B T (m+1) (dU b n) n (replicate n (st++[i' C' 0 0])).flatten)(R:ζ st=m):
  Sys W B b m T p (replicate n ⟨st,C',0,[]⟩):=by
 rcases h.2 with⟨e,_⟩|⟨g,b,Y,e,C,b,N,_,l,c⟩
 ·simp at e
 simp at e;obtain⟨rfl,rfl⟩:=e;refine⟨?_,C,?_,?_,?_⟩
 ·rw[b];congr 2;rw[cH (by simp[l])]at c;rw[<-Xn,<-c]
 ·intro r b;rw[q! b];exact R
 ·intro r b;rw[q! b];exact cb
 intro i j a b b f _;rw[q! (aT b)];exact aI rfl
def lD(g n b Q:Nat)(w:u')(K:n<=60):
  Cl 280 #[i! g n b Q] w λe a=>∃d c,e=p' (dx d n)/\Sys a w.1.size d 2 393 404 c/\c.map RR.pr=replicate n ([Z 0,Z 0],[])/\Bl w a:=by
 obtain⟨X,S,D,P,a⟩:=cQ Ts;have c:J (_/\_/\_/\_):=⟨S,D,P,a⟩;clear S D P a;go_enter func280,ntmps280;go_wp2_with (at_make;refine j8 _ rfl (.tmp 5) (.tmp 5) 256 rfl w.1.size 393 X _ 3 underlying256 c.a c.b c.c .i64 .i64 n n n rfl rfl rfl rfl (by rw[c.C];omega) (by unfold maxLen;omega) (by simp;try omega) ?_;intro t a d;have E:=M ((d.block (δ w.1+1) ak ak).trans (bL w _ _).2);have V:=hid (A a d);clear a d);have X:=(V.A.block (δ w.1+1) ak ak).trans (bL w _ _).2;have r:=(M (aq (o:=0) X (i' (B' (O (δ w.1+1+1) 0)) n n))).1;have R:=(M (aq (o:=1) (aq (o:=0) X (i' (B' (O (δ w.1+1+1) 0)) n n)) ji)).1;have F:=(M (aq (o:=2) (aq (o:=1) (aq (o:=0) X (i' (B' (O (δ w.1+1+1) 0)) n n)) ji) n9)).1;have a:Sys t w.1.size (δ w.1+1+1) 2 393 404 (replicate n ⟨[Z 0,Z 0],C',0,[]⟩):=by have C:=V.a;rw[ik _ 3 (by simp[Value.cells]) n]at C;have e:δ ((w.alloc (k' (e! g n b Q) 86)).alloc (k' EB 260)).1=δ w.1+1+1:=ak;rw[e]at C;exact Sys.made _ C rfl
 refine aC (v:=dx (δ w.1+1+1) n) (by simp[results280,go_sem,r,R,F]) rfl ⟨δ w.1+1+1,_,rfl,a.keep X ⟨aj,aj⟩ (λk a=>by rw[aJ a,aJ a,aJ a]),by simp[RR.pr],?_⟩;have L:Bl w t:=(zD w _ _).grown V.A H' (λq e=>by cases e);exact((L.setCell H' _).setCell H' _).setCell H' _
def Sys.XP{c:List RR}{r:RR}(h:Sys W B a m T p c)(d:c[k]?=B' r)(a:Bl W X)(F:ξ X l (φ r.ev))(b:W.1[q]?=B' (c7 L t))(U:p≠t):l.1[q]?=B' (c7 L t):=by have V:=(a.block q (aY.1 b).1).trans b;exact(F.block q (aY.1 V).1 (λe=>eh ((h.below a).row r (aT d)) V U e.symm)).trans V
def Is{p:Prop}(h:p:=by
 obtain⟨i0,S,c,f,d⟩:=cQ Tx;have q:J (_/\_/\_/\_):=⟨S,c,f,d⟩;clear S c f d;obtain⟨c,R,T,z,x,f,j,o⟩:=hP.nodes hk;have Q:=hO.nx R (aT f);obtain⟨C,d,y⟩:=o.ints;rw[b!]at d;have u:χ w (O g (k*14+12))=B' (i' C (ζ R) (ζ R)):=by rw[hP.row.cells k c T 12 I,<-d];rfl
 rw[j];have E:=hO.most;have s:=hid (A hP (A hO (A hS (A Xa (A Q (A T (A f d)))))));obtain⟨N,i⟩:=Ea (ζ P.nd);rw[<-i]at hl hk E⊢;have Q:=hid i;clear hP hO hS Xa y o T z x f j d i
 first|(have _:=BK;go_enter func285,ntmps285)|(go_enter func283,ntmps283)
 simp only[dx,i!,Ev];go_upto_region 1 with(fail)
 generalize j:((w.alloc (k' (fe rb N) 260)).alloc (k' (e! g N cap nv) 86)).alloc (k' #[Z e.drop.1,Z e.drop.2,Z e.add.1,Z e.add.2] 397)=f;have U:J (Bl w f/\f.1[δ w.1]?=B' (k' (fe rb N) 260 (0,0))/\f.1[δ w.1+1]?=B' (k' (e! g N cap nv) 86 (0,0))/\f.1[δ w.1+1+1]?=B' (k' #[Z e.drop.1,Z e.drop.2,Z e.add.1,Z e.add.2] 397 (0,0))):=by
  subst j;refine⟨gB,?_,?_,?_⟩
  ·rw[bQ H'];exact(bL w _ _).1
  ·rw[bQ ak];exact(bL w _ _).2
  have:=cv ((w.alloc (k' (fe rb N) 260)).alloc (k' (e! g N cap nv) 86)) (k' #[Z e.drop.1,Z e.drop.2,Z e.add.1,Z e.add.2] 397);simpa using this
 clear j;have d:=ax u U.a;have E:=M U.c;have K:(k:Int)<N:=I;go_wp2;clear E u d;generalize l' (fe rb N)=d;generalize l' (e! g N cap nv)=d
 first|(have _:=BK;go_loopw[17] (λi wr=>∃(j:Nat) (d:List RR),j<=ζ R/\i=G j/\J (Sys wr B rb 2 393 404 d/\d.map RR.pr=(R.take j).foldl (λl t=>wo l k (t,vz e)) (rl.map RR.pr)/\TF B 393 404 f wr/\ζ d=N/\∀r∈d,ζ r.es<=200+j)) (λi _=>ζ R-(intOf i).toNat))|(go_loopw[17] (λi wr=>∃(j:Nat) (d:List RR),j<=ζ R/\i=G j/\J (Sys wr B rb 2 393 404 d/\d.map RR.pr=(R.take j).foldl (λl t=>wo l t (k,vz e)) (rl.map RR.pr)/\TF B 393 404 f wr/\ζ d=N/\∀r∈d,ζ r.es<=200+j)) (λi _=>ζ R-(intOf i).toNat))
 ·exact⟨0,rl,bj,rfl,s.c.below U.a,rfl,AF,hl,s.d⟩
 obtain⟨j,d,f,rfl,f⟩:=hrel;by_cases L:j<ζ R;rotate_left
 ·have o:¬(j:Int)<(ζ R:Int):=I;have u:R.take j=R:=cH I;go_wp2
  go_end0
  refine⟨⟨_,rfl⟩,d,f.a,?_,(TF.aX U.a hB).trans f.c⟩;rw[f.b,u]
 have o:(j:Int)<(ζ R:Int):=I;obtain⟨t,F⟩:=La L;have o:t<N:=by rw[Q.o];exact s.e.2 t (aT F)
 have z:=(s.a.below U.a).tf f.c aj aj aj aj;obtain⟨x,X,u⟩:=(z.nx k c R s.f s.g).ints;rw[b!,s.G]at X;obtain rfl:C=x:=by simpa using X
 obtain⟨c,c,rfl,T⟩:=u j (t:Int) (by rw[cg,F];rfl)
 first|(have _:=BK;obtain⟨r,y⟩:=La (l:=d) (i:=k) (by rw[f.d];exact hk))|(obtain⟨r,y⟩:∃r,d[t]?=B' r:=⟨_,bR (by rw[f.d];exact o)⟩)
 have Y:=f.a.cell (j:=2) y (v:=r.ev) (by have:=f.a.len r (aT y);simp[rz,this]);simp only[Nat.reduceAdd,RR.ev]at Y;have E:=M (f.c.box U.b aj aj);have K:=M (f.c.box U.C aj aj);have c:=(aY.1 (f.c.box U.C aj aj)).1;have C:=(aY.1 f.a.lQ).1;have d:δ w.1≠δ wr.1:=I;have x:δ w.1+1+1≠δ wr.1:=I;have c:rb≠δ wr.1:=I;have V:=d.symm;have d:=x.symm;have d:=c.symm;have c:∀(o:Obj) (i:Nat),χ (wr.alloc o) (O w.1.size i)=((fe rb N):Array A')[i]?:=λo i=>(cw (qq wr o _ I)).trans (E.1 i);have c:∀(o:Obj) (i:Nat),χ (wr.alloc o) (O (δ w.1+1+1) i)=(#[Z e.drop.1,Z e.drop.2,Z e.add.1,Z e.add.2]:Array A')[i]?:=λo i=>(cw (qq wr o _ I)).trans (K.1 i)
 first|(have _:=BK;have d:∀(o:Obj),χ (wr.alloc o) (O rb (k*3+2))=B' (i' r.ea (ζ r.es) r.ec):=λo=>(cw (qq wr o _ C)).trans Y.1)|(have d:∀(o:Obj),χ (wr.alloc o) (O rb (t*3+2))=some (i' r.ea (ζ r.es) r.ec):=λo=>(cw (qq wr o _ C)).trans Y.1)
 have c:=(aY.1 s.c.lQ).1;have c:rb≠δ w.1:=I;have d:rb≠δ w.1+1+1:=I;have i:=c.symm;have c:=d.symm;have c:(t:Int)<N:=I;have c:=f.D r (aT y);have d:=hid (A y (A (f.a.row r (aT y)) F));have c:=s.e.1;clear y z u X F;go_wp2
 first|(have _:=BK;go_region_law (refine jq rfl (.tmp 29) (.tmp 34) 391 rfl B 404 i0 (l' #[G 0,.nilFunc]) 2 16 underlying391 q.a q.b q.c q.C rfl aj (i' r.ea (ζ r.es) r.ec) (ζ r.es) (iV r.es) (by simp[Act.eval,Act.put]) (by exact aZ d.b ay) (O wr.1.size 0) 1 1 [G t,vz e] (by simp[Act.eval,Act.put]) rfl (by exact F? (cv wr _)) (by intro u C;simp at C;rcases C with rfl|rfl<;>rfl) (by unfold maxLen;omega) I (by have:=f.a.low;simp;omega) ?_;intro E F c W y;obtain⟨o,s,rfl⟩:=aV c;obtain⟨i,x⟩:=f.a.UE (j:=2) aj d.a ay W (v:=r.ev) (by have:=f.a.len r (aT d.a);simp[rz,this]);simp only[Nat.reduceAdd,RR.ev]at i x;have z:=M (f.a.XP d.a ay W (f.c.box U.b aj aj) aj);have R:=M (f.a.XP d.a ay W (f.c.box U.C aj aj) aj)))|(go_region_law (refine jq rfl (.tmp 29) (.tmp 34) 391 rfl B 404 i0 (l' #[G 0,.nilFunc]) 2 16 underlying391 q.a q.b q.c q.C rfl aj (i' r.ea (ζ r.es) r.ec) (ζ r.es) (iV r.es) (by simp[Act.eval,Act.put]) (by exact aZ d.b ay) (O wr.1.size 0) 1 1 [G k,vz e] (by simp[Act.eval,Act.put]) rfl (by exact F? (cv wr _)) (by intro u C;simp at C;rcases C with rfl|rfl<;>rfl) (by unfold maxLen;omega) I (by have:=f.a.low;simp;omega) ?_;intro E F c W y;obtain⟨o,s,rfl⟩:=aV c;obtain⟨i,x⟩:=f.a.UE (j:=2) aj d.a ay W (v:=r.ev) (by have:=f.a.len r (aT d.a);simp[rz,this]);simp only[Nat.reduceAdd,RR.ev]at i x;have z:=M (f.a.XP d.a ay W (f.c.box U.b aj aj) aj);have R:=M (f.a.XP d.a ay W (f.c.box U.C aj aj) aj)))
 all_goals
  first|(have _:=BK;have i:=f.a.grow (e:=(t,vz e)) aj d.a ay W c y;have Y:=f.a.frame (v:=i' o (ζ r.es+1) s) d.a ay (J' f.a.low) W (k*3+2))|(have i:=f.a.grow (e:=(k,vz e)) aj d.a ay W c y;have Y:=f.a.frame (v:=i' o (ζ r.es+1) s) d.a ay (J' f.a.low) W (t*3+2))
  have o:=hid (A i Y);clear i Y c W y;go_wp2;go_roundw
  ·
   refine⟨j+1,_,I,f',o.a,?_,f.c.trans o.A,by rw[de];exact f.d,?_⟩
   ·rw[U1 d.a,f.b,cX L,uo,(bm.1 d.B).2];rfl
   intro q c;rcases mZ c with c|rfl
   ·have:=f.D q c;omega
   simp;omega
  exact G'):p:=h
def vG(g cap nv rb B k:Nat)(D:List NC)(P:Pm)(rl:List RR)(e:Ef)(w:World)(hP:PM w g cap D P)(hO:dC P)(hk:k<ζ P.nd)(hS:Sys w B rb 2 393 404 rl)(hl:ζ rl=ζ P.nd)(hB:B<=δ w.heap)(Xa:∀r∈rl,ζ r.es<=200):
  Cl 283 #[dx rb (ζ P.nd),i! g (ζ P.nd) cap nv,G k,Ev e] w λr b=>(∃v,r=.returned v)/\∃a,Sys b B rb 2 393 404 a/\a.map RR.pr=(P.si k).foldl (λl t=>wo l t (k,vz e)) (rl.map RR.pr)/\TF B 393 404 w b:=by
 exact Is
end
def L0(h:p:=by
 go_enter func282,ntmps282;go_wp2_with fail;go_ret
 exact⟨rfl,rfl⟩):p:=h
def lL(a:z')(P b:A')(n:SN)(w:u')(d:0<=n.aG):
  Cl 282 #[l' (aR a P n b)] w λe c=>e=p' (j' (gU n))/\c=w.alloc (k' (aR a P n b) 152):=by
 obtain⟨x,q,i,a,⟨L,f,b⟩,⟨F,D,X⟩,g⟩:=n;simp only at d;obtain⟨d,Q⟩:=Ea (gU ⟨x,q,i,a,⟨L,f,b⟩,⟨F,D,X⟩,g⟩);rw[<-Q];have B:J (d=decide (x<=2)):=Q;clear Q;simp only[aR];cases D:(x==0);rotate_left
 ·obtain rfl:d=O':=by rw[B.o];simp at D⊢;omega
  exact L0
 cases C:(x==1);rotate_left
 ·obtain rfl:d=O':=by rw[B.o];simp at C⊢;omega
  exact L0
 cases a:(x==2)
 ·obtain rfl:d=P':=by rw[B.o];simp at D C a⊢;omega
  exact L0
 obtain rfl:d=O':=by rw[B.o];simp at a⊢;omega
 exact L0
def nK(n:SN):List lU:=if n.aG=0\/n.aG=3 then[n.a] else if n.aG=1\/n.aG=4 then[n.a,n.b] else[]
def opC(o:lU):List A':=[j' o.aS,G o.var,G o.cq]
def Cg(w:u')(ao:x')(os:List lU):Prop:=∀j o,os[j]?=B' o->∃b q,ao=B' (O b q)/\χ w (O b (q+j*3))=B' (j' o.aS)/\χ w (O b (q+j*3+1))=B' (G o.var)/\χ w (O b (q+j*3+2))=B' (G o.cq)
def MF{w:u'}{q t:Nat}{b:List lU}(h:w.1[q]?=B' (k' (θ (b.flatMap opC)) t (0,0))):Cg w (B' (O q 0)) b:=by
 have X:∀(b:List lU) (j:Nat) (o:lU),b[j]?=B' o->(b.flatMap opC)[j*3]?=B' (j' o.aS)/\(b.flatMap opC)[j*3+1]?=B' (G o.var)/\(b.flatMap opC)[j*3+2]?=B' (G o.cq):=by
  intro b;induction b with
  |nil=>intro j o h;simp at h
  |cons a r B=>
   intro j o h;cases j with
   |zero=>simp at h;subst h;simp[opC]
   |succ j=>have:=B j o (I' h);simp only[cN,opC,cW,ej]at this⊢;rw[show(j+1)*3=j*3+1+1+1 by omega];simpa using this
 intro j o f;obtain⟨U,a,k⟩:=X b j o f;have E:=M h;exact⟨q,0,rfl,by rw[E.1];simpa using U,by rw[E.1];simpa[e9]using a,by rw[E.1];simpa[e9]using k⟩
def YS(h:p:=by
 go_enter func329,ntmps329;go_wp2;go_ret
 exact⟨_,rfl,c.a _ _ ak,cG⟩):p:=h
def YR(h:p:=by
 go_enter func329,ntmps329;go_wp2;go_ret
 exact⟨_,rfl,c.A _ _ ak,cG⟩):p:=h
def Dg(a:z')(P b:A')(n:SN)(w:u'):
  Cl 329 #[l' (aR a P n b)] w λe b=>∃a,e=p' (i' a (ζ (nK n)) (ζ (nK n)))/\Cg b a (nK n)/\Bl w b:=by
 obtain⟨x,q,i,c,⟨L,f,b⟩,⟨F,r,e⟩,g⟩:=n;obtain⟨a,k⟩:=Ea (nK ⟨x,q,i,c,⟨L,f,b⟩,⟨F,r,e⟩,g⟩);rw[<-k];have V:=hid k;clear k;simp only[aR];have l:∀(X:u') (q:Nat),q=δ X.1->Cg (X.alloc (k' #[j' L,G f,G b] 150)) (B' (O q 0)) [⟨L,f,b⟩]:=λX q c=>by subst c;exact MF (cv X _)
 have p:∀(X:u') (q:Nat),q=δ X.1->Cg (X.alloc (k' #[j' L,G f,G b,j' F,G r,G e] 150)) (B' (O q 0)) [⟨L,f,b⟩,⟨F,r,e⟩]:=λX q c=>by subst c;exact MF (cv X _)
 have c:=hid (A l p);clear l p;cases D:(x==0);rotate_left
 ·obtain rfl:a=[⟨L,f,b⟩]:=by rw[V.o,nK];simp at D;simp[D]
  exact YS
 cases N:(x==3);rotate_left
 ·obtain rfl:a=[⟨L,f,b⟩]:=by rw[V.o,nK];simp at N;simp[N]
  exact YS
 cases C:(x==1);rotate_left
 ·obtain rfl:a=[⟨L,f,b⟩,⟨F,r,e⟩]:=by rw[V.o,nK];simp at C;simp[C]
  exact YR
 cases d:(x==4)
 ·obtain rfl:a=[]:=by rw[V.o,nK];simp at D N C d;simp[D,N,C,d]
  go_enter func329,ntmps329;go_wp2;go_ret;exact⟨C',rfl,λj o h=>by simp at h,bf⟩
 obtain rfl:a=[⟨L,f,b⟩,⟨F,r,e⟩]:=by rw[V.o,nK];simp at D N d;simp[d]
 exact YR
def t?(k:Key):Array A':=#[j' k.1.1,G k.1.2.1,G k.1.2.2,G k.2.1,j' k.2.2.1,G k.2.2.2.1,G k.2.2.2.2]
def EK(h:p:=by
 go_enter func333,ntmps333;go_wp2_with fail;go_ret
 exact⟨rfl,bf⟩):p:=h
def Px(k:Key)(v:Int)(w:u'):
  Cl 333 #[l' (t? k),G v] w (Rb w (j' (qS k v))):=by
 obtain⟨⟨L,f,b⟩,i,F,D,X⟩:=k;obtain⟨d,Q⟩:=Ea (qS ((L,f,b),i,F,D,X) v);rw[<-Q];have B:J (d=((L&&f==v)||(F&&D==v))):=Q;clear Q;simp only[t?];cases L
 ·cases F
  ·obtain rfl:d=P':=by rw[B.o];rfl
   exact EK
  obtain rfl:d=(D==v):=by rw[B.o];simp
  exact EK
 cases h:(f==v);rotate_left
 ·obtain rfl:d=O':=by rw[B.o,h];rfl
  exact EK
 cases F
 ·obtain rfl:d=P':=by rw[B.o,h];rfl
  exact EK
 obtain rfl:d=(D==v):=by rw[B.o,h];simp
 exact EK
def Ii(os:List lU):BS:=os.foldl (λs o=>if o.aS then oo s (eY [o.var.toNat]) else s) (0,0)
def QP(n:SN):BS:=Ii (nK n)
def EJ(a:List lU)(o:lU):Ii (a++[o])=if o.aS then oo (Ii a) (eY [o.var.toNat]) else Ii a:=by simp[Ii]
def pz{v:Nat}(h:v<128):cL (eY [v]):=mc _ λg a=>by rw[jg.1 a];exact h
def Ji:∀(k:Nat) (a:List lU),(∀o∈a,o.aS=O'->0<=o.var/\o.var<128)->cL (Ii (a.take k))
 |0,a,_=>(show cL (0,0)from⟨aj,aj⟩)
 |k+1,a,h=>by
  have B:=Ji k a h;by_cases b:k<ζ a
  ·rw[cX b,EJ];split
   ·rename_i R;have:=h _ (lX b) R;exact rN B (pz I)
   exact B
  rw[cH I]at B⊢;exact B
def afR{w:u'}{q t:Nat}{s:BS}(h:w.1[q]?=B' (k' #[Z s.1,Z s.2] t (0,0)))(z:BS):(κ (κ w (O q 0) (Z z.1)) (O q 1) (Z z.2)).1[q]?=B' (k' #[Z z.1,Z z.2] t (0,0)):=by rw[aq (aq h _) _];rfl
def zqT{p:Prop}(h:p:=by
 exact(R.a.setCell (by show _<=δ w.1+1;omega) _).setCell (by show _<=δ w.1+1;omega) _):p:=h
def QO(c:z')(wv ev:A')(n:SN)(w:u')(R:∀o∈nK n,o.aS=O'->0<=o.var/\o.var<128):
  Cl 284 #[l' (aR c wv n ev)] w (Rb w (dh (QP n))):=by
 obtain⟨os,k⟩:=Ea (nK n);have W:ζ os<=2:=by rw[k];unfold nK;split;(· simp);split<;>simp
 have HP:J (∀W,Cl 329 #[l' (aR c wv n ev)] W λe N=>∃a,e=p' (i' a (ζ os) (ζ os))/\Cg N a os/\Bl W N):=by rw[k];exact λW=>Dg c wv ev n W
 rw[<-k]at R;have l:QP n=Ii os:=by rw[k];rfl
 rw[l];have HH:=hid R;clear k l R;obtain⟨x,y,op,v,⟨ai,av,ac⟩,⟨F,D,X⟩,g⟩:=n;simp only[aR]at HP⊢;go_enter func284,ntmps284;go_upto_region 2 with(fail)
 generalize j:((w.alloc (k' #[m' c,wv,G x,G y,G op,G v,j' ai,G av,G ac,j' F,G D,G X,ev,m' g] 152)).alloc fY).alloc fY=W;have U:J (Bl w W/\d' W w.1.size #[m' c,wv,G x,G y,G op,G v,j' ai,G av,G ac,j' F,G D,G X,ev,m' g] 152/\W.1[δ w.1+1]?=B' jj/\W.1[δ w.1+1+1]?=B' jj):=by subst j;obtain⟨W,e1,e2,_⟩:=qp w (k' #[m' c,wv,G x,G y,G op,G v,j' ai,G av,G ac,j' F,G D,G X,ev,m' g] 152) fY fY (k' #[] 0);rw[bQ (by simp;try omega)]at W e1 e2;exact⟨gB,W,e1,e2⟩
 clear j;have E:=M U.b;go_wp2_with (go_at_call 329;refine(HP.o _).mono ?_;rintro e W1 ⟨a,rfl,b,l⟩;have V:=hid (A b l);clear b l);clear E;have W:=blt U.C;have b:=V.A.size;generalize l' #[m' c,wv,G x,G y,G op,G v,j' ai,G av,G ac,j' F,G D,G X,ev,m' g]=c;go_loopw[9] (λy wr=>∃k:Nat,k<=ζ os/\y=G k/\J (Bl w wr/\wr.1[δ w.1+1]?=B' jj/\wr.1[δ w.1+1+1]?=B' (k' #[Z ((Ii (os.take k)).1:Int),Z ((Ii (os.take k)).2:Int)] 267 (0,0))/\Cg wr a os)) (λy _=>ζ os-(intOf y).toNat)
 ·exact⟨0,bj,rfl,H U.a V.A,aL V.A U.c,aL V.A U.C,V.a⟩
 clear V b;obtain⟨k,c,rfl,R⟩:=hrel;have D:=blt R.c;by_cases L:k<ζ os;rotate_left
 ·have iz:¬(k:Int)<(ζ os:Int):=I;have hke:os.take k=os:=cH I;obtain⟨z,f⟩:=Ea (Ii os);have x:=R.c;rw[hke,<-f]at x;have c:=hid f;clear f hke;have E:=M x;have y1:=M R.b;have n1:δ w.1+1≠δ w.1+1+1:=I;go_wp2;have v:=R.b;have g:χ (κ wr (O (δ w.1+1) 0) (Z z.1)) (O (δ w.1+1) 0)=B' (Z z.1):=by rw[(M (aq v _)).1];rfl
  have r1:χ (κ (κ wr (O (δ w.1+1) 0) (Z z.1)) (O (δ w.1+1) 1) (Z z.2)) (O (δ w.1+1) 1)=B' (Z z.2):=by rw[(M (aq (aq v _) _)).1];rfl
  refine aC (v:=dh z) (by simp[results284,go_sem,dh,g,r1]) rfl ⟨by rw[c.o],?_⟩;exact zqT
 have iz:(k:Int)<(ζ os:Int):=I;obtain⟨o,s⟩:=La L;obtain⟨b,q,rfl,T,c1,p⟩:=R.C k o s;have Vg:=HH.o o (aT s);have j:Ii (os.take (k+1))=if o.aS then oo (Ii (os.take k)) (eY [o.var.toNat]) else Ii (os.take k):=by rw[cX L,(bm.1 s).2,EJ]
 have B:=Ji k os HH.o;obtain⟨u,C⟩:=Ea (Ii (os.take k));rw[<-C]at j B;obtain⟨oi,ov,r⟩:=o;simp only at T c1 p Vg j;have HX:=hid (A j (show wr.1[δ w.1+1+1]?=B' (vf u.1 u.2)by rw[C];exact R.c));clear C j s;cases oi
 ·go_wp2;go_roundw
  ·
   have c:=cz wr (k' #[j' P',G ov,G r] 150);refine⟨k+1,L,f',H R.a c,aL c R.b,?_,λj o hj=>by obtain⟨b,q,e,t,Y,d2⟩:=R.C j o hj;exact⟨b,q,e,ax t c,ax Y c,ax d2 c⟩⟩;rw[HX.a];exact aL c HX.A
  exact G'
 obtain⟨h0,C⟩:=Vg rfl;obtain⟨m,rfl⟩:∃m:Nat,ov=m:=⟨ov.toNat,I⟩;have s:J (∀X b,χ X (O b 0)=B' (G m)->Cl 241 (qK b) X (Rb X (dh (eY [m])))):=λX b c=>nM X b m I c;have HU:J (∀(X:u') b,χ X (O b 0)=B' (Z u.1)->χ X (O b 1)=B' (Z u.2)->χ X (O b 2)=B' (Z ((eY [m]).1:Int))->χ X (O b 3)=B' (Z ((eY [m]).2:Int))->Cl 267 (xk b) X (Rb X (dh (oo u (eY [m]))))):=λX b h0 C c N=>by have:=kz X b u (eY [m]) B (pz I) h0 C c N;exact this
 have HN:J (Ii (os.take (k+1))=oo u (eY [m])):=by rw[HX.a];rfl
 obtain⟨b,V⟩:=Ea (eY [m]);obtain⟨z,f⟩:=Ea (oo u (eY [m]));rw[<-f]at HN HU;rw[<-V]at s HU;clear V f B;simp only[dh]at s HU;go_upto_region 6 with(fail)
 generalize f:wr.alloc (k' #[j' O',G m,G r] 150)=V;have B:J (Bl wr V/\d' V wr.1.size #[j' O',G m,G r] 150):=by subst f;exact⟨bf,bV⟩
 clear f T c1 p;have E:=M (aL B.a HX.A);have y1:=M B.A;have b:=B.a.size;have r:=blt B.A;have n1:δ w.1+1+1≠δ V.1:=I;have x:δ wr.1≠δ V.1:=I;have c:=n1.symm;have b:=x.symm;have c:∀(o:Obj) (i:Nat),χ (V.alloc o) (O (δ w.1+1+1) i)=(#[Z u.1,Z u.2]:Array A')[i]?:=λo i=>(cw (qq V o _ I)).trans (E.1 i)
 go_region_law (first|(go_simp;refine bK (s.o _ _ ak) ?_;rintro e W1 ⟨rfl,l⟩;have r:J (Bl V W1):=H ay l;clear E y1 l;have E:=M (aL r.o (aL B.a HX.A));have y1:=M (aL r.o B.A))|(go_simp;refine bK (HU.o _ _ ak ak ak ak) ?_;rintro e l ⟨rfl,X⟩;have b:J (Bl V l):=H (H r.o ay) X;clear E y1 X;have E:=M (aL b.o (aL B.a HX.A))))
 all_goals
  go_wp2;go_roundw
  ·
   have p:=H B.a b.o;refine⟨k+1,L,f',((H R.a p).setCell H' _).setCell H' _,?_,?_,?_⟩
   ·rw[aJ H',aJ H'];exact aL p R.b
   ·rw[HN.o];exact afR (aL p HX.A) z
   intro j o hj;obtain⟨f,q',e,t,Y,d2⟩:=R.C j o hj;have T:f≠δ w.1+1+1:=by
    rintro rfl;rw[(M HX.A).1]at t Y;generalize q'+j*3=i at t Y
    match i,t,Y with
    |0,t,_=>simp at t
    |1,t,_=>simp at t
    |i+2,t,_=>simp at t
   have V:(κ (κ l (O (δ w.1+1+1) 0) (Z z.1)) (O (δ w.1+1+1) 1) (Z z.2)).1[f]?=l.1[f]?:=by rw[aJ T,aJ T]
   exact⟨f,q',e,(cw V).trans (ax t p),(cw V).trans (ax Y p),(cw V).trans (ax d2 p)⟩
  exact G'
def jB(n:SN):Key:=(jW n.a,n.op,jW n.b)
def K4(n:SN):Bool:=n.aG==1&&(n.a.aS||n.b.aS)
def DI(n:SN):t! n=if K4 n then B' (jB n) else C':=by
 unfold t! K4 jB;by_cases h:n.aG=1/\(n.a.aS=O'\/n.b.aS=O')
 ·rw[aB h,aB (by simp[h.1];exact h.2)]
 rw[aA h,aA (I' h)]
def GS{X:u'}{q t:Nat}{T Q p a P b g:A'}(h:X.1[q]?=B' (k' #[T,Q,p,a,P,b,g] t (0,0)))(L c R b E S a:A'):(κ (κ (κ (κ (κ (κ (κ X (O q 0) L) (O q 1) c) (O q 2) R) (O q 3) b) (O q 4) E) (O q 5) S) (O q 6) a).1[q]?=B' (k' #[L,c,R,b,E,S,a] t (0,0)):=by have V:=aq (o:=6) (aq (o:=5) (aq (o:=4) (aq (o:=3) (aq (o:=2) (aq (o:=1) (aq (o:=0) h L) c) R) b) E) S) a;rw[V];simp only[cJ,dN,cO]
def G5(h:z')(P k:A')(n:SN)(w:u'):
  Cl 330 #[l' (aR h P n k)] w λe a=>e=p' (t' #[l' (t? (jB n)),j' (K4 n)])/\Below w.1.size w a:=by
 obtain⟨x,q,i,a,⟨L,f,b⟩,⟨F,D,X⟩,g⟩:=n;obtain⟨d,Q⟩:=Ea (K4 ⟨x,q,i,a,⟨L,f,b⟩,⟨F,D,X⟩,g⟩);rw[<-Q];have B:J (d=(x==1&&(L||F))):=Q;clear Q;simp only[aR,t?,jB,jW];go_enter func330,ntmps330;go_upto_region 2 with(fail)
 generalize j:((w.alloc (k' #[m' h,P,G x,G q,G i,G a,j' L,G f,G b,j' F,G D,G X,k,m' g] 152)).alloc (k' EA 430)).alloc (k' #[j' L,G f,G b,G i,j' F,G D,G X] 430)=e;have U:J (Below w.1.size w e/\d' e w.1.size #[m' h,P,G x,G q,G i,G a,j' L,G f,G b,j' F,G D,G X,k,m' g] 152/\d' e (δ w.1+1) EA 430/\d' e (δ w.1+1+1) #[j' L,G f,G b,G i,j' F,G D,G X] 430):=by subst j;obtain⟨o,V,u,_⟩:=qp w (k' #[m' h,P,G x,G q,G i,G a,j' L,G f,G b,j' F,G D,G X,k,m' g] 152) (k' EA 430) (k' #[j' L,G f,G b,G i,j' F,G D,G X] 430) (k' #[] 0);rw[bQ (by simp;try omega)]at o V u;exact⟨gB,o,V,u⟩
 clear j;have E:=M U.b;have c:=M U.c;have W:=M U.C;have s:δ w.1≠δ w.1+1:=I;have j:δ w.1+1+1≠δ w.1+1:=I;have c:=s.symm;have V:=j.symm;have R:δ w.1<=δ w.1+1:=I;generalize l' #[m' h,P,G x,G q,G i,G a,j' L,G f,G b,j' F,G D,G X,k,m' g]=h;cases c:(x==1)
 ·obtain rfl:d=P':=by rw[B.o,c];rfl
  go_region
  all_goals
   go_wp2;have a:=GS U.c (j' L) (G f) (G b) (G i) (j' F) (G D) (G X);have l:Below w.1.size w (κ (κ (κ (κ (κ (κ (κ e (O (δ w.1+1) 0) (j' L)) (O (δ w.1+1) 1) (G f)) (O (δ w.1+1) 2) (G b)) (O (δ w.1+1) 3) (G i)) (O (δ w.1+1) 4) (j' F)) (O (δ w.1+1) 5) (G D)) (O (δ w.1+1) 6) (G X)):=by(iterate 7 refine jM ?_ R _);exact U.a
   generalize(κ (κ (κ (κ (κ (κ (κ e (O (δ w.1+1) 0) (j' L)) (O (δ w.1+1) 1) (G f)) (O (δ w.1+1) 2) (G b)) (O (δ w.1+1) 3) (G i)) (O (δ w.1+1) 4) (j' F)) (O (δ w.1+1) 5) (G D)) (O (δ w.1+1) 6) (G X))=Y at a l⊢;refine aC (v:=t' #[l' #[j' L,G f,G b,G i,j' F,G D,G X],j' P']) (by simp[results330,go_sem,(M a).1]) rfl ⟨rfl,l.drew⟩
 cases L
 ·obtain rfl:d=F:=by rw[B.o,c];simp
  go_region
  all_goals
   go_wp2;have a:=GS U.c (j' P') (G f) (G b) (G i) (j' d) (G D) (G X);have l:Below w.1.size w (κ (κ (κ (κ (κ (κ (κ e (O (δ w.1+1) 0) (j' P')) (O (δ w.1+1) 1) (G f)) (O (δ w.1+1) 2) (G b)) (O (δ w.1+1) 3) (G i)) (O (δ w.1+1) 4) (j' d)) (O (δ w.1+1) 5) (G D)) (O (δ w.1+1) 6) (G X)):=by(iterate 7 refine jM ?_ R _);exact U.a
   generalize(κ (κ (κ (κ (κ (κ (κ e (O (δ w.1+1) 0) (j' P')) (O (δ w.1+1) 1) (G f)) (O (δ w.1+1) 2) (G b)) (O (δ w.1+1) 3) (G i)) (O (δ w.1+1) 4) (j' d)) (O (δ w.1+1) 5) (G D)) (O (δ w.1+1) 6) (G X))=Y at a l⊢;refine aC (v:=t' #[l' #[j' P',G f,G b,G i,j' d,G D,G X],j' d]) (by simp[results330,go_sem,(M a).1]) rfl ⟨rfl,l.drew⟩
 obtain rfl:d=O':=by rw[B.o,c];rfl
 go_region
 all_goals
  go_wp2;have a:=GS U.c (j' O') (G f) (G b) (G i) (j' F) (G D) (G X);have l:Below w.1.size w (κ (κ (κ (κ (κ (κ (κ e (O (δ w.1+1) 0) (j' O')) (O (δ w.1+1) 1) (G f)) (O (δ w.1+1) 2) (G b)) (O (δ w.1+1) 3) (G i)) (O (δ w.1+1) 4) (j' F)) (O (δ w.1+1) 5) (G D)) (O (δ w.1+1) 6) (G X)):=by(iterate 7 refine jM ?_ R _);exact U.a
  generalize(κ (κ (κ (κ (κ (κ (κ e (O (δ w.1+1) 0) (j' O')) (O (δ w.1+1) 1) (G f)) (O (δ w.1+1) 2) (G b)) (O (δ w.1+1) 3) (G i)) (O (δ w.1+1) 4) (j' F)) (O (δ w.1+1) 5) (G D)) (O (δ w.1+1) 6) (G X))=Y at a l⊢;refine aC (v:=t' #[l' #[j' O',G f,G b,G i,j' F,G D,G X],j' O']) (by simp[results330,go_sem,(M a).1]) rfl ⟨rfl,l.drew⟩
def tS(g cap nv rb B k:Nat)(D:List NC)(P:Pm)(rl:List RR)(e:Ef)(w:u')(hP:PM w g cap D P)(hO:dC P)(hk:k<ζ P.nd)(hS:Sys w B rb 2 393 404 rl)(hl:ζ rl=ζ P.nd)(hB:B<=δ w.1)(Xa:∀r∈rl,ζ r.es<=200):
  Cl 285 #[dx rb (ζ P.nd),i! g (ζ P.nd) cap nv,G k,Ev e] w λr b=>(∃v,r=p' v)/\∃a,Sys b B rb 2 393 404 a/\a.map RR.pr=(P.si k).foldl (λl t=>wo l k (t,vz e)) (rl.map RR.pr)/\TF B 393 404 w b:=by
 have BK:=True.intro;exact Is
def opW(vals:List Int)(o:lU):Int:=if o.aS then vals.getD o.var.toNat 0 else o.cq
def yu(n:Nat)(o:lU):Prop:=o.aS=O'->0<=o.var/\o.var<n
def O2{w:u'}{B e n:Nat}{v:A'}{D:List A'}(h:ρ w B e 1 v n D)(a:0<n):∃g a,v=i' (B' (O g 0)) n a/\B<=g/\n<=a/\∀j x,D[j]?=B' x->j<n->χ w (O g j)=B' x:=by
 rcases h.2 with⟨_,e⟩|⟨g,a,Y,R,b,c,T,d,y,U⟩
 ·omega
 refine⟨g,a,R,b,T,λj x F f=>?_⟩;rw[<-U,u4,aB I]at F;simp only[World.cell?,c];simpa using F
def yT:(Tryz.prog.info? 96).map (λi=>(i.zero,i.size,i.bytes))=B' (B' (l' gH),5,88):=au
def KQ:(Tryz.prog.info? 73).map (λi=>(i.zero,i.size,i.bytes))=B' (B' (l' jn),6,48):=au
def eT(v:Vl):List A':=[G v.aG,G v.lo,G v.hi,j' v.bJ,G v.first,G v.rank]
def fh(vs:List Vl):List A':=vs.flatMap eT
def o?:∀(E:List Vl),ζ (fh E)=ζ E*6
 |[]=>rfl
 |v::r=>by have:=o? r;simp only[fh,cN,bF,cC]at this⊢;simp[eT]at this⊢;omega
def CF:∀(E:List Vl) (j:Nat) (v:Vl),E[j]?=B' v->∀i x,(eT v)[i]?=B' x->(fh E)[j*6+i]?=B' x
 |[],j,v,h,i,x,hx=>by simp at h
 |a::r,0,v,h,i,x,hx=>by simp at h;subst h;have S:=(bm.1 hx).1;simp only[fh,cN,e?,bW];rw[jN S];exact hx
 |a::r,j+1,v,h,i,x,hx=>by have:=CF r j v (I' h) i x hx;simp only[fh,cN]at this⊢;rw[ek (by simp[eT];omega),<-this];congr 1;simp[eT];omega
def QD{B:Nat}{a:x'}{c n:Nat}{E:List Vl}(h:ρ w B 73 6 (i' a n c) (ζ E) (fh E)):lk w a E:=by
 intro j v f;have r:=(bm.1 f).1;rcases h.2 with⟨_,e⟩|⟨g,a,Y,R,_⟩
 ·omega
 simp at R;obtain⟨rfl,rfl,rfl⟩:=R;have T:=h.cells (g:=g) rfl;have X:∀i x,(eT v)[i]?=B' x->χ w (O g (0+(j*6+i)))=B' x:=by intro i x F;have:=T _ _ (CF E j v f i x F);rwa[eX]at this
 refine⟨g,0,rfl,?_,?_,?_,?_,?_,?_⟩
 ·simpa using X 0 _ rfl
 ·simpa[e9]using X 1 _ rfl
 ·simpa[e9]using X 2 _ rfl
 ·simpa[e9]using X 3 _ rfl
 ·simpa[e9]using X 4 _ rfl
 simpa[e9]using X 5 _ rfl
def aaE{e:Array Oper}{q:List Oper}{o:Oper}{a:Act}{Q:Exit->Act->u'->Prop}(V:o.guard=C')(s x:Operand)
  (i:o.op=.call {callee:=.builtin .append,args:=#[s,x],argTypes:=#[36,36]})
  (B:Nat) (y:a.eval s=i' C' 0 0)
  (c:x') (b:Nat) (m:List Int) (F:a.eval x=i' c (ζ m) b) (W:c=C'->b=0) (d:cE w c m)
  (L:ζ m*8<=140737488355328) (v:B<=δ w.1)
  (h:∀z g f,ρ f B 3 1 (i' z (ζ m) g) (ζ m) (m.map G)->ξ w f C'->(z=C'->g=0)->wpList Tryz.prog e Q q (a.put o.dst (i' z (ζ m) g)) f):
  wpList Tryz.prog e Q (o::q) a w:=by
 refine aaF V s x i B (i' C' 0 0) [] y cb c b m F W d (I' L) v ?_;intro a p W f k;simp only[gN,bW,ej]at f⊢;refine h a p W f k (λe=>?_);subst e;rcases f.2 with⟨R,_⟩|⟨g,u,Y,R,_⟩
 ·simp at R;exact R.2
 simp at R
section
variable {n:Nat}
structure N5 where
  fa:x'
  fc:Nat
  ra:x'
  rc:Nat
  va:x'
  vc:Nat
  n:Nd
def eB(c:N5):List A':=[i' c.fa (ζ c.n.facts) c.fc,i' c.ra (ζ c.n.aW) c.rc,j' c.n.aD,G c.n.rank,i' c.va (ζ c.n.vals) c.vc]
def dJ(cl:List N5):List A':=cl.flatMap eB
structure iB(w:u')(B:Nat)(c:N5):Prop where
  f:ρ w B 3 1 (aO c.fa (ζ c.n.facts) c.fc) (ζ c.n.facts) (c.n.facts.map G)
  r:ρ w B 3 1 (aO c.ra (ζ c.n.aW) c.rc) (ζ c.n.aW) (c.n.aW.map G)
  v:ρ w B 73 6 (aO c.va (ζ c.n.vals) c.vc) (ζ c.n.vals) (fh c.n.vals)
  fn:c.fa=C'->c.fc=0
  rn:c.ra=C'->c.rc=0
  vn:c.va=C'->c.vc=0
def iB.at{c:N5}(h:iB w B c):nT w c.fa c.ra c.va c.fc c.rc c.vc c.n:=⟨Gw h.f,Gw h.r,QD h.v,h.fn,h.rn,h.vn⟩
def rA{e size:Nat}{v:A'}{D:List A'}{q:Option Nat}(h:ρ w B e size v n D)(l:∀k,q=B' k->∃Y f,w.1[k]?=B' (k' Y 96 f))(c:e≠96):φ v=C'\/φ v≠q:=by
 cases R:φ v with
 |none=>exact aI rfl
 |some k=>refine aK (λo=>?_);obtain⟨Q,K,a⟩:=eI h k R;obtain⟨p,B,b⟩:=l k o.symm;rw[a]at b;simp at b;exact c b.2.1
def iB.kept{c:N5}{row:Option Nat}(h:iB w B c)(a:ξ w b row)(l:∀k,row=B' k->∃Y f,w.1[k]?=B' (k' Y 96 f)):iB b B c:=
 ⟨h.f.kept a (rA h.f l aj),h.r.kept a (rA h.r l aj),h.v.kept a (rA h.v l aj),h.fn,h.rn,h.vn⟩
def iB.below{c:N5}(h:iB w B c)(a:Bl w b):iB b B c:=
 ⟨aZ h.f a,aZ h.r a,aZ h.v a,h.fn,h.rn,h.vn⟩
def iB.mono{f:Nat}{c:N5}(h:iB w B c)(a:f<=B):iB w f c:=⟨a! h.f a,a! h.r a,a! h.v a,h.fn,h.rn,h.vn⟩
def gR:∀(D:List N5),ζ (dJ D)=ζ D*5
 |[]=>rfl
 |c::r=>by have:=gR r;simp only[dJ,cN,bF,cC]at this⊢;simp[eB]at this⊢;omega
def wI:∀(D:List N5) (j:Nat) (c:N5),D[j]?=B' c->∀i x,(eB c)[i]?=B' x->(dJ D)[j*5+i]?=B' x
 |[],j,c,h,i,x,hx=>by simp at h
 |a::r,0,c,h,i,x,hx=>by simp at h;subst h;have S:=(bm.1 hx).1;simp only[dJ,cN,e?,bW];rw[jN S];exact hx
 |a::r,j+1,c,h,i,x,hx=>by have:=wI r j c (I' h) i x hx;simp only[dJ,cN]at this⊢;rw[ek (by simp[eB];omega),<-this];congr 1;simp[eB];omega
def kE{p:Nat}{a:x'}{k:Nat}{D:List N5}(h:ρ w B 96 5 (i' a n k) (ζ D) (dJ D))(b:∀c∈D,iB w p c):b9 w a (D.map N5.n):=by
 intro j v f;simp only[cg,I6]at f;obtain⟨c,T,rfl⟩:=f;have r:=(bm.1 T).1;rcases h.2 with⟨_,e⟩|⟨g,a,Y,R,_⟩
 ·omega
 simp at R;obtain⟨rfl,rfl,rfl⟩:=R;have a:=h.cells (g:=g) rfl;have X:∀i x,(eB c)[i]?=B' x->χ w (O g (0+(j*5+i)))=B' x:=by intro i x F;have:=a _ _ (wI D j c T i x F);rwa[eX]at this
 refine⟨g,0,c.fa,c.ra,c.va,c.fc,c.rc,c.vc,rfl,?_,?_,?_,?_,?_,(b c (aT T)).at⟩
 ·simpa using X 0 _ rfl
 ·simpa[e9]using X 1 _ rfl
 ·simpa[e9]using X 2 _ rfl
 ·simpa[e9]using X 3 _ rfl
 simpa[e9]using X 4 _ rfl
def Pd{wr W:u'}{a o:Nat}{c:Array A'}(h:Bl wr W)(r:W.1[a]?=B' (k' c 96 (0,0)))(d:δ wr.1<=a)(f:ξ W b C')(v:A'):
  Bl wr (κ b (O a o) v)/\(κ b (O a o) v).1[a]?=B' (k' (c.setIfInBounds o v) 96 (0,0))/\(∀(B e size:Nat) (u:A') (n:Nat) (D:List A'),e≠96->ρ b B e size u n D->ρ (κ b (O a o) v) B e size u n D)/\(∀(B e size:Nat) (u:A') (n:Nat) (D:List A'),e≠96->ρ W B e size u n D->ρ (κ b (O a o) v) B e size u n D):=by
 have L:=(aY.1 r).1;have C:d' b a c 96:=(f.block a L ak).trans r;have g:∀(B e size:Nat) (u:A') (n:Nat) (D:List A'),e≠96->ρ b B e size u n D->ρ (κ b (O a o) v) B e size u n D:=by intro B e size u n D l c;exact c.kept (bX b a o v) (rA c (λk b=>by cases b;exact⟨_,_,C⟩) l)
 refine⟨((h.grown f h.size (λk b=>by cases b))).setCell (p:=(O a o)) d _,aq C v,g,λB e size u n D l c=>g B e size u n D l (c.kept f (by cases φ u<;>simp))⟩
end
def rD(l:y'):Option (Vl×y'):=match iK l with
 |some (x,r)=>match fH 100000 r with
  |some (k,q)=>B' (⟨2,0,0,O',x,(k:Int)⟩,q)
  |none=>C'
 |none=>C'
def kq(g:Int)(l:y'):Option (Vl×y'):=match l with
 |b::r=>
  if b.toNat=1 then(match iK r with|some (x,q)=>B' (⟨1,x,0,P',0,0⟩,q)|none=>C')
  else if b.toNat=2 then
   (if g=1 then(match fO r with|some (f,q)=>if f then rD q else B' (⟨2,0,0,P',0,0⟩,q)|none=>C') else B' (⟨2,0,0,P',0,0⟩,r))
  else C'
 |[]=>C'
def MJ{d:Bool}{b:UInt8}{r:y'}(i:et d xI s=B' (b,r)):d=P'/\s.1.1=b::r:=by exact aap
def SL{a:Bool}(g:Int)(h:et a xI s=C'):et a (kq g) s=C':=by
 unfold et at h⊢;cases a with
 |true=>rfl
 |false=>
  simp only[bO,bU]at h⊢;cases X:s.1.1 with
  |nil=>rfl
  |cons a r=>rw[X]at h;simp[xI]at h
def YW(h:p:=by
 have N:=u.a;have d:=H3.a;have l:=B.a;unfold et at N d l⊢;simp only[bO,bU]at N d l⊢;unfold kq;rw[c.a];simp only[T.a,T.A,Hd.o,c!,bU,N];unfold rD;rw[d];simp only;rw[l]
 rfl):p:=h
def YV(h:p:=by
 have N:=u.a;unfold et at N⊢;simp only[bO,bU]at N⊢;unfold kq;rw[c.a];simp only[T.a,T.A,Hd.o,c!,bU,N]
 rfl):p:=h
def Kc(rb:Nat)(s:z')(bad:Bool)(p g:Int)(w:u')(h:dq w rb s bad)(y:s.size<=60000):
  Cl 295 #[o' (B' (O rb 0)),l' #[G p,G g]] w λe L=>RdP L rb s (et bad (kq g) s) fT (λz=>∃v,z=fT v) e/\ξ w L (B' rb):=by
 have L:=h.lt;have T:=λ(W:u') (r:dq W rb s bad)=>rM rb s bad W r y;have s:=hid (A T h);clear h T;go_enter func295,ntmps295;go_wp2_with fail;refine bK (s.a _ ((s.A.alloc _).alloc _)) ?_;rintro e t ⟨C,N⟩;have l:=cP (bL w (fL p g) (k' jn 73)).1 N I;have X:=cP (bL w (fL p g) (k' jn 73)).2 N I;have d:=iR (iR N);have s:=(aY.1 l).1;have e2:=(aY.1 X).1;rcases C with⟨b,U,i,uR,rfl,a⟩|⟨i,rfl,U,uR,a⟩;rotate_left
 ·have TD:=a.lt;have E:=M l;have o:=M X;have B:=M a;have n1:δ w.1≠δ t.1:=I;have n2:δ t.1≠δ w.1:=I;have n3:δ w.1+1≠δ t.1:=I;have V:δ t.1≠δ w.1+1:=I;have n5:rb≠δ t.1:=I;have n6:δ t.1≠rb:=I;have n7:rb≠δ w.1+1:=I;have n8:δ w.1+1≠rb:=I;have c:=hid (A (SL g i) (A a (A d (A l X))));clear a d l X i N;go_wp2_with fail;have R:=gY (b:=δ w.1+1) (c.c.trans (bX _ rb 1 (j' O'))) (aq (o:=1) c.b (j' O')) I I (G 0) (G 0) (G 0) (j' P') (G 0) (G 0);refine aC (v:=fT ⟨0,0,0,P',0,0⟩) (by simp[results295,go_sem,o.1,fT,e2]) rfl ?_;exact⟨aK ⟨c.a,_,U,⟨_,rfl⟩,rfl,I,R.1.alloc _⟩,gp R.2 _⟩
 obtain⟨rfl,f⟩:=MJ i;have s:=gV b;have TD:=a.lt;have E:=M l;have o:=M X;have B:=M a;have n1:δ w.1≠δ t.1:=I;have n2:δ t.1≠δ w.1:=I;have n3:δ w.1+1≠δ t.1:=I;have V:δ t.1≠δ w.1+1:=I;have n5:rb≠δ t.1:=I;have n6:δ t.1≠rb:=I;have n7:rb≠δ w.1+1:=I;have n8:δ w.1+1≠rb:=I;have c:=hid (A f (A a (A d (A l X))));clear f a d l X i N;by_cases Q:b.toNat=1
 ·have L1:((b.toNat:Int)==1)=O':=by rw[bT];omega
  have a:=po rb U P' (t.alloc (AV b.toNat)) (c.b.alloc _) I;have K:=hid a;have T:=hid Q;clear a Q;go_wp2_with fail;refine bK K.o ?_;rintro e F ⟨r,k⟩;have f:=cP (cv t (AV b.toNat)) k I;have q:=cP ((qq t (AV b.toNat) _ e2).trans c.D) k I;have P:=M f;have l:=M q;have h:=c.c.trans (iR k);clear E o B f q k;rcases r with⟨x,s2,d,X,rfl,Y⟩|⟨d,rfl,s2,X,Y⟩
  ·have u:=hid (A d (A Y h));clear d Y h;go_wp2_with fail;have R:=gY (b:=δ w.1+1) (bI (b:=δ t.1) (o:=1) u.B I (G x)) (u.b.far (b:=δ t.1) (o:=1) I (G x)) I I (G b.toNat) (G x) (G 0) (j' P') (G 0) (G 0);refine aC (v:=fT ⟨(b.toNat:Int),x,0,P',0,0⟩) (by simp[results295,go_sem,l.1,fT]) rfl ?_;refine⟨aI ⟨⟨(b.toNat:Int),x,0,P',0,0⟩,s2,?_,I,rfl,R.1⟩,R.2⟩;have N:=u.a;unfold et at N⊢;simp only[bO,bU]at N⊢;unfold kq;rw[c.a];simp only[T.o,c!];rw[N];rfl
  have u:=hid (A d (A Y h));clear d Y h;go_wp2_with fail;have R:=gY (b:=δ w.1+1) (bI (b:=δ t.1) (o:=1) u.B I (G 0)) (u.b.far (b:=δ t.1) (o:=1) I (G 0)) I I (G b.toNat) (G 0) (G 0) (j' P') (G 0) (G 0);refine aC (v:=fT ⟨(b.toNat:Int),0,0,P',0,0⟩) (by simp[results295,go_sem,l.1,fT]) rfl ?_;refine⟨aK ⟨?_,_,s2,⟨_,rfl⟩,rfl,I,R.1⟩,R.2⟩;have N:=u.a;unfold et at N⊢;simp only[bO,bU]at N⊢;unfold kq;rw[c.a];simp only[T.o,c!];rw[N]
 have L1:((b.toNat:Int)==1)=P':=by rw[b?];omega
 by_cases i:b.toNat=2;rotate_left
 ·have s:((b.toNat:Int)==2)=P':=by rw[b?];omega
  go_wp2_with fail;have R:=gY (b:=δ w.1+1) (c.c.trans (bX _ rb 1 (j' O'))) (aq (o:=1) c.b (j' O')) I I (G b.toNat) (G 0) (G 0) (j' P') (G 0) (G 0);refine aC (v:=fT ⟨(b.toNat:Int),0,0,P',0,0⟩) (by simp[results295,go_sem,o.1,fT,e2]) rfl ?_;refine⟨aK ⟨?_,_,U,⟨_,rfl⟩,rfl,I,R.1.alloc _⟩,gp R.2 _⟩;unfold et kq;rw[c.a];simp[Q,i]
 have s:((b.toNat:Int)==2)=O':=by rw[bT];omega
 have T:=hid (A Q i);clear Q i;cases C:decide (g=1)with
 |false=>
  have NG:J (¬g=1):=by show ¬g=1;simpa using C
  go_wp2_with (go_at_call 203;refine mW.mono ?_;rw[C];rintro e w9 ⟨rfl,rfl⟩);have R:=gY (b:=δ w.1+1) c.c c.b I I (G b.toNat) (G 0) (G 0) (j' P') (G 0) (G 0);refine aC (v:=fT ⟨(b.toNat:Int),0,0,P',0,0⟩) (by simp[results295,go_sem,o.1,fT,e2,(show δ w.1+1<δ t.1+1 by omega),(show δ w.1<δ t.1 by omega)]) rfl ?_;refine⟨aI ⟨⟨(b.toNat:Int),0,0,P',0,0⟩,U,?_,I,rfl,(R.1.alloc _).alloc _⟩,gp (gp R.2 _) _⟩;unfold et kq;rw[c.a];simp[T.a,T.A,NG.o]
 |true=>
  have Hd:J (g=1):=by show g=1;simpa using C
  have i:=Bv rb U P' ((t.alloc (AV b.toNat)).alloc (fL p g)) ((c.b.alloc _).alloc _) I;have K:=hid i;clear i;go_wp2_with (go_at_call 203;refine mW.mono ?_;rw[C];rintro e w9 ⟨rfl,rfl⟩);refine bK K.o ?_;rintro e F ⟨r,k⟩;have f:=cP ((qq _ (fL p g) _ ak).trans (cv t (AV b.toNat))) k I;have q:=cP ((qq _ (fL p g) _ (by simp;omega)).trans ((qq t (AV b.toNat) _ e2).trans c.D)) k I;have P:=M f;have l:=M q;have h:=c.c.trans (iR (iR k));have j:=hid (A f q);clear E o B f q k;rcases r with⟨f,s2,d,X,rfl,Y⟩|⟨d,rfl,s2,X,Y⟩;rotate_left
  ·have u:=hid (A d (A Y h));clear d Y h;go_wp2_with fail;have R:=gY (b:=δ w.1+1) u.B u.b I I (G b.toNat) (G 0) (G 0) (j' P') (G 0) (G 0);refine aC (v:=fT ⟨(b.toNat:Int),0,0,P',0,0⟩) (by simp[results295,go_sem,l.1,fT]) rfl ?_;refine⟨aK ⟨?_,_,s2,⟨_,rfl⟩,rfl,I,R.1⟩,R.2⟩;exact YV
  cases f with
  |false=>have u:=hid (A d (A Y h));clear d Y h;go_wp2_with fail;have R:=gY (b:=δ w.1+1) u.B u.b I I (G b.toNat) (G 0) (G 0) (j' P') (G 0) (G 0);refine aC (v:=fT ⟨(b.toNat:Int),0,0,P',0,0⟩) (by simp[results295,go_sem,l.1,fT]) rfl ?_;refine⟨aI ⟨⟨(b.toNat:Int),0,0,P',0,0⟩,s2,?_,I,rfl,R.1⟩,R.2⟩;exact YV
  |true=>
   have a:=po rb s2 P' (κ F (O t.1.size 3) (j' O')) (Y.far I _) I;have u:=hid (A d (A a h));clear d Y h a;go_wp2_with fail;refine bK u.b ?_;rintro e o ⟨d,f⟩;have v:=cP (aq (o:=3) j.a (j' O')) f I;have a:=cP ((Vz F (O t.1.size 3) _ _ (show δ w.1+1≠δ t.1 by omega)).trans j.A) f I;have h:=(bI (b:=δ t.1) (o:=3) u.B I (j' O')).trans f;have D:=hid (A v a);have t1:=M v;have v1:=M a;clear P l v a f;rcases d with⟨x,S,i,Mk,rfl,Y⟩|⟨i,rfl,S,Mk,Y⟩;rotate_left
   ·have q:=p7 rb S O' (κ o (O t.1.size 4) (G 0)) (Y.far I _) I;have H3:=hid (A i (A q h));clear i Y h q;go_wp2_with fail;refine bK H3.b ?_;rintro e W4 ⟨l,g5⟩;have E:=cP (aq (o:=4) D.a (G 0)) g5 I;have Q:=cP ((Vz o (O t.1.size 4) _ _ (show δ w.1+1≠δ t.1 by omega)).trans D.A) g5 I;have h:=(bI (b:=δ t.1) (o:=4) H3.B I (G 0)).trans g5;have p1:=M E;have q1:=M Q;clear t1 v1 E Q g5;rcases l with⟨k,P,a,r,rfl,Y⟩|⟨a,rfl,P,r,Y⟩
    ·cases a
    have B:=hid (A a (A Y h));clear a Y h;go_wp2_with fail;have R:=gY (b:=δ w.1+1) (bI (b:=δ t.1) (o:=5) B.B I (G 0)) (B.b.far (b:=δ t.1) (o:=5) I (G 0)) I I (G b.toNat) (G 0) (G 0) (j' O') (G 0) (G 0);refine aC (v:=fT ⟨(b.toNat:Int),0,0,O',0,0⟩) (by simp[results295,go_sem,q1.1,fT]) rfl ?_;refine⟨aK ⟨?_,_,P,⟨_,rfl⟩,rfl,I,R.1⟩,R.2⟩;have N:=u.a;have d:=H3.a;unfold et at N d⊢;simp only[bO,bU]at N d⊢;unfold kq;rw[c.a];simp only[T.a,T.A,Hd.o,c!,bU,N];unfold rD;rw[d];rfl
   have q:=p7 rb S P' (κ o (O t.1.size 4) (G x)) (Y.far I _) I;have H3:=hid (A i (A q h));clear i Y h q;go_wp2_with fail;refine bK H3.b ?_;rintro e W4 ⟨l,g5⟩;have E:=cP (aq (o:=4) D.a (G x)) g5 I;have Q:=cP ((Vz o (O t.1.size 4) _ _ (show δ w.1+1≠δ t.1 by omega)).trans D.A) g5 I;have h:=(bI (b:=δ t.1) (o:=4) H3.B I (G x)).trans g5;have p1:=M E;have q1:=M Q;clear t1 v1 E Q g5;rcases l with⟨k,P,a,r,rfl,Y⟩|⟨a,rfl,P,r,Y⟩
   ·have B:=hid (A a (A Y h));clear a Y h;go_wp2_with fail;have R:=gY (b:=δ w.1+1) (bI (b:=δ t.1) (o:=5) B.B I (G k)) (B.b.far (b:=δ t.1) (o:=5) I (G k)) I I (G b.toNat) (G 0) (G 0) (j' O') (G x) (G k);refine aC (v:=fT ⟨(b.toNat:Int),0,0,O',x,(k:Int)⟩) (by simp[results295,go_sem,q1.1,fT]) rfl ?_;refine⟨aI ⟨⟨(b.toNat:Int),0,0,O',x,(k:Int)⟩,P,?_,I,rfl,R.1⟩,R.2⟩;exact YW
   have B:=hid (A a (A Y h));clear a Y h;go_wp2_with fail;have R:=gY (b:=δ w.1+1) (bI (b:=δ t.1) (o:=5) B.B I (G 0)) (B.b.far (b:=δ t.1) (o:=5) I (G 0)) I I (G b.toNat) (G 0) (G 0) (j' O') (G x) (G 0);refine aC (v:=fT ⟨(b.toNat:Int),0,0,O',x,0⟩) (by simp[results295,go_sem,q1.1,fT]) rfl ?_;refine⟨aK ⟨?_,_,P,⟨_,rfl⟩,rfl,I,R.1⟩,R.2⟩;exact YW
section
variable {i fuel:Nat} {listed:Array Bool} {a:Act} {d:Option Tmp} {op:Op} {ty:TypeId} {ps:String} {af:Array Edge} {gd:Option (Nat×Bool)}
section
variable {P:Program} {ops:Array Oper} {Q:Exit->Act->u'->Prop} {md:Region.Mode} {S:u'->Prop} {k:Nat}
def zP(P:Program)(md:Region.Mode)(ops:Array Oper)(Q:Exit->Act->u'->Prop)(S:u'->Prop)(k:Nat):Nat->Array Bool->Act->u'->Prop
 |0,listed,a,w=>Region.ready md ops listed=[]/\Q .normal a w
 |fuel+1,listed,a,w=>
  (Region.ready md ops listed=[]->Q .normal a w) /\
  ∀i∈Region.ready md ops listed,wpOp P ops Q i (λa' w'=>(i<k->S w')/\zP P md ops Q S k fuel (listed.setIfInBounds i O') a' w') a w
def Hz:∀(b:Nat) (g:Array Bool) (a:Act) (w:u'),zP P md ops Q S k b g a w->wpAny P md ops Q b g a w
 |0,_,_,_,h=>h
 |b+1,_,_,_,h=>⟨h.1,λi c=>wpOp_mono (λz a s=>Hz b _ z a s.2) (h.2 i c)⟩
def MX(md:Region.Mode)(ops:Array Oper)(k:Nat):Bool:=(range ops.size).all λj=>decide (j<k)||(range k).all λi=>match ops[j]? with|some o=>o.after.any λe=>Region.binds md e&&e.on==i|none=>O'
def WL(h:MX md ops k=O'){g:Array Bool}{j:Nat}(c:i<k)(X:g.getD i O'=P')(f:j∈Region.ready md ops g):j<k:=by
 obtain⟨_,o,b,R⟩:=q7.1 f;unfold MX at h;rw[cF]at h;have C:=h j (by rw[eQ];exact(aY.1 b).1);rw[gX,bq]at C;rcases C with C|C
 ·exact C
 exfalso;rw[cF]at C;have a:=C i (by rw[eQ];exact c);rw[b]at a;simp only[Array.any_eq_true,bh,bT]at a;obtain⟨n,K,N,d⟩:=a;have l:=R _ (Array.getElem_mem K) N;rw[d]at l;rcases wU i g.size with s|s
 ·simp[s]at X l;rw[X]at l;cases l
 simp[wV s]at l
def Ls{x:Oper}{v:A'}(p:ops[i]?=B' x)(z:i<k)(F:MX md ops k=O')(E:∀(j:Nat) (o:Oper) L b,ops[j]?=B' o->o.op≠.select L b)
  (W:∀c a w,Q (.panic c) (a.put x.dst v) w->Q (.panic c) a w):
  ∀(d:Nat) (g:Array Bool) (a:Act) (w:u'),
   (∀j T,ops[j]?=B' T->j≠i->g.getD j O'=P'->(∀e∈T.after,Region.binds md e=O'->e.on≠i)->x.apart ops T=O') ->
   i∈Region.ready md ops g->YieldsIf P ops S x v a->S w ->
   zP P md ops Q S k d (g.setIfInBounds i O') (a.put x.dst v) w->zP P md ops Q S k (d+1) g a w:=by
 intro d;induction d with
 |zero=>
  intro g a w _ o B u c;refine⟨λh=>(by rw[h]at o;cases o),λj f=>?_⟩;by_cases r:j=i
  ·subst r;exact B.wpOp p u ⟨λ_=>u,c⟩
  have:=ready_mono f r;rw[c.1]at this;cases this
 |succ d v=>
  intro g a w d o B u c;refine⟨λh=>(by rw[h]at o;cases o),λj f=>?_⟩;by_cases r:j=i
  ·subst r;exact B.wpOp p u ⟨λ_=>u,c⟩
  have C:=c.2 j (ready_mono f r);obtain⟨a,T,c,R⟩:=q7.1 f
  have U:∀e∈T.after,Region.binds md e=O'->e.on≠i:=λe l q h=>by
   have C:=R e l q;have D:=(q7.1 o).1;rw[h]at C;rcases wU i g.size with s|s
   ·simp[s]at D C;rw[D]at C;cases C
   simp[wV s]at C
  have h:=wpOp_putIf c (d j T c r a U) (λL b=>E i x L b p) (λL b=>E j T L b c) W B C
  have y:∀k t,ops[k]?=B' t->k≠i->(g.setIfInBounds j O').getD k O'=P' ->
    (∀e∈t.after,Region.binds md e=O'->e.on≠i)->x.apart ops t=O':=λk t b K V q=>by
   refine d k t b K ?_ q;by_cases p:j=k
   ·subst p;exact a
   rw[getD_set_ne O' p]at V;exact V
  have p:=WL F z (q7.1 o).1 f;refine wpOp_mono (λz a N=>⟨λ_=>N.2.1 p,v (g.setIfInBounds j O') z a y (ready_mono o (gG r)) N.1 (N.2.1 p) ?_⟩) h;rw[Array.setIfInBounds_comm _ _ r];exact N.2.2
def tt{a':Act}(i:Nat)(v:A')(hi:ops[i]?=B' ⟨d,op,ty,ps,af,gd⟩:=by rfl)
  (hk:(decide (i<k)&&MX md ops k&&Region.noSelect ops&&Region.free md ops listed i&&(Region.ready md ops listed).contains i)=O':=by kernel_rfl)
  (hw:Region.wanted ⟨d,op,ty,ps,af,gd⟩ (yielded ops a.tmps)=O':=by kernel_rfl) (hQ:∀c a w,Q (.panic c) (a.put d v) w->Q (.panic c) a w:=by exact λ_ _ _ h=>h)
  (y:∀w,S w->(execOp a.eval ⟨d,op,ty,ps,af,gd⟩).run P w=.ok (.value v) w:=by intro W' bN;clear aM;go_simp) (hS:S w:=by assumption) (ha:a.put d v=a':=by(try simp only[Act.put,cJ,dN,cO]);rfl)
  (h:zP P md ops Q S k fuel (listed.setIfInBounds i O') a' w):zP P md ops Q S k (fuel+1) listed a w:=by
 simp only[bh,bq]at hk;obtain⟨⟨⟨⟨h1,h2⟩,h3⟩,h4⟩,h5⟩:=hk;subst ha;exact Ls hi h1 h2 (Region.noSelect_spec h3) hQ fuel listed a w (Region.free_spec hi h4) (I' h5) (aI ⟨hw,y⟩) hS h
def rt(i:Nat)(hi:ops[i]?=B' ⟨d,op,ty,ps,af,gd⟩:=by rfl)(hr:Region.ready md ops listed=[i]:=by kernel_rfl)
  (h:∀K:Act->u'->Prop,Shut (∀a w,(i<k->S w)->zP P md ops Q S k fuel (listed.setIfInBounds i O') a w->K a w)->if Region.wanted ⟨d,op,ty,ps,af,gd⟩ (yielded ops a.tmps)=O' then Oper.wp P ⟨d,op,ty,ps,af,gd⟩ a w K Q else K (a.put d undef) w):zP P md ops Q S k (fuel+1) listed a w:=by
 refine⟨λh0=>(by rw[hr]at h0;cases h0),λj hj=>?_⟩;rw[hr]at hj;obtain rfl:j=i:=I' hj;exact wpOp_step hi (λK' hK=>h K' (λa w hS hW=>hK a w ⟨hS,hW⟩))
def dt(hr:Region.ready md ops listed=[]:=by kernel_rfl)(h:Q .normal a w):zP P md ops Q S k fuel listed a w:=by
 cases fuel with
 |zero=>exact⟨hr,h⟩
 |succ n=>exact⟨λ_=>h,by rw[hr];simp⟩
def st(S:u'->Prop)(k:Nat){id:Nat}(hm:P.follows .mixedOrders=O':=by kernel_rfl)(hS:S w.drew)(h:S w.drew->zP P .any ops Q S k ops.size (Array.replicate ops.size P') a w.drew):(Code.region id ops O').wp P Q a w:=
 wp_region_any hm (Hz _ _ _ _ (h hS))
end
end
section
variable {α β:Type} {d z c D r:Nat} {b X:Bool} {p g j:Int} {T:x'} {v v':Vl}
def eL(p:y'->Option (α×y'))(f:α->y'->Option (β×y'))(l:y'):Option (β×y'):=match p l with
 |some (x,r)=>f x r
 |none=>C'
def jP(y:β)(l:y'):Option (β×y'):=B' (y,l)
def Sh(_:y'):Option (β×y'):=C'
def dz.bind{N e:Nat}{d o:Bool}{p:y'->Option (α×y')}{f:α->y'->Option (β×y')}{x:α}{y:β}(C:dz s a b p x N d)(c:dz s N d (f x) y e o):dz s a b (eL p f) y e o:=by
 refine⟨bD C.le c.le,c.sz,?_⟩;unfold eL;rcases c.how with⟨V,u,a⟩|⟨V,u⟩
 ·rcases C.how with⟨_,B,t⟩|⟨K,_⟩
  ·exact aI ⟨V,B,by rw[t];exact a⟩
  rw[u]at K;cases K
 refine aK ⟨V,?_⟩;rcases C.how with⟨K,B,t⟩|⟨K,B⟩
 ·rcases u with u|u
  ·rw[K]at u;cases u
  right;rw[t];exact u
 rcases B with B|B
 ·exact aI B
 right;rw[B]
theorem aaf{p:Prop}(h:p:=by
 refine⟨aF,h,?_⟩;cases b with
 |false=>exact aI ⟨rfl,rfl,rfl⟩
 |true=>exact aK ⟨rfl,aI rfl⟩):p:=h
theorem dz.ret(b:Bool)(y:β)(h:a<=s.size):dz s a b (jP y) y a b:=by exact aaf
def dz.fail(b:Bool)(y:β)(R:a<=z)(h:z<=s.size):dz s a b Sh y z true:=⟨R,h,aK ⟨rfl,aK rfl⟩⟩
def dz.bad(p:y'->Option (β×y'))(y:β)(R:a<=z)(h:z<=s.size):dz s a true p y z true:=⟨R,h,aK ⟨rfl,aI rfl⟩⟩
def vl2:Vl:=⟨2,0,0,false,0,0⟩
def hY(p g:Int):y'->Option (Vl×y'):=
 if p=6 then eL iK (λlo=>eL rc (λn=>if lo+(n:Int)<=9223372036854775807 then jP ⟨3,lo,lo+(n:Int),false,0,0⟩ else Sh))
 else eL xI (λb=>if b.toNat=1 then eL iK (λx=>jP ⟨1,x,0,false,0,0⟩)
  else if b.toNat=2 then(if g=1 then eL (fH ((1:Nat):Int)) (λy=>if y=1 then eL iK (λx=>eL (fH ((100000:Nat):Int)) (λk=>jP ⟨2,0,0,true,x,(k:Int)⟩)) else jP vl2) else jP vl2)
  else Sh)
def VBx(W w:u')(p g:Int)(na:x')(nl nc:Nat)(v:Vl):Prop:=W.1[δ w.1]?=B' (k' #[G p,G g,i' na nl nc] 51 (0,0))/\W.1[δ w.1+1]?=B' (k' jn 73 (0,0))/\W.1[δ w.1+2]?=B' (k' #[G v.aG,G v.lo,G v.hi,j' v.bJ,G v.first,G v.rank] 73 (0,0))
def VBx.grown{c:World}{b:Nat}(h:VBx W w p g T D r v)(a:ξ W c (some b))(d:b<δ w.heap):VBx c w p g T D r v:=
 ⟨cP h.1 a I,cP h.2.1 a I,cP h.2.2 a I⟩
def VBx.set(h:VBx W w p g T D r v)(o:Nat)(x:A')(l:#[G v.aG,G v.lo,G v.hi,j' v.bJ,G v.first,G v.rank].setIfInBounds o x=#[G v'.aG,G v'.lo,G v'.hi,j' v'.bJ,G v'.first,G v'.rank]):VBx (κ W (O (δ w.1+2) o) x) w p g T D r v':=by refine⟨(aJ H').trans h.1,(aJ H').trans h.2.1,?_⟩;rw[aq h.2.2,l]
def mE.far{c:Bool}(h:mE w d s a c){b o:Nat}(e:d≠b)(v:Value):mE (κ w (O b o) v) d s a c:=(aJ e).trans h
def mF(W w:u')(p g:Int)(na:x')(nl nc rb:Nat)(s:z')(v:Vl)(a:Nat)(b:Bool):Prop:=VBx W w p g na nl nc v/\mE W rb s a b/\ξ w W (B' rb)
def mF.call{d:World}(h:mF W w p g T D r c s v a b)(b:c<δ w.heap)(Q:mE d c s z X)(a:ξ W d (some c)):mF d w p g T D r c s v z X:=⟨h.1.grown a b,Q,h.2.2.trans a⟩
def mF.set(h:mF W w p g T D r c s v a b)(d:c<δ w.1)(o:Nat)(x:A')(l:#[G v.aG,G v.lo,G v.hi,j' v.bJ,G v.first,G v.rank].setIfInBounds o x=#[G v'.aG,G v'.lo,G v'.hi,j' v'.bJ,G v'.first,G v'.rank]):mF (κ W (O (δ w.1+2) o) x) w p g T D r c s v' a b:=⟨h.1.set o x l,h.2.1.far I x,bI h.2.2 I x⟩
def mF.bad(h:mF W w p g T D r c s v a b)(b:c<δ w.1):mF (κ W (O c 2) (j' true)) w p g T D r c s v a true:=
 h.call b (aq h.2.1 _) jm
def kx{b:Nat}{e:Bool}(g:ξ w W (B' d))(h:mE W d s a e)(c:δ w.1<=b)(z:d≠b)(U N f i C t:A'):mE (κ (κ (κ (κ (κ (κ W (O b 0) U) (O b 1) N) (O b 2) f) (O b 3) i) (O b 4) C) (O b 5) t) d s a e/\ξ w (κ (κ (κ (κ (κ (κ W (O b 0) U) (O b 1) N) (O b 2) f) (O b 3) i) (O b 4) C) (O b 5) t) (B' d):=
 ⟨(((((h.far z _).far z _).far z _).far z _).far z _).far z _,bI (bI (bI (bI (bI (bI g c _) c _) c _) c _) c _) c _⟩
def dz.stays{p:y'->Option (α×y')}{x:α}(h:dz s a true p x z X):X=true:=by
 rcases h.how with⟨_,h,_⟩|⟨h,_⟩
 ·cases h
 exact h
def dR(x:Int)(h:0<=x)(a:x<=1000):lr x:=⟨I,I⟩
theorem Z8(j:Int)(n:Nat):lr (gL j n):=⟨by unfold gL wrap64;omega,by unfold gL wrap64;omega⟩
theorem Mo{n:Nat}(X:lr j)(h:j+(n:Int)<=9223372036854775807):gL j n=j+(n:Int):=by obtain⟨C,a⟩:=X;simp only[gL,wrap64,IntKind.wrap,IntKind.bits,IntKind.signed];simp;omega
theorem Mf(X:lr j):IntKind.u64.wrap (9223372036854775807-IntKind.u64.wrap j)=9223372036854775807-j:=by obtain⟨C,a⟩:=X;simp only[IntKind.wrap,IntKind.bits,IntKind.signed];simp;omega
theorem Rj{p:Prop}(h:p:=by
 unfold hY;rw[aA HP.o];refine HK.o.bind ?_;rw[aA HQ.o.1,aA HQ.o.2]
 exact dz.fail b1 _ I I):p:=h
def G9(p g:Int)(T:x')(D r:Nat)(rb a:Nat)(s:z')(bad:Bool)(w:u')(h:mE w rb s a bad)(Y:a<=s.size)(hs:s.size<=60000):
  Cl 109 #[o' (B' (O rb 0)),l' #[G p,G g,i' T D r]] w λe w'=>∃(v:Vl) (a':Nat) (Hw:Bool),e=p' (fT v)/\tU v/\dz s a bad (hY p g) v a' Hw/\mE w' rb s a' Hw/\ξ w w' (B' rb):=by
 have L:=(aY.1 h).1;have HR:=hid h;clear h;go_enter func109,ntmps109;go_upto_region 2 with(fail)
 obtain⟨V0,X⟩:=Ea ((((w.alloc (k' #[G p,G g,i' T D r] 51)).alloc (k' jn 73)).alloc (k' jn 73)));rw[<-X];have H0:J (mF V0 w p g T D r rb s ⟨0,0,0,P',0,0⟩ a bad):=by
  rw[X];refine⟨⟨?_,?_,?_⟩,?_,gp (gp (gp (pG w _) _) _) _⟩
  ·rw[bQ (by simp;omega),bQ ak,cv]
  ·rw[bQ ak];exact(bL w _ _).2
  ·have:=cv ((w.alloc (k' #[G p,G g,i' T D r] 51)).alloc (k' jn 73)) (k' jn 73);simpa using this
  unfold mE;rw[bQ (by simp;omega),bQ (by simp;omega),bQ L];exact HR.o
 clear X;have E:=M H0.a.1;have y1:=M H0.a.2.2;by_cases b:p=6
 ·have fp:(p==6)=O':=by rw[bT];exact b
  have HP:=hid b;clear b;go_wp2_with fail;obtain⟨V1,K0⟩:=Ea (κ V0 (O (δ w.1+1+1) 0) (G 3));rw[<-K0];have c:J (mF V1 w p g T D r rb s ⟨3,0,0,P',0,0⟩ a bad):=by rw[K0];exact H0.o.set L 0 _ rfl
  clear K0;clear E y1;refine(lJ rb a s bad V1 c.b Y hs).mono ?_;rintro e t ⟨j,N,b1,rfl,l,k,U,x⟩;have u:J (mF t w p g T D r rb s ⟨3,0,0,P',0,0⟩ N b1):=c.o.call L U x;clear U x;have y1:=M u.a.2.2;go_wp2_with fail;obtain⟨V2,TS⟩:=Ea (κ t (O (δ w.1+1+1) 1) (G j));rw[<-TS];have z:J (mF V2 w p g T D r rb s ⟨3,j,0,P',0,0⟩ N b1):=by rw[TS];exact u.o.set L 1 _ rfl
  clear TS;clear y1;refine(r7 rb N s b1 V2 z.b k.sz hs).mono ?_;rintro e F ⟨n,a2,o,rfl,v,Et,Iw,q⟩;have B:J (mF F w p g T D r rb s ⟨3,j,0,P',0,0⟩ a2 o):=z.o.call L Iw q;have HK:J (lr j/\dz s a bad iK j N b1/\dz s N b1 rc n a2 o):=⟨l,k,Et⟩;clear Iw q;have y1:=M B.a.2.2;have W:=M B.b;have E:=M B.a.2.1;by_cases hle:j+(n:Int)<=9223372036854775807
  ·have v:¬(IntKind.u64.wrap (9223372036854775807-IntKind.u64.wrap j)<(n:Int)):=by rw[Mf l];omega
   clear l k Et;go_wp2_with fail;have f:J (mF F w p g T D r rb s ⟨3,j,0,P',0,0⟩ a2 o):=B;have H6:J (mF _ w p g T D r rb s ⟨3,j,gL j n,P',0,0⟩ a2 o):=f.o.set L 2 (G (gL j n)) rfl;have GR:dz s a bad (hY p g) ⟨3,j,gL j n,P',0,0⟩ a2 o:=by unfold hY;rw[aB HP.o,Mo HK.a hle];refine HK.b.bind (HK.B.bind ?_);rw[aB hle];exact dz.ret o _ HK.B.sz
   refine aC (v:=fT ⟨3,j,gL j n,P',0,0⟩) (by simp[results109,go_sem,E.1,fT,gL]) rfl ?_;have R:=kx H6.B H6.b (show δ w.1<=δ w.1+1 by omega) I (G 3) (G j) (G (gL j n)) (j' P') (G 0) (G 0);exact⟨⟨3,j,gL j n,P',0,0⟩,a2,o,rfl,⟨dR 3 I I,HK.a,Z8 j n,dR 0 I I,dR 0 I I⟩,GR,R.1,R.2⟩
  have v:(IntKind.u64.wrap (9223372036854775807-IntKind.u64.wrap j)<(n:Int)):=by rw[Mf l];omega
  clear l k Et;go_wp2_with fail;have f:J (mF (κ F (O rb 2) (j' O')) w p g T D r rb s ⟨3,j,0,P',0,0⟩ a2 O'):=B.o.bad L;have H6:J (mF _ w p g T D r rb s ⟨3,j,gL j n,P',0,0⟩ a2 O'):=f.o.set L 2 (G (gL j n)) rfl;have GR:dz s a bad (hY p g) ⟨3,j,gL j n,P',0,0⟩ a2 O':=by unfold hY;rw[aB HP.o];refine HK.b.bind (HK.B.bind ?_);rw[aA I];exact dz.fail o _ aF HK.B.sz
  refine aC (v:=fT ⟨3,j,gL j n,P',0,0⟩) (by simp[results109,go_sem,E.1,fT,gL]) rfl ?_;have R:=kx H6.B H6.b (show δ w.1<=δ w.1+1 by omega) I (G 3) (G j) (G (gL j n)) (j' P') (G 0) (G 0);exact⟨⟨3,j,gL j n,P',0,0⟩,a2,O',rfl,⟨dR 3 I I,HK.a,Z8 j n,dR 0 I I,dR 0 I I⟩,GR,R.1,R.2⟩
 have fp:(p==6)=P':=by rw[b?];exact b
 have HP:J (¬p=6):=b;clear b;go_wp2_with fail;refine(PG rb a s bad V0 H0.b Y hs).mono ?_;rintro e t ⟨b,N,b1,rfl,k,U,x⟩;have c:J (mF t w p g T D r rb s ⟨0,0,0,P',0,0⟩ N b1):=H0.o.call L U x;have HK:J (dz s a bad xI b N b1):=k;have Z!:=gV b;have tF:=k.sz;clear U x E y1 k;have y1:=M c.a.2.2;have E:=M c.a.2.1;have W:=M c.b;have r1:=M c.a.1;have v:¬rb=δ w.1+1+1:=I;have v:¬δ w.1+1+1=rb:=I;have v:¬rb=δ w.1:=I;have v:¬δ w.1=rb:=I;have v:¬rb=δ w.1+1:=I;have v:¬δ w.1+1=rb:=I;by_cases Vk:b.toNat=1
 ·obtain rfl:b=1:=oS Vk;rw[show(((1:UInt8).toNat:Nat):Int)=1 from rfl];clear Vk Z!;go_wp2_with fail;obtain⟨V1,K0⟩:=Ea (κ t (O (δ w.1+1+1) 0) (G 1));rw[<-K0];have u:J (mF V1 w p g T D r rb s ⟨1,0,0,P',0,0⟩ N b1):=by rw[K0];exact c.o.set L 0 _ rfl
  clear K0;clear E y1 W r1;refine(lJ rb N s b1 V1 u.b tF hs).mono ?_;rintro e F ⟨j,a2,o,rfl,l,Et,Iw,q⟩;have z:J (mF F w p g T D r rb s ⟨1,0,0,P',0,0⟩ a2 o):=u.o.call L Iw q;have Ly:J (lr j/\dz s N b1 iK j a2 o):=⟨l,Et⟩;clear Iw q Et l;have y1:=M z.a.2.2;have E:=M z.a.2.1;have W:=M z.b;have r1:=M z.a.1;go_wp2_with fail;have B:J (mF _ w p g T D r rb s ⟨1,j,0,P',0,0⟩ a2 o):=z.o.set L 1 (G j) rfl;have GR:dz s a bad (hY p g) ⟨1,j,0,P',0,0⟩ a2 o:=by unfold hY;rw[aA HP.o];refine HK.o.bind ?_;rw[aB (by rfl)];exact Ly.A.bind (dz.ret o _ Ly.A.sz)
  refine aC (v:=fT ⟨1,j,0,P',0,0⟩) (by simp[results109,go_sem,E.1,fT,gL]) rfl ?_;have R:=kx B.B B.b (show δ w.1<=δ w.1+1 by omega) I (G 1) (G j) (G 0) (j' P') (G 0) (G 0);exact⟨⟨1,j,0,P',0,0⟩,a2,o,rfl,⟨dR 1 I I,Ly.a,dR 0 I I,dR 0 I I,dR 0 I I⟩,GR,R.1,R.2⟩
 by_cases X:b.toNat=2
 ·obtain rfl:b=2:=oS X;rw[show(((2:UInt8).toNat:Nat):Int)=2 from rfl];clear Vk X Z!;by_cases hg:g=1;rotate_left
  ·have fg:(g==1)=P':=by rw[b?];exact hg
   have HG:J (¬g=1):=hg;clear hg;go_wp2_with fail;have u:J (mF (κ t (O (δ w.1+1+1) 0) (G 2)) w p g T D r rb s ⟨2,0,0,P',0,0⟩ N b1):=c.o.set L 0 _ rfl;have GR:dz s a bad (hY p g) ⟨2,0,0,P',0,0⟩ N b1:=by unfold hY;rw[aA HP.o];refine HK.o.bind ?_;rw[aA aj,aB (by rfl),aA HG.o];exact dz.ret b1 _ tF
   refine aC (v:=fT ⟨2,0,0,P',0,0⟩) (by simp[results109,go_sem,E.1,fT,gL]) rfl ?_;have R:=kx u.B u.b (show δ w.1<=δ w.1+1 by omega) I (G 2) (G 0) (G 0) (j' P') (G 0) (G 0);exact⟨⟨2,0,0,P',0,0⟩,N,b1,rfl,⟨dR 2 I I,dR 0 I I,dR 0 I I,dR 0 I I,dR 0 I I⟩,GR,R.1,R.2⟩
  have fg:(g==1)=O':=by rw[bT];exact hg
  have HG:J (g=1):=hg;clear hg;go_wp2_with fail;obtain⟨V1,K0⟩:=Ea (κ t (O (δ w.1+1+1) 0) (G 2));rw[<-K0];have u:J (mF V1 w p g T D r rb s ⟨2,0,0,P',0,0⟩ N b1):=by rw[K0];exact c.o.set L 0 _ rfl
  clear K0;clear E y1 W r1;refine(eJ rb N 1 s b1 V1 u.b tF hs I).mono ?_;rintro e F ⟨y,a2,o,rfl,hy,Et,Iw,q⟩;have z:J (mF F w p g T D r rb s ⟨2,0,0,P',0,0⟩ a2 o):=u.o.call L Iw q;have Ly:J (dz s N b1 (fH ((1:Nat):Int)) y a2 o):=Et;have WV:=Et.sz;have hl2:=Et.le;clear Iw q Et;have y1:=M z.a.2.2;have E:=M z.a.2.1;have W:=M z.b;have r1:=M z.a.1;by_cases hy1:y=1;rotate_left
  ·have IM:((y:Int)==1)=P':=by rw[b?];omega
   go_wp2_with fail;have GR:dz s a bad (hY p g) ⟨2,0,0,P',0,0⟩ a2 o:=by unfold hY;rw[aA HP.o];refine HK.o.bind ?_;rw[aA aj,aB (by rfl),aB HG.o];refine Ly.o.bind ?_;rw[aA hy1];exact dz.ret o _ Ly.o.sz
   refine aC (v:=fT ⟨2,0,0,P',0,0⟩) (by simp[results109,go_sem,E.1,fT,gL]) rfl ?_;have R:=kx z.B z.b (show δ w.1<=δ w.1+1 by omega) I (G 2) (G 0) (G 0) (j' P') (G 0) (G 0);exact⟨⟨2,0,0,P',0,0⟩,a2,o,rfl,⟨dR 2 I I,dR 0 I I,dR 0 I I,dR 0 I I,dR 0 I I⟩,GR,R.1,R.2⟩
  subst hy1;go_wp2_with fail;obtain⟨V2,TS⟩:=Ea (κ F (O (δ w.1+1+1) 3) (j' O'));rw[<-TS];have B:J (mF V2 w p g T D r rb s ⟨2,0,0,O',0,0⟩ a2 o):=by rw[TS];exact z.o.set L 3 _ rfl
  clear TS;clear E y1 W r1;refine(lJ rb a2 s o V2 B.b WV hs).mono ?_;rintro e W3 ⟨x3,a3,x,rfl,WX,U,Z?,GN⟩;have f:J (mF W3 w p g T D r rb s ⟨2,0,0,O',0,0⟩ a3 x):=B.o.call L Z? GN;have Vb:J (lr x3/\dz s a2 o iK x3 a3 x):=⟨WX,U⟩;have Tz:=U.sz;have hl3:=U.le;clear Z? GN U WX;have y1:=M f.a.2.2;have E:=M f.a.2.1;have W:=M f.b;have r1:=M f.a.1;go_wp2_with fail;obtain⟨V3,GC⟩:=Ea (κ W3 (O (δ w.1+1+1) 4) (G x3));rw[<-GC];have H6:J (mF V3 w p g T D r rb s ⟨2,0,0,O',x3,0⟩ a3 x):=by rw[GC];exact f.o.set L 4 _ rfl
  clear GC;clear E y1 W r1;refine(eJ rb a3 100000 s x V3 H6.b Tz hs I).mono ?_;rintro e W4 ⟨k,C,b4,rfl,hk,BT,Qf,GM⟩;have H7:J (mF W4 w p g T D r rb s ⟨2,0,0,O',x3,0⟩ C b4):=H6.o.call L Qf GM;have Vw:J (dz s a3 x (fH ((100000:Nat):Int)) k C b4):=BT;have hz4:=BT.sz;have KV:=BT.le;clear Qf GM BT;have y1:=M H7.a.2.2;have E:=M H7.a.2.1;have W:=M H7.b;have r1:=M H7.a.1;go_wp2_with fail;have H8:J (mF _ w p g T D r rb s ⟨2,0,0,O',x3,(k:Int)⟩ C b4):=H7.o.set L 5 (G k) rfl;have GR:dz s a bad (hY p g) ⟨2,0,0,O',x3,(k:Int)⟩ C b4:=by unfold hY;rw[aA HP.o];refine HK.o.bind ?_;rw[aA aj,aB (by rfl),aB HG.o];refine Ly.o.bind ?_;rw[aB rfl];exact Vb.A.bind (Vw.o.bind (dz.ret b4 _ Vw.o.sz))
  refine aC (v:=fT ⟨2,0,0,O',x3,(k:Int)⟩) (by simp[results109,go_sem,E.1,fT,gL]) rfl ?_;have R:=kx H8.B H8.b (show δ w.1<=δ w.1+1 by omega) I (G 2) (G 0) (G 0) (j' O') (G x3) (G k);exact⟨⟨2,0,0,O',x3,(k:Int)⟩,C,b4,rfl,⟨dR 2 I I,dR 0 I I,dR 0 I I,Vb.a,⟨by simp only;omega,by simp only;omega⟩⟩,GR,R.1,R.2⟩
 have j:((b.toNat:Int)==1)=P':=by rw[b?];omega
 have j:((b.toNat:Int) !=2)=O':=by rw[kK];omega
 have GP:lr (b.toNat:Int):=⟨I,I⟩;have HQ:J (¬b.toNat=1/\¬b.toNat=2):=⟨Vk,X⟩;clear Vk X;by_cases hg:g=1;rotate_left
 ·have fg:(g==1)=P':=by rw[b?];exact hg
  have HG:J (¬g=1):=hg;clear hg;go_wp2_with fail;have u:J (mF (κ (κ t (O (δ w.1+1+1) 0) (G b.toNat)) (O rb 2) (j' O')) w p g T D r rb s ⟨(b.toNat:Int),0,0,P',0,0⟩ N O'):=mF.bad (mF.set (v':=⟨(b.toNat:Int),0,0,P',0,0⟩) c.o L 0 _ rfl) L;have GR:dz s a bad (hY p g) ⟨(b.toNat:Int),0,0,P',0,0⟩ N O':=by exact Rj
  refine aC (v:=fT ⟨(b.toNat:Int),0,0,P',0,0⟩) (by simp[results109,go_sem,E.1,fT,gL]) rfl ?_;have R:=kx u.B u.b (show δ w.1<=δ w.1+1 by omega) I (G b.toNat) (G 0) (G 0) (j' P') (G 0) (G 0);exact⟨⟨(b.toNat:Int),0,0,P',0,0⟩,N,O',rfl,⟨GP,dR 0 I I,dR 0 I I,dR 0 I I,dR 0 I I⟩,GR,R.1,R.2⟩
 have fg:(g==1)=O':=by rw[bT];exact hg
 have HG:J (g=1):=hg;clear hg;go_wp2_with fail;obtain⟨V1,K0⟩:=Ea (κ (κ t (O (δ w.1+1+1) 0) (G b.toNat)) (O rb 2) (j' O'));rw[<-K0];have u:J (mF V1 w p g T D r rb s ⟨(b.toNat:Int),0,0,P',0,0⟩ N O'):=by rw[K0];exact mF.bad (mF.set (v':=⟨(b.toNat:Int),0,0,P',0,0⟩) c.o L 0 _ rfl) L
 clear K0;clear E y1 W r1;refine(eJ rb N 1 s O' V1 u.b tF hs I).mono ?_;rintro e F ⟨y,a2,o,rfl,hy,Et,Iw,q⟩;have z:J (mF F w p g T D r rb s ⟨(b.toNat:Int),0,0,P',0,0⟩ a2 o):=u.o.call L Iw q;have Ly:J (dz s N O' (fH ((1:Nat):Int)) y a2 o):=Et;have WV:=Et.sz;have hl2:=Et.le;clear Iw q Et;obtain rfl:=Ly.o.stays;have y1:=M z.a.2.2;have E:=M z.a.2.1;have W:=M z.b;have r1:=M z.a.1;by_cases hy1:y=1;rotate_left
 ·have IM:((y:Int)==1)=P':=by rw[b?];omega
  go_wp2_with fail;have GR:dz s a bad (hY p g) ⟨(b.toNat:Int),0,0,P',0,0⟩ a2 O':=by exact Rj
  refine aC (v:=fT ⟨(b.toNat:Int),0,0,P',0,0⟩) (by simp[results109,go_sem,E.1,fT,gL]) rfl ?_;have R:=kx z.B z.b (show δ w.1<=δ w.1+1 by omega) I (G b.toNat) (G 0) (G 0) (j' P') (G 0) (G 0);exact⟨⟨(b.toNat:Int),0,0,P',0,0⟩,a2,O',rfl,⟨GP,dR 0 I I,dR 0 I I,dR 0 I I,dR 0 I I⟩,GR,R.1,R.2⟩
 subst hy1;go_wp2_with fail;obtain⟨V2,TS⟩:=Ea (κ F (O (δ w.1+1+1) 3) (j' O'));rw[<-TS];have B:J (mF V2 w p g T D r rb s ⟨(b.toNat:Int),0,0,O',0,0⟩ a2 O'):=by rw[TS];exact z.o.set L 3 _ rfl
 clear TS;clear E y1 W r1;refine(lJ rb a2 s O' V2 B.b WV hs).mono ?_;rintro e W3 ⟨x3,a3,x,rfl,WX,U,Z?,GN⟩;have f:J (mF W3 w p g T D r rb s ⟨(b.toNat:Int),0,0,O',0,0⟩ a3 x):=B.o.call L Z? GN;have Vb:J (lr x3/\dz s a2 O' iK x3 a3 x):=⟨WX,U⟩;have Tz:=U.sz;have hl3:=U.le;clear Z? GN U WX;obtain rfl:=Vb.A.stays;have y1:=M f.a.2.2;have E:=M f.a.2.1;have W:=M f.b;have r1:=M f.a.1;go_wp2_with fail;obtain⟨V3,GC⟩:=Ea (κ W3 (O (δ w.1+1+1) 4) (G x3));rw[<-GC];have H6:J (mF V3 w p g T D r rb s ⟨(b.toNat:Int),0,0,O',x3,0⟩ a3 O'):=by rw[GC];exact f.o.set L 4 _ rfl
 clear GC;clear E y1 W r1;refine(eJ rb a3 100000 s O' V3 H6.b Tz hs I).mono ?_;rintro e W4 ⟨k,C,b4,rfl,hk,BT,Qf,GM⟩;have H7:J (mF W4 w p g T D r rb s ⟨(b.toNat:Int),0,0,O',x3,0⟩ C b4):=H6.o.call L Qf GM;have Vw:J (dz s a3 O' (fH ((100000:Nat):Int)) k C b4):=BT;have hz4:=BT.sz;have KV:=BT.le;clear Qf GM BT;obtain rfl:=Vw.o.stays;have y1:=M H7.a.2.2;have E:=M H7.a.2.1;have W:=M H7.b;have r1:=M H7.a.1;go_wp2_with fail;have H8:J (mF _ w p g T D r rb s ⟨(b.toNat:Int),0,0,O',x3,(k:Int)⟩ C O'):=H7.o.set L 5 (G k) rfl;have GR:dz s a bad (hY p g) ⟨(b.toNat:Int),0,0,O',x3,(k:Int)⟩ C O':=by exact Rj
 refine aC (v:=fT ⟨(b.toNat:Int),0,0,O',x3,(k:Int)⟩) (by simp[results109,go_sem,E.1,fT,gL]) rfl ?_;have R:=kx H8.B H8.b (show δ w.1<=δ w.1+1 by omega) I (G b.toNat) (G 0) (G 0) (j' O') (G x3) (G k);exact⟨⟨(b.toNat:Int),0,0,O',x3,(k:Int)⟩,C,O',rfl,⟨GP,dR 0 I I,dR 0 I I,Vb.a,⟨by simp only;omega,by simp only;omega⟩⟩,GR,R.1,R.2⟩
end
def dn(l1 l4 l5 wn rn:A'):Array A':=#[l1,i' C' 0 0,i' C' 0 0,l4,l5,i' C' 0 0,i' C' 0 0,wn,rn]
def MM:(Tryz.prog.info? 36).map (λi=>(i.zero,i.size,i.bytes))=B' (B' (i' C' 0 0),1,24):=au
def NB:(Tryz.prog.info? 71).map (λi=>(i.zero,i.size,i.bytes))=B' (B' (i' C' 0 0),1,24):=au
def Im {p:Prop} (h:p:=by
  first|(have _:=qR;obtain⟨X,S,D,P,c⟩:=cQ KQ;have HI:J (Tryz.prog.info? 73=B' X/\X.zero=B' (l' jn)/\X.size=6/\X.bytes=48):=⟨S,D,P,c⟩)|(obtain⟨X,S,D,P,c⟩:=cQ nQ;have HI:J (Tryz.prog.info? 3=B' X/\X.zero=B' (G 0)/\X.size=1/\X.bytes=8):=⟨S,D,P,c⟩)
  clear S D P c
  first|(have _:=qR;obtain⟨d,S,D,P,c⟩:=cQ NB;have u2:J (Tryz.prog.info? 71=B' d/\d.zero=B' (i' C' 0 0)/\d.size=1/\d.bytes=24):=⟨S,D,P,c⟩)|(obtain⟨d,S,D,P,c⟩:=cQ MM;have u2:J (Tryz.prog.info? 36=B' d/\d.zero=B' (i' C' 0 0)/\d.size=1/\d.bytes=24):=⟨S,D,P,c⟩)
  clear S D P c;obtain⟨L,g⟩:=M Aq;have c:((ζ ls:Nat):Int).tdiv 4=(q:Int):=by rw[hq];simp[Int.tdiv]
  have c:wrap64 (q:Int)=q:=by unfold wrap64;omega
  have c:wrap64 (-7-(q:Int))=-7-q:=by unfold wrap64;omega
  have D:q<=25000:=I;clear hq
  first|(have _:=qR;go_enter func60,ntmps60)|(go_enter func59,ntmps59)
  simp only[dn]at L;go_wp2
  first
    |(
       have _:=qR;have i:bb<δ w.1:=(aY.1 Aq).1;obtain⟨f,c⟩:=Ea (w.alloc (k' #[G (-7-(q:Int)),G 0,G 0,j' P',G 0,G 0] 73));rw[<-c];have j:f.1[δ w.1]?=B' (k' #[G (-7-(q:Int)),G 0,G 0,j' P',G 0,G 0] 73 (0,0)):=by rw[c];exact bV
       have V:bb<δ f.1:=by rw[c];simp;omega
       have Q:B<=δ f.1:=by rw[c];simp;omega
       have s:some w.1.size≠φ (i' la (ζ xs) lc):=by intro e;have:=(hl.lt _ e.symm).2;omega
       have Aq:f.1[bb]?=B' (k' (dn l1 (aO En (ζ ls) qd) l5 wn rn) 32 (0,0)):=by rw[c,bQ i];exact Aq
       have hr2:ρ f B 71 1 (aO En (ζ ls) qd) (ζ ls) ls:=by rw[c];exact hr2.alloc _
       have hl:ρ f B 73 6 (aO la (ζ xs) lc) (ζ xs) (fh xs):=by rw[c];exact hl.alloc _
       have r:J (f.1[δ w.1]?=B' (k' #[G (-7-(q:Int)),G 0,G 0,j' P',G 0,G 0] 73 (0,0))/\some w.1.size≠φ (i' la (ζ xs) lc)/\f=w.alloc (k' #[G (-7-(q:Int)),G 0,G 0,j' P',G 0,G 0] 73)/\δ w.1<δ f.1):=⟨j,s,c,by rw[c];simp⟩
       clear j s c)
    |(have V:bb<δ w.1:=(aY.1 Aq).1)
  have D:J (some bb≠φ (i' la (ζ xs) lc)/\some bb≠φ (i' En (ζ ls) qd)/\(φ (i' En (ζ ls) qd)=C'\/φ (i' En (ζ ls) qd)≠φ (i' la (ζ xs) lc))):=⟨mM hl Aq aj,mM hr2 Aq aj,fj hr2 hl aj⟩;have t:=hid hl;have HX:=hid (A Aq hr2);clear L g hl Aq hr2
  first|(have _:=qR;go_loopw[5] (λi wr=>∃k:Nat,i=G k/\k<=ζ xs/\J (ρ wr B 73 6 (aO la (ζ xs) lc) (ζ xs) (marks k [G (-7-(q:Int)),G 0,G 0,j' P',G 0,G 0]++(fh xs).drop (k*6)))/\J (ξ f wr (φ (i' la (ζ xs) lc)))) (λi _=>ζ xs-(intOf i).toNat))|(go_loopw[5] (λi wr=>∃k:Nat,i=G k/\k<=ζ xs/\J (ρ wr B 3 1 (aO la (ζ xs) lc) (ζ xs) (marks k [G (-7-(q:Int))]++(xs.map G).drop k))/\J (ξ w wr (φ (i' la (ζ xs) lc)))) (λi _=>ζ xs-(intOf i).toNat))
  ·exact⟨0,rfl,bj,(by show World.ownsRow _ _ _ _ _ _ _;rw[yH,ej,AO];exact t.o),⟨rfl,rfl,rfl,aF,λ_ _ _=>rfl⟩⟩
  obtain⟨k,rfl,hk,s,C⟩:=hrel;by_cases L:k<ζ xs
  · have F : (k:Int)<(ζ xs:Int):=I
    obtain⟨g,rfl⟩:∃g,la=B' ⟨g,0,C'⟩:=by
      rcases s.A with⟨_,e⟩|⟨g,E,Y,e,_⟩
      · omega
      cases e;exact⟨g,rfl⟩
    first
      |(
         have _:=qR;obtain⟨j,l⟩:(∀o,wr.frozen? ⟨g,o,C'⟩=P')/\∀o,o<ζ xs*6->∃u,χ wr ⟨g,o,C'⟩=B' u:=by
           rcases s.A with⟨e,_⟩|⟨N,E,Y,e,_,v,T,_,S,_⟩
           · cases e
           · cases e
             refine⟨λo=>by simp[World.frozen?,v],λo c=>⟨Y[o]'(J' (qG 6 T)),by simp[World.cell?,v]⟩⟩
         obtain⟨c,c⟩:=l (k*6) I;obtain⟨R,c⟩:=l (k*6+1) I;obtain⟨i,c⟩:=l (k*6+2) I;obtain⟨c,c⟩:=l (k*6+3) I;obtain⟨c,P⟩:=l (k*6+4) I;obtain⟨u5,c⟩:=l (k*6+5) I;clear l
         obtain⟨m1,m2⟩:=M ((C.o.block _ r.C r.b).trans r.a))
      | (obtain⟨l,j⟩:(∃u,χ wr ⟨g,k,C'⟩=B' u)/\wr.frozen? ⟨g,k,C'⟩=P':=by
           rcases s.A with⟨e,_⟩|⟨N,E,Y,e,_,v,T,_,S,_⟩
           · cases e
           · cases e
             refine⟨⟨Y[k]'(I),by simp[World.cell?,v]⟩,by simp[World.frozen?,v]⟩
         obtain⟨u,c⟩:=l)
    go_wp2
    first|(have _:=qR;have c:=s.o.stored (k*6) (G (-7-(q:Int)));have S:=c.1.stored (k*6+1) (G 0);have i:=S.1.stored (k*6+2) (G 0);have j:=i.1.stored (k*6+3) (j' P');have g:=j.1.stored (k*6+4) (G 0);have o:=g.1.stored (k*6+5) (G 0);have U:=o.1;have l:=((((c.2.trans S.2).trans i.2).trans j.2).trans g.2).trans o.2;rw[Jv k _ _ _ _ _ _ _ (by rw[o?];omega)]at U)|(obtain⟨U,l⟩:=s.o.stored k (G (-7-(q:Int)));rw[Jx k _ _ (by simp;exact L)]at U)
    refine⟨⟨k+1,rfl,I,U,C.o.trans l⟩,by simp only[intOf];omega⟩
  obtain rfl:k=ζ xs:=I;have F:¬((ζ xs:Int)<(ζ xs:Int)):=I;have c:=s.o
  first
    |(
       have _:=qR;rw[qE (by rw[o?];omega),gO]at c;have g:AP f wr B 73 (ζ xs) [G (-7-(q:Int)),G 0,G 0,j' P',G 0,G 0] (aO la (ζ xs) lc) (aO la (ζ xs) lc) [i' la (ζ xs) lc]:=by refine⟨c,?_,aI rfl,Fr.dj C.o (λ_ _ h=>h)⟩;intro v R;simp only[jg]at R;subst R;exact⟨lq.Dj c,aF,aI rfl⟩
       have T:J (AP f wr B 73 (ζ xs) [G (-7-(q:Int)),G 0,G 0,j' P',G 0,G 0] (aO la (ζ xs) lc) (aO la (ζ xs) lc) [i' la (ζ xs) lc]):=g)
    |(
       rw[qE ak,gO]at c;have g:AP w wr B 3 (ζ xs) [G (-7-(q:Int))] (aO la (ζ xs) lc) (aO la (ζ xs) lc) [i' la (ζ xs) lc]:=by refine⟨c,?_,aI rfl,Fr.dj C.o (λ_ _ h=>h)⟩;intro v R;simp only[jg]at R;subst R;exact⟨lq.Dj c,aF,aI rfl⟩
       have T:J (AP w wr B 3 (ζ xs) [G (-7-(q:Int))] (aO la (ζ xs) lc) (aO la (ζ xs) lc) [i' la (ζ xs) lc]):=g)
  clear c s g C t
  first
    |(
       have _:=qR;obtain⟨b1,b2,b3,j,b5,b6⟩:=VS (ζ xs) hn;obtain⟨b7,b8⟩:=L! (ζ ls) hL;obtain⟨m1,m2⟩:=M ((T.o.fr.block _ r.C r.b).trans r.a)
       go_wp2_with (first
         |(at_builtin;have _:=K;refine qD _ rfl _ _ 28 rfl B 71 d (i' C' 0 0) 1 24 underlying28 u2.a u2.b u2.c u2.C rfl aj (aO En (ζ ls) qd) (ζ ls) ls rfl (l.A.alloc _) (O o.1.size 0) 4 4 [i' la (ζ xs) lc,i' U (ζ xs+1) Y,i' S (ζ xs+1+1) P,i' za (ζ xs+1+1+1) zc] rfl rfl (uZ _ _ _ _ _ _) (by intro u C;simp at C;rcases C with rfl|rfl|rfl|rfl<;>rfl) b7 b8 (K.o.base Q _) ?_;intro ID W5 o5 g5 _ n5;obtain⟨Al,pE,rfl⟩:=aV o5;have L:=(jO o (k' #[i' la (ζ xs) lc,i' U (ζ xs+1) Y,i' S (ζ xs+1+1) P,i' za (ζ xs+1+1+1) zc] 71) _).trans g5;have R:=K.o.fr.size;clear E g;obtain⟨E,g⟩:=M ((L.block bb I D.b).trans l.a);simp only[dn]at E;have f:=hid (A L (A o5 n5));clear L o5 n5 g5)
         |(at_builtin;have _:=a;refine cD _ rfl _ _ 71 rfl B 73 X (l' jn) 6 48 underlying71 HI.a HI.b HI.c HI.C rfl aj (i' S (ζ xs+1+1) P) (ζ xs+1+1) (marks (ζ xs+1+1) [G (-7-(q:Int)),G 0,G 0,j' P',G 0,G 0]) rfl (a.o.row.alloc _) (O F.1.size 0) 1 1 [G (-7-(q:Int)),G 0,G 0,j' P',G 0,G 0] rfl rfl (SQ _ _ _ _ _ _ _) (by intro u C;simp at C;rcases C with rfl|rfl|rfl|rfl<;>rfl) b5 b6 (a.o.base Q _) ?_;intro z o i v N s;have c:=a.o.step i v N s;obtain⟨za,zc,rfl⟩:=aV i;have K:=hid c;clear m1 m2;obtain⟨m1,m2⟩:=M ((c.fr.block _ r.C r.b).trans r.a);have l:J (o.1[bb]?=B' (.cells (dn l1 (aO En (ζ ls) qd) l5 wn rn) 32 (0,0))/\ρ o B 71 1 (aO En (ζ ls) qd) (ζ ls) ls):=(by refine⟨(c.fr.block bb V D.a).trans HX.a,c.fr.own HX.A (λk hk e=>?_)⟩;rcases D.B with h|h;(rw[hk]at h;cases h);exact h (hk.trans e));clear i v N s c;obtain⟨E,g⟩:=M l.a;simp only[dn]at E)
         |(at_builtin;have _:=b;refine cD _ rfl _ _ 71 rfl B 73 X (l' jn) 6 48 underlying71 HI.a HI.b HI.c HI.C rfl aj (i' U (ζ xs+1) Y) (ζ xs+1) (marks (ζ xs+1) [G (-7-(q:Int)),G 0,G 0,j' P',G 0,G 0]) rfl (b.o.row.alloc _) (O t.1.size 0) 1 1 [G (-7-(q:Int)),G 0,G 0,j' P',G 0,G 0] rfl rfl (SQ _ _ _ _ _ _ _) (by intro u C;simp at C;rcases C with rfl|rfl|rfl|rfl<;>rfl) b3 j (b.o.base Q _) ?_;intro y F i v N s;have c:=b.o.step i v N s;obtain⟨S,P,rfl⟩:=aV i;have a:=hid c;clear m1 m2;obtain⟨m1,m2⟩:=M ((c.fr.block _ r.C r.b).trans r.a);clear i v N s c)
         |(at_builtin;refine cD _ rfl _ _ 71 rfl B 73 X (l' jn) 6 48 underlying71 HI.a HI.b HI.c HI.C rfl aj (aO la (ζ xs) lc) (ζ xs) (marks (ζ xs) [G (-7-(q:Int)),G 0,G 0,j' P',G 0,G 0]) rfl (T.o.row.alloc _) (O wr.1.size 0) 1 1 [G (-7-(q:Int)),G 0,G 0,j' P',G 0,G 0] rfl rfl (SQ _ _ _ _ _ _ _) (by intro u C;simp at C;rcases C with rfl|rfl|rfl|rfl<;>rfl) b1 b2 (T.o.base Q _) ?_;intro x t i v N s;have c:=T.o.step i v N s;obtain⟨U,Y,rfl⟩:=aV i;have b:=hid c;clear m1 m2;obtain⟨m1,m2⟩:=M ((c.fr.block _ r.C r.b).trans r.a);clear i v N s c)))
    |(
       have LF:80000<=maxLen:=aj;have b1:ζ xs+1<=maxLen:=I;have b2:(ζ xs+1)*8<=140737488355328:=I;have b3:ζ xs+1+1<=maxLen:=I;have j:(ζ xs+1+1)*8<=140737488355328:=I;have b5:ζ xs+1+1+1<=maxLen:=I;have b6:(ζ xs+1+1+1)*8<=140737488355328:=I;have Q:110000<=maxLen:=aj;have b7:ζ ls+4<=maxLen:=I;have b8:(ζ ls+4)*24<=140737488355328:=I;clear LF Q
       go_wp2_with (first
         |(at_builtin;have _:=K;refine qD _ rfl _ _ 25 rfl B 36 d (i' C' 0 0) 1 24 underlying25 u2.a u2.b u2.c u2.C rfl aj (aO En (ζ ls) qd) (ζ ls) ls rfl (l.A.alloc _) (O o.1.size 0) 4 4 [i' la (ζ xs) lc,i' U (ζ xs+1) Y,i' S (ζ xs+1+1) P,i' za (ζ xs+1+1+1) zc] rfl rfl (uZ _ _ _ _ _ _) (by intro u C;simp at C;rcases C with rfl|rfl|rfl|rfl<;>rfl) b7 b8 (K.o.base hB _) ?_;intro ID W5 o5 g5 _ n5;obtain⟨Al,pE,rfl⟩:=aV o5;have L:=(jO o (k' #[i' la (ζ xs) lc,i' U (ζ xs+1) Y,i' S (ζ xs+1+1) P,i' za (ζ xs+1+1+1) zc] 36) _).trans g5;have R:=K.o.fr.size;clear E g;obtain⟨E,g⟩:=M ((L.block bb I D.b).trans l.a);simp only[dn]at E;have f:=hid (A L (A o5 n5));clear L o5 n5 g5)
         |(at_builtin;have _:=a;refine cD _ rfl _ _ 36 rfl B 3 X (G 0) 1 8 underlying36 HI.a HI.b HI.c HI.C rfl aj (.slice S (ζ xs+1+1) P) (ζ xs+1+1) (marks (ζ xs+1+1) [G (-7-(q:Int))]) rfl (a.o.row.alloc _) (O F.1.size 0) 1 1 [G (-7-(q:Int))] rfl rfl (cell_one_new _ _ _) (by intro u C;simp at C;subst C;rfl) b5 b6 (a.o.base hB _) ?_;intro z o i v N s;have c:=a.o.step i v N s;obtain⟨za,zc,rfl⟩:=aV i;have K:=hid c;have l:J (o.1[bb]?=B' (.cells (dn (aO En (ζ ls) qd) l4 l5 wn rn) 32 (0,0))/\ρ o B 36 1 (aO En (ζ ls) qd) (ζ ls) ls):=(by refine⟨(c.fr.block bb V D.a).trans HX.a,c.fr.own HX.A (λk hk e=>?_)⟩;rcases D.B with h|h;(rw[hk]at h;cases h);exact h (hk.trans e));clear i v N s c;obtain⟨E,g⟩:=M l.a;simp only[dn]at E)
         |(at_builtin;have _:=b;refine cD _ rfl _ _ 36 rfl B 3 X (G 0) 1 8 underlying36 HI.a HI.b HI.c HI.C rfl aj (i' U (ζ xs+1) Y) (ζ xs+1) (marks (ζ xs+1) [G (-7-(q:Int))]) rfl (b.o.row.alloc _) (O t.1.size 0) 1 1 [G (-7-(q:Int))] rfl rfl (cell_one_new _ _ _) (by intro u C;simp at C;subst C;rfl) b3 j (b.o.base hB _) ?_;intro y F i v N s;have c:=b.o.step i v N s;obtain⟨S,P,rfl⟩:=aV i;have a:=hid c;clear i v N s c)
         |(at_builtin;refine cD _ rfl _ _ 36 rfl B 3 X (G 0) 1 8 underlying36 HI.a HI.b HI.c HI.C rfl aj (aO la (ζ xs) lc) (ζ xs) (marks (ζ xs) [G (-7-(q:Int))]) rfl (T.o.row.alloc _) (O wr.1.size 0) 1 1 [G (-7-(q:Int))] rfl rfl (cell_one_new _ _ _) (by intro u C;simp at C;subst C;rfl) b1 b2 (T.o.base hB _) ?_;intro x t i v N s;have c:=T.o.step i v N s;obtain⟨U,Y,rfl⟩:=aV i;have b:=hid c;clear i v N s c)))
  go_end0
  refine⟨rfl,Al,pE,i' U (ζ xs+1) Y,i' S (ζ xs+1+1) P,i' za (ζ xs+1+1+1) zc,?_⟩
  first|(have _:=qR;have U:=yk (off:=3) K.o l.a l.A D.b V f.a f.b f.B aj aj aj;exact U.pre r.c)|(exact yk (off:=0) K.o l.a l.A D.b V f.a f.b f.B aj aj aj)):p:=h
def Gx(bb B q:Nat)(la En:x')(lc qd:Nat)(xs:List Int)(l4 l5 wn rn:A')(ls:List A')(w:u')
  (Aq:w.1[bb]?=B' (k' (dn (aO En (ζ ls) qd) l4 l5 wn rn) 32 (0,0)))
  (hr2:ρ w B 36 1 (aO En (ζ ls) qd) (ζ ls) ls)
  (hl:ρ w B 3 1 (aO la (ζ xs) lc) (ζ xs) (xs.map G))
  (hB:B<=δ w.1) (hn:ζ xs<=70000) (hL:ζ ls<=100000) (hq:ζ ls=4*q):
  Cl 59 #[o' (B' (O bb 0)),i' la (ζ xs) lc] w λe W=>e=p' (t' #[])/\∃Al pE x y z,mY w W bb B (dn (i' Al (ζ ls+4) pE) l4 l5 wn rn) 3 36 (aO la (ζ xs) lc) (aO En (ζ ls) qd) (i' Al (ζ ls+4) pE) ls [G (-7-(q:Int))] x y z:=by
 exact Im
def VS(n:Nat)(h:n<=70000):n+1<=maxLen/\(n+1)*48<=140737488355328/\n+1+1<=maxLen/\(n+1+1)*48<=140737488355328/\n+1+1+1<=maxLen/\(n+1+1+1)*48<=140737488355328:=by have:80000<=maxLen:=aj;omega
def L!(n:Nat)(h:n<=100000):n+4<=maxLen/\(n+4)*24<=140737488355328:=by have:110000<=maxLen:=aj;omega
def SQ(W:u')(U N a b C t:A'):∀(j:Nat) (u:A'),[U,N,a,b,C,t][j]?=B' u->χ (W.alloc (k' #[U,N,a,b,C,t] 73)) (((O W.1.size 0):Addr).add j)=B' u:=by intro j u f;rw[eX,bW,AL];simpa using f
def mY.pre{w b W:u'}{a B:Nat}{s:Array A'}{i E:TypeId}{r j g:A'}{c pt:List A'}{x y z:A'}{o:Obj}(h:mY b W a B s i E r j g c pt x y z)(l:b=w.alloc o):mY w W a B s i E r j g c pt x y z:=by
 subst l;have f:δ (w.alloc o).1=δ w.1+1:=ak;refine⟨h.box,h.row,?_,?_,?_⟩
 ·intro v R;obtain⟨a,b⟩:=h.SW v R;refine⟨a,?_⟩;rcases b with b|⟨q,a,o⟩
  ·exact aI b
  exact aK ⟨q,a,I⟩
 ·rcases h.new with b|⟨q,a,o⟩
  ·exact aI b
  exact aK ⟨q,a,I⟩
 exact Fr.trans (Fr.aX bf) h.fr (λ_ _ U=>U)
def QE(bb B q:Nat)(la En:x')(lc qd:Nat)(xs:List Vl)(l1 l5 wn rn:A')(ls:List A')(w:u')
  (Aq:w.1[bb]?=B' (k' (dn l1 (aO En (ζ ls) qd) l5 wn rn) 32 (0,0)))
  (hr2:ρ w B 71 1 (aO En (ζ ls) qd) (ζ ls) ls)
  (hl:ρ w B 73 6 (aO la (ζ xs) lc) (ζ xs) (fh xs))
  (hB:B<=δ w.1) (hn:ζ xs<=70000) (hL:ζ ls<=100000) (hq:ζ ls=4*q):
  Cl 60 #[o' (B' (O bb 0)),i' la (ζ xs) lc] w λe W=>e=p' (t' #[])/\∃Al pE x y z,mY w W bb B (dn l1 (i' Al (ζ ls+4) pE) l5 wn rn) 73 71 (aO la (ζ xs) lc) (aO En (ζ ls) qd) (i' Al (ζ ls+4) pE) ls [G (-7-(q:Int)),G 0,G 0,j' P',G 0,G 0] x y z:=by
 have qR:=True.intro;exact Im
