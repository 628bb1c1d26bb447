import Derived.Test.YtmipbiligijcpaaGreatDoorA13
import Derived.Test.YtmipbiligijcpaaGreatDoorA15
namespace Go.Proofs.YtmipbiligijcpaaGreatDoor
set_option linter.all false
set_option maxRecDepth 99999
set_option maxHeartbeats 0
open Go.RowKit Go.Shelf Go.Proofs Go.Maps Tryz List open List renaming length->ζ,toArray->θ open _root_.Array renaming size->δ open World renaming setCell->κ,ownsRow->ρ,cell?->χ,setCells->ψ open Value renaming slice->g',bool->h',agg->j',string->k',pointer->m',tuple->o' open Obj renaming cells->i' open Ending renaming returned->n' open Option renaming some->z',none->A' open Bool renaming true->N',false->O'
variable {B Q a k n x:Nat}{R:Int}{W w:p'}
section
variable {W':p'}{m N c:Nat}{a:t'}{vt E:List Vl}
structure VN where
  rd:Bool
  rk:Int
  va:t'
  vc:Nat
  g:Nat
  tl:List y'
  vs:List Vl
def vn0:VN:=⟨O',0,A',0,0,[],[]⟩
def si(e:VN):List y':=[g' A' 0 0,g' A' 0 0,h' e.rd,G e.rk,g' e.va (ζ e.vs) e.vc]
def eO(l:List VN):List y':=l.flatMap si
def LM(e:VN):Nd:=⟨[],[],e.rd,e.rk,e.vs⟩
def pD(a b:List VN):eO (a++b)=eO a++eO b:=by simp[eO]
def A3(l:List VN):ζ (eO l)=ζ l*5:=by
 induction l with
 |nil=>rfl
 |cons a l B=>simp only[eO,bW,bg,bU]at B|-;rw[B];simp[si];omega
def x5:∀(l:List VN)(k:Nat)(e:VN)(j:Nat),l[k]?=z' e->j<5->(eO l)[k*5+j]?=(si e)[j]?
 |[],k,e,j,h,_=>by simp at h
 |a::q,0,e,j,h,hj=>by simp at h;subst h;simp only[eO,bW,e6,bH];rw[gI<|by simp[si];omega]
 |a::q,k+1,e,j,h,hj=>by have B:=x5 q k e j (H' h) hj;simp only[eO,bW]at B|-;rw[eB<|by simp[si];omega,<-B];congr 1;simp[si];omega
def VQ(e:VN):∀u∈si e,u.oneCell'=N':=by intro u C;simp only[si,cM,dR,dz]at C;rcases C with rfl|rfl|rfl|rfl|rfl<;>rfl
def M?(n:Nat):(replicate n [g' A' 0 0,g' A' 0 0,h' O',G 0,g' A' 0 0]).flatten=eO (replicate n vn0):=by exact TU
def N?{l:List VN}(e:VN)(h:W.1[m]?=z' (i' (θ<|eO l) 96 (0,0)))(a:k<ζ l):(ψ W m (k*5)<|si e).1[m]?=z' (i' (θ<|eO<|l.set k e) 96 (0,0)):=by
 have V:l=l.take k++l[k]::l.drop (k+1):=ak
 have u:eO l=eO (l.take k)++(si l[k]++eO (l.drop<|k+1)):=by
  conv=>lhs;rw[V]
  rw[pD];rfl
 have b:eO (l.set k e)=eO (l.take k)++(si e++eO (l.drop<|k+1)):=by rw[xG,aD a,pD];rfl
 rw[u]at h;rw[b];have X:ζ (eO<|l.take k)=k*5:=by rw[A3,jk,n? I]
 rw[<-X];exact wQ (L:=si l[k]) (E:=si e) h rfl
def vu{l:List VN}(h:W.1[m]?=z' (i' (θ<|eO l) 96 (0,0)))(a:k<ζ l):W.there m (k*5) 5:=λj f=>by
 obtain⟨E,g⟩:=A h;have X:k*5+j<ζ (eO l):=by rw[A3];omega
 refine⟨?_,g _⟩;rw[E,cL,bj X];rfl
structure wh(W:p')(B:Nat)(e:VN):Prop where
  row:e.vs≠[]->e.va=z' (O e.g 0)/\B<=e.g/\Ld W e.g e.vs e.tl
  non:e.va=A'->e.vc=0
structure z?(nb B N:Nat)(l:List VN)(W:p'):Prop where
  dy:W.1[nb]?=z' (i' (θ<|eO l) 96 (0,0))
  len:ζ l=N
  own:∀e∈l,wh W B e
  EF:∀(i j:Nat)(e f:VN),l[i]?=z' e->l[j]?=z' f->i≠j->e.vs≠[]->f.vs≠[]->e.g≠f.g
def wh.keep{e:VN}(h:wh W B e)(a:∀k o,W.1[k]?=z' o->M0 o/\B<=k->k=e.g->W'.1[k]?=z' o):wh W' B e:=
 ⟨λR=>⟨(h.row R).1,(h.row R).2.1,a _ _ (h.row R).2.2 ⟨⟨_,_,rfl⟩,(h.row R).2.1⟩ rfl⟩,h.non⟩
def z?.keep{l:List VN}(h:z? m B N l W)(c:∀k o,W.1[k]?=z' o->k=m\/M0 o/\B<=k->W'.1[k]?=z' o):z? m B N l W':=
 ⟨c _ _ h.dy<|aP rfl,h.len,λe l=>(h.own e l).keep λk o a b _=>c k o a<|aR b,h.EF⟩
def z?.below{l:List VN}{a:p'}(h:z? m B N l W)(b:Bl W a):z? m B N l a:=h.keep λ_ _ e _=>aG b e
def z?.low{l:List VN}(h:z? m B N l W){i:Nat}{e:VN}(a:l[i]?=z' e)(R:e.vs≠[]):e.g<δ W.1:=blt ((h.own e<|aO a).row R).2.2
def Jd{l:List VN}{e:VN}(a:l[x]?=z' e)(X:ζ vt=ζ e.vs):eO (l.set x {e with vs:=vt})=eO l:=by
 have F:=(aX.1 a).1;have V:l=l.take x++e::l.drop (x+1):=by have:=(aX.1 a).2;rw[<-this];simp
 rw[xG,aD F,pD]
 conv=>rhs;rw[V,pD]
 congr 1;simp[eO,si,X]
def z?.note{l:List VN}{e:VN}{u:p'}(h:z? m B N l W)(r:l[x]?=z' e)(X:ζ vt=ζ e.vs)(y:e.vs≠[]->Ld u e.g vt e.tl)(v:Kx (λk=>k=e.g/\e.vs≠[]) W u):z? m B N (l.set x {e with vs:=vt}) u:=by
 have F:=(aX.1 r).1;have z:vt≠[]↔e.vs≠[]:=by rw[<-I3,<-I3,X]
 have c:=h.own e<|aO r
 have o:∀i f,(l.set x {e with vs:=vt})[i]?=z' f->(i=x/\f={e with vs:=vt})\/(i≠x/\l[i]?=z' f):=λi f Y=>by
  rw[e5]at Y;by_cases S:x=i
  .rw[aD S,aD F]at Y;exact aP ⟨S.symm,(cJ Y).symm⟩
  rw[aA S]at Y;exact aR ⟨λe=>S e.symm,Y⟩
 refine⟨?_,by rw[dh];exact h.len,λf Y=>?_,λi j a b D w t g p=>?_⟩
 .rw[Jd r X];refine v.box h.dy λ⟨V,R⟩=>?_;have:=(c.row R).2.2;rw[<-V]at this;unfold Ld at this;rw[h.dy]at this;exact absurd (e?<|cJ this).2.1 aj
 .obtain⟨i,S⟩:=gF.1 Y;rcases o i f S with⟨_,rfl⟩|⟨C,q⟩
  .exact⟨λR=>⟨(c.row<|z.1 R).1,(c.row<|z.1 R).2.1,y<|z.1 R⟩,c.non⟩
  refine⟨λR=>?_,(h.own f<|aO q).non⟩;have s:=(h.own f<|aO q).row R;exact⟨s.1,s.2.1,v.box s.2.2 λ⟨d,l⟩=>h.EF i x f e q r C R l d⟩
 rcases o i a D with⟨rfl,rfl⟩|⟨C,q⟩<;>rcases o j b w with⟨rfl,rfl⟩|⟨s,d⟩
 .exact absurd rfl t
 .exact h.EF _ _ e b r d t (z.1 g) p
 .exact h.EF _ _ a e q r t g<|z.1 p
 exact h.EF i j a b q d t g p
def N9(h:ρ W B 73 6 (g' a n c) n<|ei E)(K:ζ E=n)(rk:Int)(b:Bool):∃e:VN,e.va=a/\e.vc=c/\e.vs=E/\e.rd=b/\e.rk=rk/\wh W B e:=by
 rcases h.2 with⟨R,D⟩|⟨g,d,Y,R,C,i,N,d,l,j⟩
 .simp at R;subst D;have:=fT.1 K;subst this;exact⟨⟨b,rk,a,c,0,[],[]⟩,rfl,rfl,rfl,rfl,rfl,⟨λh=>absurd rfl h,λ_=>H' R.2⟩⟩
 simp at R;obtain⟨rfl,rfl⟩:=R;by_cases f:E=[]
 .exact⟨⟨b,rk,z'<|O g 0,c,g,[],E⟩,rfl,rfl,rfl,rfl,rfl,⟨λh=>absurd f h,λh=>by cases h⟩⟩
 refine⟨⟨b,rk,z'<|O g 0,c,g,Y.toList.drop<|n*6,E⟩,rfl,rfl,rfl,rfl,rfl,⟨λ_=>⟨rfl,C,?_⟩,λh=>by cases h⟩⟩;unfold Ld;show W.1[g]?=z' (i' (θ<|ei E++Y.toList.drop (n*6)) 73 (0,0));rw[i,<-j,ug]
def z?.first{l:List VN}{rk:Int}{rd:Bool}(h:z? m B N l W)(F:x<N)(u:ρ w W.1.size 73 6 (g' a n c) n<|ei E)(K:ζ E=n)(k:Below W.1.size W w)(v:B<=δ W.1):
  ∃e:VN,si e=[g' A' 0 0,g' A' 0 0,h' rd,G rk,g' a n c]/\LM e=⟨[],[],rd,rk,E⟩/\z? m B N (l.set x e) (ψ w m (x*5)<|si e):=by
 obtain⟨e,rfl,rfl,rfl,rfl,rfl,r⟩:=N9 u K rk rd;have s:=h.below k;have y:x<ζ l:=by rw[h.len];exact F
 have p:∀i f,(l.set x e)[i]?=z' f->(i=x/\f=e)\/(i≠x/\l[i]?=z' f):=λi f Y=>by
  rw[e5]at Y;by_cases S:x=i
  .rw[aD S,aD y]at Y;exact aP ⟨S.symm,(cJ Y).symm⟩
  rw[aA S]at Y;exact aR ⟨λe=>S e.symm,Y⟩
 have z:∀f:VN,wh w B f->wh (ψ w m (x*5)<|si e) B f:=λf Y=>Y.keep λk o u L _=>by
  rw[eA _ _ _ _ _ λP=>?_]
  .exact u
  subst P;rw[s.dy]at u;obtain⟨⟨c,f,R⟩,_⟩:=L;rw[R]at u;exact absurd (e?<|cJ u).2.1 aj
 have C:wh w B e:=⟨λR=>⟨(r.row R).1,bX v (r.row R).2.1,(r.row R).2.2⟩,r.non⟩;refine⟨e,by simp[si,K],by simp[LM],N? e s.dy y,by rw[dh];exact h.len,λf Y=>?_,λi j a b Q D t g q=>?_⟩
 .obtain⟨i,S⟩:=gF.1 Y;rcases p i f S with⟨_,rfl⟩|⟨_,d⟩
  .exact z _ C
  exact z f<|s.own f<|aO d
 rcases p i a Q with⟨rfl,rfl⟩|⟨U,d⟩<;>rcases p j b D with⟨rfl,rfl⟩|⟨T,p⟩
 .exact absurd rfl t
 .have:=h.low p q;have:=(r.row g).2.1;omega
 .have:=h.low d g;have:=(r.row q).2.1;omega
 exact h.EF i j a b d p t g q
def VU{g:Nat}{l:List Vl}{E:List y'}(h:Ld W g l E):mA W (z'<|O g 0) l:=by
 intro j v f;have r:=(aX.1 f).1
 have V:∀k,k<6->χ W (O g<|0+j*6+k)=(zY v)[k]?:=λk a=>by
  rw[(A h).1,cL,bH,gI<|by rw[pE];omega];have u:l=l.take j++v::l.drop (j+1):=by have:=(aX.1 f).2;rw[<-this];simp
  have a:ζ (ei<|l.take j)=j*6:=by rw[pE,jk,n? I]
  rw[u,uq,eB I,a,IZ];show(zY v++ei _)[k]?=_;rw[gI<|by simp[zY];omega]
 exact⟨g,0,rfl,V 0 I,V 1 I,V 2 I,V 3 I,V 4 I,V 5 I⟩
def z?.nodes{l:List VN}(h:z? m B N l W):cw W (z'<|O m 0) (l.map LM):=by
 intro j n f;rw[a!]at f;cases a:l[j]? with
 |none=>rw[a]at f;cases f
 |some e=>
  rw[a]at f;simp at f;subst f;have C:=h.own e<|aO a;have T:∀k,k<5->χ W (O m<|0+j*5+k)=(si e)[k]?:=λk b=>by rw[(A h.dy).1,cL,bH,x5 l j e k a b]
  refine⟨m,0,A',A',e.va,0,0,e.vc,rfl,T 0 I,T 1 I,T 2 I,T 3 I,T 4 I,⟨λj v h=>by simp[LM]at h,λj v h=>by simp[LM]at h,λj v f=>?_,λ_=>rfl,λ_=>rfl,C.non⟩⟩;have z:e.vs≠[]:=by rintro D;simp[LM,D]at f
  obtain⟨a,_,N⟩:=C.row z;rw[a];exact VU N j v f
def z?.fr{B':Nat}{l:List VN}(h:z? m B N l W)(v:B'<=B)(K:B'<=m):jG B' W m (l.map LM):=λ_ a=>
 (h.keep λk o e y=>by rcases y with rfl|y;(· exact(a _ K<|blt e).trans e);exact(a k I<|blt e).trans e).nodes
def jG.set{b o:Nat}{v:List Nd}{E:List y'}(h:jG B w m v)(a:b<B):cw (ψ w b o E) (z'<|O m 0) v:=h _ λ_ C _=>eA _ _ _ _ _ I
end
section
attribute [local go_sem] Oper.semAt_some
structure CkC(xb cb gb nb B N nv:Nat)(pv:y')(s:Nat×List Nd)(W:p'):Prop where
  c:W.1[cb]?=z' (i' #[G s.1] 3 (0,0))
  x:W.1[xb]?=z' (i' (mG nb N) 46 (0,0))
  p:W.1[gb]?=z' (i' #[pv,G nv] 86 (0,0))
  l:∃l,z? nb B N l W/\l.map LM=s.2
abbrev VG(xb cb gb nb B:Nat)(k:Nat)(o:Obj):Prop:=k=cb\/k=xb\/k=nb\/k=gb\/M0 o/\B<=k
def CkC.keep{u a c m B N Q:Nat}{d:y'}{s:Nat×List Nd}{W W':p'}(h:CkC u a c m B N Q d s W)(b:∀k o,W.1[k]?=z' o->VG u a c m B k o->W'.1[k]?=z' o):CkC u a c m B N Q d s W':=
 ⟨b _ _ h.c<|aP rfl,b _ _ h.x<|aR<|aP rfl,b _ _ h.p<|aR<|aR<|aR<|aP rfl,by obtain⟨l,C,a⟩:=h.l;exact⟨l,C.keep λk o e y=>b k o e (by rcases y with y|y;(· exact aR<|aR<|aP y);exact aR<|aR<|aR<|aR y),a⟩⟩
def qm:Nd:=⟨[],[],O',0,[]⟩
def O8(nv:Nat)(s:Nat×List Nd)(x:Nat)(old next:PE):Nat×List Nd:=
 (s.1+1,s.2.set x<|if old.r then⟨[],[],(s.2.getD x qm).aF,(s.2.getD x qm).rank,Ij old next (s.1:Int) (s.2.getD x qm).aM⟩ else⟨[],[],N',(s.1:Int),Qq next nv⟩)
def gn3{F:p'->Prop}{w:p'}{a b c:Obj}(h:∀V,J (Bl w V/\V.1[δ w.1]?=z' a/\V.1[δ w.1+1]?=z' b/\V.1[δ w.1+1+1]?=z' c/\δ V.1=δ w.1+1+1+1)->F V):F (((w.alloc a).alloc b).alloc c):=
 h _ ⟨aq (u! w a b) bA,aG bA (bE w a b).1,aG bA (bE w a b).2,by have:=cF ((w.alloc a).alloc b) c;simpa using this,ak⟩
def fcs{p:Prop}(h:p:=by
 obtain⟨S,Q⟩:=A Iy.b;go_upto_region 5 with fail
 have hz:=HZ.o;have d:=blt H0.a.x;have d:=blt H0.a.p;have d:J ((κ U (O cb 0)<|G ((s.1:Int)+1)).1[cb]?=z' (i' #[G ((s.1+1:Nat):Int)] 3 (0,0))/\(∀k,k≠cb->(κ U (O cb 0)<|G ((s.1:Int)+1)).1[k]?=U.1[k]?)/\Ky (VG xb cb gb nb B) w (κ U (O cb 0)<|G ((s.1:Int)+1))):=⟨by rw[H Iy.b];rfl,λk hk=>aJ hk,HK2.o.set (λ_ _=>aP rfl) _ _⟩;generalize κ U (O cb 0) (G ((s.1:Int)+1))=i at d|-;have P:=(d.b _ I).trans Iy.e;have y:=(d.b _ I).trans<|Iy.F.trans HV.d;have hr:=bu P;have P:=cK (n:=17) y rfl;clear S Q;go_wp2_with (first|(refine wpList_load_mid rfl KC.bL (.tmp 8) rfl (δ w.1+1) 0 rfl (KC.aT next) _ hr KC.gU rfl M ?_)|(refine wpList_store_mid rfl KC.bL (.tmp 9) (.tmp 32) rfl (δ w.1+1+1) 0 (θ<|KC.aT next) rfl rfl P M (KC.bO _) ?_));have P:=cX (cs:=KC.qh) y (vs:=KC.aT next) rfl;have hL:=run_loadVar_mid (P:=Tryz.prog) (ψ i (δ w.1+1+1) 0<|KC.aT next) (δ w.1+1+1) 0 KC.bL (KC.aT next) _ (bu P) KC.gU rfl M;have ho:∀k,k≠cb->k≠δ w.1+1+1->(ψ i (δ w.1+1+1) 0<|KC.aT next).1[k]?=U.1[k]?:=λk a b=>(eA _ _ _ _ _ b).trans<|d.b k a;refine aE (v:=j'<|θ<|KC.aT next) (by simp[results,results140,hL,Act.put,asAddr]) rfl ⟨rfl,⟨(eA _ _ _ _ _ I).trans d.a,(ho _ (λh=>hN1 h.symm) I).trans Iy.a,(ho _ (λh=>IM h.symm) I).trans Iy.c,l2,HL2.o.keep λk o h1 h2=>?_,BC.o⟩,s4 d.B (λo h=>absurd (blt h) I) _ _⟩;rcases h2 with rfl|⟨⟨c1,Q,h2⟩,_⟩
 .exact(ho _ (λh=>GA h.symm) I).trans h1
 refine(ho k (λh=>?_) λh=>?_).trans h1
 .rw[h,Iy.b,h2]at h1;exact absurd (e?<|cJ h1).2.1 aj
 rw[h,Iy.F,HV.d,h2]at h1
 exact absurd (e?<|cJ h1).2.1 aj):p:=h
def KJ(xb cb gb nb B N f:Nat)(pv:y')(s:Nat×List Nd)(x:Nat)(old next:PE)(w:p')(m:CkC xb cb gb nb B N f pv s w)(F:x<N)(g:N<=60)(R:f<=8)(t:ζ (s.2.getD x qm).aM<=8)(g:s.1<100000)(g:B<=δ w.1):
  Cl 140 #[G x,j'<|θ<|KC.aT old,j'<|θ<|KC.aT next,m'<|z'<|O xb 0,m'<|z'<|O cb 0,m'<|z'<|O gb 0] w λe g=>e=n' (j'<|θ<|KC.aT next)/\CkC xb cb gb nb B N f pv (O8 f s x old next) g/\Ky (VG xb cb gb nb B) w g:=by
 obtain⟨l,hL,C⟩:=m.l;obtain⟨e,L⟩:=La (l:=l) (i:=x) (by rw[hL.len];exact F);have D:s.2[x]?=z' (LM e):=by rw[<-C,a!,L];rfl
 have u:s.2.getD x qm=LM e:=by rw[bN,D];rfl
 rw[u]at t;have H0:=hid<|Aa m<|Aa hL<|Aa C<|Aa L u;have GA:cb≠nb:=λh=>by have h1:=m.c;have h2:=hL.dy;rw[<-h,h1]at h2;exact absurd (e?<|cJ h2).2.1 aj
 have hN1:cb≠xb:=λh=>by have h1:=m.c;have h2:=m.x;rw[<-h,h1]at h2;exact absurd (e?<|cJ h2).2.1 aj
 have IM:cb≠gb:=λh=>by have h1:=m.c;have h2:=m.p;rw[<-h,h1]at h2;exact absurd (e?<|cJ h2).2.1 aj
 have ID:nb≠xb:=λh=>by have h1:=hL.dy;have h2:=m.x;rw[<-h,h1]at h2;exact absurd (e?<|cJ h2).2.1 aj
 have Iv:nb≠gb:=λh=>by have h1:=hL.dy;have h2:=m.p;rw[<-h,h1]at h2;exact absurd (e?<|cJ h2).2.1 aj
 have z:=blt m.c;have r:=blt hL.dy;have r:(x:Int)<N:=I;have r:(s.1:Int)<100000:=I;have X:=hid λW=>As next f W R
 have z:J (∀W,z? nb B N l W->Cl 141 #[g' e.va (ζ e.vs) e.vc,j'<|θ<|KC.aT old,j'<|θ<|KC.aT next,G s.1] W λr g=>(∃v,r=n' v)/\(e.vs≠[]->Ld g e.g (Ij old next (s.1:Int) e.vs) e.tl)/\Kx (λk=>k=e.g/\e.vs≠[]) W g):=λW hW=>Dn e.va e.vc e.g e.tl e.vs old next (s.1:Int) W t ⟨I,I⟩ (λR=>⟨((hW.own e<|aO L).row R).1,((hW.own e<|aO L).row R).2.2⟩)
 clear m hL C D t u;go_enter func140,ntmps140;go_upto_region 1 with fail
 refine gn3 (F:=Code.wp _ _ _ _) λV HV=>?_;have HZ:=hid HV.D;have T:χ V (O w.1.size 0)=z' (h' old.r):=by rw[(A HV.b).1];rfl
 have m:J (∀W',Kx (λk=>k=e.g/\e.vs≠[]) V W'->b' W' xb (mG nb N) 46/\b' W' cb #[G s.1] 3/\b' W' gb #[pv,G f] 86/\b' W' w.1.size (θ<|KC.aT old) 228/\b' W' (δ w.1+1) (θ<|KC.aT next) 228/\b' W' nb (θ<|eO l) 96/\W'.1[δ w.1+1+1]?=V.1[δ w.1+1+1]?):=λW' h=>by
  have r:∀{k:Nat} {L:Array y'} {t:Nat},V.1[k]?=z' (cU L t)->t≠73->¬(k=e.g/\e.vs≠[]):=fun {k L t} h1 h2 ⟨h3,h4⟩=>by have h5:=aG HV.a ((H0.b.own e<|aO H0.d).row h4).2.2;rw[<-h3,h1]at h5;exact h2 (e?<|cJ h5).2.1
  have g:=fun {k:Nat} {L:Array y'} {t:Nat} (h1:V.1[k]?=z' (cU L t)) (h2:t≠73)=>h.box h1<|r h1 h2;exact⟨g (aG HV.a H0.a.x) aj,g (aG HV.a H0.a.c) aj,g (aG HV.a H0.a.p) aj,g HV.b aj,g HV.c aj,g (aG HV.a H0.b.dy) aj,(g HV.d aj).trans HV.d.symm⟩
 have t:J (∀W',Kx (λk=>k=e.g/\e.vs≠[]) V W'->χ W' (O nb<|x*5+4)=z' (bk e.va (ζ e.vs) e.vc)):=λW' h=>by rw[(A (m.o W' h).2.2.2.2.2.1).1,cL,x5 l x e 4 H0.d I];rfl
 cases ho:old.r with
 |true=>
  rw[ho]at T;go_upto_region 2 with fail
  refine st (λW'=>Kx (λk=>k=e.g/\e.vs≠[]) V W') 9 (hS:=vf.drewN 1) (h:=λaC=>?_);refine tt 0 (cG nb N) (y:=λW' aW=>by have r:=(A (m.o _ aW).1).1;clear aC aW;go_simp) (h:=?_);refine tt 1 (G x) (h:=?_);refine tt 2 (A0 nb x) (h:=?_);refine tt 3 (m'<|z'<|O nb<|x*5+4) (h:=?_);refine tt 4 (bk e.va (ζ e.vs) e.vc) (y:=λW' aW=>by have r:=t.o _ aW;clear aC aW;go_simp) (h:=?_);refine tu 5 (j'<|θ<|KC.aT old) (y:=yieldsIf_load_mid M _ _ rfl _ _ rfl _ _ (λW' aW=>bu (m.o _ aW).2.2.2.1) KC.gU rfl M) (h:=?_);refine tu 6 (j'<|θ<|KC.aT next) (y:=yieldsIf_load_mid M _ _ rfl _ _ rfl _ _ (λW' aW=>bu (m.o _ aW).2.2.2.2.1) KC.gU rfl M) (h:=?_);refine tt 7 (G s.1) (y:=λW' aW=>by have r:=(A (m.o _ aW).2.1).1;clear aC aW;go_simp) (h:=?_);refine rt 8 (h:=λK hK=>?_);go_simp;refine bP (z.o _ ((H0.b.below HV.a).keep λk o e _=>e)) ?_;rintro _ U ⟨⟨v,rfl⟩,hr,hk⟩;have g:=hid (Aa hr<|show Kx (λk=>k=e.g/\e.vs≠[]) V U from aC.trans hk);clear hr hk aC;refine hK.out _ _ (λ_=>g.A) ?_;clear hK K;refine pt ?_;refine dt (h:=?_);have Iy:=hid<|m.o U g.A;have HL2:=hid ((H0.b.below HV.a).note (vt:=Ij old next (s.1:Int) e.vs) H0.d (by simp[Ij]) g.a g.A);have BC:J ((l.set x {e with vs:=Ij old next (s.1:Int) e.vs}).map LM=(O8 f s x old next).2):=by rw[uh,H0.c];simp only[O8,ho,dQ,H0.D];rfl
  have HK2:J (Ky (VG xb cb gb nb B) w U):=(Ky.of HV.a).trans ⟨g.A.os,g.A.tape,g.A.output,g.A.size,λk o h1 L=>g.A.box h1 λ⟨h2,h3⟩=>L (by
   have h5:=(H0.b.own e<|aO H0.d).row h3;have L:=aG HV.a h5.2.2;rw[<-h2,h1]at L
   exact aR<|aR<|aR<|aR ⟨⟨_,_,cJ L⟩,by rw[h2];exact h5.2.1⟩)⟩
  generalize l.set x {e with vs:=Ij old next (s.1:Int) e.vs}=l2 at HL2 BC;clear m t z X T;exact fcs
 |false=>
  rw[ho]at T;have D:=hid λW' (h:Bl V W')=>Aa (aG h<|aG HV.a H0.a.x)<|Aa (aG h<|aG HV.a H0.a.c)<|Aa (aG h<|aG HV.a H0.a.p)<|aG h HV.c;clear m t z;go_upto_region 3 with fail
  refine st (λW'=>Bl V W') 9 (hS:=aQ.drew) (h:=λaC=>?_);refine tt 0 (cG nb N) (y:=λW' aW=>by have r:=(A (D.o _ aW).1).1;clear aC aW;go_simp) (h:=?_);refine tt 1 (G x) (h:=?_);refine tt 2 (G s.1) (y:=λW' aW=>by have r:=(A (D.o _ aW).2.1).1;clear aC aW;go_simp) (h:=?_);refine tu 3 (j'<|θ<|KC.aT next) (y:=yieldsIf_load_mid M _ _ rfl _ _ rfl _ _ (λW' aW=>bu (D.o _ aW).2.2.2) KC.gU rfl M) (h:=?_);refine tt 4 (xR gb) (h:=?_);refine tt 5 (G f) (y:=λW' aW=>by have r:=(A (D.o _ aW).2.2.1).1;clear aC aW;go_simp) (h:=?_);refine rt 6 (h:=λK hK=>?_);go_simp;refine bP (X.o _) ?_;clear T;rintro _ E ⟨r,T,rfl,hr,hk⟩;have g:=hid (Aa hr<|show Bl V E from aq aC hk);clear hr hk aC;refine hK.out _ _ (λ_=>g.A) ?_;clear hK K;refine pt ?_;have aC:=g.A;refine tt 7 (j' #[g' A' 0 0,g' A' 0 0,h' N',G s.1,g' r f T]) (h:=?_);refine tt 8 (A0 nb x) (h:=?_);clear aC;obtain⟨m,Y,Vz,C⟩:=(H0.b.below HV.a).first (x:=x) (rk:=(s.1:Int)) (rd:=N') F g.a (w! _ _) g.A<|I' HV.a.size;refine rt 9 (h:=λK hK=>?_);rw[aD M];refine wp_store_mid 96 (.tmp 29) (.tmp 28) rfl nb (x*5) #[g' A' 0 0,g' A' 0 0,h' N',G s.1,g' r f T] rfl rfl (vu ((H0.b.below HV.a).below g.A).dy<|by rw[H0.b.len];exact F) M (by rw[show #[g' A' 0 0,g' A' 0 0,h' N',G s.1,g' r f T]=θ (si m) by rw[Y]];exact all_oneCell_toArray<|VQ _) ?_;refine hK.out _ _ (λh=>absurd h aj) ?_;clear hK K;refine pt ?_;refine dt (h:=?_);have u:∀k,k≠nb->(ψ E nb (x*5)<|si m).1[k]?=E.1[k]?:=λk hk=>eA _ _ _ _ _ hk;have Iy:J (b' (ψ E nb (x*5)<|si m) xb (mG nb N) 46/\b' (ψ E nb (x*5)<|si m) cb #[G s.1] 3/\b' (ψ E nb (x*5)<|si m) gb #[pv,G f] 86/\True/\b' (ψ E nb (x*5)<|si m) (δ w.1+1) (θ<|KC.aT next) 228/\True/\(ψ E nb (x*5)<|si m).1[δ w.1+1+1]?=V.1[δ w.1+1+1]?):=by have h1:=D.o _ g.A;exact⟨(u _ ID.symm).trans h1.1,(u _ GA).trans h1.2.1,(u _ Iv.symm).trans h1.2.2.1,trivial,(u _ I).trans h1.2.2.2,trivial,(u _ I).trans ((aG g.A HV.d).trans HV.d.symm)⟩
  have HK2:J (Ky (VG xb cb gb nb B) w<|ψ E nb (x*5)<|si m):=s4 (Ky.of<|aq HV.a g.A) (λ_ _=>aR<|aR<|aP rfl) _ _;have HL2:=hid C;have BC:J ((l.set x m).map LM=(O8 f s x old next).2):=by rw[uh,H0.c];simp only[O8,ho,Vz];rfl
  show Exit.then _ _ _ _<|ψ E nb (x*5) [g' A' 0 0,g' A' 0 0,h' N',G s.1,g' r f T];rw[<-Y];generalize ψ E nb (x*5) (si m)=U at *;generalize l.set x m=l2 at HL2 BC;clear X D Y Vz C u;exact fcs
end
section
variable {b:p'}{P:Pm}
abbrev KtC(W W':p')(ts:List Nat):Prop:=∀(k:Nat)(cs:Array y')(t:Nat),W.1[k]?=z' (cU cs t)->t∈ts->W'.1[k]?=z' (cU cs t)
def aaT{m T p:Nat}{c:List RR}{R:List Nat}(h:Sys W B a m T p c)(e:KtC W b R)(C:T∈R)(f:p∈R):Sys b B a m T p c:=by
 refine⟨e _ _ _ h.dy C,h.low,h.len,λr a=>?_,h.wG⟩;have D:=h.row r a;refine⟨D.1,?_⟩;rcases D.2 with a|⟨g,b,Y,C,N,d,l⟩
 .exact aP a
 exact aR ⟨g,b,Y,C,N,e _ _ _ d f,l⟩
abbrev KC.OS:List Nat:=[375,378,381,152,4,376]
abbrev KB.OS:List Nat:=[337,340,386,152,4,338]
def Rh{p:Prop}(h:p:=by
 obtain⟨b,h⟩:=h;refine⟨b,aaT h.sys c aj aj,h.len,h.st,λk r a=>(h.es k r a).mono λ_ _ _ Q=>?_⟩;obtain⟨b,y,g,wl,wc,V,B,m,s,f,u,a,C,e,N,d,l⟩:=Q
 exact⟨b,y,g,wl,wc,V,B,m,s,f,u,a,c _ _ _ C aj,c _ _ _ e aj,c _ _ _ N aj,c _ _ _ d aj,l⟩):p:=h
def KC.rA.ty(h:KC.rA W B a P)(c:KtC W b KC.OS):KC.rA b B a P:=by exact Rh
def KB.rA.ty(h:KB.rA W B a P)(c:KtC W b KB.OS):KB.rA b B a P:=by exact Rh
end
section
variable {a:Int}{v:VV}{x:Nd}{z:PE}{E:List VV}
def Yt(x:Int):Prop:=-9223372036854775808<=x/\x<=9223372036854775807
def bd0:Yt 0:=⟨aj,aj⟩
structure VlC(R rk:Int)(v:Vl):Prop where
  hi:v.hi=0
  lo:Yt v.lo
  first:Yt v.first
  form:(v.aH=1/\v.bY=O'/\v.first=0/\v.rank=0)\/(v.aH=2/\v.bY=N'/\rk<v.rank/\v.rank<R/\v.lo=0)\/(v.aH=2/\v.bY=O'/\v.lo=0/\v.first=0/\v.rank=0)
structure Ix(R:Int)(nv:Nat)(x:Nd):Prop where
  fr:x.facts=[]/\x.bf=[]
  out:x.aF=O'->x.rank=0/\x.aM=[]
  wA:x.aF=N'->ζ x.aM=nv/\0<=x.rank/\x.rank<R
  each:∀v∈x.aM,VlC R x.rank v
def VlC.up{rk:Int}{v:Vl}(h:VlC R rk v)(b:R<=a):VlC a rk v:=
 ⟨h.hi,h.lo,h.first,by rcases h.form with k|k|k;(· exact aP k);(· exact aR<|aP ⟨k.1,k.2.1,k.2.2.1,I,k.2.2.2.2⟩);exact aR<|aR k⟩
def Ix.up(h:Ix R Q x)(b:R<=a):Ix a Q x:=⟨h.fr,h.out,λk=>⟨(h.wA k).1,(h.wA k).2.1,I' ((h.wA k).2.2)⟩,λv R=>(h.each v R).up b⟩
def MH(R:Int)(Q:Nat):Ix R Q qm:=⟨⟨rfl,rfl⟩,λ_=>⟨rfl,rfl⟩,λh=>by simp[qm]at h,λv R=>by simp[qm]at R⟩
def tC{v:List Nd}(h:∀x∈v,Ix R Q x):AI ⟨5,1,v⟩ Q:=
 ⟨rfl,λx F a=>⟨((h x F).wA a).1,((h x F).wA a).2.1,λv R=>by rcases((h x F).each v R).form with k|k|k;(· exact aP ⟨k.1,k.2.1⟩);(· exact aR<|aP ⟨k.1,k.2.1,k.2.2.1,k.2.2.2.2⟩);exact aR<|aR ⟨k.1,k.2.1,k.2.2.1⟩⟩,λx F v R=>⟨((h x F).each v R).lo,((h x F).each v R).first⟩,λx F v R=>((h x F).each v R).hi,λx F=>⟨(h x F).fr.1,λa=>((h x F).out a).2⟩⟩
def mH(v:Vl):cS (-1) v=if v.aH=3 then⟨O',v.lo,v.hi⟩ else if v.aH=1 then VV.one v.lo else VV.dT:=by unfold cS;simp
def WV(h:Ix R Q x)(D:0<=R):gC x R=gC x (-1):=by
 unfold gC;cases a:x.aF with
 |false=>simp
 |true=>
  have C:=h.wA a;rw[aA G',aA ak];congr 1;refine eQ λv a=>?_;rw[mH];unfold cS;rcases(h.each v a).form with k|k|k
  .simp[k.1]
  .have:¬R<=v.rank:=I;simp[k.1,this]
  simp[k.1,k.2.1]
def WO(h:okV 5 v):(v.any=N'/\v=VV.dT)\/(v.any=O'/\v=VV.one v.lo):=by
 have:=h.form;rw[aD rfl]at this;rcases this with e|e
 .exact aP ⟨by rw[e];rfl,e⟩
 exact aR ⟨by rw[e];rfl,e⟩
def T6(h:okV 5 v)(r:Int):cS r (T7 v)=v:=by
 rcases WO h with⟨C,a⟩|⟨C,a⟩
 .rw[a];rfl
 rw[T7,C];show cS r ⟨1,v.lo,0,O',0,0⟩=v;rw[a];rfl
def acL(h:okV 5 v)(R rk:Int):VlC R rk (T7 v):=by
 have a:=h.bd.lo;unfold T7;split
 .exact⟨rfl,bd0,bd0,aR<|aR ⟨rfl,rfl,rfl,rfl,rfl⟩⟩
 exact⟨rfl,a,bd0,aP ⟨rfl,rfl,rfl,rfl⟩⟩
def XS(h:PR Q z<|z' E)(a:dw 5 Q<|z' E)(r:Int):(Qq z Q).map (cS r)=E:=by
 refine et λi=>?_;rw[a!];rcases j8 i Q with S|S
 .rw[T8 z S,h.2.2,bN];have X:i<ζ E:=by rw[h.2.1];exact S
  rw[bj X];exact cZ z'<|T6 ((a E rfl).2 _<|eG X) r
 rw[cq<|by rw[w!];exact S,cq<|by rw[h.2.1];exact S];rfl
structure ag1(R:Int)(nv:Nat)(vs:List VV)(y:Nd):Prop where
  ok:Ix (R+1) nv y
  last:∀r,r=-1\/r=R+1->gC y r=z' vs
  hist:∀r,0<=r->r<=R->gC y r=A'
  rch:y.aF=N'/\y.rank=R
  bY:∀v∈y.aM,v.bY=O'
def acM(h:PR Q z<|z' E)(b:dw 5 Q<|z' E)(D:0<=R):ag1 R Q E ⟨[],[],N',R,Qq z Q⟩:=by
 refine⟨⟨⟨rfl,rfl⟩,λh=>(by cases h),λ_=>⟨w! _ _,D,G'⟩,λv a=>?_⟩,λr d=>?_,λr C c=>?_,⟨rfl,rfl⟩,λv a=>?_⟩
 .obtain⟨i,S,rfl⟩:=bG.1 a;have S:=cx.1 S;rw[h.2.2,bN,bj<|by rw[h.2.1];exact S];exact acL ((b E rfl).2 _<|eG _) _ _
 .unfold gC;rw[aA G'];exact cZ z'<|XS h b r
 .unfold gC;exact aD<|aR ⟨C,c⟩
 obtain⟨i,S,rfl⟩:=bG.1 a;unfold T7;split<;>rfl
structure NtN(R:Int)(nv:Nat)(vs:List VV)(x y:Nd):Prop where
  ok:Ix (R+1) nv y
  last:gC y (-1)=z' vs
  hist:∀r,0<=r->r<=R->gC y r=gC x r
  rch:y.aF=N'/\y.rank=x.rank
  len:ζ y.aM=ζ x.aM
  bY:∀(j:Nat)(v:Vl),y.aM[j]?=z' v->v.bY=N'->x.aM[j]?=z' v\/(v.rank=R/\(vs.getD j VV.z).any=N')
def afn{c next:PE}{l:List VV}(F:Ix R Q x)(D:0<=R)(o:x.aF=N')(b:gC x (-1)=z' l)(i:PR Q c<|z' l)(K:PR Q next (z' E))(q:dw 5 Q<|z' l)(D:dw 5 Q<|z' E)(z:iP 5 (z' l)<|z' E):NtN R Q E x ⟨[],[],x.aF,x.rank,Ij c next R x.aM⟩:=by
 have a:l=x.aM.map (cS (-1)):=by unfold gC at b;rw[aA<|by simp[o]]at b;exact(cJ b).symm
 have X:∀(j:Nat)(v:Vl),x.aM[j]?=z' v->∃u w,l[j]?=z' u/\E[j]?=z' w/\u=cS (-1) v/\VlC R x.rank v/\VlC (R+1) x.rank (J8 c next R j v)/\cS (-1) (J8 c next R j v)=w/\(∀r,0<=r->r<=R->cS r (J8 c next R j v)=cS r v)/\(J8 c next R j v=v\/((J8 c next R j v).rank=R/\w.any=N')):=by
  intro j v f;have d:=F.each v<|aO f;have C:l[j]?=z' (cS (-1) v):=by rw[a,a!,f];rfl
  have a:=(aX.1 C).1;have b:j<ζ E:=by rw[K.2.1,<-i.2.1];exact a
  have g:E[j]?=z' E[j]:=bj b;have p:c.at j=cS (-1) v:=by rw[i.2.2,bN,C];rfl
  have a:next.at j=E[j]:=by rw[K.2.2,bN,g];rfl
  have s:=(D E rfl).2 _<|eG b;have i:=(q l rfl).2 _<|aO C;have b:=z j _ _ C g;refine⟨_,_,C,g,rfl,d,?_⟩;unfold J8;rw[p,a];by_cases T:(E[j].any&&!(cS (-1) v).any)=N';rotate_left
  .rw[aA T];refine⟨d.up I,?_,λ_ _ _=>rfl,aP rfl⟩;rcases le5 b with e|e
   .exact e
   rw[e]at T|-;simp[VV.dT]at T;rcases WO i with k|k
   .exact k.2
   rw[T]at k;cases k.1
  rw[aD T];rw[aY,jo]at T;have m:E[j]=VV.dT:=by rcases WO s with k|k;(· exact k.2);rw[T.1]at k;cases k.1
  have y:v.aH=1:=by
   rcases d.form with k|k|k
   .exact k.1
   .rw[mH,aA I,aA I]at T;cases T.2
   rw[mH,aA I,aA I]at T;cases T.2
  have s:cS (-1) v=VV.one v.lo:=by rw[mH,aA I,aD y]
  rw[s];have W:=(F.wA o).2;refine⟨⟨rfl,bd0,d.lo,aR<|aP ⟨rfl,rfl,W.2,G',rfl⟩⟩,m.symm,λr C g=>?_,aR ⟨rfl,T.1⟩⟩;unfold cS;rw[aA ak,aA ak,aD<|by simp[C,g],aA I,aD y];rfl
 have B:∀j,(Ij c next R x.aM)[j]?=(x.aM[j]?).map (J8 c next R j):=λj=>by simp[Ij]
 have L:ζ (Ij c next R x.aM)=ζ x.aM:=by simp[Ij]
 refine⟨⟨⟨rfl,rfl⟩,λh=>(by rw[show _=x.aF from rfl,o]at h;cases h),λ_=>⟨L.trans (F.wA o).1,(F.wA o).2.1,by have:=(F.wA o).2.2;show x.rank<R+1;omega⟩,λv d=>?_⟩,?_,λr C g=>?_,⟨o,rfl⟩,L,λj v f l=>?_⟩
 .obtain⟨j,f⟩:=gF.1 d;rw[B]at f;cases d:x.aM[j]? with
  |none=>rw[d]at f;cases f
  |some t=>rw[d]at f;obtain⟨_,_,_,_,_,_,k,_⟩:=X j t d;cases f;exact k
 .unfold gC;rw[aA<|by simp[o]];congr 1;refine et λj=>?_;rw[a!,B];cases d:x.aM[j]? with
  |none=>
   have:ζ E<=j:=by rw[K.2.1,<-(F.wA o).1];exact qQ.1 d
   rw[cq this];rfl
  |some t=>obtain⟨_,w,_,g,_,_,_,k,_⟩:=X j t d;rw[g];exact cZ z' k
 .unfold gC;show(if x.aF=O'\/(0<=r/\r<=x.rank) then A' else z' ((Ij c next R x.aM).map<|cS r))=_;split
  .rfl
  congr 1;refine et λj=>?_;rw[a!,B,a!];cases d:x.aM[j]? with
  |none=>rfl
  |some t=>obtain⟨_,_,_,_,_,_,_,_,k,_⟩:=X j t d;exact cZ z'<|k r C g
 have f:(Ij c next R x.aM)[j]?=z' v:=f;rw[B]at f;cases d:x.aM[j]? with
 |none=>rw[d]at f;cases f
 |some t=>
  rw[d]at f;obtain⟨_,w,_,g,_,_,_,_,_,k⟩:=X j t d;have e:J8 c next R j t=v:=by simpa using f
  rw[e]at k;rcases k with k|k
  .exact aP (by rw[k])
  exact aR ⟨k.1,by rw[bN,g];exact k.2⟩
end
section
variable {P:Pm}{v:List Nd}{E:List VV}
def yb{α:Type}{f:α->Nat}(d:α):∀(l:List α)(i:Nat)(s:α),i<ζ l->f s<f (l.getD i d)->((l.set i s).map f).sum<(l.map f).sum
 |[],i,s,h,_=>by simp at h
 |a::l,0,s,_,h=>by simp at h|-;exact h
 |a::l,i+1,s,h,h2=>by have:=yb d l i s (H' h)<|H' h2;rw[cO,fA,fA,kS,kS];omega
def hP(nv:Nat)(e:PE):Nat:=if e.r then((range nv).filter λi=>!(e.at i).any).length else 9
def muC(nv:Nat)(hs:List PE):Nat:=(hs.map<|hP nv).sum
def W!(Q N:Nat):muC Q (replicate N PE.zero)=N*9:=by
 rw[muC,qR];induction N with
 |zero=>rfl
 |succ n B=>rw[gM,kS,B];show 9+_=_;omega
def Oi{p:Int}{a b:Nat->EV}(h:∀q∈P.ins n,a q.1=b q.1):P.say p n a=P.say p n b:=by
 unfold Pm.say;generalize P.E? n=e;revert e;generalize P.ins n=l at h;induction l with
 |nil=>intro e;rfl
 |cons q l B=>intro e;rw[ij,ij,h q ak];exact B (λq a=>h q<|by simp[a]) _
abbrev gT(ns:List Nd):Ct:=⟨5,1,ns⟩
structure mB(P:Pm)(s:Nat×List Nd)(hs:List PE)(wt:BS):Prop where
  len:ζ s.2=ζ P.nd
  Ik:∀x∈s.2,Ix (s.1:Int) P.nv x
  pr:∀n,PR P.nv (bQ hs n)<|eg (gT s.2) (-1) n
  up:∀n,iP 5 (eg (gT s.2) (-1) n)<|P.say 5 n<|eg (gT s.2) (-1)
  lst:wy P (gT s.2)=N'
  snd:∀i,i<ζ P.nd->bt wt i=O'->iP 5 (P.say 5 i<|eg (gT s.2) (-1)) (eg (gT s.2) (-1) i)
  fJ:s.1+muC P.nv hs<=ζ P.nd*9
def Gg{a:List Nd}:rE P (gT a) n=N'↔(((gT a).at n).aF=N'->t? 5 (gC ((gT a).at n) (((gT a).at n).rank+1)) (P.say 5 n<|eg (gT a) ((gT a).at n).rank)=N'/\∀(j:Nat)(v:Vl),((gT a).at n).aM[j]?=z' v->v.bY=N'->zB (P.say 5 n<|eg (gT a) v.rank) j=N'):=by
 unfold rE;cases b:((gT a).at n).aF with
 |false=>simp
 |true=>
  simp only[uf,ko,aY,bV,cx,forall_const,true_implies];refine and_congr Iff.rfl ⟨λh j v f l=>?_,λh j f=>?_⟩
  .have:=h j (aX.1 f).1;rw[f]at this;simpa[l]using this
  rw[bj f];cases l:(((gT a).at n).aM[j]).bY with
  |false=>simp[l]
  |true=>simpa[l]using h j _ (bj f) l
def acU{x:Nat}{y:Nd}(F:x<ζ v):(gT<|v.set x y).at n=if x=n then y else(gT v).at n:=mS v x n y EA F
def Eg(h:∀x∈v,Ix R Q x)(n:Nat):Ix R Q ((gT v).at n):=by
 rcases zM (gT v) n with C|C
 .exact h _ C
 rw[C];exact MH R Q
def UF(h:∀x∈v,Ix R Q x)(D:0<=R):eg (gT v) R=eg (gT v) (-1):=funext λn=>WV (Eg h n) D
def MG{x:Nd}:gC x (-1)=A'↔x.aF=O':=by unfold gC;cases x.aF<;>simp
structure StC(R:Int)(nv:Nat)(vs:List VV)(x y:Nd):Prop where
  ok:Ix (R+1) nv y
  last:gC y (-1)=z' vs
  hist:∀r,0<=r->r<=R->gC y r=gC x r
  rch:y.aF=N'
  rise:(x.aF=O'/\y.rank=R/\gC y (R+1)=z' vs)\/(x.aF=N'/\y.rank=x.rank)
  bY:∀(j:Nat)(v:Vl),y.aM[j]?=z' v->v.bY=N'->x.aM[j]?=z' v\/(v.rank=R/\(vs.getD j VV.z).any=N')
section
variable {P:Pm}{s:Nat×List Nd}{hs:List PE}{wt:BS}{x:Nat}
structure OpC(P:Pm)(s:Nat×List Nd)(hs:List PE)(x:Nat)(vs:List VV):Prop where
  say:P.say 5 x (eg (gT s.2) (-1))=z' vs
  ok:dw 5 P.nv (z' vs)
  pr:PR P.nv (KC.jO (bQ hs x)<|KC.cz P (bQ hs) x) (z' vs)
  nb:t? 5 (z' vs) (eg (gT s.2) (-1) x)=O'
  le:iP 5 (eg (gT s.2) (-1) x) (z' vs)
  eok:∀r n,dw 5 P.nv<|eg (gT s.2) r n
def mB.open(a:mB P s hs wt)(g:cN P)(T:nD P)(f:px P)(e:ζ P.nx=ζ P.nd)(d:KC.gO (KC.cz P (bQ hs) x) (bQ hs x)=O'):∃E,OpC P s hs x E:=by
 have b:∀r n,dw 5 P.nv (eg (gT s.2) r n):=λr n=>fH (tC a.Ik) r n;have c:=KC.kB g T f e (λm=>⟨a.pr m,b (-1) m⟩) x;have Q:=λi=>(KC.dK c.1 c.2 i).1;have p:=λi=>(KC.dK (a.pr x) (b (-1) x) i).1;rw[Sl g.nv c.1 (a.pr x) Q p]at d;have f:=Sj g.nv (a.pr x) c.1 p Q;have e:qD 5 (eg (gT s.2) (-1) x) (P.say 5 x<|eg (gT s.2) (-1))=P.say 5 x (eg (gT s.2) (-1)):=BL (oZ (b _ _) c.2) c.2 (DB (b _ _) c.2 (a.up x)<|iO 5 _)<|Tl (b _ _) c.2;rw[e]at f;cases R:P.say 5 x (eg (gT s.2) (-1))with
 |none=>rw[R]at d;simp[t?]at d
 |some E=>have C:=a.up x;rw[R]at d f c C;exact⟨E,R,c.2,f,d,C,b⟩
def mB.node(i:mB P s hs wt)(h:OpC P s hs x E):∃y,(O8 P.nv s x (bQ hs x)<|KC.jO (bQ hs x)<|KC.cz P (bQ hs) x).2=s.2.set x y/\StC (s.1:Int) P.nv E ((gT s.2).at x) y:=by
 have U:=i.pr x;have F:=Eg i.Ik x;cases l:eg (gT s.2) (-1) x with
 |none=>
  rw[l]at U;have a:(bQ hs x).r=O':=by rw[show bQ hs x=PE.zero from U];rfl
  have C:=MG.1 l;have f:=acM (R:=(s.1:Int)) h.pr h.ok I;refine⟨_,by simp only[O8,a];rfl,⟨f.ok,f.last _<|aP rfl,λr b a=>(f.hist r b a).trans ?_,f.rch.1,aP ⟨C,f.rch.2,f.last _<|aR rfl⟩,λj v a R=>?_⟩⟩
  .rw[gC,aD<|aP C]
  rw[f.bY v<|aO a]at R;cases R
 |some c=>
  rw[l]at U;have C:((gT s.2).at x).aF=N':=by
   cases V:((gT s.2).at x).aF with
   |true=>rfl
   |false=>rw[show eg (gT s.2) (-1) x=A' from MG.2 V]at l;cases l
  have X:=h.le;have a:=h.eok (-1) x;rw[l]at X a;have f:=afn F I C l U h.pr a h.ok X;refine⟨_,by simp only[O8,U.1,dQ];rfl,⟨f.ok,f.last,f.hist,f.rch.1,aR ⟨C,f.rch.2⟩,f.bY⟩⟩
def OpC.less(h:OpC P s hs x E)(i:mB P s hs wt)(F:x<ζ hs)(l:P.nv<=8):muC P.nv (hs.set x<|KC.jO (bQ hs x)<|KC.cz P (bQ hs) x)<muC P.nv hs:=by
 refine yb PE.zero hs x _ F ?_;show hP P.nv _<hP P.nv (bQ hs x);have U:=i.pr x;cases l:eg (gT s.2) (-1) x with
 |none=>rw[l]at U;unfold hP;rw[aD h.pr.1,show bQ hs x=PE.zero from U];have:=IY (λi=>!((KC.jO PE.zero<|KC.cz P (bQ hs) x).at i).any)<|range P.nv;rw[qP]at this;show _<9;omega
 |some c=>
  have X:=h.le;have a:=h.eok (-1) x;have m:=h.nb;rw[l]at U X a m;unfold hP;rw[aD h.pr.1,aD U.1]
  have W:∀i,i<P.nv->∃u v,c[i]?=z' u/\E[i]?=z' v/\(bQ hs x).at i=u/\(KC.jO (bQ hs x)<|KC.cz P (bQ hs) x).at i=v/\okV 5 u/\okV 5 v/\ie 5 u v:=λi S=>by
   have C:i<ζ c:=by rw[U.2.1];exact S
   have l:i<ζ E:=by rw[h.pr.2.1];exact S
   have V:=bj C;have d:=bj l;exact⟨c[i],E[i],V,d,by rw[U.2.2,bN,V];rfl,by rw[h.pr.2.2,bN,d];rfl,(a c rfl).2 _<|eG C,(h.ok E rfl).2 _<|eG l,X i _ _ V d⟩
  refine xe _ (λi S K=>?_) ?_
  .obtain⟨u,v,_,_,V,d,_,_,r⟩:=W i<|cx.1 S;rw[d]at K;rw[V];rcases le5 r with e|e
   .rw[e];exact K
   rw[e]at K;cases K
  refine Classical.byContradiction λz=>?_
  have:t? 5 (z' E) (z' c)=N':=(ja h.ok a).2 λj a b p g=>by
   have f:j<P.nv:=by rw[<-h.pr.2.1];exact(aX.1 p).1
   obtain⟨u,v,o,c,V,d,q,a,r⟩:=W j f;rw[c]at p;rw[o]at g;cases p;cases g;rcases le5 r with e|e
   .rw[e];exact iN 5 _
   cases t:b.any with
   |true=>rcases WO q with k|k;(· rw[k.2,e];exact iN 5 _);rw[t]at k;cases k.1
   |false=>exact absurd ⟨j,cx.2 f,by rw[d,e];rfl,by rw[V,t];rfl⟩ z
  rw[this]at m;cases m
end
end
section
variable {P:Pm}{s:Nat×List Nd}{y:List PE}{c:BS}
abbrev s0C(N:Nat):Nat×List Nd:=(0,replicate N qm)
def UE(N n:Nat):(gT<|replicate N qm).at n=qm:=by rw[Ct.at,bN,j!];split<;>rfl
def Nr(N:Nat)(r:Int)(n:Nat):eg (gT<|replicate N qm) r n=A':=by rw[eg,UE];unfold gC;exact aD<|aP rfl
def XH(N n:Nat):bQ (replicate N PE.zero) n=PE.zero:=by rw[bQ,bN,j!];split<;>rfl
def Ku(d:ζ P.nd<=60):mB P (s0C<|ζ P.nd) (replicate (ζ P.nd) PE.zero) (jK<|ζ P.nd):=by
 refine⟨ak,λx F=>by rw[fB F];exact MH _ _,λn=>by rw[Nr,XH];rfl,λn=>by rw[Nr];trivial,?_,λi S a=>?_,by rw[W!];simp⟩
 .unfold wy;simp only[bV,cx];intro n _;rw[Gg,UE];intro h;cases h
 rw[vV _ _ I I]at a;simp at a;omega
def mB.skip(a:mB P s y c)(f:cN P)(T:nD P)(j:px P)(g:ζ P.nx=ζ P.nd)(F:x<ζ P.nd)(h:KC.gO (KC.cz P (bQ y) x) (bQ y x)=N'):mB P s y (fI c<|de [x]):=by
 have d:=f.most;refine⟨a.len,a.Ik,a.pr,a.up,a.lst,λi S B=>?_,a.fJ⟩;by_cases e:i=x
 .subst e;have b:∀r n,dw 5 P.nv (eg (gT s.2) r n):=λr n=>fH (tC a.Ik) r n;have c:=KC.kB f T j g (λm=>⟨a.pr m,b (-1) m⟩) i;rw[Sl f.nv c.1 (a.pr i) (λj=>(KC.dK c.1 c.2 j).1) λj=>(KC.dK (a.pr i) (b (-1) i) j).1]at h;exact(ja c.2<|b _ _).1 h
 refine a.snd i S ?_;rw[lU (jF I) I,rP I I]at B;simpa[e]using B
def mB.step{m:List PE}(p:mB P s m c)(z:cN P)(T:nD P)(ho:px P)(Kz:ζ P.nx=ζ P.nd)(F:x<ζ P.nd)(X:ζ m=ζ P.nd)(V:KC.gO (KC.cz P (bQ m) x) (bQ m x)=O'):
  mB P (O8 P.nv s x (bQ m x)<|KC.jO (bQ m x)<|KC.cz P (bQ m) x) (m.set x<|KC.jO (bQ m x)<|KC.cz P (bQ m) x) (fU (fI c<|de [x]) ((Ql P).getD x (0,0))):=by
 have hm:=z.most;obtain⟨E,h⟩:=p.open z T ho Kz V;obtain⟨y,hy,u⟩:=p.node h;have c:=h.less p (by rw[X];exact F) z.nv;have hxs:x<ζ s.2:=by rw[p.len];exact F
 have C:(O8 P.nv s x (bQ m x)<|KC.jO (bQ m x)<|KC.cz P (bQ m) x).1=s.1+1:=rfl;have Hi:=h.pr;have hxl:x<ζ m:=by rw[X];exact F
 generalize O8 P.nv s x (bQ m x) (KC.jO (bQ m x)<|KC.cz P (bQ m) x)=L at *;generalize KC.jO (bQ m x) (KC.cz P (bQ m) x)=z at *;have W:∀n,(gT L.2).at n=if x=n then y else(gT s.2).at n:=λn=>by rw[hy];exact acU hxs
 have o:∀r n,eg (gT L.2) r n=if x=n then gC y r else eg (gT s.2) r n:=λr n=>by rw[eg,W];split<;>rfl
 have U:∀q∈L.2,Ix (L.1:Int) P.nv q:=λq Y=>by
  rw[C];rw[hy]at Y;rcases gJ Y with Y|rfl
  .exact(p.Ik q Y).up I
  have:=u.ok;simpa using this
 have XN:∀r n,dw 5 P.nv (eg (gT L.2) r n):=λr n=>fH (tC U) r n
 have g:∀r:Int,0<=r->r<=s.1->eg (gT L.2) r=eg (gT s.2) r:=λr a b=>funext λn=>by
  rw[o];split
  .rename_i e;subst e;exact u.hist r a b
  rfl
 have D:eg (gT s.2) (s.1:Int)=eg (gT s.2) (-1):=UF p.Ik I
 have hle:∀n,iP 5 (eg (gT s.2) (-1) n) (eg (gT L.2) (-1) n):=λn=>by
  rw[o];split
  .rename_i e;subst e;rw[u.last];exact h.le
  exact iO 5 _
 have N:∀n,iP 5 (P.say 5 n<|eg (gT s.2) (-1)) (P.say 5 n<|eg (gT L.2) (-1)):=λn=>yj (aP rfl) T n (h.eok (-1)) (XN (-1)) hle;refine⟨by rw[hy,dh];exact p.len,U,λn=>?_,λn=>?_,?_,λi hi B=>?_,by rw[C];have:=p.fJ;omega⟩
 .rw[o,pZ hxl];split
  .rw[u.last];exact Hi
  exact p.pr n
 .rw[o];split
  .rename_i e;subst e;rw[u.last,<-h.say];exact N x
  exact fh (gi (aP rfl) T n<|h.eok (-1)) (h.eok _ _) (p.up n)<|N n
 .unfold wy;simp only[bV,cx];intro n b;have t:rE P (gT s.2) n=N':=by have:=p.lst;unfold wy at this;simp only[bV,cx]at this;exact this n b
  rw[Gg]at t|-;have V:=Eg p.Ik;rw[W];by_cases e:x=n;rotate_left
  .rw[aA e];intro hr;obtain⟨o1,o2⟩:=t hr;have hi:=(V n).wA hr;refine⟨?_,λj v f l=>?_⟩
   .rw[g _ hi.2.1 I];exact o1
   have R:=((V n).each v<|aO f).form;rw[l]at R;have Hd:((gT s.2).at n).rank<v.rank/\v.rank<(s.1:Int):=by rcases R with q|q|q;(· cases q.2.1);(· exact⟨q.2.2.1,q.2.2.2.1⟩);cases q.2.1
   rw[g _ I I];exact o2 j v f l
  subst e;rw[aD rfl];intro _;rcases u.rise with⟨r1,b,c⟩|⟨r1,b⟩
  .refine⟨?_,λj v f l=>?_⟩
   .rw[b,c,g _ I fY,D,h.say];exact(ja h.ok h.ok).2<|iO 5 _
   rcases u.bY j v f l with k|⟨k1,k2⟩
   .rw[((V x).out r1).2]at k;simp at k
   rw[k1,g _ I fY,D,h.say];exact k2
  obtain⟨o1,o2⟩:=t r1;have hi:=(V x).wA r1;refine⟨?_,λj v f l=>?_⟩
  .rw[b,u.hist _ I I,g _ hi.2.1 I];exact o1
  rcases u.bY j v f l with k|⟨k1,k2⟩
  .have R:=((V x).each v<|aO k).form;rw[l]at R;have Hd:((gT s.2).at x).rank<v.rank/\v.rank<(s.1:Int):=by rcases R with q|q|q;(· cases q.2.1);(· exact⟨q.2.2.1,q.2.2.2.1⟩);cases q.2.1
   rw[g _ I I];exact o2 j v k l
  rw[k1,g _ I fY,D,h.say];exact k2
 rw[iy,lX,lU (jF I) I,rP I I,JN hm Kz x i I]at B;have b:P.say 5 i (eg (gT L.2) (-1))=P.say 5 i (eg (gT s.2) (-1)):=by refine Oi λq Y=>?_;rw[o,aA];intro e;have c:=B.2;rw[show decide (i<ζ P.nd)=N' by simpa using hi,eN]at c;exact nG c<|bG.2 ⟨q,Y,e.symm⟩
 rw[b,o];by_cases e:x=i
 .subst e;rw[aD rfl,u.last,h.say];exact iO 5 _
 rw[aA e];refine p.snd i hi ?_;have C:=B.1;simpa[show ¬i=x from λu=>e u.symm]using C
def snC(d:cN P)(T:nD P)(e:px P)(a:ζ P.nx=ζ P.nd):KC.SnE P (O8 P.nv) (λ_ _ _ next=>next) (muC P.nv) (mB P) (s0C<|ζ P.nd):=by
 refine⟨Ku d.most,λs y c x i u F b=>i.skip d T e a (u.low x F) b,λs y c x i u F b=>i.step d T e a (u.low x F) u.len b,λs y c x i u F b=>?_,λs y c x i u F b=>?_⟩
 .obtain⟨E,h⟩:=i.open d T e a b;exact⟨_,h.pr,h.ok⟩
 obtain⟨E,h⟩:=i.open d T e a b;exact h.less i (by rw[u.len];exact u.low x F) d.nv
def mB.room(i:mB P s y c)(b:cN P)(x:Nat):ζ (s.2.getD x qm).aM<=8/\s.1<100000:=by
 have C:=Eg i.Ik x;have d:=b.most;have T:=i.fJ;refine⟨?_,I⟩;show((gT s.2).at x).aM.length<=8;cases a:((gT s.2).at x).aF with
 |true=>rw[(C.wA a).1];exact b.nv
 |false=>rw[(C.out a).2];simp
end
section
attribute [local go_sem] Oper.semAt_some
def Gk{W:p'}{m B N:Nat}(h:W.1[m]?=z' (i' (θ<|eO<|replicate N vn0) 96 (0,0))):z? m B N (replicate N vn0) W:=
 ⟨h,ak,λe l=>by rw[fB l];exact⟨λh=>absurd rfl h,λ_=>rfl⟩,λi j e f l _ _ R _=>by rw[fB<|aO l]at R;exact absurd rfl R⟩
def tA(g B pb:Nat)(D:List NC)(P:Pm)(pa:t')(pl pc:Nat)(w:p')(hP:PM w g B D P)(o:cN P)(T:nD P)(ho:px P)(hx:ζ P.nx=ζ P.nd)(b:lV w)(q:jC w pb<|g' pa pl pc)(j:pb<δ w.1):
  Cl 88 #[je g (ζ P.nd) B P.nv,g' pa pl pc] w λe Y=>∃j s y,e=n' (cG j<|ζ P.nd)/\jG w.1.size Y j s.2/\mB P s y (0,0)/\Bl w Y:=by
 have hm:=o.most;have GB:=o.nv;have C3:=hid λW hW=>AK g B P.nv D P W (hP.below hW) o;have j:=dW<|b 0 aj;have H0:=hid<|Aa o<|Aa T<|Aa ho<|Aa hx<|Aa b q;have ZO:=hid<|snC o T ho hx;have Z0:J (∀s y wt x,mB P s y wt->ζ (s.2.getD x qm).aM<=8/\s.1<100000):=λs y wt x h=>h.room o x;obtain⟨N,p⟩:=Ea<|ζ P.nd;obtain⟨nv,c⟩:∃nv,nv=P.nv:=⟨_,rfl⟩;have HN:=hid p;have CE:=hid c;rw[<-p,<-c]at C3|-;rw[<-p]at hm;rw[<-c]at GB;obtain⟨u,l,k,m,f⟩:=cI tg;have j:J (_/\_/\_/\_):=⟨l,k,m,f⟩;clear hP o T ho hx b q p c l k m f;simp only[je,KC.fZ]at C3|-;go_enter func88,ntmps88;go_upto_region 1 with(fail)
 refine qo (F:=Code.wp _ _ _ _) λR U=>?_;obtain⟨x1,x2⟩:=A U.b;go_upto_region 2 with(at_make;refine gL _ rfl (.tmp 9) (.tmp 9) 46 rfl R.1.size 96 u _ 5 underlying46 j.a j.b j.c .i64 .i64 N N N rfl rfl rfl rfl (by rw[j.C];omega) (by unfold maxLen;omega) ak ?_;intro p o F;have b:=hid<|Aa o F;clear o F)
 have r:J (p.1[δ R.1]?=z' (i' (θ<|eO<|replicate N vn0) 96 (0,0))/\Bl R p):=by have C:=b.a;rw[dF _ 5 (by simp[Value.cells]) N]at C;refine⟨?_,aQ.grown b.A aK (λq e=>by cases e)⟩;rw[(eJ C).1,<-M?];rfl
 clear b x1 x2;refine qo (F:=Code.wp _ _ _ _) λF j=>?_;go_upto_region 3 with(fail)
 refine qo (F:=Code.wp _ _ _ _) λW3 D=>?_
 have E:=D.a;have q:=aq j.a E;have CC:=aq r.A q;have A9:=aq U.a CC;have u:=U.B;have u:=blt r.a;have u:=j.B;have F:=D.B;have F:=D.b;rw[u]at F|-;have u:J (CkC p.1.size (δ p.1+1) w.1.size R.1.size w.1.size N nv (gX g N B) (s0C N) W3):=⟨F,aG E j.b,aG CC U.b,_,Gk<|aG q r.a,by rw[qR];rfl⟩;have VI:J (∀T rb db,Bl W3 T->KC.rA T W3.1.size rb P->b' T db #[.iface 328<|j' #[]] 381->Cl 138 #[KC.fZ rb db N,g' pa pl pc,.func (.func 140) #[] #[m'<|cV p.1.size,m'<|z'<|O (δ p.1+1) 0,m'<|cV w.1.size]] T λe Y=>∃s y v,e=n' v/\CkC p.1.size (δ p.1+1) w.1.size R.1.size w.1.size N nv (gX g N B) s Y/\Ky (VG p.1.size (δ p.1+1) w.1.size R.1.size w.1.size) T Y/\mB P s y (0,0)):=by
  intro T rb db j AS DO;have X:=u.o.keep (W':=T) λk o e _=>aG j e;have q:=j.size;have It:=H0.e.below<|aq A9 j;have Im:=H0.E.keep (w':=T) λo u h=>aB h<|aq A9 j;have hbl:∀{k:Nat} {o:Obj},VG p.1.size (δ p.1+1) w.1.size R.1.size w.1.size k o->δ w.1<=k:=fun {k o} h=>by rcases h with h|h|h|h|h<;>omega
  obtain⟨l,hL,_⟩:=X.l
  have DD:∀{k:Nat} {L:Array y'} {t:Nat},T.1[k]?=z' (cU L t)->t∈KC.OS->¬VG p.1.size (δ p.1+1) w.1.size R.1.size w.1.size k (cU L t):=fun {k L t} C b h3=>by
   rcases h3 with h|h|h|h|⟨⟨c,f,h⟩,_⟩
   .subst h;rw[X.c]at C;rw[<-(e?<|cJ C).2.1]at b;revert b;decide
   .subst h;rw[X.x]at C;rw[<-(e?<|cJ C).2.1]at b;revert b;decide
   .subst h;rw[hL.dy]at C;rw[<-(e?<|cJ C).2.1]at b;revert b;decide
   .subst h;rw[X.p]at C;rw[<-(e?<|cJ C).2.1]at b;revert b;decide
   rw[(e? h).2.1]at b;revert b;decide
  have hr:=KC.uk (VG p.1.size (δ p.1+1) w.1.size R.1.size w.1.size) (CkC p.1.size (δ p.1+1) w.1.size R.1.size w.1.size N nv<|gX g N B) rb db W3.1.size 140 pb P #[m'<|cV p.1.size,m'<|z'<|O (δ p.1+1) 0,m'<|cV w.1.size] pa pl pc T (O8 P.nv) (λ_ _ _ next=>next) (muC P.nv) (mB P) (s0C<|ζ P.nd) (λW hW=>AS.ty λk L t C b=>hW.box C<|DD C b) DO (DD DO aj) H0.a H0.b H0.c H0.d ZO.o
   ⟨λk o h=>by rcases h with h|h|h|h|h;(· exact aP I);(· exact aP I);(· exact aP I);(· exact aP I);exact aR h.1,?_,λs W j h z=>h.keep z,λo h=>I'<|hbl h,λo h=>I'<|hbl h,I,λD w=>Tryz.call140 D w,?_⟩ ⟨A',rfl,lq⟩ It Im (by rw[<-HN.o];exact X)
  .rw[<-HN.o]at hr;refine hr.mono ?_;rintro e Y ⟨s,y,rfl,_,b,h3,j,_⟩;exact⟨s,y,_,rfl,b,h3,j⟩
  .rintro s W k o m h z;obtain⟨l,hL,_⟩:=m.l;rcases h with h|h|h|h|⟨⟨c,f,rfl⟩,_⟩
   .subst h;rw[m.c]at z;cases z;rfl
   .subst h;rw[m.x]at z;cases z;rfl
   .subst h;rw[hL.dy]at z;cases z;rfl
   .subst h;rw[m.p]at z;cases z;rfl
   rfl
  intro s y wt W x b u hx _ m _ z;obtain⟨r1,q⟩:=Z0.o s y wt x b;have:=KJ p.1.size (δ p.1+1) w.1.size R.1.size w.1.size N nv (gX g N B) s x (bQ y x) (KC.jO (bQ y x)<|KC.cz P (bQ y) x) W m (by rw[HN.o];exact u.low x hx) hm GB r1 q<|I' z.size;rw[<-CE.o];exact this
 have b:=aG CC U.b;obtain⟨x1,x2⟩:=A b;simp only[KC.fZ]at VI;go_upto_region 4 with(first|(go_at_call 139;refine(C3.o _ A9).mono ?_;rintro e T ⟨rb,db,rfl,c,g,b⟩;have B:=hid<|Aa c<|Aa g b;clear c g b x1 x2)|(go_at_call 138;refine(VI.o _ _ _ B.B B.a B.b).mono ?_;rintro e C ⟨s,y,v,rfl,c,g,b⟩;have f:=hid<|Aa c<|Aa g b;clear c g b))
 obtain⟨x1,x2⟩:=A f.a.x;obtain⟨l,hL,b⟩:=f.a.l;go_wp2_with fail;refine aE (v:=g' (cV R.1.size) N N) (by simp[results88,go_sem];omega) rfl ⟨δ R.1,s,y,rfl,by rw[<-b];exact hL.fr aK<|I' U.a.size,f.B,?_⟩;have z:=(Ky.of<|aq A9 B.B).trans f.b
 exact⟨z.os,z.tape,z.output,z.size,λk tY=>by
  cases ho:w.1[k]? with
  |none=>have:=Array.getElem?_eq_none_iff.1 ho;omega
  |some o=>exact z.keep k o ho (λh=>by rcases h with h|h|h|h|h<;>omega)⟩
end
section
variable {n t:Int}{R:List Int}{p:Prop}
attribute [local go_sem] Oper.semAt_some
def KG(n:Int)(ts:List Int):Int:=ts.foldl (λlo t=>if t<=n then max lo t else lo) (-9223372036854775808)
def P3(n:Int)(ts:List Int):Int:=ts.foldl (λhi t=>if n<=t then min hi t else hi) 9223372036854775807
def Ue(h:R[k]?=z' t):KG n (R.take<|k+1)=if t<=n then max (KG n<|R.take k) t else KG n (R.take k):=by have X:=(aX.1 h).1;rw[ep X,(aX.1 h).2];rw[KG,xh];rfl
def US(h:R[k]?=z' t):P3 n (R.take<|k+1)=if n<=t then min (P3 n<|R.take k) t else P3 n (R.take k):=by have X:=(aX.1 h).1;rw[ep X,(aX.1 h).2];rw[P3,xh];rfl
def ZF(h:p:=by
 rw[aD C]at d;go_wp2_with fail;go_roundw
 case rel=>exact⟨j+1,L,e',by rw[d.o],c.o⟩
 exact F'):p:=h
def ZE(h:p:=by
 rw[aA C]at d;go_wp2_with fail;go_roundw
 case rel=>exact⟨j+1,L,e',by rw[d.o],c.o⟩
 exact F'):p:=h
def PJ(n:Int)(b:t')(e:Nat)(R:List Int)(w:p')(h:bK w b R)(S:∀t∈R,ga t)(X:ζ R<=maxLen)(K:ga n):
  Cl 217 #[G n,g' b (ζ R) e] w (Rb w<|G<|KG n R):=by
 have s:=hid<|Aa h S;obtain⟨m,d⟩:=Ea<|ζ R;rw[<-d]at X|-;have r:=hid d;unfold maxLen at X;clear h S d;go_enter func217,ntmps217;go_wp2_with fail;go_loopw[5,10] (λb y wr=>∃(j:Nat),j<=m/\y=G j/\b=G (KG n<|R.take j)/\J (Bl w wr)) (λ_ y _=>m-(intOf y).toNat)
 case atStart=>exact⟨0,bm,rfl,rfl,aQ⟩
 obtain⟨j,f,rfl,rfl,c⟩:=hrel;by_cases L:j<m;rotate_left
 .have a:¬(j:Int)<m:=I;obtain rfl:j=m:=I;go_wp2_with fail;refine aE (v:=G<|KG n R) ?_ rfl ⟨rfl,c.o⟩;rw[c!<|by rw[r.o];exact aK];simp[results217,go_sem]
 have a:(j:Int)<m:=I;obtain⟨t,U⟩:=La (l:=R) (i:=j) (by rw[<-r.o];exact L);obtain⟨b,o,rfl,T⟩:=s.a j t U;have a:=aB T c.o;have d:=hid<|Ue (n:=n) U;clear T U;generalize KG n (R.take j)=a at *;by_cases C:t<=n
 .exact ZF
 exact ZE
def Hn(n:Int)(b:t')(e:Nat)(R:List Int)(w:p')(h:bK w b R)(S:∀t∈R,ga t)(X:ζ R<=maxLen)(K:ga n):
  Cl 218 #[G n,g' b (ζ R) e] w (Rb w<|G<|P3 n R):=by
 have s:=hid<|Aa h S;obtain⟨m,d⟩:=Ea<|ζ R;rw[<-d]at X|-;have r:=hid d;unfold maxLen at X;clear h S d;go_enter func218,ntmps218;go_wp2_with fail;go_loopw[5,10] (λb y wr=>∃(j:Nat),j<=m/\y=G j/\b=G (P3 n<|R.take j)/\J (Bl w wr)) (λ_ y _=>m-(intOf y).toNat)
 case atStart=>exact⟨0,bm,rfl,rfl,aQ⟩
 obtain⟨j,f,rfl,rfl,c⟩:=hrel;by_cases L:j<m;rotate_left
 .have a:¬(j:Int)<m:=I;obtain rfl:j=m:=I;go_wp2_with fail;refine aE (v:=G<|P3 n R) ?_ rfl ⟨rfl,c.o⟩;rw[c!<|by rw[r.o];exact aK];simp[results218,go_sem]
 have a:(j:Int)<m:=I;obtain⟨t,U⟩:=La (l:=R) (i:=j) (by rw[<-r.o];exact L);obtain⟨b,o,rfl,T⟩:=s.a j t U;have a:=aB T c.o;have d:=hid<|US (n:=n) U;clear T U;generalize P3 n (R.take j)=a at *;by_cases C:n<=t
 .exact ZF
 exact ZE
def hdF(l:List Nat)(x:Nat):Bool:=l.any λf=>decide (x<=f)
def X2{W:p'}{P:Pm}{a:List (Nat×y')}{D:List (Nat×Nat)}(h:KB.Ih W P a D):a.map (·.1)=D.map (·.1):=by
 refine et λj=>?_;rw[a!,a!];cases C:a[j]? with
 |none=>rw[cq<|by rw[<-h.1];exact qQ.1 C];rfl
 |some e=>
  have f:=(aX.1 C).1;cases a:D[j]? with
  |none=>have:=qQ.1 a;rw[h.1]at f;omega
  |some x=>simp only[gK,dU];exact(h.2 j e x C a).1
def Kq(b k B x:Nat)(P:Pm)(w:p')(d:KB.rA w B b P)(i:cN P)(F:ζ P.nx=ζ P.nd)(c:x<ζ P.nd):
  Cl 146 #[KB.fZ b k<|ζ P.nd,G x] w (Rb w<|h'<|hdF ((P.ins x).map (·.1)) x):=by
 have p:=i.most;obtain⟨b,d⟩:=d;obtain⟨r,g⟩:=La (l:=b) (i:=x) (by rw[d.len];exact c);have a:=d.es x r g;have f:=lf x P.nx 0 λl X=>(i.nx l X).1;have k:ζ r.es<=200:=by
  have C:ζ (P.ins x)<=120:=by show(dD x 0 P.nx).length<=120;omega
  rw[a.1];omega
 have T:=(d.sys.cell g (pH (m:=17)<|by rw[d.st x r g];exact KB.Mm _)).1;rw[<-X2 a];have s:=hid<|Aa d.sys g;have v:J (∀(j:Nat)(e:Nat×y'),r.es[j]?=z' e->e.1<ζ P.nd/\∃o,e.2=KB.yC o):=λj e h=>by obtain⟨y,B⟩:=La (l:=(P.ins x)) (i:=j) (by rw[<-a.1];exact(aX.1 h).1);obtain⟨C,o,b,_⟩:=a.2 j e y h B;refine⟨?_,o,b⟩;have:=lg x P.nx 0 y<|aO B;omega
 obtain⟨N,m⟩:=Ea<|ζ P.nd;rw[<-m]at p c v|-;have c:(x:Int)<N:=I;clear d i F a g f m;simp only[KB.fZ];simp only[RR.ev]at T;go_enter func146,ntmps146;go_upto_region 1 with(fail)
 refine qo (F:=Code.wp _ _ _ _) λb U=>?_;obtain⟨E,g⟩:=A U.b;have a:=aB T U.a;go_wp2_with fail;clear E g T a;go_loopw[14] (λy wr=>∃j:Nat,j<=ζ r.es/\y=G j/\J (hdF ((r.es.take j).map (·.1)) x=O'/\Bl w wr)) (λy _=>ζ r.es-(intOf y).toNat)
 case atStart=>exact⟨0,bm,rfl,rfl,U.a⟩
 obtain⟨j,b,rfl,d⟩:=hrel;by_cases L:j<ζ r.es;rotate_left
 .have b:¬(j:Int)<(ζ r.es:Int):=I;go_wp2_with fail;refine aE (v:=h' O') (by simp[results146,go_sem]) rfl ⟨?_,d.A⟩;have C:=d.a;rw[c! I]at C;rw[C]
 have b:(j:Int)<(ζ r.es:Int):=I;obtain⟨⟨f,P⟩,h⟩:∃e,r.es[j]?=z' e:=⟨_,bj L⟩;obtain⟨X,i,b,V⟩:=D0 ((s.a.below d.A).row r<|aO s.A) h;obtain⟨g,o,a⟩:=v.o j _ h;simp only at a g b V;subst a;have m:J ((r.es.take<|j+1).map (·.1)=(r.es.take j).map (·.1)++[f]):=by show _=_;rw[ep L,(aX.1 h).2,fq];rfl
 have b:=hid h;clear h;rw[i];by_cases a:x<=f
 .have D:(x:Int)<=f:=I;go_wp2_with fail;refine aE (v:=h' N') (by simp[results146,go_sem]) rfl ⟨?_,aq d.A bA⟩;congr 2;refine(xK.2 ⟨f,bG.2 ⟨_,aO b.o,rfl⟩,H' a⟩).symm
 have D:¬(x:Int)<=f:=I;go_wp2_with fail;go_roundw
 case rel=>
  refine⟨j+1,L,e',?_,aq d.A bA⟩;rw[m.o];rw[hdF,any_append,show List.any _ _=O' from d.a];simpa using a
 exact F'
end
section
variable {i:Nat}{c E:PE}{u:VV}
attribute [local go_sem] Oper.semAt_some
def WE(e:PE)(i:Nat)(x y:VV):(e.put i x).put i y=e.put i y:=by simp only[PE.put,PE.mk.injEq,n!];refine⟨?_,?_,?_,?_,?_,?_,?_,?_⟩<;>split<;>rfl
def abE(e:PE)(h:i<8):e.put i (e.at i)=e:=by rcases S2 h with rfl|rfl|rfl|rfl|rfl|rfl|rfl|rfl<;>rfl
def KB.abC(e:PE)(h:i<8)(x:Int):(KB.aT e).toArray.setIfInBounds (1+i*2) (G x)=θ (KB.aT<|e.put i ⟨(e.at i).any,x,(e.at i).hi⟩):=by rcases S2 h with rfl|rfl|rfl|rfl|rfl|rfl|rfl|rfl<;>rfl
def KB.abD(e:PE)(h:i<8)(x:Int):(KB.aT e).toArray.setIfInBounds (1+i*2+1) (G x)=θ (KB.aT<|e.put i ⟨(e.at i).any,(e.at i).lo,x⟩):=by rcases S2 h with rfl|rfl|rfl|rfl|rfl|rfl|rfl|rfl<;>rfl
def wdL(u v:VV)(ts:List Int):Int:=if v.lo<u.lo then KG v.lo ts else v.lo
def VO(u v:VV)(ts:List Int):Int:=if u.hi<v.hi then P3 v.hi ts else v.hi
def VM(u v:VV)(ts:List Int):VV:=⟨v.any,wdL u v ts,VO u v ts⟩
def vr(old next:PE)(ts:List Int)(k:Nat):PE:=(range k).foldl (λs i=>s.put i<|VM (old.at i) (next.at i) ts) next
def sh(c next:PE)(R:List Int)(k:Nat):vr c next R (k+1)=(vr c next R k).put k (VM (c.at k) (next.at k) R):=by simp[vr,kq]
def Jc(c next:PE)(R:List Int):∀k,k<=8->∀j,(vr c next R k).at j=if j<k then VM (c.at j) (next.at j) R else next.at j
 |0,_,j=>by simp[vr]
 |k+1,a,j=>by
  rw[sh,PE.jA _ I,Jc c next R k I];by_cases h:j=k
  .subst h;simp
  rw[aA h];by_cases a:j<k
  .rw[aD a,aD I]
  rw[aA a,aA I]
def YU(c next:PE)(R:List Int):∀k,(vr c next R k).r=next.r
 |0=>rfl
 |k+1=>by rw[sh];exact YU c next R k
structure P?(w:p')(tb:Nat)(old E:PE)(u:VV)(W:p'):Prop where
  o:W.1[δ w.1]?=z' (i' (θ<|KB.aT old) KB.bL (0,0))
  n:W.1[δ w.1+1]?=z' (i' (θ<|KB.aT E) KB.bL (0,0))
  r:W.1[δ w.1+1+1]?=z' (i' (θ<|KB.qh) KB.bL (0,0))
  t:W.1[tb]?=z' (i' #[G u.lo,G u.hi] KB.iC (0,0))
  b:Bl w W
def P?.below{d:p'}(h:P? w a c E u W)(b:Bl W d):P? w a c E u d:=⟨aG b h.o,aG b h.n,aG b h.r,aG b h.t,aq h.b b⟩
def P?.set{i:Nat}(h:P? w a c E u W)(U:δ w.1+1<a)(o:Nat)(x:y')(b:PE)(l:(KB.aT E).toArray.setIfInBounds o x=θ (KB.aT b)):P? w a c b u (κ W (O (δ w.1+1) o) x):=by refine⟨(aJ G').trans h.o,by rw[H h.n,l],(aJ G').trans h.r,(aJ G').trans h.t,h.b.setCell (ud _) _⟩
def P?.drew(h:P? w a c E u W):P? w a c E u W.drew:=⟨h.o,h.n,h.r,h.t,h.b.drew⟩
def YV {p:Prop} (h:p:=by
      refine st (λW'=>P? w tb old E1 (old.at i) W') 7 (hS:=HU.o.drew) (h:=λaC=>?_);refine tt 0 (m'<|z'<|O (δ w.1+1)<|1+i*2) (h:=?_);refine tt 1 (m'<|z'<|O (δ w.1+1)<|1+i*2) (h:=?_);refine tt 2 (m'<|z'<|O (δ w.1+1)<|1+i*2+1) (h:=?_);refine tt 3 (G (next.at i).hi) (y:=λW' aW=>by have k1:=(HQ.o _ _ aW).2.1;rw[AT]at k1;clear aC aW;go_simp) (h:=?_);refine tt 4 (xR tb) (h:=?_);refine tt 5 (G (old.at i).hi) (y:=λW' aW=>by have k1:=(HQ.o _ _ aW).2.2.2;clear aC aW;go_simp) (h:=?_);by_cases z:(old.at i).hi<(next.at i).hi
      · refine tt 6 (h' true) (h:=?_)
        clear aC;refine dt (h:=?_);have k1:=(HQ.o _ _ HU.o.drew).2.1;rw[AT]at k1;have BY:ga (next.at i).hi:=by have:=(GS.o i).hi;simp only[aN,aY,bM]at this;exact this
        go_upto_region 9 with(go_at_call 218;refine(HCe.o _ HU.o.drew.b _ BY).mono ?_;rintro e D ⟨rfl,hb⟩;have HX:=hid<|HU.o.drew.below hb;clear hb k1;obtain⟨_,k1,_⟩:=HQ.o _ _ HX.o;have k2:=(A HX.o.n).2<|1+i*2+1)
        have x:=hid<|HX.o.set (i:=i) AR (1+i*2+1) (G<|P3 (next.at i).hi ts) _<|KB.abD E1 n8 _;generalize κ D (O (δ w.1+1)<|1+i*2+1) (G<|P3 (next.at i).hi ts)=Y at x|-;clear k1 k2;go_wp2_with fail;go_roundw
        case rel=>
          refine⟨i+1,n8,e',x.o.o,?_,x.o.r,x.o.b⟩;rw[CR.o,VO,aD z];exact x.o.n
        simp[intOf];omega
      refine tt 6 (h' false) (h:=?_);clear aC;refine dt (h:=?_);go_wp2_with fail;go_roundw
      case rel=>
        refine⟨i+1,n8,e',HU.o.o,?_,HU.o.r,HU.o.drew.b⟩;rw[CR.o,VO,aA z];have:=abE E1 n8;have x:(⟨(E1.at i).any,(E1.at i).lo,(next.at i).hi⟩:VV)=E1.at i:=by rw[<-AT]
        rw[x,this];exact HU.o.n
      simp[intOf];omega):p:=h
def ES(old next:PE)(q:t')(r:Nat)(ts:List Int)(w:p')(h:bK w q ts)(hi:∀t∈ts,ga t)(X:ζ ts<=maxLen)(hb:∀i,dM<|b8<|next.at i):
  Cl 147 #[j'<|θ<|KB.aT old,j'<|θ<|KB.aT next,g' q (ζ ts) r] w λe j=>e=n' (j'<|θ<|KB.aT<|vr old next ts 8)/\Below w.1.size w j:=by
 have l:=hid λW (j:Below w.1.size w W) n (K:ga n)=>PJ n q r ts W (h.below j) hi X K;have HCe:=hid λW (j:Below w.1.size w W) n (K:ga n)=>Hn n q r ts W (h.below j) hi X K;have s:=hid λi (h:i<8) W=>KB.WB old h W;have GS:=hid hb;clear h hi X hb;generalize ζ ts=tn at *;go_enter func147,ntmps147;go_upto_region 1 with fail
 refine gn3 (F:=Code.wp _ _ _ _) λV B=>?_;have hr:=KB.qtl B.b;have j:=hid B.D;go_wp2_with (refine wpList_load_mid rfl KB.Wv (.tmp 10) rfl w.1.size 1 rfl (KB.aT old).tail _ hr KB.Wu rfl M ?_);clear hr;go_loopw[12] (λj wr=>∃i:Nat,i<=8/\j=G i/\J (wr.1[δ w.1]?=z' (i' (θ<|KB.aT old) KB.bL (0,0))/\wr.1[δ w.1+1]?=z' (i' (θ<|KB.aT<|vr old next ts i) KB.bL (0,0))/\wr.1[δ w.1+1+1]?=z' (i' (θ<|KB.qh) KB.bL (0,0))/\Below w.1.size w wr)) (λj _=>8-(intOf j).toNat)
 case atStart=>exact⟨0,I,rfl,B.b,B.c,B.d,B.a⟩
 obtain⟨i,j,rfl,m⟩:=hrel;by_cases n8:i<8;rotate_left
 .have o:¬(i:Int)<8:=I;obtain rfl:i=8:=I;have hr:=bu m.b;have U:=cK (n:=17) m.c rfl;go_wp2_with (first|(refine wpList_load_mid rfl KB.bL (.tmp 4) rfl (δ w.1+1) 0 rfl (KB.aT<|vr old next ts 8) _ hr KB.gU rfl M ?_)|(refine wpList_store_mid rfl KB.bL (.tmp 6) (.tmp 52) rfl (δ w.1+1+1) 0 (θ<|KB.aT<|vr old next ts 8) rfl rfl U M (KB.bO _) ?_));have j:=cX (cs:=KB.qh) m.c (vs:=KB.aT<|vr old next ts 8) rfl;have C:=run_loadVar_mid (P:=Tryz.prog) (ψ wr (δ w.1+1+1) 0<|KB.aT<|vr old next ts 8) (δ w.1+1+1) 0 KB.bL (KB.aT<|vr old next ts 8) _ (bu j) KB.gU rfl M;refine aE (v:=j'<|θ<|KB.aT<|vr old next ts 8) (by simp[results,results147,C,Act.put,asAddr]) rfl ⟨rfl,dJ I _ _ _ m.C⟩
 have o:(i:Int)<8:=I;have k:=s.o i n8;go_upto_region 4 with fail
 have X:J (P? w wr.1.size old (vr old next ts i) (old.at i)<|wr.alloc<|i' #[G (old.at i).lo,G (old.at i).hi] KB.iC):=⟨aG bA m.a,aG bA m.b,aG bA m.c,cv,aq m.C bA⟩;generalize wr.alloc (i' #[G (old.at i).lo,G (old.at i).hi] KB.iC)=T at X|-;have AR:δ w.1+1<δ wr.1:=by have:=blt m.c;omega
 clear k;generalize m:δ wr.1=tb at *;have f:(vr old next ts i).at i=next.at i:=by rw[Jc _ _ _ _ I,aA I]
 have HQ:J (∀W E,P? w tb old E (old.at i) W->χ W (O (δ w.1+1)<|1+i*2)=z' (G (E.at i).lo)/\χ W (O (δ w.1+1)<|1+i*2+1)=z' (G (E.at i).hi)/\χ W (O tb 0)=z' (G (old.at i).lo)/\χ W (O tb 1)=z' (G (old.at i).hi)):=λW E h=>⟨(KB.WD h.n n8).1,(KB.WD h.n n8).2,by rw[(A h.t).1];rfl,by rw[(A h.t).1];rfl⟩;go_upto_region 5 with fail
 refine st (λW'=>P? w tb old (vr old next ts i) (old.at i) W') 7 (hS:=X.o.drew) (h:=λaC=>?_);refine tt 0 (m'<|z'<|O (δ w.1+1)<|1+i*2) (h:=?_);refine tt 1 (m'<|z'<|O (δ w.1+1)<|1+i*2) (h:=?_);refine tt 2 (m'<|z'<|O (δ w.1+1)<|1+i*2) (h:=?_);refine tt 3 (G (next.at i).lo) (y:=λW' aW=>by have k1:=(HQ.o _ _ aW).1;rw[f]at k1;clear aC aW;go_simp) (h:=?_);refine tt 4 (xV tb) (h:=?_);refine tt 5 (G (old.at i).lo) (y:=λW' aW=>by have k1:=(HQ.o _ _ aW).2.2.1;clear aC aW;go_simp) (h:=?_);by_cases u:(next.at i).lo<(old.at i).lo;rotate_left
 .refine tt 6 (h' false) (h:=?_);clear aC;refine dt (h:=?_);go_upto_region 7 with fail
  obtain⟨E1,b⟩:=Ea<|vr old next ts i;have HU:=hid X.o.drew;rw[<-b]at HU;have g:E1.at i=next.at i:=by rw[b];exact f
  have AT:(E1.at i).hi=(next.at i).hi:=by rw[g]
  have CR:J (vr old next ts (i+1)=E1.put i ⟨(E1.at i).any,(E1.at i).lo,VO (old.at i) (next.at i) ts⟩):=by show _=_;rw[sh,g,b,VM,wdL,aA u]
  clear g b X;exact YV
 refine tt 6 (h' true) (h:=?_);clear aC;refine dt (h:=?_);have k1:=(HQ.o _ _ X.o.drew).1;rw[f]at k1;have BY:ga (next.at i).lo:=by have:=(GS.o i).lo;simp only[aN,aY,bM]at this;exact this
 go_upto_region 7 with(go_at_call 217;refine(l.o _ X.o.drew.b _ BY).mono ?_;rintro e j ⟨rfl,hb⟩;have HX:=hid<|X.o.drew.below hb;clear hb k1;obtain⟨k1,_,_⟩:=HQ.o _ _ HX.o;have k2:=(A HX.o.n).2<|1+i*2)
 have HU:=hid<|HX.o.set (i:=i) AR (1+i*2) (G<|KG (next.at i).lo ts) _<|KB.abC (vr old next ts i) n8 _;generalize κ j (O (δ w.1+1)<|1+i*2) (G<|KG (next.at i).lo ts)=U at HU|-;clear k1 k2;rw[f]at HU;obtain⟨E1,b⟩:=Ea ((vr old next ts i).put i ⟨(next.at i).any,KG (next.at i).lo ts,(next.at i).hi⟩);rw[<-b]at HU;have g:E1.at i=⟨(next.at i).any,KG (next.at i).lo ts,(next.at i).hi⟩:=by rw[b,PE.jA _ n8,aD rfl]
 have AT:(E1.at i).hi=(next.at i).hi:=by rw[g]
 have CR:J (vr old next ts (i+1)=E1.put i ⟨(E1.at i).any,(E1.at i).lo,VO (old.at i) (next.at i) ts⟩):=by show _=_;rw[sh,g,b,WE,VM,wdL,aD u]
 clear g b HX X;exact YV
end
section
attribute [local go_sem] Oper.semAt_some
def RL(P:Pm)(ts:List Int)(x:Nat)(old next:PE):PE:=if old.r&&hdF ((P.ins x).map (·.1)) x then vr old next ts 8 else next
abbrev ad4(rb db N:Nat):Obj:=i' #[g' (z'<|O rb 0) N N,.func (.func 275) #[]<|cB db,.func (.func 277) #[]<|cB db] 242 (0,0)
abbrev ad1(pv:y')(ta:t')(tn tc:Nat)(nr:Int):Obj:=i' #[pv,g' ta tn tc,G nr] 38 (0,0)
def aaw{p:Prop}(h:p:=by
 have a:=bu HX.b;have ht:=cK (n:=17) HX.c rfl;go_wp2_with (first|(refine wpList_load_mid rfl KB.bL (.tmp 7) rfl (δ w.1+1) 0 rfl (KB.aT next) _ a KB.gU rfl M ?_)|(refine wpList_store_mid rfl KB.bL (.tmp 8) (.tmp 21) rfl (δ w.1+1+1) 0 (θ<|KB.aT next) rfl rfl ht M (KB.bO _) ?_));have hq:=cX (cs:=KB.qh) HX.c (vs:=KB.aT next) rfl;have hL:=run_loadVar_mid (P:=Tryz.prog) (ψ X (δ w.1+1+1) 0<|KB.aT next) (δ w.1+1+1) 0 KB.bL (KB.aT next) _ (bu hq) KB.gU rfl M;refine aE (v:=j'<|θ<|KB.aT next) (by simp[results,results145,hL,Act.put,asAddr]) rfl ⟨?_,dJ I _ _ _ HX.C⟩
 rw[HZ.o,aA<|by simp[hh]]):p:=h
def DI(z s B x o j:Nat)(P:Pm)(t:y')(l:t')(D:Nat)(R:List Int)(f:Int)(b next:PE)(w:p')(C:w.1[o]?=z' (ad4 z s<|ζ P.nd))(F:w.1[j]?=z' (ad1 t l (ζ R) D f))(u:KB.rA w B z P)(k:cN P)(E:ζ P.nx=ζ P.nd)(f:x<ζ P.nd)(h:bK w l R)(hi:∀t∈R,ga t)(t:ζ R<=maxLen)(g:∀i,dM<|b8<|next.at i):
  Cl 145 #[G x,j'<|θ<|KB.aT b,j'<|θ<|KB.aT next,m'<|z'<|O o 0,m'<|z'<|O j 0] w (Rb w<|j'<|θ<|KB.aT<|RL P R x b next):=by
 have r:=hid λW (j:Bl w W)=>ES b next l D R W (h.below j) hi t g;have m:=hid λW (j:Bl w W)=>Kq z s B x P W (u.below j) k E f;have HZ:J (RL P R x b next=if (b.r&&hdF ((P.ins x).map (·.1)) x)=true then vr b next R 8 else next):=rfl;have q:=hid<|Aa C F;clear h hi t g u k E C F;generalize vr b next R 8=k at *;generalize RL P R x b next=z at *;generalize hdF ((P.ins x).map (·.1)) x=C at *
 generalize ζ R=tn at *;generalize ζ P.nd=N at *;simp only[KB.fZ]at m;go_enter func145,ntmps145;go_upto_region 1 with fail
 refine gn3 (F:=Code.wp _ _ _ _) λV g=>?_;have T:χ V (O w.1.size 0)=z' (h' b.r):=by rw[(A g.b).1];rfl
 obtain⟨U,u⟩:=A<|aG g.a q.a;cases E:b.r with
 |false=>
  rw[E]at T HZ;have HX:=hid<|Aa g.b<|Aa g.c<|Aa g.d g.a;have hh:(false&&C)=false:=rfl;generalize f:V=X at *;go_upto_region 3 with fail
  clear T U u;exact aaw
 |true=>
  rw[E]at T HZ;cases L:C with
  |false=>
   rw[L]at m HZ;go_upto_region 3 with(go_at_call 146;refine(m.o _ g.a).mono ?_;rintro e X ⟨rfl,l⟩;have HX:=hid<|Aa (aG l g.b)<|Aa (aG l g.c)<|Aa (aG l g.d)<|Aa (aq g.a l)<|aG l<|aG g.a q.A;clear l T U u)
   have HX:=hid<|Aa HX.a<|Aa HX.b<|Aa HX.c HX.d;have hh:(true&&false)=false:=rfl;exact aaw
  |true=>
   rw[L]at m HZ;go_upto_region 2 with(go_at_call 146;refine(m.o _ g.a).mono ?_;rintro e X ⟨rfl,l⟩;have HX:=hid<|Aa (aG l g.b)<|Aa (aG l g.c)<|Aa (aG l g.d)<|Aa (aq g.a l)<|aG l<|aG g.a q.A;clear l T U u)
   obtain⟨j,g⟩:=A HX.D;have o:=bu HX.a;have f:=bu HX.b;go_wp2_with (first|(refine wpList_load_mid rfl KB.bL (.tmp 6) rfl w.1.size 0 rfl (KB.aT b) _ o KB.gU rfl M ?_)|(refine wpList_load_mid rfl KB.bL (.tmp 7) rfl (δ w.1+1) 0 rfl (KB.aT next) _ f KB.gU rfl M ?_)|(go_at_call 147;refine(r.o _ HX.d).mono ?_;rintro e Y ⟨rfl,l⟩;have b:=hid<|Aa (aG l HX.c)<|aq HX.d l;clear l j g o f;have ht:=cK (n:=17) b.a rfl)|(refine wpList_store_mid rfl KB.bL (.tmp 8) (.tmp 20) rfl (δ w.1+1+1) 0 (θ<|KB.aT k) rfl rfl ht M (KB.bO _) ?_));have hq:=cX (cs:=KB.qh) b.a (vs:=KB.aT k) rfl;have hL:=run_loadVar_mid (P:=Tryz.prog) (ψ Y (δ w.1+1+1) 0<|KB.aT k) (δ w.1+1+1) 0 KB.bL (KB.aT k) _ (bu hq) KB.gU rfl M;refine aE (v:=j'<|θ<|KB.aT k) (by simp[results,results145,hL,Act.put,asAddr]) rfl ⟨?_,dJ I _ _ _ b.A⟩;rw[HZ.o];rfl
end
section
attribute [local go_sem] Oper.semAt_some
def Ez(P:Pm)(hs:List PE)(k:Nat):List PE:=(range k).foldl (λh i=>h.set i<|KB.cz P (bQ h) i) hs
def yU(P:Pm)(y:List PE)(k:Nat):Ez P y (k+1)=(Ez P y k).set k (KB.cz P (bQ<|Ez P y k) k):=by simp[Ez,kq]
def sU(P:Pm)(y:List PE):∀k,ζ (Ez P y k)=ζ y
 |0=>rfl
 |k+1=>by rw[yU,dh,sU P y k]
def TN{P:Pm}{y:List PE}{x:Nat}(c:cN P)(T:nD P)(a:ζ P.nx=ζ P.nd)(h:KB.oM P<|bQ y)(F:x<ζ y):KB.oM P (bQ<|y.set x<|KB.cz P (bQ y) x):=λm=>by
 have b:=λm=>ui<|h m;rw[pZ F];split
 .exact⟨_,KB.kB c T a b x⟩
 exact h m
open KB in
def Ge(m f N c:Nat)(q:t')(d:List PE)(e:PE)(w:p')(V:w.1[f]?=z' (i' #[g' q N c] 244 (0,0)))(h:KB.kh w q d)(l:d[m]?=z' e)(d:m<N):
  Cl 219 #[G m,m'<|z'<|O f 0] w (Rb w<|j'<|θ<|KB.aT e):=by
 obtain⟨b,o,rfl,a⟩:=h m e l;have g:(m:Int)<N:=I;clear h l;go_enter func219,ntmps219;go_upto_region 1 with fail
 have B:J ((w.alloc<|i' jf bL).1[δ w.1]?=z' (i' jf bL (0,0))/\Bl w (w.alloc<|i' jf bL)/\(w.alloc<|i' jf bL).1[f]?=z' (i' #[g' (z'<|O b o) N c] OT (0,0))/\(w.alloc<|i' jf bL).rangeAt b (o+m*17) (aT e)):=⟨cv,bA,aG bA V,kM a bA⟩;clear V a;generalize w.alloc (i' jf bL)=V at B|-;obtain⟨W,k⟩:=A B.c;have a:=B.C;have U:=cK (n:=17) B.a rfl;go_wp2_with (first|(refine wpList_load_mid rfl bL (.tmp 6) rfl b (o+m*17) rfl (aT e) _ a gU rfl M ?_)|(refine wpList_store_mid rfl bL (.tmp 3) (.tmp 7) rfl w.1.size 0 (θ<|aT e) rfl rfl U M (bO _) ?_));have a:=cX (cs:=qh) B.a (vs:=aT e) rfl;have C:=run_loadVar_mid (P:=Tryz.prog) (ψ V w.1.size 0<|aT e) w.1.size 0 bL (aT e) _ (bu a) gU rfl M;refine aE (v:=j'<|θ<|aT e) (by simp[results,results219,C,Act.put,asAddr]) rfl ⟨rfl,dJ aK _ _ _ B.b⟩
open KB in
def Kb(Y s B b:Nat)(P:Pm)(u:List PE)(w:p')(E:KB.rA w B Y P)(C:w.1[s]?=z' (i' #[.iface 331<|j' #[]] 386 (0,0)))(g:cN P)(T:nD P)(o:px P)(F:ζ P.nx=ζ P.nd)(X:ζ u=ζ P.nd)(L:KB.oM P<|bQ u)(V:w.1[b]?=z' (i' (θ<|KB.bp u) KB.bL (0,0))):
  Cl 148 #[KB.fZ Y s<|ζ P.nd,g' (z'<|O b 0) (ζ P.nd)<|ζ P.nd] w λe w'=>(∃v,e=n' v)/\w'.1[b]?=z' (i' (θ<|KB.bp<|Ez P u<|ζ P.nd) KB.bL (0,0))/\Kx (λk=>k=b) w w'/\KB.oM P (bQ<|Ez P u<|ζ P.nd):=by
 have hm:=g.most;have z:=hid<|Aa E<|Aa C<|Aa (Aa g<|Aa T<|Aa o F)<|Aa X<|Aa L V;have f:=blt V
 have R:J (∀W x (f:List PE) (t:Nat),KB.rA W B Y P->b' W s #[.iface 331<|j' #[]] 386->KB.oM P (bQ f)->ζ f=ζ P.nd->x<ζ P.nd->b' W b (θ<|KB.bp f) KB.bL->b' W t (mG b<|ζ P.nd) 244->Cl 216 #[KB.fZ Y s<|ζ P.nd,G x,.func (.func 219) #[]<|cB t] W (Rb W<|j'<|θ<|KB.aT<|KB.cz P (bQ f) x)):=λW x f t h1 h2 h3 h4 h5 h6 h7=>
  KB.uC Y s B x 219 P (cB t) (bQ f) W h1 h2 g T o F h5 h3 (λD w=>Tryz.call219 D w) λm hm W' hW=>by
   have l:f[m]?=z' (bQ f m):=by rw[bQ,bN,bj<|by rw[h4];exact hm];rfl
   exact Ge m t (ζ P.nd) (ζ P.nd) (z'<|O b 0) f (bQ f m) W' (aG hW h7) (KB.mL<|aG hW h6) l hm
 obtain⟨N,r⟩:=Ea<|ζ P.nd;rw[<-r]at hm R|-;have HN:=hid r;clear E C g T o F X L V r;simp only[KB.fZ]at R|-;go_enter func148,ntmps148;go_upto_region 1 with fail
 refine gnB (F:=Code.wp _ _ _ _) λW0 U=>?_;have D:=U.C;have HZ:=hid D;obtain⟨E,g⟩:=A U.c;clear D;go_wp2_with fail;clear E g;go_loopw[7] (λf wr=>∃j:Nat,j<=N/\f=G j/\J (wr.1[b]?=z' (i' (θ<|KB.bp<|Ez P u j) KB.bL (0,0))/\KB.oM P (bQ<|Ez P u j)/\Kx (λk=>k=b) W0 wr)) (λf _=>N-(intOf f).toNat)
 case atStart=>exact⟨0,I,rfl,aG U.a z.E,z.e,vf⟩
 obtain⟨j,hj,rfl,g⟩:=hrel;have f:=HZ.o;by_cases r:j<N;rotate_left
 .have F:¬(j:Int)<N:=I;obtain rfl:j=N:=I;go_wp2_with fail
  go_end0
  exact⟨⟨_,rfl⟩,g.a,(Kx.of U.a).trans g.B,g.b⟩
 have F:(j:Int)<N:=I;have L:ζ (Ez P u j)=N:=by rw[sU,z.d,HN.o]
 have X:=g.B.box U.b I;have o:=g.B.box U.c I;have C:KtC w wr KB.OS:=λk f t h1 h2=>g.B.box (aG U.a h1) λe=>by subst e;rw[z.E]at h1;rw[<-(e?<|cJ h1).2.1]at h2;revert h2;decide
 have f:=hid<|R.o wr j (Ez P u j) (δ w.1+1) (z.a.ty C) (C _ _ _ z.b aj) g.b L r g.a o;have T:=hid λW hW=>R.o W j (Ez P u j) (δ w.1+1) (KB.rA.below (z.a.ty C) hW) (aG hW<|C _ _ _ z.b aj) g.b L r (aG hW g.a)<|aG hW o;have HQ:=hid λW' (h:Bl wr W')=>Aa (aG h X)<|aG h o;have HP:=hid<|Aa L (TN z.c.1 z.c.2.1 z.c.2.2.2 g.b<|by rw[L];exact r);have E:=hid<|yU P u j;clear f X o C L;generalize KB.cz P (bQ<|Ez P u j) j=z at *;go_upto_region 4 with fail
 refine st (λW'=>Bl wr W') 7 (hS:=aQ.drew) (h:=λaC=>?_);refine tt 0 (cG b N) (y:=λW' aW=>by have f:=(A (HQ.o _ aW).2).1;clear aC aW;go_simp) (h:=?_);refine tt 1 (G j) (h:=?_);refine tt 2 (j' #[g' (z'<|O Y 0) N N,.func (.func 275) #[]<|cB s,.func (.func 277) #[]<|cB s]) (y:=λW' aW=>by have f:=(A (HQ.o _ aW).1).1;clear aC aW;go_simp) (h:=?_);refine tt 3 (G j) (h:=?_);refine tt 4 (.func (.func 219) #[] #[m'<|z'<|O (δ w.1+1) 0]) (h:=?_);refine rt 5 (h:=λK hK=>?_);go_simp;refine bP (T.o _ aC) ?_;rintro e X ⟨rfl,l⟩;have m:=hid<|aq aC l;clear l aC;refine hK.out _ _ (λ_=>m.o) ?_;clear hK K;refine pt ?_;have aC:=m.o;refine tt 6 (m'<|z'<|O b<|j*17) (h:=?_);clear aC;refine rt 7 (h:=λK hK=>?_);rw[aD M];refine wp_store_mid KB.bL (.tmp 16) (.tmp 15) rfl b (j*17) (θ<|KB.aT z) rfl rfl (KB.rr (aG m.o g.a)<|by rw[HP.a];exact r) M (KB.bO _) ?_;refine hK.out _ _ (λh=>absurd h aj) ?_;clear hK K;refine pt ?_;refine dt (h:=?_);have e:=hid (Aa (KB.xQ z (aG m.o g.a) (k:=j)<|by rw[HP.a];exact r)<|show Kx (λk=>k=b) W0 (ψ X b (j*17)<|KB.aT z)from s5 (S:=λk=>k=b) (aP rfl) (g.B.trans<|Kx.of m.o) _ _);show Exit.inBlock _ _ _ _<|ψ X b (j*17)<|KB.aT z;generalize ψ X b (j*17) (KB.aT z)=Y at e|-;go_wp2_with fail;go_roundw
 case rel=>exact⟨j+1,r,e',by rw[E.o];exact e.a,by rw[E.o];exact HP.A,e.A⟩
 exact F'
end
section
attribute [local go_sem] Oper.semAt_some
def rgW(v:VV):Vl:=⟨3,v.lo,v.hi,O',0,0⟩
def Vt(e:PE)(n:Nat):List Vl:=(range n).map λi=>rgW<|e.at i
def abn(e:PE){n i:Nat}(h:i<n):(Vt e n)[i]?=z' (rgW<|e.at i):=by simp[Vt,h]
def wT(e:PE)(n:Nat):ζ (Vt e n)=n:=by simp[Vt]
def kg(e:PE)(n:Nat):List Vl:=if e.r then Vt e n else[]
abbrev ndO(r:Bool)(v:y'):Obj:=i' #[g' A' 0 0,g' A' 0 0,h' r,G 0,v] 96 (0,0)
def nd5(r:Bool)(a:t')(j c:Nat):(#[g' A' 0 0,g' A' 0 0,h' r,G 0,g' a j c]).all (·.oneCell')=N':=all_oneCell_toArray (cs:=[g' A' 0 0,g' A' 0 0,h' r,G 0,g' a j c]) (by
 intro u C;simp only[cM,dR,dz]at C
 rcases C with rfl|rfl|rfl|rfl|rfl<;>rfl)
def yv(e:PE)(n:Nat)(w:p')(K:n<=8):
  Cl 149 #[j'<|θ<|KB.aT e,G n] w λr f=>∃a c,r=n' (j' #[g' A' 0 0,g' A' 0 0,h' e.r,G 0,g' a (ζ<|kg e n) c])/\ρ f w.1.size 73 6 (g' a (ζ<|kg e n) c) (ζ<|kg e n) (ei<|kg e n)/\Below w.1.size w f:=by
 obtain⟨N,S,D,P,b⟩:=cI zi;have u:J (_/\_/\_/\_):=⟨S,D,P,b⟩;clear S D P b;have f:(n:Int)<=8:=I;go_enter func149,ntmps149;go_upto_region 1 with fail
 refine gnB (F:=Code.wp _ _ _ _) λV B=>?_;have T:χ V (O w.1.size 0)=z' (h' e.r):=by rw[(A B.b).1];rfl
 have r:=hid B.C;cases f:e.r with
 |false=>rw[f]at T;have U:=cK (n:=5) B.c rfl;go_wp2_with (refine wpList_store_mid rfl 96 (.tmp 4) (.tmp 11) rfl (δ w.1+1) 0 r? rfl rfl U M (nd5 _ _ _ _) ?_);have t:=cX (cs:=[g' A' 0 0,g' A' 0 0,h' false,G 0,g' A' 0 0]) B.c (vs:=[g' A' 0 0,g' A' 0 0,h' false,G 0,g' A' 0 0]) rfl;have C:=run_loadVar_mid (P:=Tryz.prog) (ψ V (δ w.1+1) 0 [g' A' 0 0,g' A' 0 0,h' false,G 0,g' A' 0 0]) (δ w.1+1) 0 96 _ _ (bu t) underlying96 rfl M;refine aE (v:=j' r?) (by simp[results,results149,C,Act.put,asAddr]) rfl ⟨A',0,by simp[kg,f],by simp[kg,f];exact dj,dJ I _ _ _ B.a⟩
 |true=>
  rw[f]at T;have q:J (kg e n=Vt e n):=by unfold kg;rw[f];rfl
  go_upto_region 4 with fail
  refine qo (F:=Code.wp _ _ _ _) λp g=>?_;have f:=r.o;have P:=g.B;have K:=g.b;rw[f]at K P|-;clear T;have x:=hid P;clear P f;go_wp2_with fail;go_loopw[17] (λy wr=>∃(j:Nat)(a:t')(c:Nat),j<=n/\y=G j/\J (wr.1[δ w.1+1+1]?=z' (ndO true (g' a j c))/\ρ wr p.1.size 73 6 (g' a j c) j (ei ((Vt e n).take j))/\wr.1[δ w.1]?=z' (i' (θ<|KB.aT e) KB.bL (0,0))/\wr.1[δ w.1+1]?=z' (ndO false (g' A' 0 0))/\Below w.1.size w wr/\δ p.1<=δ wr.1)) (λy _=>n-(intOf y).toNat)
  case atStart=>exact⟨0,A',0,bm,rfl,K,dj,aG g.a B.b,aG g.a B.c,aq B.a g.a,aK⟩
  obtain⟨j,a,c,f,rfl,b⟩:=hrel;have P:=x.o;by_cases o:j<n;rotate_left
  .have s:¬(j:Int)<n:=I;obtain rfl:j=n:=I;have f:=bu (L:=[g' A' 0 0,g' A' 0 0,h' true,G 0,g' a j c]) b.a;have U:=cK (n:=5) b.d rfl;go_wp2_with (first|(refine wpList_load_mid rfl 96 (.tmp 5) rfl (δ w.1+1+1) 0 rfl [g' A' 0 0,g' A' 0 0,h' true,G 0,g' a j c] _ f underlying96 rfl M ?_)|(refine wpList_store_mid rfl 96 (.tmp 4) (.tmp 32) rfl (δ w.1+1) 0 #[g' A' 0 0,g' A' 0 0,h' true,G 0,g' a j c] rfl rfl U M (nd5 _ _ _ _) ?_));have t:=cX (cs:=[g' A' 0 0,g' A' 0 0,h' false,G 0,g' A' 0 0]) b.d (vs:=[g' A' 0 0,g' A' 0 0,h' true,G 0,g' a j c]) rfl;have C:=run_loadVar_mid (P:=Tryz.prog) (ψ wr (δ w.1+1) 0 [g' A' 0 0,g' A' 0 0,h' true,G 0,g' a j c]) (δ w.1+1) 0 96 _ _ (bu t) underlying96 rfl M;have L:ζ (kg e j)=j:=by rw[q.o,wT]
   refine aE (v:=j' #[g' A' 0 0,g' A' 0 0,h' true,G 0,g' a j c]) (by simp[results,results149,C,Act.put,asAddr]) rfl ⟨a,c,by rw[L],?_,dJ I _ _ _ b.e⟩;rw[L,q.o];have C:=b.b;rw[c!<|by rw[wT];exact aK]at C;refine⟨C.1,C.2.imp id λ⟨g,q,Y,r,h2,f,t⟩=>⟨g,q,Y,r,I,?_,t⟩⟩;rw[eA _ _ _ _ _ I];exact f
  have s:(j:Int)<n:=I;obtain⟨t,Y⟩:=KB.WD b.c (i:=j) I;have v:=hid<|x6<|abn e o;go_upto_region 7 with fail
  refine qo (F:=Code.wp _ _ _ _) λT X=>?_;clear t Y;obtain⟨E,D⟩:=A X.b;obtain⟨z,d⟩:=A<|aG X.a b.a;have f:=X.B;have m:=hid f;have g:=b.E;clear f;go_wp2_with (at_builtin;refine fz rfl _ _ 71 rfl p.1.size 73 N (j' nL) 6 48 underlying71 u.a u.b u.c u.C rfl aj (g' a j c) j (ei ((Vt e n).take j)) rfl ((aZ b.b X.a).alloc _) (O T.1.size 0) 1 1 (zY<|rgW<|e.at j) rfl rfl (mM<|cF T _) (by intro u C;simp only[rgW,zY,cM,dR,dz]at C;rcases C with rfl|rfl|rfl|rfl|rfl|rfl<;>rfl) (by simp only[maxLen];omega) I (by have:=m.o;simp;omega) ?_;intro a l k F _;obtain⟨i,h,rfl⟩:=aV k;have W:=hid (Aa k<|show Below p.1.size T l from(aQ.alloc (by have:=m.o;omega) _).grown F (by have:=m.o;simp;omega) λq e=>((aZ b.b X.a).lt q e).1);clear k F E D z d;have m:=(W.A.block (δ w.1+1+1) I).trans<|aG X.a b.a;obtain⟨z,d⟩:=A m)
  have a:J ((κ l (O (δ w.1+1+1) 4)<|g' i (j+1) h).1[δ w.1+1+1]?=z' (ndO true (g' i (j+1) h))/\ρ (κ l (O (δ w.1+1+1) 4)<|g' i (j+1) h) p.1.size 73 6 (g' i (j+1) h) (j+1) (ei ((Vt e n).take<|j+1))/\(∀k,k≠δ w.1+1+1->(κ l (O (δ w.1+1+1) 4)<|g' i (j+1) h).1[k]?=l.1[k]?)/\Below w.1.size w (κ l (O (δ w.1+1+1) 4)<|g' i (j+1) h)/\δ (κ l (O (δ w.1+1+1) 4)<|g' i (j+1) h).1=δ l.1):=by
   refine⟨by rw[H m];rfl,?_,λk c=>aJ c,?_,by simp[World.setCell]⟩
   .rw[v.o];exact sO W.a m aj
   exact((aq b.e X.a).trans<|W.A.mono I).setCell (by show δ w.1<=δ w.1+1+1;omega) _
  generalize κ l (O (δ w.1+1+1) 4) (g' i (j+1) h)=Y at a|-;go_roundw
  case rel=>
   have Y:=W.A.size;have U:=X.a.size;refine⟨j+1,i,h,o,e',a.a,a.b,(a.c _ I).trans ((W.A.block _ I).trans<|aG X.a b.c),(a.c _ I).trans ((W.A.block _ I).trans<|aG X.a b.d),a.d,by rw[a.D];omega⟩
  simp[intOf];omega
end
def yf{x:Int}(h:Yt x):ζ (yh x)<=10:=by obtain⟨C,a⟩:=h;refine hZ (k:=9) ?_;unfold N3;split<;>omega
def abT{P:Pm}{s:Nat×List Nd}{y:List PE}(b:cN P)(T:nD P)(i:mB P s y (0,0)):YF P 5 (gT s.2):=by
 have d:=b.most;have a:=i.fJ;have a:=b.nv
 have L:∀x∈s.2,ζ x.aM<=8:=λx F=>by
  cases c:x.aF with
  |true=>rw[((i.Ik x F).wA c).1];exact a
  |false=>rw[((i.Ik x F).out c).2];simp
 refine⟨?_,?_,?_⟩
 .simp only[qi,known,aY,bM,bV];refine⟨⟨ak,by rw[i.len];omega⟩,λx F=>?_⟩;have h:=i.Ik x F;rw[cY,aA aj];cases c:x.aF with
  |false=>have a:=h.out c;simp[l!,c,a.1,a.2,h.fr.1,h.fr.2]
  |true=>
   have S:=h.wA c;simp only[jR,rk,h.fr.1,h.fr.2,dQ,aY,bM,bV,isEmpty_nil,n!,eZ];refine⟨⟨⟨L x F,S.2.1,I⟩,aP trivial⟩,λv R=>?_⟩;have R:=h.each v R;rw[gG,aA aj];rcases R.form with k|k|k
   .simp[k.2.1,k.1,R.hi,k.2.2.1,k.2.2.2]
   .have:v.rank<=100000:=I;simp[nw,k.2.1,k.1,R.hi,k.2.2.2.2,k.2.2.1,this]
   simp[k.2.1,k.1,R.hi,k.2.2.1,k.2.2.2.1,k.2.2.2.2]
 .have f:∀x∈s.2,ζ (d! 5 1 x)<=300:=λx F=>by
   have h:=i.Ik x F;rw[d!,aA aj];split;rotate_left
   .simp
   rename_i c;have S:=h.wA c;simp only[rL,dQ,bU,bg];have N:ζ (dS x.rank)<=2:=hZ (k:=1) G';have a:ζ (fJ<|ζ x.aM)<=1:=hZ (k:=0)<|I'<|L x F
   have b:=jY (f:=fD 5 1) (b:=14) x.aM λv R=>by
    have R:=h.each v R;have a:=yf R.lo;have o:=yf R.first;rw[fD,aA aj];split
    .simp;omega
    split;rotate_left
    .simp
    split;rotate_left
    .simp
    rename_i e
    have a:ζ (dS v.rank)<=2:=hZ (k:=1) (by
     rcases R.form with k|k|k
     .rw[e]at k;cases k.2.1
     .simp;omega
     .rw[e]at k;cases k.2.1)
    simp;omega
   have:=L x F;omega
  have:=jY (f:=d! 5 1) (b:=300) s.2 f;simp only[kH,o4,bg,bU,eY]at this|-;have a:ζ (fJ<|ζ s.2)<=1:=hZ (k:=0) (by rw[i.len];omega);rw[i.len]at this;omega
 have l:lh P (gT s.2)=N':=by
  simp only[lh,aY,bM,bV,eZ,jo];refine⟨i.len,λx F=>?_⟩;rw[(i.Ik x F).fr.1];refine⟨λf Y=>(by cases Y),?_⟩;cases c:x.aF with
  |false=>exact aP rfl
  |true=>exact aR ((i.Ik x F).wA c).1
 have B:ye P (gT s.2)=N':=(E! T<|tC i.Ik).2 λn K=>i.snd n K<|j3 n;simp only[pg,l,B,i.lst];simp
section
variable {n:Int}{v:VV}
def Ud{n:Int}(K:ga n):∀(R:List Int)(j:Int),ga j->j<=n->ga (R.foldl (λj t=>if t<=n then max j t else j) j)/\R.foldl (λj t=>if t<=n then max j t else j) j<=n
 |[],j,h,k=>⟨h,k⟩
 |t::R,j,h,k=>by
  rw[ij];obtain⟨C,a⟩:=h;obtain⟨N,d⟩:=K;by_cases U:t<=n
  .rw[aD U];exact Ud ⟨N,d⟩ R _ ⟨I,I⟩ I
  rw[aA U];exact Ud ⟨N,d⟩ R _ ⟨C,a⟩ k
def UR{n:Int}(K:ga n):∀(R:List Int)(S:Int),ga S->n<=S->ga (R.foldl (λS t=>if n<=t then min S t else S) S)/\n<=R.foldl (λS t=>if n<=t then min S t else S) S
 |[],S,h,k=>⟨h,k⟩
 |t::R,S,h,k=>by
  rw[ij];obtain⟨C,a⟩:=h;obtain⟨N,d⟩:=K;by_cases U:n<=t
  .rw[aD U];exact UR ⟨N,d⟩ R _ ⟨I,I⟩ I
  rw[aA U];exact UR ⟨N,d⟩ R _ ⟨C,a⟩ k
def acP(K:ga n)(R:List Int):ga (KG n R)/\KG n R<=n:=Ud K R _ ⟨aj,aj⟩ K.1
def ac8(K:ga n)(R:List Int):ga (P3 n R)/\n<=P3 n R:=UR K R _ ⟨aj,aj⟩ K.2
def J5(h:okV 6 v):v.any=O'/\v.lo<=v.hi/\ga v.lo/\ga v.hi:=by have:=h.form;rw[aA aj]at this;exact⟨this.1,this.2,h.bd.lo,h.bd.hi⟩
def acg{x y:VV}:ie 6 x y↔x.any=y.any/\y.lo<=x.lo/\x.hi<=y.hi:=by rw[ie,aA aj]
def QM{u:VV}(h:okV 6 v)(R:List Int):okV 6 (VM u v R)/\ie 6 v (VM u v R):=by
 obtain⟨C,c,b,d⟩:=J5 h;have N:ga (wdL u v R)/\wdL u v R<=v.lo:=by
  unfold wdL;split
  .exact acP b R
  exact⟨b,fY⟩
 have a:ga (VO u v R)/\v.hi<=VO u v R:=by
  unfold VO;split
  .exact ac8 d R
  exact⟨d,fY⟩
 refine⟨⟨⟨N.1,a.1⟩,?_⟩,acg.2 ⟨rfl,N.2,a.2⟩⟩;rw[aA aj];exact⟨C,by show wdL u v R<=VO u v R;omega⟩
def ad9{P:Pm}{c next:PE}{v:EV}(f:Q<=8)(h:PR Q next v)(g:dw 6 Q v)(a:∃E,v=z' E)(b:∀i,Q<=i->c.at i=VV.z)(R:List Int)(x:Nat):∃z,PR Q (RL P R x c next) z/\dw 6 Q z/\iP 6 v z:=by
 obtain⟨E,rfl⟩:=a;unfold RL;split;rotate_left
 .exact⟨z' E,h,g,iO 6 _⟩
 have W:∀i,(vr c next R 8).at i=if i<Q then VM (c.at i) (next.at i) R else VV.z:=λi=>by
  rcases j8 i 8 with f|f;rotate_left
  .rw[K! _ f,aA I]
  rw[Jc _ _ _ _ aK,aD f];split
  .rfl
  rename_i S;have V:next.at i=VV.z:=by rw[h.2.2,bN,cq<|by rw[h.2.1];omega];rfl
  rw[b i I,V];rfl
 refine⟨z' ((range Q).map λi=>VM (c.at i) (next.at i) R),⟨by rw[YU];exact h.1,ak,λi=>?_⟩,λb e=>?_,λj a b k d=>?_⟩
 .rw[W,bN,a!];split
  .rename_i S;rw[j7 S];rfl
  rename_i S;rw[cq G'];rfl
 .cases e;refine⟨ak,λu C=>?_⟩;obtain⟨i,S,rfl⟩:=bG.1 C;have S:=cx.1 S;rw[h.2.2,bN,bj<|by rw[h.2.1];exact S];exact(QM ((g E rfl).2 _<|eG _) R).1
 have f:j<Q:=by rw[<-h.2.1];exact(aX.1 k).1
 rw[a!,j7 f]at d;simp at d;subst d;have e:next.at j=a:=by rw[h.2.2,bN,k];rfl
 rw[e];exact(QM ((g E rfl).2 _<|aO k) R).2
def gV(v:VV):Nat:=(v.lo+9223372036854775808).toNat+(9223372036854775807-v.hi).toNat
def gE(vs:List VV):Nat:=(vs.map gV).sum
def aau:∀(c d:List VV),ζ c=ζ d->(∀v∈c,okV 6 v)->(∀v∈d,okV 6 v)->iP 6 (z' c) (z' d)->gE d<=gE c/\(iP 6 (z' d) (z' c)\/gE d<gE c)
 |[],[],_,_,_,_=>⟨aK,aP λj x y h _=>by simp at h⟩
 |[],z::d,X,_,_,_=>by simp at X
 |u::c,[],X,_,_,_=>by simp at X
 |u::c,z::d,X,C,f,h=>by
  have B:=aau c d (H' X) (λv R=>C v<|by simp[R]) (λv R=>f v<|by simp[R]) λj x y a b=>h (j+1) x y (H' a)<|H' b;have D:=acg.1<|h 0 u z rfl rfl;obtain⟨l,i,g,k⟩:=J5<|C u ak;obtain⟨W,e,m,e⟩:=J5<|f z ak;obtain⟨q,o⟩:=g;obtain⟨g,i⟩:=k;obtain⟨s,r⟩:=m;obtain⟨f,f⟩:=e;have V:gE (z::d)=gV z+gE d:=by simp[gE]
  have d:gE (u::c)=gV u+gE c:=by simp[gE]
  have c:gV z<=gV u:=by unfold gV;omega
  rw[V,d];refine⟨I,?_⟩;by_cases T:u.lo<=z.lo/\z.hi<=u.hi
  .rcases B.2 with k|k
   .refine aP λj x y a b=>?_;cases j with
    |zero=>simp at a b;subst a b;exact acg.2 ⟨by rw[W,l],T.1,T.2⟩
    |succ j=>exact k j x y (H' a)<|H' b
   exact aR I
  refine aR ?_;have:gV z<gV u:=by unfold gV;omega
  have:=B.1;omega
def gP(nv:Nat)(e:PE):Nat:=if e.r then gE ((range nv).map e.at) else 300000000000000000001
def muB(nv:Nat)(hs:List PE):Nat:=(hs.map<|gP nv).sum
def Df{e:PE}{E:List VV}(h:PR Q e<|z' E):(range Q).map e.at=E:=by
 refine et λi=>?_;rw[a!];rcases j8 i Q with S|S
 .rw[j7 S,bj<|by rw[h.2.1];exact S];simp only[gK,dU];rw[h.2.2,bN,bj<|by rw[h.2.1];exact S];rfl
 rw[cq<|H' S,cq<|by rw[h.2.1];exact S];rfl
def M7:∀(E:List VV),(∀v∈E,okV 6 v)->gE E<=ζ E*36893488147419103230
 |[],_=>by simp[gE]
 |v::E,h=>by
  have B:=M7 E λu C=>h u (by simp[C]);obtain⟨a,R,⟨b,a⟩,⟨S,a⟩⟩:=J5<|h v ak;have V:gE (v::E)=gV v+gE E:=by simp[gE]
  rw[V,bU];unfold gV;omega
end
section
variable {P:Pm}{y:List PE}
def WJ{Q:Nat}{e:PE}{v:EV}(h:PR Q e v)(i:Nat)(S:Q<=i):e.at i=VV.z:=by
 cases v with
 |none=>rw[show e=PE.zero from h];exact Lw _ i
 |some E=>rw[h.2.2,bN,cq<|by rw[h.2.1];exact S];rfl
structure agh(P:Pm)(hs:List PE)(wt:BS):Prop where
  snd:∀i,i<ζ P.nd->bt wt i=O'->KB.gO (KB.cz P (bQ hs) i) (bQ hs i)=N'
def Ol{a b:Nat->PE}{n:Nat}(h:∀q∈P.ins n,a q.1=b q.1):KB.cz P a n=KB.cz P b n:=by unfold KB.cz;congr 1;exact eQ λq a=>by rw[h q a]
structure OpB(P:Pm)(ts:List Int)(hs:List PE)(x:Nat):Prop where
  good:∃v,PR P.nv (RL P ts x (bQ hs x)<|KB.jO (bQ hs x)<|KB.cz P (bQ hs) x) v/\dw 6 P.nv v
  snd:KB.gO (KB.cz P (bQ hs) x) (RL P ts x (bQ hs x)<|KB.jO (bQ hs x)<|KB.cz P (bQ hs) x)=N'
  less:gP P.nv (RL P ts x (bQ hs x)<|KB.jO (bQ hs x)<|KB.cz P (bQ hs) x)<gP P.nv (bQ hs x)
  bin:∀i,dM<|b8 ((KB.jO (bQ hs x)<|KB.cz P (bQ hs) x).at i)
def WM(e:cN P)(T:nD P)(p:ζ P.nx=ζ P.nd)(u:List Int)(j:KB.oM P<|bQ y)(q:KB.gO (KB.cz P (bQ y) x) (bQ y x)=O'):OpB P u y x:=by
 have h:=λm=>ui<|j m;have c:=KB.kB e T p h x;have F:=h x;generalize Classical.choose (j x)=v at F;generalize P.say 6 x _=s at c;have Q:=λi=>(KB.dK c.1 c.2 i).1;have p:=λi=>(KB.dK F.1 F.2 i).1;rw[J0 e.nv c.1 F.1 Q p]at q;have f:=Sk e.nv F.1 c.1 p Q;have l:=oZ F.2 c.2;cases s with
 |none=>simp[t?]at q
 |some E=>
  have r:∃h,qD 6 v (z' E)=z' h:=by cases v with|none=>exact⟨E,rfl⟩|some t=>exact⟨_,rfl⟩
  obtain⟨z,d,g,o⟩:=ad9 (P:=P) e.nv f l r (WJ F.1) u x;have R:=fh l c.2 (Tl F.2 c.2) o;have m:=λi=>(KB.dK d g i).1;refine⟨⟨z,d,g⟩,?_,?_,λi=>(KB.dK f l i).2⟩
  .rw[J0 e.nv c.1 d Q m];exact(ja c.2 g).2 R
  cases z with
  |none=>exact absurd R (by simp[iP])
  |some b=>
   have a:=g b rfl;unfold gP;rw[aD d.1,Df d];cases v with
   |none=>rw[show bQ y x=PE.zero from F.1];have:=M7 b a.2;have W:=e.nv;rw[a.1]at this;show _<300000000000000000001;have:P.nv*36893488147419103230<=8*36893488147419103230:=xP _ W;omega
   |some t=>
    rw[aD F.1.1,Df F.1];have e:=F.2 t rfl;have f:=fh l F.2 (aao F.2 c.2) o;rcases(aau t b (by rw[e.1,a.1]) e.2 a.2 f).2 with k|k
    .have:=(ja c.2 F.2).2<|fh g c.2 R k;rw[this]at q;cases q
    exact k
def snB(h:cN P)(T:nD P)(b:ζ P.nx=ζ P.nd)(R:List Int):KB.SnE (σ:=Unit) P (λs _ _ _=>s) (λ_ x c next=>RL P R x c next) (muB P.nv) (λ_ y c=>agh P y c) ():=by
 have j:=h.most;refine⟨⟨λi S a=>?_⟩,λ_ y c x g u F a=>⟨λi S B=>?_⟩,λ_ y c x g u F a=>⟨λi S B=>?_⟩,λ_ y c x g u F a=>(WM h T b R u.hd a).good,λ_ y c x g u F a=>?_⟩
 .rw[vV _ _ I I]at a;simp at a;omega
 .have d:=u.low x F;by_cases e:i=x
  .subst e;exact a
  refine g.snd i S ?_;rw[lU (jF I) I,rP I I]at B;simpa[e]using B
 .have d:=u.low x F;have f:x<ζ y:=by rw[u.len];exact d
  rw[iy,lX,lU (jF I) I,rP I I,JN j b x i I]at B;have c:KB.cz P (bQ<|y.set x<|RL P R x (bQ y x)<|KB.jO (bQ y x)<|KB.cz P (bQ y) x) i=KB.cz P (bQ y) i:=Ol λq j=>by rw[pZ f,aA];intro e;have d:=B.2;rw[show decide (i<ζ P.nd)=N' by simpa using S,eN]at d;exact nG d<|bG.2 ⟨q,j,e.symm⟩
  rw[c,pZ f];by_cases e:x=i
  .subst e;rw[aD rfl];exact(WM h T b R u.hd a).snd
  rw[aA e];refine g.snd i S ?_;have C:=B.1;simpa[show ¬i=x from λc=>e c.symm]using C
 refine yb PE.zero y x _ (by rw[u.len];exact u.low x F) ?_;exact(WM h T b R u.hd a).less
def wM(P:Pm)(hs:List PE):Prop:=∀i,i<ζ P.nd->KB.gO (KB.cz P (bQ hs) i) (bQ hs i)=N'
def Jp(d:cN P)(T:nD P)(b:ζ P.nx=ζ P.nd){a:Nat->EV}(V:∀m,PR P.nv (bQ y m) (a m)/\dw 6 P.nv (a m)):wM P y↔∀n,n<ζ P.nd->iP 6 (P.say 6 n a) (a n):=by unfold wM;refine forall_congr' λn=>imp_congr Iff.rfl ?_;have c:=KB.kB d T b V n;rw[J0 d.nv c.1 (V n).1 (λi=>(KB.dK c.1 c.2 i).1) λi=>(KB.dK (V n).1 (V n).2 i).1];exact ja c.2 (V n).2
def Jo(i:cN P)(T:nD P)(b:ζ P.nx=ζ P.nd)(j:KB.oM P<|bQ y)(X:ζ y=ζ P.nd)(F:x<ζ P.nd)(h:wM P y):wM P (y.set x<|KB.cz P (bQ y) x):=by
 obtain⟨a,V⟩:∃a:Nat->EV,∀m,PR P.nv (bQ y m) (a m)/\dw 6 P.nv (a m):=⟨λm=>Classical.choose<|j m,λm=>ui<|j m⟩;have g:x<ζ y:=by rw[X];exact F
 have c:=KB.kB i T b V x;have C:=(Jp i T b V).1 h
 have f:∀m,PR P.nv (bQ (y.set x<|KB.cz P (bQ y) x) m) (if x=m then P.say 6 x a else a m)/\dw 6 P.nv (if x=m then P.say 6 x a else a m):=λm=>by
  rw[pZ g];split
  .exact c
  exact V m
 have R:∀m,iP 6 (if x=m then P.say 6 x a else a m) (a m):=λm=>by
  split
  .rename_i e;subst e;exact C x F
  exact iO 6 _
 have d:=λn=>yj (aR rfl) T n (λm=>(f m).2) (λm=>(V m).2) R;refine(Jp i T b f).2 λn K=>?_;by_cases e:x=n
 .subst e;rw[aD rfl];exact d x
 rw[aA e];exact fh (gi (aR rfl) T n λm=>(V m).2) (gi (aR rfl) T n λm=>(f m).2) (d n)<|C n K
def L6{P:Pm}(b:cN P)(T:nD P)(a:ζ P.nx=ζ P.nd){y:List PE}(X:ζ y=ζ P.nd):∀k,k<=ζ P.nd->KB.oM P (bQ y)->wM P y->wM P (Ez P y k)/\KB.oM P (bQ<|Ez P y k)
 |0,_,j,h=>⟨h,j⟩
 |k+1,c,j,h=>by obtain⟨C,c⟩:=L6 b T a X k I j h;rw[yU];exact⟨Jo b T a c (by rw[sU];exact X) I C,TN b T a c<|by rw[sU,X];omega⟩
end
def jM(nv:Nat)(e:PE):Nd:=⟨[],[],e.r,0,kg e nv⟩
def abm{Q:Nat}{e:PE}{v:EV}(h:PR Q e v)(a:dw 6 Q v):gC (jM Q e) (-1)=v:=by
 unfold gC;cases v with
 |none=>rw[aD (aP<|by rw[show e=PE.zero from h];rfl)]
 |some E=>
  rw[aA<|by simp[jM,h.1]];congr 1;show(kg e Q).map (cS (-1))=E;rw[kg,h.1,aD rfl,Vt,fS];refine Eq.trans (eQ λi S=>?_)<|Df h;have S:=cx.1 S;show cS (-1) (rgW<|e.at i)=e.at i;have:okV 6 (e.at i):=by rw[h.2.2,bN,bj<|by rw[h.2.1];exact S];exact(a E rfl).2 _<|eG _
  have a:=(J5 this).1;rw[mH];show(⟨O',(e.at i).lo,(e.at i).hi⟩:VV)=_;rw[<-a]
def abU{P:Pm}{y:List PE}(s:cN P)(T:nD P)(t:ζ P.nx=ζ P.nd)(X:ζ y=ζ P.nd)(j:KB.oM P<|bQ y)(h:wM P y):YF P 6 ⟨6,2,y.map<|jM P.nv⟩:=by
 have d:=s.most;have d:=s.nv;obtain⟨a,V⟩:∃a:Nat->EV,∀m,PR P.nv (bQ y m) (a m)/\dw 6 P.nv (a m):=⟨λm=>Classical.choose<|j m,λm=>ui<|j m⟩
 have b:∀e∈y,∃v,PR P.nv e v/\dw 6 P.nv v:=λe l=>by
  obtain⟨i,S⟩:=gF.1 l;have:bQ y i=e:=by rw[bQ,bN,S];rfl
  rw[<-this];exact j i
 have c:∀e∈y,ζ (kg e P.nv)<=8/\(e.r=N'->ζ (kg e P.nv)=P.nv)/\∀v∈kg e P.nv,v.aH=3/\v.bY=O'/\v.first=0/\v.rank=0/\v.lo<=v.hi/\ga v.lo/\ga v.hi:=λe l=>by
  obtain⟨v,C,q⟩:=b e l;unfold kg;cases g:e.r with
  |false=>simp
  |true=>
   simp only[dQ,wT];refine⟨d,λ_=>trivial,λu B=>?_⟩;obtain⟨i,S,rfl⟩:=bG.1 B;have S:=cx.1 S;cases v with
   |none=>rw[show e=PE.zero from C]at g;cases g
   |some E=>
    have:okV 6 (e.at i):=by rw[C.2.2,bN,bj<|by rw[C.2.1];exact S];exact(q E rfl).2 _<|eG _
    obtain⟨_,k,f,w⟩:=J5 this;exact⟨rfl,rfl,rfl,rfl,k,f,w⟩
 refine⟨?_,?_,?_⟩
 .simp only[qi,known,aY,bM,bV,b9];refine⟨⟨ak,by rw[X];omega⟩,λx F=>?_⟩;obtain⟨e,l,rfl⟩:=bG.1 F;obtain⟨C,q,N⟩:=c e l;rw[cY,aA aj];cases g:e.r with
  |false=>simp[jM,g,l!,kg]
  |true=>simp only[jM,g,dQ,jR,rk,aY,bM,bV,isEmpty_nil,n!,eZ];refine⟨⟨⟨C,I,I⟩,aR trivial⟩,λv R=>?_⟩;obtain⟨b,k,f,w,o,_⟩:=N v R;simp[gG,b,k,f,w,o]
 .have z:∀x∈y.map (jM P.nv),ζ (d! 6 2 x)<=300:=λx F=>by
   obtain⟨e,l,rfl⟩:=bG.1 F;obtain⟨C,q,N⟩:=c e l;rw[d!,aA aj];split;rotate_left
   .simp
   simp only[rL,bU,bg];rw[aA aj];have b:ζ (fJ<|ζ (jM P.nv e).aM)<=1:=hZ (k:=0) (by show(kg e P.nv).length<_;omega)
   have b:=jY (f:=fD 6 2) (b:=20) (jM P.nv e).aM λv R=>by
    obtain⟨_,_,_,_,o,K,k⟩:=N v R;have b:=yf K
    have o:ζ (fJ (v.hi-v.lo).toNat)<=10:=hZ (k:=9) (by
     obtain⟨R,b⟩:=K;obtain⟨i,b⟩:=k
     omega)
    rw[fD,aD rfl];simp;omega
   have W:ζ (jM P.nv e).aM<=8:=C;simp at *;omega
  have:=jY (f:=d! 6 2) (b:=300) (y.map<|jM P.nv) z;simp only[kH,o4,bg,bU,eY,b9]at this|-;have q:ζ (fJ<|ζ y)<=1:=hZ (k:=0) (by rw[X];omega);rw[X]at this;omega
 have p:lh P ⟨6,2,y.map<|jM P.nv⟩=N':=by
  simp only[lh,aY,bM,bV,eZ,jo,b9];refine⟨X,λx F=>?_⟩;obtain⟨e,l,rfl⟩:=bG.1 F;refine⟨λf Y=>(by cases Y),?_⟩;cases g:e.r with
  |false=>exact aP g
  |true=>exact aR ((c e l).2.1 g)
 have r:∀n,eg ⟨6,2,y.map<|jM P.nv⟩ (-1) n=a n:=λn=>by
  have:(⟨6,2,y.map<|jM P.nv⟩:Ct).at n=jM P.nv (bQ y n):=by
   rw[Ct.at,bQ,bN,a!,bN];cases y[n]? with
   |none=>rfl
   |some e=>rfl
  rw[eg,this];exact abm (V n).1 (V n).2
 have B:ye P ⟨6,2,y.map<|jM P.nv⟩=N':=by simp only[ye,bV,cx];intro n K;rw[show eg ⟨6,2,y.map<|jM P.nv⟩ (-1)=a from funext r];exact(ja (gi (aR rfl) T n λm=>(V m).2) (V n).2).2 ((Jp s T t V).1 h n K)
 simp only[pg,p,B];simp
section
attribute [local go_sem] Oper.semAt_some
def zb{S:Nat->Obj->Prop}{w W:p'}(h:Ky S w W)(y:∀k o,S k o->δ w.1<=k):Bl w W:=
 ⟨h.os,h.tape,h.output,h.size,λk a=>by
  cases a:w.1[k]? with
  |none=>have:=Array.getElem?_eq_none_iff.1 a;omega
  |some o=>exact h.keep k o a λV=>I'<|y k o V⟩
def Wi(nv N:Nat)(hs:List PE)(i:Nat):List Nd:=(range N).map λk=>if k<i then jM nv (bQ hs k) else qm
def R2(Q N:Nat)(y:List PE):Wi Q N y 0=replicate N qm:=by unfold Wi;refine CD.2 ⟨ak,λb a=>?_⟩;obtain⟨k,_,rfl⟩:=bG.1 a;simp
def R3(Q N:Nat)(y:List PE){i:Nat}(h:i<N):(Wi Q N y i).set i (jM Q<|bQ y i)=Wi Q N y (i+1):=by
 refine et λk=>?_;rw[e5];unfold Wi;rw[b9,qP,a!,a!];by_cases a:i=k
 .subst a;rw[aD rfl,aD h,j7 h];simp
 rw[aA a];cases a:(range N)[k]? with
 |none=>rfl
 |some q=>
  obtain⟨C,b⟩:=aX.1 a;rw[IX]at b;subst b;simp only[gK,dU];by_cases N:k<i
  .rw[aD N,aD I]
  rw[aA N,aA I]
def Wh(Q:Nat)(y:List PE):Wi Q (ζ y) y (ζ y)=y.map (jM Q):=by
 refine et λk=>?_;unfold Wi bQ;rw[a!,a!];rcases j8 k (ζ y) with h|h
 .rw[j7 h,bj h];simp[h,bN]
 rw[cq<|by simpa using h,cq h];rfl
def zp(g s u:Nat)(D:List NC)(P:Pm)(pa ta:t')(pl pc tc:Nat)(R:List Int)(f:Int)(w:p')(hP:PM w g s D P)(j:cN P)(T:nD P)(ho:px P)(F:ζ P.nx=ζ P.nd)(b:lV w)(V:jC w u<|g' pa pl pc)(x:u<δ w.1)(z:bK w ta R)(X:∀t∈R,ga t)(L:ζ R<=maxLen)(Is:ga f):
  Cl 89 #[je g (ζ P.nd) s P.nv,j' #[g' pa pl pc,g' ta (ζ R) tc,G f]] w λe K=>∃nb Y,e=n' (cG nb<|ζ P.nd)/\jG w.1.size K nb (Y.map<|jM P.nv)/\ζ Y=ζ P.nd/\KB.oM P (bQ Y)/\wM P Y/\Below w.1.size w K:=by
 have hm:=j.most;have U:=j.nv;have E:=hid λW hW=>Lg g s P.nv D P W (hP.below hW) j;have g:=dW<|b 0 aj;have CI:=hid λq db B hb Y W C h2 g h4 h5=>Kb q db B hb P Y W C h2 j T ho F g h4 h5;have GC:J (∀Y:List PE,ζ Y=ζ P.nd->KB.oM P (bQ Y)->wM P Y->wM P (Ez P Y<|ζ P.nd)):=λY C h2 g=>(L6 j T F C _ aK h2 g).1
 have GP:=hid λ(e:PE) W=>yv e P.nv W U;have VI:J (∀W4 q db B sb tb,Below w.1.size w W4->KB.rA W4 B q P->W4.1[db]?=z' (i' #[.iface 331<|j' #[]] 386 (0,0))->W4.1[sb]?=z' (ad4 q db<|ζ P.nd)->W4.1[tb]?=z' (ad1 (g' pa pl pc) ta (ζ R) tc f)->Cl 144 #[KB.fZ q db<|ζ P.nd,g' pa pl pc,.func (.func 145) #[]<|r9 sb tb] W4 λe K=>∃Y hb,e=n' (cG hb<|ζ P.nd)/\δ w.1<=hb/\K.1[hb]?=z' (i' (θ<|KB.bp Y) KB.bL (0,0))/\Bl W4 K/\ζ Y=ζ P.nd/\KB.oM P (bQ Y)/\wM P Y):=by
  intro W4 q db B sb tb b4 AS D hsb AR;have s:=b4.size
  have hr:=KB.uk (σ:=Unit) (λ_ _=>False) (λ_ _=>True) q db B 145 u P (r9 sb tb) pa pl pc W4 (λs _ _ _=>s) (λ_ x u next=>RL P R x u next) (muB P.nv) (λ_ Y wt=>agh P Y wt) () (λW hW=>AS.below<|zb hW λ_ _ h=>h.elim) D (λh=>h) j T ho F (snB j T F R)
   ⟨λ_ _ h=>h.elim,λ_ _ _ _ _ h=>h.elim,λ_ _ _ h _=>h,λ_ h=>h,λ_ h=>h,I,λD w=>Tryz.call145 D w,?_⟩ ⟨A',rfl,lq⟩ (b.below b4) (V.keep λo u h=>aB h b4) trivial
  .refine hr.mono ?_;rintro e K ⟨s,Y,rfl,C,_,g,h4,h5⟩;exact⟨Y,_,rfl,I,C,zb g λ_ _ h=>h.elim,h5.len,h5.hd,λi hi=>h4.snd i hi<|j3 i⟩
  intro s Y wt W x g hS s hb _ _ hk;have g:=zb hk λ_ _ h=>h.elim;have:=DI q db B x sb tb P (g' pa pl pc) ta tc R f (bQ Y x) (KB.jO (bQ Y x)<|KB.cz P (bQ Y) x) W (aG g hsb) (aG g AR) (AS.below g) j F (hS.low x s) (z.below<|aq b4 g) X L (WM j T F R hS.hd hb).bin;refine this.mono ?_;rintro e K ⟨C,h2⟩;exact⟨C,trivial,Ky.of h2⟩
 obtain⟨N,p⟩:=Ea<|ζ P.nd;obtain⟨nv,r⟩:∃nv,nv=P.nv:=⟨_,rfl⟩;have K:=hid p;have g:=hid r;rw[<-p]at E CI GC VI hm|-;rw[<-r]at E GP U|-;obtain⟨i2,l,k,m,g⟩:=cI tg;have EG:J (_/\_/\_/\_):=⟨l,k,m,g⟩;clear hP j T ho F b V p r l k m g z X L;generalize ζ R=tn at *;simp only[je,KB.fZ]at E CI VI|-;go_enter func89,ntmps89;go_upto_region 1 with(fail)
 refine gnB (F:=Code.wp _ _ _ _) λW0 U=>?_;obtain⟨r,m⟩:=A U.b;go_upto_region 2 with(go_at_call 143;refine(E.o _ U.a).mono ?_;rintro e D ⟨q,db,rfl,a1,a2,b⟩;have B:=hid<|Aa a1<|Aa a2 b;clear a1 a2 b r m)
 refine qo (F:=Code.wp _ _ _ _) λF u=>?_;have s:=u.a;have g:=aq B.B s;have x:=aq U.a g;obtain⟨r,m⟩:=A u.b;obtain⟨y1,y2⟩:=A<|aG g U.c;go_upto_region 3 with(go_at_call 144;refine(VI.o F q db W0.1.size D.1.size (δ w.1+1) x (B.a.below s) (aG s B.b) u.b<|aG g U.c).mono ?_;rintro e W3 ⟨T,hb,rfl,a1,a2,b,k,j,l⟩;have z:=hid<|Aa a1<|Aa a2<|Aa b<|Aa k<|Aa j l;clear a1 a2 b k j l r m y1 y2)
 have E:=z.c;have D:=aq x E;obtain⟨y1,y2⟩:=A<|aG E<|aG g U.c;go_wp2_with fail;clear y1 y2;have x:=z.a;have p:=hid<|Aa ((B.a.below s).below E)<|Aa (aG E<|aG s B.b)<|Aa (aG E u.b)<|Aa (aG E<|aG g U.b) D;go_loopw[19] (λiv wr=>∃(j:Nat)(Y:List PE),iv=G j/\((j:Int)<=f\/j=0)/\J (wr.1[hb]?=z' (i' (θ<|KB.bp Y) KB.bL (0,0))/\ζ Y=N/\KB.oM P (bQ Y)/\wM P Y/\Kx (λk=>k=hb) W3 wr)) (λiv _=>(f-intOf iv).toNat)
 case atStart=>exact⟨0,T,rfl,aR rfl,z.b,z.d,z.e,z.E,vf⟩
 obtain⟨j,Y,rfl,hj,HK⟩:=hrel;have l:KtC W3 wr (KB.OS++[242,86]):=λk L t C h2=>HK.D.box C λe=>by subst e;rw[z.b]at C;rw[<-(e?<|cJ C).2.1]at h2;revert h2;decide
 have AN:=hid<|Aa (p.a.ty λk L t C h2=>l k L t C<|iF.2<|aP h2)<|Aa (l _ _ _ p.b aj)<|Aa (l _ _ _ p.c aj)<|l _ _ _ p.d aj;clear l;have g:=Is.2;by_cases L:(j:Int)<f
 .obtain⟨r,m⟩:=A AN.c;go_wp2_with (go_at_call 148;refine(CI.o q db W0.1.size hb Y wr AN.a AN.b HK.b HK.c HK.a).mono ?_;rintro e X ⟨⟨v,rfl⟩,a1,a2,b⟩;have HX:=hid<|Aa a1<|Aa a2 b;clear a1 a2 b r m);go_roundw
  case rel=>exact⟨j+1,Ez P Y N,e',aP I,HX.a,by rw[sU];exact HK.b,HX.B,GC.o Y HK.b HK.c HK.d,HK.D.trans HX.b⟩
  exact F'
 ·
  go_upto_region 8 with(at_make;refine gL _ rfl (.tmp 26) (.tmp 26) 46 rfl wr.1.size 96 i2 _ 5 underlying46 EG.a EG.b EG.c .i64 .i64 N N N rfl rfl rfl rfl (by rw[EG.C];omega) (by unfold maxLen;omega) ak ?_;intro W4 b F;have l:=hid<|Aa b F;clear b F)
  have r:J (W4.1[δ wr.1]?=z' (i' (θ<|eO<|replicate N vn0) 96 (0,0))/\Below wr.1.size wr W4):=by have C:=l.a;rw[dF _ 5 (by simp[Value.cells]) N]at C;refine⟨?_,aQ.grown l.A aK (λq e=>by cases e)⟩;rw[(eJ C).1,<-M?];rfl
  have b:=blt HK.a;have b:δ w.1<δ W3.1:=by have:=blt AN.C;have:=HK.D.size;have:=blt p.d;omega
  have b:=HK.D.size;have H4:=hid (Aa (aG r.A HK.a)<|Aa (aG r.A AN.C)<|show Below w.1.size w W4 from aq (p.D.trans<|HK.D.below I λk e=>I) r.A);have b:=blt r.a;generalize b:δ wr.1=nb at *;clear l;go_wp2_with fail;go_loopw[30] (λiv q=>∃(i:Nat)(l:List VN),i<=N/\iv=G i/\J (z? nb nb N l q/\l.map LM=Wi nv N Y i/\Kx (λk=>k=nb) W4 q)) (λiv _=>N-(intOf iv).toNat)
  case atStart=>exact⟨0,_,bm,rfl,Gk r.a,by rw[R2,qR];rfl,vf⟩
  obtain⟨i,l,hi,rfl,HL⟩:=hrel;by_cases m:i<N;rotate_left
  .have jy:¬(i:Int)<N:=I;obtain rfl:i=N:=I;go_wp2_with fail;refine aE (v:=g' (z'<|O nb 0) i i) (by simp[results89,go_sem]) rfl ⟨nb,rfl,Y,?_,HK.b,HK.c,HK.d,?_⟩
   .have C:=HL.a.fr (B':=δ w.1) I I;rw[HL.b]at C;have h2:=Wh nv Y;rw[HK.b]at h2;rwa[h2]at C
   exact H4.B.trans (HL.B.below I λk e=>I)
  have jy:(i:Int)<N:=I;have f:=HL.B.box H4.a I;have hg2:=HL.B.box H4.b I;have g:Y[i]?=z' (bQ Y i):=by unfold bQ;rw[bN,bj<|by rw[HK.b];exact m];rfl
  have hrg:wr.rangeAt hb (i*17) (KB.aT<|bQ Y i):=by obtain⟨b,o,e,hr⟩:=KB.mL f i _ g;cases e;rwa[bH]at hr
  have HNx:=hid<|R3 nv N Y m;generalize bQ Y i=e at *;go_upto_region 11 with(first|(refine wpList_load_mid rfl KB.bL (.tmp 33) rfl hb (i*17) rfl (KB.aT e) _ hrg KB.gU rfl M ?_)|(refine wpList_store_mid rfl KB.bL (.tmp 9) (.tmp 34) rfl wr.1.size 0 (θ<|KB.aT e) rfl rfl (cK (n:=17) cv rfl) M (KB.bO _) ?_))
  refine PI (F:=Code.wp _ _ _ _) rfl λU HU=>?_;simp only[Act.put];have f:=bu HU.a;obtain⟨y1,y2⟩:=A<|aG HU.A hg2;have b:=hid<|HL.a.below HU.A;have g:=HL.B.size;go_upto_region 12 with(first|(refine wpList_load_mid rfl KB.bL (.tmp 9) rfl wr.1.size 0 rfl (KB.aT e) _ f KB.gU rfl M ?_)|(go_at_call 149;refine(GP.o e U).mono ?_;rintro _ X ⟨a,c,rfl,a1,a2⟩;have HX:=hid<|Aa a1 a2;clear a1 a2 y1 y2 f)|(refine wpList_store_mid rfl 96 (.tmp 41) (.tmp 40) rfl nb (i*5) #[g' A' 0 0,g' A' 0 0,h' e.r,G 0,g' a (ζ<|kg e nv) c] rfl rfl (vu (b.o.below HX.A).dy<|by rw[b.o.len];exact m) M (nd5 _ _ _ _) ?_))
  obtain⟨e2,he2,Vz,hl2⟩:=b.o.first (x:=i) (rk:=0) (rd:=e.r) m HX.a rfl HX.A (I' HU.A.size);have b:=hid (Aa hl2<|show Kx (λk=>k=nb) W4 (ψ X nb (i*5)<|si e2)from s5 (S:=λk=>k=nb) (aP rfl) (HL.B.trans<|Kx.of<|aq HU.A HX.A) _ _);have s:J ((l.set i e2).map LM=Wi nv N Y (i+1)):=by show _=_;rw[uh,HL.b,Vz,<-HNx.o];rfl
  rw[he2]at b;generalize ψ X nb (i*5) [g' A' 0 0,g' A' 0 0,h' e.r,G 0,g' a (ζ<|kg e nv) c]=Y at b|-;simp only[Act.put];clear he2 Vz hl2;go_wp2_with fail;go_roundw
  case rel=>exact⟨i+1,l.set i e2,m,e',b.a,s.o,b.A⟩
  exact F'
end
section
variable {P:Pm}{y:List PE}
def cH{x:Int}(h:0<=x/\x<=100000):ga x:=⟨I,I⟩
def Bk:∀(l:List Int)(Y:Int),dI Y l=N'->∀x∈l,Y<=x/\x<=100000
 |[],_,_,x,h=>by cases h
 |a::l,Y,h,x,hx=>by
  simp only[dI,aY,bM]at h;rcases cM.1 hx with rfl|hx
  .exact h.1
  have:=Bk l (a+1) h.2 x hx;omega
def acW{c:Ct}(o:qi c=N')(U:c.aL<=4):rV c:=by
 unfold qi at o;simp only[known,aY,bM,bV,eZ]at o;obtain⟨⟨⟨⟨c,c⟩,N⟩,d⟩,l⟩:=o;refine⟨⟨I,I⟩,by rcases N with h|h;(· rw[h];exact cH I);rw[h.1];exact cH I,λn K=>?_,I⟩
 have h:=l n K;unfold cY at h;rw[aD U]at h;simp only[gH,aY,bM,og]at h;obtain⟨⟨⟨⟨N,e⟩,b⟩,C⟩,t⟩:=h;have X:=pL C;have a:(∀r∈n.bf,ga r)/\ζ n.bf<=100001:=by
  unfold iL at t;split at t
  .simp only[aY,bM,bV,rk]at t;exact⟨λr a=>cH<|t.2 r a,I⟩
  rw[og.1 t];simp
 exact⟨λf Y=>cH<|I'<|Bk _ _ C f Y,a.1,by rw[e];exact cH I,by rw[b];simp,I,I,by rw[b];simp⟩
def acX{s:Nat×List Nd}(b:cN P)(i:mB P s y (0,0)):rV (gT s.2):=by
 have d:=b.most;have a:=i.fJ;refine⟨cH<|show 0<=(5:Int)/\(5:Int)<=100000 by omega,cH<|show 0<=(1:Int)/\(1:Int)<=100000 by omega,λn K=>?_,by show ζ s.2*88<=_;rw[i.len];omega⟩;have h:=i.Ik n K;have a:0<=n.rank/\n.rank<=100000:=by
  cases V:n.aF with
  |true=>have:=h.wA V;omega
  |false=>have:=h.out V;omega
 have R:ζ n.aM<=8:=by
  cases V:n.aF with
  |true=>rw[(h.wA V).1];exact b.nv
  |false=>rw[(h.out V).2];simp
 refine⟨by rw[h.fr.1];simp,by rw[h.fr.2];simp,cH a,λv R=>?_,by rw[h.fr.1];simp,by rw[h.fr.2];simp,I⟩;have k:=h.each v R;refine⟨?_,k.lo,by rw[k.hi];exact cH I,k.first,?_⟩
 .rcases k.form with f|f|f
  .rw[f.1];exact cH I
  .rw[f.1];exact cH I
  rw[f.1];exact cH I
 rcases k.form with f|f|f
 .rw[f.2.2.2];exact cH I
 .exact cH I
 rw[f.2.2.2.2];exact cH I
def acY(g:cN P)(X:ζ y=ζ P.nd)(j:KB.oM P<|bQ y):rV ⟨6,2,y.map<|jM P.nv⟩:=by
 have d:=g.most;refine⟨cH<|show 0<=(6:Int)/\(6:Int)<=100000 by omega,cH<|show 0<=(2:Int)/\(2:Int)<=100000 by omega,λn K=>?_,by show(y.map<|jM P.nv).length*88<=_;rw[b9,X];omega⟩;obtain⟨e,l,rfl⟩:=bG.1 K;obtain⟨i,S⟩:=gF.1 l;have R:∃v,PR P.nv e v/\dw 6 P.nv v:=by
  have:bQ y i=e:=by rw[bQ,bN,S];rfl
  rw[<-this];exact j i
 obtain⟨v,c,h⟩:=R;have L:ζ (kg e P.nv)<=8:=by
  unfold kg;split
  .rw[wT];exact g.nv
  simp
 refine⟨λf Y=>(by cases Y),λf Y=>(by cases Y),cH<|show 0<=(0:Int)/\(0:Int)<=100000 by omega,λu C=>?_,by simp[jM],by simp[jM],by show(kg e P.nv).length*48<=_;omega⟩;have C:u∈kg e P.nv:=C;unfold kg at C;cases a:e.r with
 |false=>rw[a]at C;simp at C
 |true=>
  rw[a,aD rfl]at C;obtain⟨k,b,rfl⟩:=bG.1 C;have b:=cx.1 b;cases v with
  |none=>rw[show e=PE.zero from c]at a;cases a
  |some E=>
   have:okV 6 (e.at k):=by rw[c.2.2,bN,bj<|by rw[c.2.1];exact b];exact(h E rfl).2 _<|eG _
   obtain⟨_,_,f,w⟩:=J5 this;exact⟨cH<|show 0<=(3:Int)/\(3:Int)<=100000 by omega,f,w,cH<|show 0<=(0:Int)/\(0:Int)<=100000 by omega,cH<|show 0<=(0:Int)/\(0:Int)<=100000 by omega⟩
end
section
attribute [local go_sem] Oper.semAt_some
structure FdC(P:Pm)(p:Int)(nb:Nat)(c:Ct)(w w':p'):Prop where
  pr:c.aL=p
  gr:c.grade=if p=6 then 2 else 1
  len:ζ c.nodes=ζ P.nd
  at_:cw w' (z'<|O nb 0) c.nodes
  ok:YF P p c
  wA:rV c
  b:Bl w w'
def acZ(a b:Int)(x:t')(j c:Nat):(#[G a,G b,g' x j c]).all (·.oneCell')=N':=all_oneCell_toArray (cs:=[G a,G b,g' x j c]) (by
 intro u C;simp only[cM,dR,dz]at C
 rcases C with rfl|rfl|rfl<;>rfl)
def Uh(g q Y:Nat)(D:List NC)(P:Pm)(p:Int)(pa ta:t')(pl x tc:Nat)(R:List Int)(f:Int)(w:p')(hP:PM w g q D P)(s:NW P)(hp:1<=p/\p<=6)(b:lV w)(l:jC w Y<|g' pa pl x)(j:Y<δ w.1)(C:bK w ta R)(B:∀t∈R,ga t)(z:ζ R<=maxLen)(t:ga f):
  Cl 43 #[je g (ζ P.nd) q P.nv,G p,j' #[g' pa pl x,g' ta (ζ R) tc,G f]] w λe j=>∃k c,e=n' (j' #[G p,G c.grade,g' (z'<|O k 0) (ζ P.nd)<|ζ P.nd])/\FdC P p k c w j:=by
 have HS:=hid λr W j=>DN g q Y D P p pa pl x W (hP.below j) s.ok s.nx s.key ⟨hp.1,r⟩ (b.below j) (l.keep λo u h=>aB h j) (by have:=j.size;omega);have HK:=hid λW j=>tA g q Y D P pa pl x W (hP.below j) s.ok s.cs s.op s.nx (b.below j) (l.keep λo u h=>aB h j) (by have:=j.size;omega);have HR:=hid λW j=>zp g q Y D P pa ta pl x tc R f W (hP.below j) s.ok s.cs s.op s.nx (b.below j) (l.keep λo u h=>aB h j) (by have:=j.size;omega) (C.below j) B z t;have T:=hid s;obtain⟨N,E⟩:=Ea<|ζ P.nd;obtain⟨f,m⟩:=Ea P.nv;have K:=hid E;have CE:=hid m;have f:ga p:=⟨I,I⟩;rw[<-E,<-m]at HS HK HR|-;clear hP s b l C B z E m;generalize ζ R=tn at *;simp only[je]at HS HK HR|-;go_enter func43,ntmps43;go_upto_region 1 with(fail)
 refine gn3 (F:=Code.wp _ _ _ _) λV B=>?_;have HZ:=hid B.D;obtain⟨E,x2⟩:=A B.b;obtain⟨y1,y2⟩:=A B.c;by_cases l:p=5
 .subst l;go_wp2_with (first|(go_at_call 88;refine(HK.o _ B.a).mono ?_;rintro e X ⟨k,s,hs,rfl,z,F,b⟩;have m:=hid<|Aa b<|Aa z F;clear z F b E x2 y1 y2;have U:=cK (n:=3) (aG m.a B.d) rfl)|(refine wpList_store_mid rfl 51 (.tmp 6) (.tmp 15) rfl (δ w.1+1+1) 0 #[G 5,G 1,g' (z'<|O k 0) N N] rfl rfl U M (acZ _ _ _ _ _) ?_));have L:=cX (cs:=[G 0,G 0,g' A' 0 0]) (aG m.a B.d) (vs:=[G 5,G 1,g' (z'<|O k 0) N N]) rfl;have C:=run_loadVar_mid (P:=Tryz.prog) (ψ X (δ w.1+1+1) 0 [G 5,G 1,g' (z'<|O k 0) N N]) (δ w.1+1+1) 0 51 _ _ (bu L) underlying51 rfl M;have hz:=HZ.o;refine aE (v:=j' #[G 5,G 1,g' (z'<|O k 0) N N]) (by simp[results,results43,C,Act.put,asAddr]) rfl ⟨k,gT s.2,rfl,?_⟩;exact⟨rfl,rfl,m.B.len,m.b.set<|show δ w.1+1+1<δ V.1 by omega,abT T.o.ok T.o.cs m.B,acX T.o.ok m.B,dJ I _ _ _<|aq B.a m.a⟩
 by_cases h6:p=6
 .subst h6;go_wp2_with (first|(go_at_call 89;refine(HR.o _ B.a).mono ?_;rintro e X ⟨k,hs,rfl,z,f,o,F,b⟩;have m:=hid<|Aa b<|Aa z<|Aa f<|Aa o F;clear z F b E x2 y1 y2;have U:=cK (n:=3) (aG m.a B.d) rfl)|(refine wpList_store_mid rfl 51 (.tmp 6) (.tmp 22) rfl (δ w.1+1+1) 0 #[G 6,G 2,g' (z'<|O k 0) N N] rfl rfl U M (acZ _ _ _ _ _) ?_));have L:=cX (cs:=[G 0,G 0,g' A' 0 0]) (aG m.a B.d) (vs:=[G 6,G 2,g' (z'<|O k 0) N N]) rfl;have C:=run_loadVar_mid (P:=Tryz.prog) (ψ X (δ w.1+1+1) 0 [G 6,G 2,g' (z'<|O k 0) N N]) (δ w.1+1+1) 0 51 _ _ (bu L) underlying51 rfl M;have hz:=HZ.o;refine aE (v:=j' #[G 6,G 2,g' (z'<|O k 0) N N]) (by simp[results,results43,C,Act.put,asAddr]) rfl ⟨k,⟨6,2,hs.map<|jM P.nv⟩,rfl,?_⟩;exact⟨rfl,rfl,by rw[b9];exact m.c.trans K.o,(CE.o▸m.b:jG _ _ _<|hs.map<|jM P.nv).set<|show δ w.1+1+1<δ V.1 by omega,abU T.o.ok T.o.cs T.o.nx (m.c.trans K.o) m.d m.D,acY T.o.ok (m.c.trans K.o) m.d,dJ I _ _ _<|aq B.a m.a⟩
 have r:p<=4:=I;go_wp2_with (first|(go_at_call 90;refine(HS.o r _ B.a).mono ?_;rintro e X ⟨k,l,rfl,z,F,b⟩;have m:=hid<|Aa b<|Aa z F;clear z F b E x2 y1 y2;have U:=cK (n:=3) (aG m.a B.d) rfl)|(refine wpList_store_mid rfl 51 (.tmp 6) (.tmp 29) rfl (δ w.1+1+1) 0 #[G p,G 1,g' (z'<|O k 0) N N] rfl rfl U M (acZ _ _ _ _ _) ?_));have L:=cX (cs:=[G 0,G 0,g' A' 0 0]) (aG m.a B.d) (vs:=[G p,G 1,g' (z'<|O k 0) N N]) rfl;have C:=run_loadVar_mid (P:=Tryz.prog) (ψ X (δ w.1+1+1) 0 [G p,G 1,g' (z'<|O k 0) N N]) (δ w.1+1+1) 0 51 _ _ (bu L) underlying51 rfl M;have hz:=HZ.o;refine aE (v:=j' #[G p,G 1,g' (z'<|O k 0) N N]) (by simp[results,results43,C,Act.put,asAddr]) rfl ⟨k,⟨p,1,l.map uJ⟩,rfl,?_⟩;exact⟨rfl,by rw[aA h6],by rw[b9];exact m.c,m.b.set<|show δ w.1+1+1<δ V.1 by omega,SG (R0 T.o.ok T.o.nx ⟨hp.1,r⟩) ⟨hp.1,r⟩ m.B,acW (SG (R0 T.o.ok T.o.nx ⟨hp.1,r⟩) ⟨hp.1,r⟩ m.B).ok r,dJ I _ _ _<|aq B.a m.a⟩
end
def lu.mono{W:p'}{B f:Nat}{x:N5}(h:lu W B x)(a:f<=B):lu W f x:=⟨c8 h.f a,c8 h.r a,c8 h.v a,h.ap⟩
section
variable {s:x'}{p:Int}
attribute [local go_sem] Oper.semAt_some
def AnR(s:x')(p:Int)(e:Ending):Prop:=match iD s with
 | .inl b=>e=n' (o' #[k' ⟨#[]⟩,G<|if b then 2 else 1])
 | .inr q=>∃ps c,kC 0 [] (q.1.map PN.bB)=z' ps/\e=n' (o' #[k' ⟨θ<|kH c⟩,G 0])/\c.aL=p/\c.grade=(if p=6 then 2 else 1)/\YF (l8 q.1 ps<|ζ q.2) p c/\rV c
def adw{b:Bool}(h:iD s=.inl b):AnR s p (n'<|o' #[k' ⟨#[]⟩,G<|if b then 2 else 1]):=by rw[AnR,h]
def agf{o:List PN}{E:List bI}{S:List (bI×Nat)}{c:Ct}(h:iD s=.inr (o,E))(C:kC 0 [] (o.map PN.bB)=z' S)(a:c.aL=p)(N:c.grade=(if p=6 then 2 else 1))(d:YF (l8 o S<|ζ E) p c)(l:rV c):AnR s p (n'<|o' #[k' ⟨θ<|kH c⟩,G 0]):=by rw[AnR,h];exact⟨S,c,C,rfl,a,N,d,l⟩
def CM(s:x')(p:Int)(N:Nat)(u o:t')(n B tc:Nat)(R:List Int)(f:Int)(w:p')(hE:Env w)(r:lV w)(hp:1<=p/\p<=6)(l:jC w N<|g' u n B)(t:N<δ w.1)(t:n<=200)(Y:bK w o R)(q:∀t∈R,ga t)(t:ζ R<=20)(k:0<=f/\f<=8):
  Cl 18 #[k' s,G p,j' #[g' u n B,g' o (ζ R) tc,G f]] w λe w'=>AnR s p e/\Bl w w':=by
 have HE:=hid hE;have t:=hp.1;have t:=hp.2;have t:=k.1;have t:=k.2;have X:=hid λg x D P W C h2 j=>Uh g x N D P p u o n B tc R f W C h2 hp (r.below j) (l.keep λo u h=>aB h j) (I' j.size) (Y.below j) q (by unfold maxLen;omega) ⟨I,I⟩;have f:(n:Int)<=200:=I;have f:(ζ R:Int)<=20:=I;clear hE r l Y q k;generalize ζ R=tn at *;go_enter func18,ntmps18;go_upto_region 1 with fail
 refine qo (F:=Code.wp _ _ _ _) λn U=>?_;have f:=hid<|HE.o.below U.a;go_wp2_with fail;refine(Bz s n f.o).mono ?_;rintro e W1 ⟨f,C⟩;have r:=hid f;clear f;cases K:iD s with
 |inl b=>
  rw[K]at C;have T:=hid<|adw (p:=p) K;clear K;cases b
  .obtain rfl:=C;go_wp2_with fail;exact aE (v:=o' #[k' ⟨#[]⟩,G 1]) (by simp[results18,go_sem]) rfl ⟨T.o,aq (aq U.a r.o) bA⟩
  obtain rfl:=C;go_wp2_with fail;exact aE (v:=o' #[k' ⟨#[]⟩,G 2]) (by simp[results18,go_sem]) rfl ⟨T.o,aq (aq U.a r.o) bA⟩
 |inr q=>
  obtain⟨Y,E⟩:=q;rw[K]at C;obtain⟨g,x,D,ps,rfl,hg,l,z,q,L⟩:=C;have C:=WK K q l z L;have k:=J1 K q;obtain⟨P,hP⟩:=Ea<|l8 Y ps<|ζ E;have f:ζ E=P.nv:=by rw[hP];rfl
  have n:ζ Y=ζ P.nd:=by rw[hP];exact(b9 _).symm
  rw[<-hP]at C k;have o:J (∀c:Ct,c.aL=p->c.grade=(if p=6 then 2 else 1)->YF P p c->rV c->AnR s p (n'<|o' #[k' ⟨θ<|kH c⟩,G 0])):=λc h2 N s t=>agf K q h2 N (hP▸s) t;have t:=hid λW (j:Bl W1 W)=>X.o g x D P W (C.below j) k<|aq (aq U.a r.o) j;rw[f,n];clear hg l z L C k n K q hP X f;simp only[je]at t;go_upto_region 2 with fail
  refine qo (F:=Code.wp _ _ _ _) λq f=>?_;obtain⟨E,g⟩:=A f.b;obtain⟨n,u⟩:=A<|aG (aq r.o f.a) U.b;go_upto_region 8 with fail
  have k:J (∀(c:Ct) F X,FdC P p F c q X->Cl 42 #[j' #[G p,G c.grade,g' (z'<|O F 0) (ζ P.nd)<|ζ P.nd]] X (Rb X<|o' #[k' ⟨θ<|kH c⟩,G 0])):=λc F X h=>by
   have:=KQ (z'<|O F 0) (ζ P.nd) c X h.at_ h.wA h.ok.ok h.ok.small λs=>by rw[h.pr]at s;rw[h.gr,aA I]
   rwa[h.pr,h.len]at this
  go_wp2_with (first|(go_at_call 43;refine(t.o _ f.a).mono ?_;rintro e X ⟨F,c,rfl,l⟩;have j:=hid l;clear l E g n u)|(go_at_call 42;refine(k.o c F X j.o).mono ?_;rintro e Y ⟨rfl,(g:J _)⟩));exact aE (v:=o' #[k' ⟨θ<|kH c⟩,G 0]) (by simp[results18,go_sem]) rfl ⟨o.o c j.o.pr j.o.gr j.o.ok j.o.wA,aq (aq (aq (aq U.a r.o) f.a) j.o.b) g.o⟩
end
section
variable {P:Pm}{c:Ct}
structure LsC(P:Pm)(p:Int)(c:Ct):Prop where
  pr:c.aL=p
  gr:c.grade=1
  ok:qi c=N'
  wA:rV c
  VD:pg P c=0
def nC(h:pg P c=0):lh P c=N':=by
 unfold pg at h;cases Y:lh P c with
 |true=>rfl
 |false=>rw[Y]at h;simp at h
def Ym(h:pg P c=0)(U:c.aL<=4)(a:c.grade=1):Ab P c=N'/\wz P c=N':=by
 unfold pg at h;rw[nC h,aA ak,aD U]at h;cases y:Ab P c with
 |false=>rw[y]at h;simp at h
 |true=>
  cases X:wz P c with
  |true=>exact⟨rfl,rfl⟩
  |false=>rw[y,X,a]at h;simp at h
def Yn(h:pg P c=0)(U:c.aL=5)(a:c.grade=1):ye P c=N'/\wy P c=N':=by
 unfold pg at h;rw[nC h,aA ak,aA I]at h;cases y:ye P c with
 |false=>rw[y]at h;simp at h
 |true=>
  cases X:wy P c with
  |true=>exact⟨rfl,rfl⟩
  |false=>rw[y,X,a]at h;simp at h
end
section
attribute [local go_sem] Oper.semAt_some
end
end Go.Proofs.YtmipbiligijcpaaGreatDoor
