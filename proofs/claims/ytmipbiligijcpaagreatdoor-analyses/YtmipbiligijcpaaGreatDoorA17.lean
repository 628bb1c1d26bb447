import Derived.Test.YtmipbiligijcpaaGreatDoorA16
namespace Go.Proofs.YtmipbiligijcpaaGreatDoor
set_option linter.all false
set_option maxHeartbeats 0
set_option maxRecDepth 99999
open Go.RowKit Go.Proofs Go.Maps Tryz List Go.Shelf open List renaming length->ζ,toArray->θ open _root_.Array renaming size->δ open World renaming setCell->κ,ownsRow->ρ,cell?->χ,grownBy->ξ open Value renaming ownBlock->φ open Value renaming slice->g',bool->h',agg->j',string->k',pointer->m',tuple->o' open Obj renaming cells->i' open Ending renaming returned->n' open Option renaming some->z',none->A' open Bool renaming true->N',false->O'
variable {B N Q c f i k n t:Nat}{W w:p'}{a:t'}{b:Bool}{p:Int}{v:y'}
section
variable {D:List RC}{v:List (List Nat)}{P:Pm}{c:RC}{y:DK}{m:RN}{n:SN}
def DxR(cl:List RC)(P:Pm)(d:DK)(k:Key):Prop:=∃j c,cl[j]?=z' c/\mr c.n=z' d/\tZ (P.at j)=z' k
structure DX(cl:List RC)(P:Pm):Prop where
  some:∀(j:Nat)(c:RC),cl[j]?=z' c->(mr c.n).isSome=(tZ<|P.at j).isSome
  same:∀d k d2 k2,DxR cl P d k->DxR cl P d2 k2->(d=d2↔k=k2)
  var:∀d k,DxR cl P d k->d.2.2.2.1=(if k.1.1 then k.1.2.1 else -1)/\d.2.2.2.2=(if k.2.2.1 then k.2.2.2.1 else -1)
def zu(t:DR D v P)(f:DX D P):Two (DxR D P) (nR D<|ζ D) P.ex:=by
 unfold nR Pm.ex zv;refine Nf f.same _ _ [] [] ⟨by simp[t.len],λj a b d e=>?_⟩ Two.nil;rw[jj,a!]at d;rw[a!]at e;cases T:D[j]? with
 |none=>rw[T]at d;cases d
 |some c=>
  cases K:P.nd[j]? with
  |none=>rw[K]at e;cases e
  |some n=>
   rw[T]at d;rw[K]at e;have W:P.at j=n:=by rw[Pm.at,getD,K];rfl
   have C:=f.some j c T;rw[W]at C;simp only[gK,dU]at d e;rw[d,e]at C
   match a,b,d,e,C with
   |none,none,_,_,_=>trivial
   |some x,some y,d,e,_=>exact⟨j,c,T,d,by rw[W];exact e⟩
def DZ(t:DR D v P)(a:DX D P)(T:D[i]?=z' c)(B:(nR D<|ζ D)[f]?=z' y):VC c.n y=P.ev i f:=by
 have b:=zu t a;obtain⟨k,d⟩:=La (l:=P.ex) (i:=f) (by rw[<-b.len];exact(aX.1 B).1);have e:=b.each f y k B d;have C:=a.some i c T;rw[VC,Pm.ev,d];cases V:mr c.n with
 |none=>
  rw[V]at C;cases u:tZ (P.at i)with
  |none=>rfl
  |some x=>rw[u]at C;cases C
 |some d=>
  rw[V]at C;cases u:tZ (P.at i)with
  |none=>rw[u]at C;cases C
  |some x=>have:=a.same d x y k ⟨i,c,T,V,u⟩ e;simp only[this]
def CP(h:tN {m with bB:=emp} n):(hU n=N'/\m.target=n.var/\0<=n.var)\/(hU n=O'/\m.target=-1):=by
 have U:=h.target;have R:=h.var;unfold hU;by_cases a:n.aH<=2
 .rw[aD a]at U;exact aP ⟨eC a,U,R a⟩
 rw[aA a]at U;exact aR ⟨dp a,U⟩
def MW(t:DR D v P)(a:DX D P)(T:D[i]?=z' c)(B:(nR D<|ζ D)[f]?=z' y):klD c.n y=P.kl i f:=by
 have b:=zu t a;obtain⟨k,d⟩:=La (l:=P.ex) (i:=f) (by rw[<-b.len];exact(aX.1 B).1);obtain⟨e,R⟩:=a.var y k<|b.each f y k B d;unfold klD Pm.kl qC;rw[d,e,R];rcases CP (t.each i c T)with⟨C,a,N⟩|⟨C,a⟩
 .rw[C,a,eC N];simp only[eN];cases k.1.1<;>cases k.2.2.1<;>simp<;>try omega
 rw[C,a];simp
def SD{r:RO}{o:lz}(h:fO r o)(v:Nat):(r.var==(v:Int))=(o.aU&&o.var==(v:Int)):=by
 unfold fO at h;cases R:o.aU with
 |true=>rw[R,aD rfl]at h;rw[h.1];simp
 |false=>rw[R,aA aj]at h;rw[h.1];simp;try omega
def VX(h:tN {m with bB:=emp} n)(v:Nat):QY m (v:Int)=VZ n (v:Int):=by
 have a:=h.ops;have b:=h.a;have c:=h.b;rw[QY,VZ,dZ,a];by_cases C:n.aH=0\/n.aH=3
 .rw[aD C,aD C,SD (b I) v];simp
 rw[aA C,aA C];by_cases a:n.aH=1\/n.aH=4
 .rw[aD a,aD a,SD (b I) v,SD (c a) v];simp
 rw[aA a,aA a];simp
def R8(h:tN {m with bB:=emp} n):OD m=(n.aH==6):=by have Q:=h.does;have U:=h.aH;rw[OD,Q,eM];have:n.aH=0\/n.aH=1\/n.aH=2\/n.aH=3\/n.aH=4\/n.aH=5\/n.aH=6:=I;rcases this with e|e|e|e|e|e|e<;>rw[e]<;>decide
def B8:∀(D:List RC)(z:List SN)(j:Nat),ζ D=ζ z->(∀(k:Nat) c n,D[k]?=z' c->z[k]?=z' n->(0<=c.n.target↔hU n=N'))->kI j D=nS j z
 |[],[],_,_,_=>rfl
 |[],_::_,_,h,_=>by simp at h
 |_::_,[],_,h,_=>by simp at h
 |x::D,y::z,j,X,h=>by
  have d:=h 0 x y rfl rfl;have e:=B8 D z (j+1) (H' X) λk c n a b=>h (k+1) c n (H' a)<|H' b;rw[kI,nS,e];by_cases B:hU y=N'
  .rw[aD<|d.2 B,aD B]
  rw[aA λq=>B<|d.1 q,aA B]
def DR.at(h:DR D v P){j:Nat}(K:P.nd[j]?=z' n):P.at j=n:=by rw[Pm.at,getD,K];rfl
def Nl(t:DR D v P):kI 0 D=nS 0 P.nd:=by
 refine B8 _ _ 0 t.len λk c n T K=>?_;have:=t.each k c T;rw[t.at K]at this;rcases CP this with⟨C,a,N⟩|⟨C,a⟩
 .rw[C,a];simp[N]
 rw[C,a];simp
def DS(t:DR D v P)(a:DX D P)(p:Int):fcD D P.nv p=P.facts p:=by rw[fcD,Pm.facts,Nl t,(zu t a).len]
def ZM{p:Prop}(h:p:=by
 obtain⟨a,n,b,c⟩:=Uw z (j+1) i h
 exact⟨I,n,by rw[show i-j=i-(j+1)+1 by omega];simpa using b,c⟩):p:=h
def Uw:∀(z:List SN)(j i:Nat),i∈nS j z->j<=i/\∃n,z[i-j]?=z' n/\hU n=N'
 |[],_,_,h=>by cases h
 |y::z,j,i,h=>by
  rw[nS]at h;by_cases B:hU y=N'
  .rw[aD B]at h;rcases cM.1 h with rfl|h
   .exact⟨aK,y,ak,B⟩
   exact ZM
  rw[aA B]at h;exact ZM
def X?(t:DR D v P)(Y:f<P.facts 1):(Ir D P.nv f).1=P.KU f/\0<=P.KU f/\(∀m:Nat,((Ir D P.nv f).2==(m:Int))=(P.mU f==z' m))/\(decide ((Ir D P.nv f).2<0)=decide (f<P.nv)):=by
 unfold Ir Pm.KU Pm.mU;by_cases h:f<P.nv
 .rw[aD h,aD h,aD h];exact⟨rfl,I,λm=>(by show((-1:Int)==(m:Int))=((A':Option Nat)==z' m);simp;try omega),by simp[h]⟩
 simp only[aA h];rw[Nl t];have X:f-P.nv<ζ (nS 0 P.nd):=by unfold Pm.facts at Y;rw[aD rfl]at Y;omega
 obtain⟨i,S⟩:=La X;obtain⟨_,n,K,a⟩:=Uw _ _ _<|aO S;rw[Nat.sub_zero]at K;obtain⟨c,T⟩:=La (l:=D) (i:=i) (by rw[t.len];exact(aX.1 K).1);have b:=t.each i c T;rw[t.at K]at b;rcases CP b with⟨C,b,N⟩|⟨C,b⟩
 .simp only[S,T];rw[t.at K];exact⟨b,N,λm=>by rw[cC];simp;omega,by rw[dp h,dp I]⟩
 rw[a]at C;cases C
def LZ(h:tN {m with bB:=emp} n){v:Int}(R:0<=v):(m.target !=v)=!(hU n&&n.var==v):=by
 rcases CP h with⟨C,a,N⟩|⟨C,a⟩
 .rw[C,a];simp[bne]
 rw[C,a];simp;omega
def Bb(N:Nat)(p:Int)(f n:Nat)(ta:t')(S:Nat)(g:List Bool)(D:List RC)(v:List<|List Nat)(P:Pm)(w:p')(h:DP w N D v P.nv)(t:DR D v P)(hX:DX D P)(F:cN P)(U:1<=p/\p<=4)(Y:f<P.facts p)(E:f<=1000)(K:n<ζ D)(x:zW w ta g)(L:ζ g=ζ D):
  Cl 75 #[m'<|z'<|O N 0,G p,G f,G n,g' ta (ζ D) S] w (Rb w<|h'<|P.rule p f n λm=>g.getD m O'):=by
 have a:ζ D<=60:=by rw[t.len];exact F.most
 have tj:=F.nv;obtain⟨Q,z⟩:=La K;have i:=t.each n Q z;have R:∀l∈v,ζ l<=2:=λl X=>(F.nx l<|by rw[<-t.nx];exact X).1;have s:∀m∈(dD n 0 v).map Prod.fst,m<ζ D:=λm d=>by obtain⟨q,hq,rfl⟩:=bG.1 d;have:=lg n v 0 q hq;rw[h.len]at this;omega
 have T:ζ ((dD n 0 v).map Prod.fst)<=1000:=by have:=uP n v 0 R;rw[h.len]at this;rw[b9];omega
 have q:=h.len;obtain⟨ln,k⟩:=La (l:=v) (i:=n) I;have V:=F.nx ln (by rw[<-t.nx];exact aO k);have r:P.qk n=ln:=by rw[Pm.qk,<-t.nx,getD,k];rfl
 have y:p=1\/p=2\/p=3\/p=4:=I;rcases y with rfl|rfl|rfl|rfl
 .obtain⟨q,l,p,F⟩:=X? t Y;have e:P.rule 1 f n (λm=>g.getD m O')=(P.st 1 n f||((dD n 0 v).map Prod.fst).any (hit (λm=>P.ad 1 m f) (λm=>P.ps 1 n m f) g)):=by rw[Pm.rule,Pm.Qo,Pm.ins,aA aj,t.nx];rfl
  rw[e];refine pI N 1 f n ta S g _ _ _ _ D v P.nv w h x L a T s (λW j=>?_) (λW j=>vx N 1 n D v P.nv W j a R aj aj I) (λW m j d=>?_) λW m j d=>?_
  .have:=aef f n N D v P.nv W j a tj E;rw[F]at this;have u:P.st 1 n f=(decide (n=0)&&decide (f<P.nv)):=by rw[Pm.st,aD rfl];congr 1
   rw[u];exact this
  .have:=abb f n m N D v P.nv W j a tj E;rwa[p m]at this
  obtain⟨cm,o⟩:=La<|s m d;have:=abh f n m N D v P.nv W j a tj E cm o;rwa[q,LZ (t.each m cm o) l]at this
 .have e:P.rule 2 f n (λm=>g.getD m O')=(P.st 2 n f||ln.any (hit (λ_=>P.st 2 n f) (λm=>P.ps 2 n m f) g)):=by rw[Pm.rule,Pm.Qo,aD<|aP rfl,r];cases P.st 2 n f<;>rfl
  have C:∀(W:p')(b:Int),DP W N D v P.nv->_:=λW b j=>aee f n b N D v P.nv W j a tj Q z;have u:=VX i f;rw[u]at C;rw[e];refine pI N 2 f n ta S g _ _ _ _ D v P.nv w h x L a (I' V.1) (λm d=>by rw[t.len];exact V.2 m d) (λW j=>C W _ j) (λW j=>vy N 2 n D v P.nv W j ln k a<|aP rfl) (λW m j d=>C W _ j) λW m j d=>?_;have:=abg f n (m:Int) N D v P.nv W j a tj Q z;rwa[LZ i I]at this
 .obtain⟨y,B⟩:=La (l:=(nR D<|ζ D)) (i:=f) (by rw[(zu t hX).len];exact Y);have e:P.rule 3 f n (λm=>g.getD m O')=(P.st 3 n f||((dD n 0 v).map Prod.fst).any (hit (λm=>P.ad 3 m f) (λm=>P.ps 3 n m f) g)):=by rw[Pm.rule,Pm.Qo,Pm.ins,aA aj,t.nx];rfl
  rw[e];refine pI N 3 f n ta S g _ _ _ _ D v P.nv w h x L a T s (λW j=>?_) (λW j=>vx N 3 n D v P.nv W j a R aj aj I) (λW m j d=>?_) λW m j d=>?_
  .exact aed f n N D v P.nv W j a tj
  .obtain⟨cm,o⟩:=La<|s m d;have:=aa9 f n m N D v P.nv W j a tj cm y o B;rwa[MW t hX o B]at this
  obtain⟨cm,o⟩:=La<|s m d;have:=abf f n m N D v P.nv W j a tj cm y o B;rwa[DZ t hX o B]at this
 obtain⟨y,B⟩:=La (l:=(nR D<|ζ D)) (i:=f) (by rw[(zu t hX).len];exact Y);have e:P.rule 4 f n (λm=>g.getD m O')=(P.st 4 n f||ln.any (hit (λ_=>P.st 4 n f) (λm=>P.ps 4 n m f) g)):=by rw[Pm.rule,Pm.Qo,aD<|aR rfl,r];cases P.st 4 n f<;>rfl
 have C:∀(W:p')(b:Int),DP W N D v P.nv->_:=λW b j=>aec f n b N D v P.nv W j a tj Q y z B;have u:(OD Q.n||(klD Q.n y&&!VC Q.n y))=P.st 4 n f:=by rw[R8 i,MW t hX z B,DZ t hX z B];rfl
 rw[u]at C;rw[e];refine pI N 4 f n ta S g _ _ _ _ D v P.nv w h x L a (I' V.1) (λm d=>by rw[t.len];exact V.2 m d) (λW j=>C W _ j) (λW j=>vy N 4 n D v P.nv W j ln k a<|aR rfl) (λW m j d=>C W _ j) λW m j d=>?_;have:=abe f n (m:Int) N D v P.nv W j a tj Q y z B;rwa[DZ t hX z B]at this
end
section
variable {α:Type}
def zo(ft:Int->Bool)(nv:Nat)(x:Nd):Bool:=x.facts.all ft&&(!x.aF||decide (ζ x.aM=nv))
def agT{F:p'->Prop}{w:p'}{n:Nat}(h:∀V,J (Bl w V)->F V):F (w.drewN n):=h _<|below_drewN aQ n
def Hv{l:List α}{x:α}(F:α->Bool)(h:l[k]?=z' x):(l.take<|k+1).all F=((l.take k).all F&&F x):=by exact acK
def Ve{l:List α}{x:α}{F:α->Bool}(h:l[k]?=z' x)(Y:F x=O'):l.all F=O':=by rw[rZ];intro a;rw[bV]at a;have:=a x<|aO h;rw[Y]at this;cases this
def ZL{p:Prop}(h:p:=by
 go_wp2_with fail;go_quiet (fail);go_wp2_with fail;go_roundw
 case rel=>exact⟨i+1,L,e',by rw[Hv _ HX.a,U.a,f.o];rfl,below_drewN (aq U.A<|aq X.b p.o) _⟩
 exact F'):p:=h
def OB(N:Nat)(D:List RC)(v:List<|List Nat)(P:Pm)(T:t')(g:Nat)(c:Ct)(w:p')(h:DP w N D v P.nv)(t:DR D v P)(d:DX D P)(l:cN P)(p:cw w T c.nodes)(B:∀x∈c.nodes,lA x)(K:ζ c.nodes<=60):
  Cl 61 (EK N c.aL c.grade T (ζ c.nodes) g) w (Rb w<|h'<|lh P c):=by
 have g:ζ D<=60:=by rw[t.len];exact l.most
 have y:J (∀W,Bl w W->Cl 74 (mF N c.aL) W (Rb W<|G (P.facts c.aL:Nat))):=λW j=>by have:=ri N c.aL D v P.nv W (h.below j) g l.nv;rwa[DS t d]at this
 obtain⟨g,g,g,q,u,g,b,_,_⟩:=h.box;have s:=hid<|Aa b<|Aa p B;obtain⟨fb,a⟩:=Ea<|lh P c;rw[<-a];have j:J (fb=(decide (ζ c.nodes=ζ D)&&c.nodes.all (zo (λf=>decide (f<(if c.aL<=4 then(P.facts c.aL:Int) else 0))) P.nv))):=by rw[a,t.len];rfl
 clear b p B h t d a;go_enter func61,ntmps61;go_upto_region 1 with fail
 refine iU (F:=Code.wp _ _ _ _) λg g=>?_;obtain⟨E,R⟩:=A g.a;obtain⟨y1,d⟩:=A<|aG g.b s.a;by_cases X:ζ c.nodes=ζ D;rotate_left
 .have v:((ζ c.nodes:Int)==(ζ D:Int))=O':=by simp;omega
  have C:J (fb=O'):=by show _=_;rw[j.o,dp X];rfl
  clear X;go_quiet (fail);go_wp2_with fail;go_ret;exact⟨by rw[C.o];rfl,below_drewN g.b _⟩
 have v:((ζ c.nodes:Int) !=(ζ D:Int))=O':=by simp[X]
 have o:J (fb=c.nodes.all (zo (λf=>decide (f<(if c.aL<=4 then(P.facts c.aL:Int) else 0))) P.nv)):=by have:=j.o;rwa[eC X,eN]at this
 clear X;go_quiet (fail);refine agT (F:=λV=>Exit.then _ _ _ _ V) λq j=>?_;clear E R y1 d;have S:=hid<|Aa (aG j.o g.a)<|aq g.b j.o;obtain⟨E,R⟩:=A S.a;by_cases U:c.aL<=4
 all_goals
  first
  | (
    rw[aD U]at o;go_upto_region 6 with(go_at_call 74;refine(y.o _ S.A).mono ?_;rintro e t ⟨rfl,l⟩;have r:=hid<|Aa (aG l S.a)<|aq S.A l;clear l E R)
    generalize(P.facts c.aL:Int)=F at o|-)
  | (
    rw[aA U]at o;go_upto_region 6 with fail
    clear E R;have r:=hid<|Aa S.a S.A
    generalize q=t at r|-)
 all_goals
  clear U;obtain⟨B,HFT,HFD⟩:∃B:Int->Bool,J (∀f,B f=decide (f<_))/\J (fb=c.nodes.all (zo B P.nv)):=⟨_,λf=>rfl,o.o⟩;obtain⟨h,b⟩:=Ea<|ζ c.nodes;rw[<-b]at r K;have HM:=hid b;clear b;go_wp2_with fail;go_loopw[6] (λy wr=>∃i:Nat,i<=h/\y=G i/\J ((c.nodes.take i).all (zo B P.nv)=N'/\Bl t wr)) (λy _=>h-(intOf y).toNat)
  case atStart=>exact⟨0,bm,rfl,rfl,aQ⟩
  rename p'=>e
  obtain⟨i,S,rfl,U⟩:=hrel;obtain⟨E,R⟩:=A<|aG U.A r.a;have gW:=hid<|aq r.A U.A;by_cases L:i<h;rotate_left
  .have b:¬(i:Int)<h:=I;obtain rfl:i=h:=I;have e:J (fb=N'):=by show _=_;rw[HFD.o];have:=U.a;rwa[HM.o,jj]at this
   go_wp2_with fail;go_ret;exact⟨by rw[e.o];rfl,gW.o⟩
  have b:(i:Int)<h:=I;obtain⟨x,k⟩:=La (l:=c.nodes) (i:=i) (by rw[<-HM.o];exact L);obtain⟨b,o,b,l,z,q,rc,b,X,c0,Q,p,c3,c4,Y⟩:=s.b.below gW.o i x k;subst X;have c:=s.B x<|aO k;have b:ζ x.facts<9223372036854775807:=by have:=c.fsz;omega
  have HX:=hid<|Aa k Y.facts;have YN:J (zo B P.nv x=O'->fb=O'):=λq=>by rw[HFD.o];exact Ve k q
  clear k Y c;go_upto_region 10 with fail
  clear c0 Q p c3 c4 E R;refine iU (F:=Code.wp _ _ _ _) λT X=>?_;go_wp2_with fail;go_loopw[8] (λj wr=>∃k:Nat,k<=ζ x.facts/\j=G k/\J ((x.facts.take k).all B=N'/\Fr (λ_=>True) T wr)) (λj _=>ζ x.facts-(intOf j).toNat)
  case atStart=>exact⟨0,bm,rfl,rfl,Fr.refl _ _⟩
  obtain⟨k,b,rfl,HJ⟩:=hrel;have p:=hid (HJ.A.below aK λ_ _=>trivial);obtain⟨E,R⟩:=A<|aG p.o X.a;by_cases Q:k<ζ x.facts
  .have agE:(k:Int)<(ζ x.facts:Int):=I;obtain⟨f,Y⟩:=La Q;obtain⟨o,b,hfa,j⟩:=HX.A.below (aq X.b p.o) k f Y;subst hfa;have b:=HFT.o f;have c:=hid Y;clear Y;cases a:B f
   · have e:=Int.not_lt.1 (nG<|b.symm.trans a)
     have C:=hid (YN.o<|by rw[zo,Ve c.o a];rfl);clear b a;go_wp2_with fail;go_ret;exact⟨by rw[C.o];rfl,aq gW.o<|aq X.b p.o⟩
   have u:=vj<|b.symm.trans a;have f:=hid a;clear b a;have e:=Int.not_le.2 u;clear u;go_wp2_with fail;go_roundw
   case rel=>exact⟨k+1,Q,e',by rw[Hv _ c.o,HJ.a,f.o];rfl,HJ.A⟩
   exact F'
  have agE:¬(k:Int)<(ζ x.facts:Int):=I;obtain rfl:k=ζ x.facts:=I;have a:J (x.facts.all B=N'):=by have:=HJ.a;rwa[jj]at this
  obtain⟨y1,d⟩:=A<|aG (aq gW.o<|aq X.b p.o) s.a;cases Y:x.aF
  .rw[Y]at E;have f:J (zo B P.nv x=N'):=by show _=_;rw[zo,a.o,Y];rfl
   clear Y;exact ZL
  rw[Y]at E;by_cases R:ζ x.aM=P.nv
  .have f:J (zo B P.nv x=N'):=by show _=_;rw[zo,a.o,eC R,Bool.or_true];rfl
   have d:((ζ x.aM:Int)==(P.nv:Int))=N':=by simp[R]
   clear Y R;exact ZL
  have C:=hid (YN.o<|by rw[zo,dp R,Y,a.o];rfl);have d:((ζ x.aM:Int)==(P.nv:Int))=O':=by simp;omega
  clear Y R;go_wp2_with fail;go_quiet (fail);go_wp2_with fail;go_ret;exact⟨by rw[C.o];rfl,below_drewN (aq gW.o<|aq X.b p.o) _⟩
end
def ad3(c:Ct)(f:Nat)(r:Int):(λm=>(c.nodes.map<|Ey f r).getD m O')=pF c f r:=by
 funext m;rw[pF,Ct.at,getD,getD,a!];cases c.nodes[m]? with
 |none=>rfl
 |some x=>rfl
def sN(P:Pm)(c:Ct)(f n:Nat):Bool:=!P.rule c.aL f n (pF c f (-1))||pF c f (-1) n
def lN(P:Pm)(c:Ct)(f n:Nat):Bool:=!pF c f (-1) n||P.rule c.aL f n (pF c f ((c.at n).oF f))
def e8(b:Bool):Int:=if b then 0 else 8
def RB(P:Pm)(c:Ct):Int:=if Ab P c=O' then 7 else if c.grade=2\/wz P c=N' then 0 else 8
structure agj(c:Ct)(cn:Nat):Prop where
  p:1<=c.aL/\c.aL<=4
  len:ζ c.nodes=cn
  afp:∀x∈c.nodes,lA x
  rk:c.grade=1->∀x∈c.nodes,ζ x.bf=ζ x.facts/\∀r∈x.bf,0<=r
  gr:c.grade=1\/c.grade=2
def PX(N:Nat)(D:List RC)(V:List<|List Nat)(P:Pm)(T:t')(nc:Nat)(c:Ct)(w:p')(h:DP w N D V P.nv)(t:DR D V P)(F:DX D P)(E:cN P)(L:cw w T c.nodes)(b:agj c<|ζ D)(hF:P.facts c.aL<=1000):
  Cl 62 #[m'<|z'<|O N 0,j' #[G c.aL,G c.grade,g' T (ζ D) nc]] w (Rb w<|G<|RB P c):=by
 have g:ζ D<=60:=by rw[t.len];exact E.most
 have x:=E.nv;have B:J (∀W,Bl w W->Cl 74 (mF N c.aL) W (Rb W<|G (P.facts c.aL:Nat))):=λW j=>by have:=ri N c.aL D V P.nv W (h.below j) g x;rwa[DS t F]at this
 have Z0:J (∀(W:p')(f:Nat)(r:Int),Bl w W->(r<0\/c.grade=1)->Cl 104 #[j' #[G c.aL,G c.grade,g' T (ζ D) nc],G f,G r] W λe C=>∃a m,e=n' (bk a (ζ D) m)/\zW C a (c.nodes.map<|Ey f r)/\Bl W C):=λW f r j hr=>by have:=Jv c.aL c.grade T nc c.nodes f r W (L.below j) b.afp (λq x hx=>by rcases hr with hr|hr;(· omega);exact(b.rk hr x hx).1) (by rw[b.len];exact g);rwa[b.len]at this
 have AS:J (∀(W:p')(f n:Nat)(r:Int)(a:t')(m:Nat),Bl w W->f<P.facts c.aL->n<ζ D->zW W a (c.nodes.map<|Ey f r)->Cl 75 #[m'<|z'<|O N 0,G c.aL,G f,G n,g' a (ζ D) m] W (Rb W<|h'<|P.rule c.aL f n<|pF c f r)):=λW f n r a m j Y hn g=>by have:=Bb N c.aL f n a m (c.nodes.map<|Ey f r) D V P W (h.below j) t F E b.p Y I hn g (by rw[b9,b.len]);rwa[ad3]at this
 obtain⟨g,g,g,g,g,g,hb,_,_⟩:=h.box;have s:=hid<|Aa hb<|Aa L b;obtain⟨vl,l⟩:=Ea<|RB P c;have u:J ((∀f n,f<P.facts c.aL->n<ζ D->sN P c f n=O'->vl=7)/\((range<|P.facts c.aL).all (λf=>(range<|ζ D).all<|sN P c f)=N'->vl=e8 ((c.grade==2)||(range<|P.facts c.aL).all (λf=>(range<|ζ D).all<|lN P c f)))):=by
  have x:Ab P c=(range<|P.facts c.aL).all (λf=>(range<|ζ D).all<|sN P c f):=by rw[Ab,t.len];rfl
  have g:wz P c=(range<|P.facts c.aL).all (λf=>(range<|ζ D).all<|lN P c f):=by rw[wz,t.len];rfl
  refine⟨λf n Y hn q=>?_,λq=>?_⟩
  .rw[l,RB,x,uA (uA q hn) Y,aD rfl]
  rw[l,RB,x,q,aA aj,<-g];unfold e8;by_cases hg:c.grade=2
  .rw[aD<|aP hg,hg];rfl
  rw[show(c.grade==2)=O' by simpa using hg,ko];cases wz P c
  .rw[aA<|by simp[hg]];rfl
  rw[aD<|aR rfl];rfl
 rw[<-l];have o:=b.gr;clear l hb L b h t F E;obtain⟨pr,l⟩:=Ea c.aL;obtain⟨gr,b⟩:=Ea c.grade;rw[<-l]at B hF u;rw[<-l,<-b]at Z0;rw[<-l]at AS;rw[<-b]at u o;rw[<-l,<-b];have HPR:=hid<|Aa l b;clear l b;obtain⟨F,b⟩:=Ea<|P.facts pr;rw[<-b]at B AS u hF;clear b;go_enter func62,ntmps62;go_upto_region 1 with fail
 refine iU (F:=Code.wp _ _ _ _) λg b=>?_;have E:=A b.a;go_upto_region 2 with(go_at_call 74;refine(B.o _ b.b).mono ?_;rintro e t ⟨rfl,l⟩;have HB1:=hid<|Aa (aG l b.a)<|aq b.b l;clear l E)
 clear b B;go_wp2_with fail;go_loopw[6,7] (λev g wr=>∃f:Nat,f<=F/\g=G f/\ev=G (e8 ((gr==2)||(range f).all (λf=>(range<|ζ D).all<|lN P c f)))/\J ((range f).all (λf=>(range<|ζ D).all<|sN P c f)=N'/\Bl t wr)) (λ_ g _=>F-(intOf g).toNat)
 case atStart=>exact⟨0,bm,rfl,by simp[e8],rfl,aQ⟩
 obtain⟨f,Y,rfl,rfl,HK⟩:=hrel;have l:=hid<|aq HB1.A HK.A;have E:=A<|aG HK.A HB1.a;by_cases n8:f<F;rotate_left
 .have jy:¬(f:Int)<F:=I;obtain rfl:f=F:=I;go_wp2_with fail;go_ret;exact⟨by rw[u.A HK.a];rfl,l.o⟩
 have jy:(f:Int)<F:=I;obtain⟨l0,b⟩:=Ea ((range f).all λf=>(range<|ζ D).all<|lN P c f);rw[<-b];have HL0:=hid b;clear b;go_upto_region 7 with(go_at_call 104;refine(Z0.o _ f (-1) l.o<|aP aj).mono ?_;rintro e F ⟨g,am,rfl,L,hb⟩;have H2:=hid<|Aa L<|Aa (aG hb<|aG HK.A HB1.a)<|Aa (aq l.o hb)<|aq HK.A hb;clear L hb E)
 clear l;go_wp2_with fail;go_loopw[6,9] (λev g wr=>∃n:Nat,n<=ζ D/\g=G n/\ev=G (e8 ((gr==2)||(l0&&(range n).all (lN P c f))))/\J ((range n).all (sN P c f)=true/\Bl F wr)) (λ_ g _=>ζ D-(intOf g).toNat)
 case atStart=>exact⟨0,bm,rfl,ak,rfl,aQ⟩
 obtain⟨n,hn,rfl,rfl,HN⟩:=hrel;have l:=hid<|Aa (aq H2.c HN.A)<|Aa (aG HN.A H2.b)<|H2.a.below HN.A;have E:=A<|aG l.a s.a;by_cases wB:n<ζ D;rotate_left
 .have TI:¬(n:Int)<(ζ D:Int):=I;obtain rfl:n=ζ D:=I;go_wp2_with fail;go_roundw
  case rel=>exact⟨f+1,n8,e',by rw[ew,<-HL0.o],by rw[ew,HK.a,HN.a];rfl,aq H2.C HN.A⟩
  exact F'
 have TI:(n:Int)<(ζ D:Int):=I;obtain⟨g,b⟩:=Ea ((l0&&(range n).all (lN P c f)));rw[<-b];have HL1:=hid b;clear b;have hx:c.nodes[n]?=z' (c.at n):=by rw[Ct.at,getD,bj<|by rw[s.B.len];exact wB];rfl
 have HX:=hid hx;obtain⟨b0,o0,ha,b⟩:=l.B n (Ey f (-1)<|c.at n) (by rw[a!,hx];rfl);subst ha;obtain⟨th,U⟩:=Ea<|Ey f (-1)<|c.at n;rw[<-U]at b;have X:J (pF c f (-1) n=th):=by show _=_;rw[U];rfl
 obtain⟨pt,B⟩:=Ea<|P.rule pr f n<|pF c f (-1);have g:J (∀W,Bl wr W->Cl 75 #[m'<|z'<|O N 0,G pr,G f,G n,g' (z'<|O b0 o0) (ζ D) am] W (Rb W<|h' pt)):=λW j=>by rw[B];exact AS.o W f n (-1) _ _ (aq l.a j) n8 wB<|l.B.below j
 have HS:J (sN P c f n=(!pt||th)):=by show _=_;rw[B,<-X.o,HPR.a];rfl
 have j:=hid b;clear hx U B b;have y1:=A l.b;go_upto_region 11 with(go_at_call 75;refine(g.o _ aQ).mono ?_;rintro e W3 ⟨rfl,hb⟩;have U:=hid<|Aa (aG hb l.b)<|Aa (aq l.a hb)<|Aa (aq HN.A hb)<|aB j.o hb;clear hb E y1)
 clear g;have ct:=U.C;have y1:=A U.a;have b:th=O'\/gr=2->(pt=N'->th=N')->True:=λ_ _=>trivial;clear b;cases th
 .cases pt
  .have DD:J (lN P c f n=N'):=by show _=_;rw[lN,X.o];rfl
   rcases o with rfl|rfl
   all_goals
    go_wp2_with fail;go_roundw
    case rel=>exact⟨n+1,wB,e',by rw[HL1.o,ew,DD.o,xJ],by rw[ew,HN.a,HS.o];rfl,U.c⟩
    exact F'
  go_wp2_with fail;go_ret;exact⟨by rw[u.a f n n8 wB<|by rw[HS.o];rfl];rfl,U.b⟩
 have HSN:J (sN P c f n=N'):=by show _=_;rw[HS.o];cases pt<;>rfl
 rcases o with rfl|rfl;rotate_left
 .cases pt
  all_goals
   go_wp2_with fail;go_roundw
   case rel=>exact⟨n+1,wB,e',by simp[e8],by rw[ew,HN.a,HSN.o];rfl,U.c⟩
   exact F'
 -- the grade LEAST: is it put there by lower ranks?
 obtain⟨b,o,fa,l,g,fc,rc,x,B,c0,c1,c2,c3,c4,c5⟩:=s.b.below U.b n _ HX.o;subst B;have hxm:=aO HX.o;have B:=s.B.afp _ hxm;obtain⟨hrl,hrp⟩:=s.B.rk HPR.A.symm _ hxm;have GR:(f:Int)∈(c.at n).facts:=by have:=X.o;unfold pF Nd.zm at this;simp only[aY,bM]at this;exact this.1
 obtain⟨e1,e2⟩:=G2 GR;obtain⟨k,hk⟩:=Ea ((c.at n).facts.idxOf (f:Int));rw[<-hk]at e1 e2;obtain⟨rv,E⟩:=La (l:=(c.at n).bf) (i:=k) I;obtain⟨br,orr,hra,cr⟩:=c5.bf k rv E;subst hra;have g:=hrp rv<|aO E;have hrk:(c.at n).oF f=rv:=by rw[Nd.oF,getD,<-hk,E];rfl
 obtain⟨ju,Hi⟩:=Ea<|P.rule pr f n<|pF c f rv;have DD:J (lN P c f n=ju):=by show _=_;rw[lN,X.o,hrk,<-HPR.a,Hi];rfl
 have HHA:J (Cl 105 #[g' fa (ζ (c.at n).facts) fc,G f] W3<|Rb W3<|G k):=by have:=sH fa fc (c.at n).facts (f:Int) W3 c5.facts B.fsz;rwa[e1]at this
 have g:(k:Int)<(ζ (c.at n).bf:Int):=I;have GB:=hid<|Aa c1 cr;generalize(c.at n).facts.length=Y at c0 HHA;generalize(c.at n).bf.length=rl at c1 g GB;clear B hrl hrp GR e1 hk E hrk c2 c3 c4 c5 e2 hxm;cases pt
 all_goals
  go_upto_region 15 with(go_at_call 105;refine HHA.o.mono ?_;rintro e j ⟨rfl,hb⟩;have B:=hid<|Aa (aG hb U.a)<|Aa (aq U.b hb)<|Aa (aq U.c hb)<|Aa (aB GB.a hb)<|aB GB.A hb;clear hb c0 c1 cr y1 ct)
  clear HHA GB U;refine wp_region_held_drew (S:=λW'=>Bl j W') M aQ.drew λaC=>?_;refine tq 0 (xV N) ?_;refine tq 1 (m'<|cV w.1.size) ?_;refine tr 2 (G pr) (λW' aW=>(A<|aG aW B.a).1) ?_;refine tq 3 (G f) ?_;refine tq 4 (G n) ?_;refine tr 5 (j' #[G pr,G 1,g' (z'<|O b o) (ζ D) nc]) (λW' aW=>(A<|aG aW B.a).1) ?_;refine tq 6 (G f) ?_;refine tq 7 (m'<|z'<|O w.1.size 2) ?_;refine tr 8 (g' (z'<|O b o) (ζ D) nc) (λW' aW=>(A<|aG aW B.a).1) ?_;refine tq 9 (G n) ?_;refine tq 10 (m'<|z'<|O b<|o+n*5) ?_;refine tq 11 (m'<|z'<|O b<|o+n*5+1) ?_;refine tr 12 (g' (z'<|O br orr) rl rc) (λW' aW=>aB B.d aW) ?_;refine tq 13 (G k) ?_;refine tq 14 (m'<|z'<|O br<|orr+k) ?_;refine tr 15 (G rv) (λW' aW=>aB B.D aW) ?_;refine r1 16 λK b=>?_;go_simp;refine(Z0.o _ f rv B.b.drew<|aR<|by trivial).mono ?_;rintro e C ⟨t,g,rfl,L,hb⟩;have g:=hid<|Aa L<|aq (AW j.1.size j).drew hb;clear L hb;refine b.out _ _ g.A λaC=>?_;clear b K;refine pt ?_;refine r1 17 λK b=>?_;go_simp;refine(AS.o _ f n rv _ _ (aq B.b g.A) n8 wB g.a).mono ?_;rw[<-Hi];rintro e U ⟨rfl,hb⟩;have E:=hid<|aq g.A hb;clear hb;refine b.out _ _ E.o λaC=>?_;clear b K;refine pt ?_;refine tq 18 (h' ju) ?_;refine wpAnyH_done M ?_ _;clear aC;clear Hi;cases ju
  .go_wp2_with fail;go_roundw
   case rel=>exact⟨n+1,wB,e',by rw[ew,DD.o,AL,AL];rfl,by rw[ew,HN.a,HSN.o];rfl,aq B.c E.o⟩
   exact F'
  go_wp2_with fail;go_roundw
  case rel=>exact⟨n+1,wB,e',by rw[HL1.o,ew,DD.o,xJ];rfl,by rw[ew,HN.a,HSN.o];rfl,aq B.c E.o⟩
  exact F'
section
variable {a:List PN}{S:List (bI×Nat)}{j:Nat}{p:PN}{D:List RC}{c:RC}{s:x'}{E:List bI}
def FZ{Q:Nat}(h:a[j]?=z' p):(l8 a S Q).at j=p.n:=by rw[Pm.at,l8,getD,a!,h];rfl
def yo(h:AG D a)(T:D[j]?=z' c):∃p,a[j]?=z' p/\Vh c p:=by obtain⟨p,U⟩:=La (l:=a) (i:=j) (by rw[<-h.len];exact(aX.1 T).1);exact⟨p,U,h.each j c p T U⟩
def aay(h:AG D a)(S:List<|bI×Nat)(Q:Nat):DR D (l8 a S Q).nx (l8 a S Q):=by refine⟨by rw[h.len];exact(b9 _).symm,rfl,λj c T=>?_⟩;obtain⟨p,U,a⟩:=yo h T;rw[FZ U];exact a.n
def Nj(h:Vh c p):(mr c.n).isSome=(tZ p.n).isSome/\∀d k,mr c.n=z' d->tZ p.n=z' k->p.n.aH=1/\d=(c.n.a.word,c.n.sign,c.n.b.word,c.n.a.var,c.n.b.var)/\k=(jT p.n.a,p.n.op,jT p.n.b)/\fO c.n.a p.n.a/\fO c.n.b p.n.b:=by
 have Q:=h.n.does;have f:=h.n.ops;have U:=h.n.aH;have b:=h.n.a;have g:=h.n.b;by_cases a:p.n.aH=1;rotate_left
 .have V:((c.n.does.toList==[61])&&(c.n.ops==2))=O':=by rw[Q,f,eM];have:p.n.aH=0\/p.n.aH=2\/p.n.aH=3\/p.n.aH=4\/p.n.aH=5\/p.n.aH=6:=I;rcases this with e|e|e|e|e|e<;>rw[e]<;>decide
  rw[mr,tZ,V,vi,aA aj,aA λq=>a q.1];exact⟨rfl,λd k q=>by cases q⟩
 have j:=b I;have b:=g I
 have T:∀{r:RO} {o:lz},fO r o->decide (r.var<0)=!o.aU:=fun {r o} q=>by
  unfold fO at q;cases e:o.aU with
  |true=>rw[e,aD rfl]at q;simp;omega
  |false=>rw[e,aA aj]at q;simp;omega
 have V:(c.n.does.toList==[61])=N':=by rw[Q,a,eM];decide
 have u:(c.n.ops==2)=N':=by rw[f,a];rfl
 rw[mr,tZ,V,u,T j,T b,a];cases x:p.n.a.aU<;>cases y:p.n.b.aU<;>simp<;>exact⟨j,b⟩
def aax(h:iD s=Pr.ok a E)(w:AG D a)(S:List<|bI×Nat)(Q:Nat):DX D (l8 a S Q):=by
 have B:=adZ h;refine⟨λj c T=>?_,λd k i r q F=>?_,λd k q=>?_⟩
 .obtain⟨p,U,h⟩:=yo w T;rw[FZ U];exact(Nj h).1
 .obtain⟨j,c,T,Q,s⟩:=q;obtain⟨g,a,Y,P,a⟩:=F;obtain⟨p,U,h⟩:=yo w T;obtain⟨g,W,e⟩:=yo w Y;rw[FZ U]at s;rw[FZ W]at a;obtain⟨N,D,b,C,t⟩:=(Nj h).2 d k Q s;obtain⟨f,o,x,E,l⟩:=(Nj e).2 i r P a;obtain⟨u,a,V⟩:=h.wd N;obtain⟨a,R,u⟩:=e.wd f;have X:=N7 (B p<|aO U) (B g<|aO W) N f V u;rw[D,o,b,x,<-X];constructor
  .intro e;simp only[eR]at e;exact⟨e.1,e.2.1,e.2.2.1⟩
  intro e;have a:=X.1 e;simp only[eR,jT]at a
  have z:∀{r g:RO} {o f:lz},fO r o->fO g f->o.aU=f.aU->o.var=f.var->r.var=g.var:=fun {r g o f} x y i v=>by
   unfold fO at x y;rw[<-i]at y;cases e:o.aU with
   |true=>rw[e,aD rfl]at x y;rw[x.1,y.1,v]
   |false=>rw[e,aA aj]at x y;rw[x.1,y.1]
  simp only[eR];exact⟨e.1,e.2.1,e.2.2,z C E a.1.1 a.1.2.1,z t l a.2.2.1 a.2.2.2.1⟩
 obtain⟨j,c,T,Q,s⟩:=q;obtain⟨p,U,h⟩:=yo w T;rw[FZ U]at s;obtain⟨N,D,b,C,t⟩:=(Nj h).2 d k Q s;rw[D,b]
 have z:∀{r:RO} {o:lz},fO r o->r.var=if (jT o).1 then(jT o).2.1 else -1:=fun {r o} x=>by
  unfold fO at x;unfold jT;cases e:o.aU with
  |true=>rw[e,aD rfl]at x;simp[x.1]
  |false=>rw[e,aA aj]at x;simp[x.1]
 exact⟨z C,z t⟩
def Ni{w:p'}{N g b x B:Nat}{f:t'}{y:y'}{d:List y'}(h:iD s=Pr.ok a E)(o:kC 0 [] (a.map PN.bB)=z' S)
  (e:w.1[N]?=z' (i' #[g' (z'<|O g 0) (ζ a) b,g' f (ζ E) x,y] 107 (0,0))) (i:mW w g b D) (v:AG D a)
  (F:ρ w B 36 1 y (ζ d) d) (X:ζ d=ζ a) (k:∀(j:Nat)(c:y')(p:PN),d[j]?=z' c->a[j]?=z' p->ρ w B 3 1 c (ζ<|jh S p.nc j) ((jh S p.nc j).map G)):DP w N D (l8 a S<|ζ E).nx (ζ E):=by
 obtain⟨_,D,_⟩:=yK h;obtain⟨u,q,rfl,_,_,z⟩:=O2 F I;refine⟨⟨g,b,f,x,u,q,?_,i,λj l f=>?_⟩,by rw[v.len];exact sT S a 0⟩
 .rw[v.len,<-X];rw[<-X]at e;exact e
 have i:(yT S 0 a)[j]?=z' l:=f;rw[wZ,bH]at i;cases C:a[j]? with
 |none=>rw[C]at i;cases i
 |some p=>
  rw[C]at i;simp only[gK,dU]at i;have r:=(aX.1 C).1;obtain⟨c,L⟩:=La (l:=d) (i:=j) I;have b:=k j c p L C;obtain⟨a,B,rfl⟩:=aV b;refine⟨a,B,?_,?_⟩
  .rw[<-i,b9];exact z j _ L I
  rw[<-i,y5 _ λt U=>(let ⟨k,a,_⟩:=(zC h o C).2 t U;⟨k,a⟩)];exact BP b
end
section
variable {c:Ct}
def af8(o:qi c=N')(U:c.aL<=4)(B:∀x∈c.nodes,lA x)(X:ζ c.nodes=Q):agj c Q:=by obtain⟨a,k,f⟩:=pR o;refine⟨⟨a.1,U⟩,X,B,λa x F=>?_,k⟩;have:=uF o x F;unfold cY gH iL at this;rw[aD U,aD a]at this;simp only[aY,bM,bV]at this;refine⟨this.2.1,λr a=>?_⟩;have:=this.2.2 r a;unfold rk at this;simp only[aY,bM]at this;exact this.1
def af7(o:qi c=N')(U:5<=c.aL)(B:∀x∈c.nodes,lA x)(R:c.nodes.all (Xx (Q:Int))=N')(K:Q<=8):agi c Q:=by
 obtain⟨d,k,f⟩:=pR o;have y:c.aL=5\/c.aL=6:=I
 have b:∀x∈c.nodes,(x.aF=N'->ζ x.aM=Q/\0<=x.rank/\x.rank<=100000)/\(x.aF=O'->x.aM=[]/\x.rank=0):=λx F=>by
  have C:=uF o x F;unfold cY at C;rw[aA I]at C;constructor
  .intro a;rw[aD a]at C;unfold jR rk at C;simp only[aY,bM]at C;rw[bV]at R;have e:=R x F;unfold Xx at e;simp[a]at e;exact⟨I,C.1.1.2.1,C.1.1.2.2⟩
  intro a;rw[aA<|by rw[a];decide]at C;unfold l! at C;simp only[aY,bM,og]at C;exact⟨C.2,C.1.1.1.2⟩
 refine⟨y,λx F=>?_,λx F r=>?_,λx F=>?_,λx F a=>((b x F).1 a).1⟩
 .cases a:x.aF with
  |true=>have:=((b x F).1 a).1;omega
  |false=>rw[((b x F).2 a).1];simp
 .rcases y with U|U
  .obtain⟨n,g⟩:=EJ F;have C:=fH (aan o U B R).env r n;have e:eg c r n=gC x r:=by rw[eg,Ct.at,getD,g];rfl
   rw[e]at C;rw[U];exact C
  have C:=R6 o U B R;rw[U];unfold gC;split
  .exact lq
  rename_i c;intro E e;cases e;have a:x.aF=N':=by cases V:x.aF;(· exact absurd (aP V) c);rfl
  refine⟨by simp[C.len x F a],λv R=>?_⟩;obtain⟨u,c,rfl⟩:=bG.1 R;obtain⟨d,k,f,w⟩:=C.aM x F u c;rw[cS,aD d];exact⟨⟨f,w⟩,by rw[aA aj];exact⟨rfl,k⟩⟩
 cases a:x.aF with
 |true=>exact((b x F).1 a).2
 |false=>rw[((b x F).2 a).2];omega
def B!(P:Pm)(c:Ct):(lh P c=O'->pg P c=6)/\(lh P c=N'->pg P c=if c.aL<=4 then RB P c else vlN P c):=by refine⟨λh=>by rw[pg,aD h],λh=>?_⟩;rw[pg,aA<|by rw[h];decide];rfl
end
def CkD(w:p')(c:Ct)(e:Ending)(w':p'):Prop:=∃da dc,e=n' (o' #[g' da (ζ c.nodes) dc,G 0])/\cw w' da (c.nodes.map tU)/\Bl w w'
def Sp{v:List Nd}{k:Nat}{x:Nd}(h:v[k]?=z' x):(v.map tU).take (k+1)=(v.map tU).take k++[tU x]:=by
 have a:(v.map tU)[k]?=z' (tU x):=by rw[a!,h];rfl
 rw[ep (aX.1 a).1,(aX.1 a).2]
def aaO{p g:Int}{n:Nd}(h:cY p g n=N'):ζ n.aM<=8:=by
 unfold cY gH jR l! at h;split at h
 .simp at h;simp[h.1.1.2]
 split at h<;>simp at h
 .exact h.1.1.1.2
 simp[h.2]
def JR{s:x'}{pl:List PN}{W:List bI}{q:List (bI×Nat)}{c:Ct}(U:iD s=.inr (pl,W))(x:kC 0 [] (pl.map PN.bB)=z' q)(o:qi c=N')(T:rV c)(F:ζ (kH c)<=60000)(hg:c.aL=6/\c.grade=2\/c.aL<=5/\c.grade=1)(t:pg (l8 pl q<|ζ W) c=0)(w:p'):Cl 34 #[k' s,k' ⟨θ<|kH c⟩] w (CkD w c):=by
 go_enter func34,ntmps34;go_wp2_with fail;refine(q! s w).mono ?_;rintro e W1 ⟨b1,h1⟩;have HB1:=hid b1;rw[U]at h1;obtain⟨pb,g,s,va,vc,s,D,s,ps,rfl,V,r,Y,GQ,l,C,R,N,L⟩:=h1;obtain rfl:=cJ<|x.symm.trans C;have E:=Ni U x r GQ l.rel R N L;have u:=aay l.rel q<|ζ W;have z:=aax U l.rel q<|ζ W;have f:=J1 U x;obtain⟨P,hP⟩:=Ea<|l8 pl q<|ζ W;have s:P.nv=ζ W:=by rw[hP];rfl
 rw[<-hP]at E u z f t;rw[<-s]at E;have X:=hid<|Aa E<|Aa u<|Aa z<|Aa f t;have B:=hid<|Aa o<|Aa T<|Aa F hg;have afL:=(pR o).2.2;clear b1 V r Y GQ l x C R N L E u z f hP s U o T F hg t;go_wp2_with fail;refine(vU c W1 B.a B.b B.c B.C).mono ?_;rintro e W ⟨⟨la,lc,rfl,l⟩,o⟩;have HN:=hid (Aa l<|Aa B.b.nodes<|Aa B.a λx F=>aaO<|uF B.a x F);have s:=hid<|Aa o<|aq HB1.o o;clear o l;go_upto_region 5 with fail
 refine iU (F:=Code.wp _ _ _ _) λW3 L=>?_
 have lW:=hid<|Aa (aq s.A L.b)<|Aa L.a<|Aa (X.a.below<|aq s.a L.b)<|HN.a.below L.b;generalize δ W.1=s at lW|-;obtain⟨u,z,f,t⟩:=X.A;have l:lh P c=N':=by
  cases s:lh P c with
  |true=>rfl
  |false=>rw[(B! P c).1 s]at t;cases t
 have o:=(B! P c).2 l;rw[t]at o;have HFI:J (Cl 61 (EK pb c.aL c.grade la (ζ c.nodes) lc) W3<|Rb W3<|h' N'):=by have:=OB pb D P.nx P la lc c W3 lW.c u z f.ok lW.C HN.b afL;rwa[l]at this
 have L:ζ c.nodes=ζ D:=by have:=l;unfold lh at this;rw[aY,bM]at this;rw[this.1,u.len]
 have HSE:J (c.aL<=4->∀W,Bl W3 W->Cl 62 (EK pb c.aL c.grade la (ζ c.nodes) lc) W λe s=>e=n' (G 0)/\Below W.1.size W s):=λU W hW=>by have:=PX pb D P.nx P la lc c W (lW.c.below hW) u z f.ok (lW.C.below hW) (af8 HN.c U HN.b L)<|bX (B1 f.ok _) aj;rw[aD U]at o;rwa[<-L,<-o]at this
 have Qb:J (¬c.aL<=4->∀W,Bl W3 W->Cl 63 (EK pb c.aL c.grade la (ζ c.nodes) lc) W λe s=>e=n' (G 0)/\Below W.1.size W s):=λU W hW=>by have hv:=Nc (P:=P) HN.c I<|L.trans u.len;rw[l]at hv;have:=Ff pb D P.nx P la lc c W (lW.c.below hW) u f.ok f.cs (lW.C.below hW) L<|af7 HN.c I HN.b hv.symm f.ok.nv;rw[aA U]at o;rwa[<-L,<-o]at this
 clear u z f t l o L X B;obtain⟨M,f⟩:=Ea<|ζ c.nodes;rw[<-f]at HFI HSE Qb afL;rw[<-f]at lW;have HM:=hid f;rw[<-f];clear f;have E:=A lW.b;by_cases D:c.aL<=4
 all_goals
  first
  | (
    have L:=hid<|HSE.o D
    go_upto_region 13 with(first|(go_at_call 62;refine(L.o _ B.C).mono ?_;rintro e C ⟨rfl,s⟩;have f:=hid<|Aa (aG s B.b)<|Aa (aq B.a s)<|B.c.below s;clear s E)|(go_at_call 61;refine HFI.o.mono ?_;rintro e U ⟨rfl,s⟩;have B:=hid<|Aa (aq lW.a s)<|Aa (aG s lW.b)<|Aa (lW.C.below s) s;clear s E;have E:=A B.b)))
  | (
    have L:=hid<|Qb.o D
    go_upto_region 13 with(first|(go_at_call 63;refine(L.o _ B.C).mono ?_;rintro e C ⟨rfl,s⟩;have f:=hid<|Aa (aG s B.b)<|Aa (aq B.a s)<|B.c.below s;clear s E)|(go_at_call 61;refine HFI.o.mono ?_;rintro e U ⟨rfl,s⟩;have B:=hid<|Aa (aq lW.a s)<|Aa (aG s lW.b)<|Aa (lW.C.below s) s;clear s E;have E:=A B.b)))
 all_goals
  clear D;obtain⟨i0,hi,D,r,o⟩:=cI Ts;obtain⟨i1,l,AN,s,hz5⟩:=cI zi;have HI:=hid<|Aa (Aa hi<|Aa D<|Aa r o)<|Aa l<|Aa AN<|Aa s hz5;clear hi D r o l AN s hz5;go_wp2_with fail;go_loopw[11,12] (λB s wr=>∃(k:List N5)(oa:t')(oc:Nat),ζ k<=M/\s=G (ζ k:Nat)/\B=g' oa (ζ k) oc/\J (k.map N5.n=(c.nodes.map tU).take (ζ k)/\ρ wr C.1.size 96 5 (bk oa (ζ k) oc) (ζ k) (rD k)/\(∀x∈k,j5 wr C.1.size x)/\Bl C wr)) (λ_ s _=>M-(intOf s).toNat)
  case atStart=>exact⟨[],A',0,bm,rfl,rfl,rfl,dj,(λx F=>by cases F),aQ⟩
  rename p'=>X0
  obtain⟨k,oa,oc,hk,rfl,rfl,HK⟩:=hrel;have E:=A<|aG HK.C f.a;by_cases L:ζ k<M;rotate_left
  .have s:¬(ζ k:Int)<(M:Int):=I;go_wp2_with fail;have e:ζ k=M:=I;have B:=uH HK.b HK.c;rw[HK.a,c!<|by simp[<-HM.o,e]]at B;exact aE (v:=o' #[g' oa (ζ k) oc,G 0]) (by simp[results34,go_sem]) rfl ⟨oa,oc,by rw[e,HM.o],B,aq f.b HK.C⟩
  have s:(ζ k:Int)<(M:Int):=I;obtain⟨x,F⟩:=La (l:=c.nodes) (i:=ζ k) (by rw[<-HM.o];exact L);obtain⟨b,o,fa,ra,va,fc,rc,vc,l,T,u,t,N,R,r⟩:=f.B.below HK.C (ζ k) x F;subst l;have f:=HN.b x<|aO F;have l:=HN.C x<|aO F;have HX:=hid<|Aa F<|Aa r<|Aa f l;have hz5:=HK.C.size;clear F r f l;go_upto_region 20 with fail
  clear T u t N R E;refine iU (F:=Code.wp _ _ _ _) λs l=>?_;have y1:=A l.a;go_upto_region 21 with fail
  clear y1;refine iU (F:=Code.wp _ _ _ _) λT2 f=>?_;have r:=l.B;have X:J (Bl X0 T2/\T2.1[δ X0.1]?=z' _/\T2.1[δ s.1]?=z' _):=⟨aq l.b f.b,aG f.b l.a,f.a⟩;have t:=f.B;clear l f;obtain⟨xb,l⟩:=Ea s.1.size;rw[<-l]at X r t;rw[<-l];clear l;have Hy:=hid<|Aa r t;have f:δ C.1<=δ T2.1:=I;have afK:δ X0.1≠xb:=I;have s:xb≠δ X0.1:=I;have z:δ X0.1<=xb:=I;clear r t;have y1:=A X.b;have z1:=A X.B;go_upto_region 22 with(at_builtin;refine aaL rfl _ _ rfl C.1.size rfl fa fc x.facts rfl HX.b.af0 (HX.b.facts.below X.a) HX.c.fsz f ?_;clear y1 z1;intro E r U o6 l f;have z1:=A ((l.block _ (blt X.B) ak).trans X.B);have s:=hid<|Aa o6<|Aa l f;clear o6 l f)
  have l:=Pj (o:=0) X.a X.B z s.b<|bk E (ζ x.facts) r;have f:(κ U (O xb 0)<|bk E (ζ x.facts) r).1[δ X0.1]?=z' _:=((fr1 U xb 0<|bk E (ζ x.facts) r).block _ (by have:=s.b.size;have:=Hy.A;omega) afK).trans ((s.b.block _ (blt X.b) ak).trans X.b);have z:xb<δ (κ U (O xb 0)<|bk E (ζ x.facts) r).1:=by have:=s.b.size;have:=(fr1 U xb 0<|bk E (ζ x.facts) r).size;have:=Hy.A;omega
  generalize t:κ U (O xb 0) (bk E (ζ x.facts) r)=V6 at l f z;have HV:J (Bl X0 V6/\b' V6 xb #[g' E (ζ x.facts) r,g' A' 0 0,h' x.aF,G 0,g' A' 0 0] 96/\V6.1[δ X0.1]?=z' _/\ρ V6 C.1.size 3 1 (bk E (ζ x.facts) r) (ζ x.facts) (x.facts.map G)/\(E=A'->r=0)):=⟨l.1,l.2.1,f,l.2.2.1 _ _ _ _ _ _ aj s.a,s.B⟩;clear t l s X z1 f;go_wp2_with fail;go_loopw[15] (λs f=>∃(j:Nat)(T:t')(R:Nat),j<=ζ x.aM/\s=G j/\J (f.1[xb]?=z' (i' #[g' E (ζ x.facts) r,g' A' 0 0,h' x.aF,G 0,g' T j R] 96 (0,0))/\ρ f V6.1.size 73 6 (g' T j R) j (vG<|x.aM.take j)/\Fr (λq=>q≠xb) V6 f)) (λs _=>ζ x.aM-(intOf s).toNat)
  case atStart=>exact⟨0,A',0,bm,rfl,HV.b,dj,Fr.refl _ _⟩
  obtain⟨j,T,R,hj,rfl,N⟩:=hrel;have afD:=HV.a.size;have Iz:=hid<|HV.a.trans<|N.B.below afD (λq hq=>by show q≠xb;have:=Hy.a;omega);have TE:=N.B.box HV.c afK;by_cases hlj:j<ζ x.aM;rotate_left
  .have acE:¬(j:Int)<(ζ x.aM:Int):=I;obtain rfl:j=ζ x.aM:=I;have f:(x.aM.take<|ζ x.aM)=x.aM:=jj;have EG:J (ρ wr V6.1.size 73 6 (bk T (ζ x.aM) R) (ζ x.aM)<|vG x.aM):=by have:=N.b;rwa[f]at this
   clear f;have HXO:J (j5 wr C.1.size ⟨E,r,A',0,T,R,tU x⟩):=by
     refine⟨N.B.own HV.d (λq e=>by have:=N.a;intro e2;subst e2;exact dV HV.d HV.b aj e),dj,?_,HV.D,λ_=>rfl,λe=>?_⟩
     .have:=c8 EG.o<|bX HK.C.size afD;rw[Sf]at this;simpa[tU]using this
     show R=0;have e2:T=A':=e;subst e2;rcases EG.A with⟨hv,_⟩|⟨g,f,f,hv,_⟩
     .simp at hv;exact hv.2
     simp at hv
   have HOR:=hid<|aZ HK.b Iz.o;have HBK:=hid<|Aa Iz.o<|aq HK.C Iz.o;have z1:=A N.a;have y1:=A TE;have f:=Iz.o.size;go_wp2_with (at_builtin;refine fz rfl _ _ 46 rfl C.1.size 96 i0 _ 5 88 underlying46 HI.a.1 HI.a.2.1 HI.a.2.2.1 HI.a.2.2.2 rfl aj (bk oa (ζ k) oc) (ζ k) (rD k) rfl (HOR.o.alloc _) (O wr.1.size 0) 1 1 [g' E (ζ x.facts) r,g' A' 0 0,h' x.aF,G 0,g' T (ζ x.aM) R] rfl rfl (mM<|cF wr<|i' #[g' E (ζ x.facts) r,g' A' 0 0,h' x.aF,G 0,g' T (ζ x.aM) R] 96) (by intro u hu;simp only[cM,dR,dz]at hu;rcases hu with rfl|rfl|rfl|rfl|rfl<;>rfl) (by simp only[maxLen];omega) I G' ?_;intro v9 l o9 F _;obtain⟨a9,c9,rfl⟩:=aV o9;have H9:=hid<|Aa o9 F;clear o9 F z1 y1);have GQ:=eK<|HOR.o.alloc<|i' #[g' E (ζ x.facts) r,g' A' 0 0,h' x.aF,G 0,g' T (ζ x.aM) R] 96;have HRW:=hid GQ;clear GQ;go_roundw
   case rel=>
     refine⟨k++[⟨E,r,A',0,T,R,tU x⟩],a9,c9,G',ak,ak,?_,?_,?_,?_⟩
     .rw[fq,HK.a,bg,e4,Sp HX.a];rfl
     .have:=H9.a;rw[bg,e4];simpa[rD,k?,tU]using this
     .intro y B;rcases iF.1 B with h|h
      .exact(((HK.c y h).below Iz.o).below bA).kept H9.A HRW.o
      simp only[j9]at h;subst h;exact(HXO.o.below bA).kept H9.A HRW.o
     exact(HBK.A.alloc HBK.A.size _).grown H9.A (by have:=HBK.A.size;simp;omega) λq hq=>(HOR.o.lt q hq).1
   exact F'
  have acE:(j:Int)<(ζ x.aM:Int):=I;obtain⟨v,hv⟩:=La hlj;obtain⟨b6,o6,X,t,Y,d2,-,-,-⟩:=HX.b.aM.below Iz.o j v hv;subst X;have HVV:=hid<|JY hv;have PD:b6<δ X0.1:=by obtain⟨f,f,e7,f0,-⟩:=HX.b.aM j v hv;cases e7;exact dW f0
  have W:=HX.C;have y1:=A TE;go_upto_region 25 with fail
  clear y1 hv;refine st (λW'=>b' W' xb #[g' E (ζ x.facts) r,g' A' 0 0,h' x.aF,G 0,g' T j R] 96/\b' W' X0.1.size #[g' fa (ζ x.facts) fc,g' ra (ζ x.bf) rc,h' x.aF,G x.rank,g' (z'<|O b6 o6) (ζ x.aM) vc] 96/\χ W' (O b6<|o6+j*6)=z' (G v.aH)/\χ W' (O b6<|o6+j*6+1)=z' (G v.lo)/\χ W' (O b6<|o6+j*6+2)=z' (G v.hi)) 23 (hS:=⟨N.a,TE,t,Y,d2⟩) (h:=λaC=>?_);refine tt 0 (m'<|z'<|O xb 4) (h:=?_);refine tt 1 (g' T j R) (y:=λW' aW=>by have k1:=(A aW.1).1;clear aC aW;go_simp) (h:=?_);refine tt 2 (m'<|z'<|O X0.1.size 4) (h:=?_);refine tt 3 (kW b6 o6 (ζ x.aM) vc) (y:=λW' aW=>by have k1:=(A aW.2.1).1;clear aC aW;go_simp) (h:=?_);refine tt 4 (G j) (h:=?_);refine tt 5 (m'<|z'<|O b6<|o6+j*6) (h:=?_);refine tt 6 (m'<|z'<|O b6<|o6+j*6) (h:=?_);refine tt 7 (G v.aH) (y:=λW' aW=>by have k1:=aW.2.2.1;clear aC aW;go_simp) (h:=?_);refine tt 8 (m'<|z'<|O X0.1.size 4) (h:=?_);refine tt 9 (kW b6 o6 (ζ x.aM) vc) (y:=λW' aW=>by have k1:=(A aW.2.1).1;clear aC aW;go_simp) (h:=?_);refine tt 10 (G j) (h:=?_);refine tt 11 (m'<|z'<|O b6<|o6+j*6) (h:=?_);refine tt 12 (m'<|z'<|O b6<|o6+j*6+1) (h:=?_);refine tt 13 (G v.lo) (y:=λW' aW=>by have k1:=aW.2.2.2.1;clear aC aW;go_simp) (h:=?_);refine tt 14 (m'<|z'<|O X0.1.size 4) (h:=?_);refine tt 15 (kW b6 o6 (ζ x.aM) vc) (y:=λW' aW=>by have k1:=(A aW.2.1).1;clear aC aW;go_simp) (h:=?_);refine tt 16 (G j) (h:=?_);refine tt 17 (m'<|z'<|O b6<|o6+j*6) (h:=?_);refine tt 18 (m'<|z'<|O b6<|o6+j*6+2) (h:=?_);refine tt 19 (G v.hi) (y:=λW' aW=>by have k1:=aW.2.2.2.2;clear aC aW;go_simp) (h:=?_);refine tt 20 (j' #[G v.aH,G v.lo,G v.hi,h' O',G 0,G 0]) (h:=?_);refine rt 21 (h:=λK hK=>?_);go_simp;refine hK.out _ _ (λ_=>⟨aG bA aC.1,aG bA aC.2.1,aB aC.2.2.1 bA,aB aC.2.2.2.1 bA,aB aC.2.2.2.2 bA⟩) ?_;clear hK K;refine pt ?_;refine TY (F:=λV=>pz _ _ _ _ _ _ _ _ _ V) λT3 X=>?_;have YK:=hid<|Aa (aG X.A N.a)<|Aa (aG X.A TE)<|Aa (aB t X.A)<|Aa (aB Y X.A)<|aB d2 X.A;have CI:=hid<|aZ N.b X.A;have AN:=bX N.B.size X.A.size;have HFR:=hid (N.B.trans (Fr.bJ (P:=λq=>q≠xb) X.A) λ_ _ h=>h);refine rt 22 (h:=λK hK=>?_);refine gw rfl (.tmp 78) (.tmp 98) 71 rfl V6.1.size 73 i1 (j' nL) 6 48 underlying71 HI.b HI.c HI.d HI.D rfl aj (g' T j R) j (vG<|x.aM.take j) rfl CI.o (O wr.1.size 0) 1 1 (pvC v) rfl rfl (mM X.a) (by intro u hu;simp only[pvC,cM,dR,dz]at hu;rcases hu with rfl|rfl|rfl|rfl|rfl|rfl<;>rfl) (by simp only[maxLen];omega) I AN ?_;intro v9 l o9 F _;obtain⟨a9,c9,rfl⟩:=aV o9;have s:some xb≠φ (g' T j R):=λe=>dV CI.o YK.a aj e.symm;have f:∀q,q<δ V6.1->some q≠φ (g' T j R):=λq hq e=>by have:=(CI.o.lt q e.symm).1;omega
  have r:=(F.block xb (blt YK.a) s).trans YK.a;have t:=(F.block X0.1.size (blt YK.b)<|f _ I).trans YK.b;have g:b6<δ X0.1:=PD;have g:∀o,χ l (O b6 o)=χ T3 (O b6 o):=λo=>bh<|F.block b6 I<|f _ I;refine hK.out _ _ (λ_=>⟨r,t,(g _).trans YK.c,(g _).trans YK.d,(g _).trans YK.D⟩) ?_;clear hK K;have H9:=hid (Aa o9<|Aa r<|HFR.o.grown F λq hq _=>f q hq);clear o9 F s f r t g YK CI HFR X aC;refine pt ?_;refine rt 23 (h:=λK hK=>?_);go_simp;refine hK.out _ _ (λh=>absurd h aj) ?_;clear hK K;refine pt ?_;refine rt 24 (h:=λK hK=>?_);obtain⟨k1,f⟩:=A H9.b;go_simp;refine hK.out _ _ (λh=>absurd h aj) ?_;clear hK K k1 f;refine pt ?_;refine dt (h:=?_);go_wp2_with fail;go_roundw
  case rel=>
   refine⟨j+1,a9,c9,hlj,e',?_,?_,?_⟩
   · rw[H H9.b _];rfl
   · rw[HVV.o]
     exact H9.a.kept (cQ l xb 4 _) (aR λe=>dV H9.a H9.b aj e)
   exact H9.B.set λq h=>h
  exact F'
section
variable {q:List PN×List bI}{f:Int}{a E:Nat}
attribute [local go_sem] Oper.semAt_some
def FA(r:Pr)(p:Int)(pl tl:Nat)(nr:Int):Int:=match r with
 | .inl b=>if b then 2 else 1
 | .inr _=>if p<1\/6<p then 3 else if 200<pl\/20<tl\/nr<0\/8<nr then 4 else 0
def abp(h:p<1\/6<p):FA (.inr q) p a E f=3:=aD h
def abo(D:1<=p/\p<=6)(h:200<a\/20<E\/f<0\/8<f):FA (.inr q) p a E f=4:=(aA I).trans<|aD h
def aei(D:1<=p/\p<=6)(h:¬(200<a\/20<E\/f<0\/8<f)):FA (.inr q) p a E f=0:=(aA I).trans<|aA h
def LU{p:Prop}(h:p:=by
 go_wp2_with fail
 exact aE (v:=o' #[k' ⟨#[]⟩,G 4]) (by simp[results18,go_sem]) rfl ⟨by rw[e.o],a.o⟩):p:=h
def ZA{p:Prop}(h:p:=by
 go_wp2_with fail
 exact aE (v:=o' #[k' ⟨#[]⟩,G 3]) (by simp[results18,go_sem]) rfl ⟨by rw[e.o],a.o⟩):p:=h
def ET(s:x')(p:Int)(k g:t')(d B E S:Nat)(c:Int)(w:p')(hE:Env w)(D:FA (iD s) p d E c≠0):
  Cl 18 (A1 s p k d B g E S c) w (Rb w<|o' #[k' ⟨#[]⟩,G<|FA (iD s) p d E c]):=by
 have l:=hid hE;have j:=hid D;obtain⟨a,v⟩:=Ea<|FA (iD s) p d E c;rw[<-v];have f:=hid v;clear hE D v;go_enter func18,ntmps18;go_upto_region 1 with fail
 refine qo (F:=Code.wp _ _ _ _) λn U=>?_;have g:=hid<|l.o.below U.a;go_wp2_with fail;refine(Bz s n g.o).mono ?_;rintro e t ⟨e,C⟩;have r:=hid e;clear e;have h:=hid<|aq U.a r.o;cases i:iD s with
 |inl b=>
  rw[i]at C;have f:J (a=FA (.inl b) p d E c):=by rw[<-i];exact f.o
  clear i;cases b
  .obtain rfl:=C;go_wp2_with fail;exact aE (v:=o' #[k' ⟨#[]⟩,G 1]) (by simp[results18,go_sem]) rfl ⟨by rw[f.o];rfl,aq h.o bA⟩
  obtain rfl:=C;go_wp2_with fail;exact aE (v:=o' #[k' ⟨#[]⟩,G 2]) (by simp[results18,go_sem]) rfl ⟨by rw[f.o];rfl,aq h.o bA⟩
 |inr q=>
  rw[i]at C;have f:J (a=FA (.inr q) p d E c/\a≠0):=⟨by rw[<-i];exact f.o,by rw[f.o];exact j.o⟩;obtain⟨g,a,D,S,rfl,-⟩:=C;clear i;go_upto_region 2 with fail
  refine qo (F:=Code.wp _ _ _ _) λq e=>?_;have a:=hid<|aq h.o e.a;have g:=A<|aG (aq r.o e.a) U.b;by_cases U:p<1\/6<p
  .have e:=hid<|f.a.trans<|abp U;rcases U with U|U
   .exact ZA
   have Y:¬p<1:=I;exact ZA
  have Y:1<=p:=I;have R:p<=6:=I;clear U;by_cases U:200<d\/20<E\/c<0\/8<c;rotate_left
  .exact absurd (f.a.trans<|aei ⟨Y,R⟩ U) f.A
  have e:=hid<|f.a.trans<|abo ⟨Y,R⟩ U;by_cases S:200<d
  .have r:(200:Int)<d:=I;clear U;exact LU
  have r:(d:Int)<=200:=I;by_cases n:20<E
  .have t:(20:Int)<E:=I;clear U;exact LU
  have t:(E:Int)<=20:=I;by_cases d:c<0
  .clear U;exact LU
  have f:8<c:=I;have K:0<=c:=I;clear U d;exact LU
def FB(s:x')(p:Int)(g d:t')(h B E S:Nat)(c:Int)(w:p'):
  Cl 35 (A1 s p g h B d E S c) w (Rb w<|G<|FA (iD s) p h E c):=by
 obtain⟨j,v⟩:=Ea<|FA (iD s) p h E c;rw[<-v];have f:=hid v;clear v;go_enter func35,ntmps35;go_upto_region 1 with fail
 refine qo (F:=Code.wp _ _ _ _) λn U=>?_;go_wp2_with fail;refine(q! s n).mono ?_;rintro e t ⟨a,C⟩;have r:=hid a;clear a;have a:=hid<|aq U.a r.o;have d:=A<|aG r.o U.b;cases i:iD s with
 |inl b=>
  rw[i]at C;have f:J (j=FA (.inl b) p h E c):=by rw[<-i];exact f.o
  clear i d;cases b
  .obtain rfl:=C;go_wp2_with fail;go_ret;exact⟨by rw[f.o];rfl,a.o⟩
  obtain rfl:=C;go_wp2_with fail;go_ret;exact⟨by rw[f.o];rfl,a.o⟩
 |inr q=>
  rw[i]at C;obtain⟨N,g,d,z,x,y,D,d,S,rfl,-⟩:=C;have f:J (j=FA (.inr q) p h E c/\True):=⟨by rw[<-i];exact f.o,trivial⟩;clear i;by_cases U:p<1\/6<p
  .have d:=hid<|f.a.trans<|abp U;rcases U with U|U
   .go_wp2_with fail;go_ret;exact⟨by rw[d.o];rfl,a.o⟩
   have Y:¬p<1:=I;go_wp2_with fail;go_ret;exact⟨by rw[d.o];rfl,a.o⟩
  have Y:1<=p:=I;have R:p<=6:=I;clear U;by_cases U:200<h\/20<E\/c<0\/8<c;rotate_left
  .have d:=hid<|f.a.trans<|aei ⟨Y,R⟩ U;have r:(h:Int)<=200:=I;have t:(E:Int)<=20:=I;have K:0<=c:=I;have g:c<=8:=I;clear U;go_wp2_with fail;go_ret;exact⟨by rw[d.o];rfl,a.o⟩
  have d:=hid<|f.a.trans<|abo ⟨Y,R⟩ U;by_cases S:200<h
  .have r:(200:Int)<h:=I;clear U;go_wp2_with fail;go_ret;exact⟨by rw[d.o];rfl,a.o⟩
  have r:(h:Int)<=200:=I;by_cases n:20<E
  .have t:(20:Int)<E:=I;clear U;go_wp2_with fail;go_ret;exact⟨by rw[d.o];rfl,a.o⟩
  have t:(E:Int)<=20:=I;by_cases e:c<0
  .clear U;go_wp2_with fail;go_ret;exact⟨by rw[d.o];rfl,a.o⟩
  have g:8<c:=I;have K:0<=c:=I;clear U e;go_wp2_with fail;go_ret;exact⟨by rw[d.o];rfl,a.o⟩
end
section
variable {a:List Bool}{P:Pm}{g:List (List Bool)}
abbrev qq(th:List Bool):Nat->Bool:=λm=>th.getD m O'
def Vv(P:Pm)(p:Int)(f:Nat)(th:List Bool):Prop:=∀S:Nat->Bool,(∀n,n<ζ P.nd->P.rule p f n S=N'->S n=N')->∀n,qq th n=N'->S n=N'
def Vv.start(P:Pm)(p:Int)(f n:Nat):Vv P p f (replicate n O'):=λ_ _ m h=>by simp only[qq,getD,j!]at h;split at h<;>simp at h
def Yw(K:n<ζ a)(m:Nat):qq (a.set n N') m=(qq a m||decide (m=n)):=by
 simp only[qq,getD,e5];by_cases e:n=m
 .subst e;simp[K]
 rw[aA e];have:¬m=n:=λh=>e h.symm;simp[this]
def Vv.put(h:Vv P p f a)(X:ζ a=ζ P.nd)(K:n<ζ a)(c:P.rule p f n (qq a)=N'):Vv P p f (a.set n N'):=λS u m d=>by
 rw[Yw K,eZ]at d;rcases d with d|d
 .exact h S u m d
 have:m=n:=H' d;subst this;exact u m I<|mI (λk a=>h S u k a) c
def Nu:∀{a:List Bool}{n:Nat},a[n]?=z' O'->(a.set n N').count O'+1=a.count O'
 |[],n,h=>by simp at h
 |b::l,0,h=>by simp at h;subst h;simp
 |b::l,n+1,h=>by have:=Nu (a:=l) (n:=n)<|H' h;simp only[cO,count_cons];omega
def mT(Rt:List<|List Bool)(n:Nat):List Nat:=(range<|ζ Rt).filter λf=>qq (Rt.getD f []) n
def PL(g:List<|List Bool)(t:List Bool)(n:Nat):mT (g++[t]) n=mT g n++(if qq t n=N' then[ζ g] else[]):=by
 rw[mT,bg,e4,kq,Cw];congr 1
 .apply Cv;intro f Y;have:f<ζ g:=H' Y;rw[getD,getD,gI this]
 have:(g++[t]).getD (ζ g) []=t:=by simp[getD]
 simp only[qS,this,filter_nil]
def zq:f∈mT g n↔f<ζ g/\qq (g.getD f []) n=N':=by simp[mT]
def Bj:∀(l:List Nat)(Y:Int),l.Pairwise (·<·)->(∀x∈l,Y<=(x:Int))->(∀x∈l,x<=100000)->dI Y (l.map Int.ofNat)=true
 |[],_,_,_,_=>rfl
 |a :: l,_,h,Y,hm=>by rw[pairwise_cons]at h;have C:=Y a ak;have c:=Bj l ((a:Int)+1) h.2 (λx F=>by have:=h.1 x F;omega) λx F=>hm x (by simp[F]);have N:=hm a ak;rw[fA,dI];simp only[aY,bM];exact⟨⟨C,by show(a:Int)<=100000;omega⟩,c⟩
def KI(g:List<|List Bool)(n:Nat)(X:ζ g<=1000):dI 0 ((mT g n).map Int.ofNat)=N':=
 Bj _ _ (List.Pairwise.filter _ pairwise_lt_range) (λx _=>I) λx F=>by have:=(zq.1 F).1;omega
def lsN(Rt:List<|List Bool)(N:Nat):List Nd:=(range N).map λn=>⟨(mT Rt n).map Int.ofNat,[],O',0,[]⟩
def lsF(P:Pm)(p:Int)(Rt:List<|List Bool):Prop:=∀f,f<ζ Rt->Vv P p f (Rt.getD f [])/\∀n,n<ζ P.nd->P.rule p f n (qq<|Rt.getD f [])=N'->qq (Rt.getD f []) n=N'
def lsF.snoc{t:List Bool}(h:lsF P p g)(C:Vv P p (ζ g) t)(a:∀n,n<ζ P.nd->P.rule p (ζ g) n (qq t)=N'->qq t n=N'):lsF P p (g++[t]):=λf Y=>by
 rw[bg,e4]at Y;by_cases e:f<ζ g
 .have:=h f e;rw[show(g++[t]).getD f []=g.getD f [] by rw[getD,getD,gI e]];exact this
 have:f=ζ g:=I;subst this;rw[show(g++[t]).getD (ζ g) []=t by simp[getD]];exact⟨C,a⟩
def WL{x:Nd}(h:x.aF=O'/\x.aM=[]):tU x=⟨x.facts,[],O',0,[]⟩:=by rw[tU,h.1,h.2];rfl
def Xc{c:Ct}{e:List (List Bool)}(U:p<=4)(k:LsC P p c)(X:ζ e=P.facts p)(d:P.facts p<=1000)(hF:lsF P p e):c.nodes.map tU=lsN e (ζ P.nd):=by
 have a:c.aL<=4:=by rw[k.pr];exact U
 have u:=V? k.ok a;have Y:=nC k.VD;obtain⟨U,q⟩:=Ym k.VD a k.gr;obtain⟨K,B⟩:=B0 Y a;have j:=(RE P c).1 U
 have l:∀f n,f<P.facts p->(pF c f (-1) n=N'↔qq (e.getD f []) n=N'):=λf n i=>by
  obtain⟨R,a⟩:=hF f I;constructor
  .intro h
   let T:Nat->Nat->Bool:=λg m=>qq (e.getD g []) m
   exact mO (th:=T) u k.gr q K (λg m e d a=>(hF g (by rw[k.pr]at e;omega)).2 m d (by rw[k.pr]at a;exact a)) ((c.at n).oF f).toNat.succ f n (by rw[k.pr];exact i) h I
  intro h;exact R _ (λm d a=>j f m (by rw[k.pr];exact i) d<|by rw[k.pr];exact a) n h
 apply et;intro n;rw[lsN,a!,a!];by_cases K:n<ζ P.nd;rotate_left
 .rw[cq I,cq G'];rfl
 have z:c.nodes[n]?=z' (c.at n):=by rw[Ct.at,getD,bj I];rfl
 rw[z,j7 K];simp only[gK,dU];have e:=tG (c:=c) (n:=n) I;rw[WL<|u.bare _ e];congr 1;refine Bm _ _ 0 0 (u.dI _ e) (KI _ _ I) λx=>?_;constructor
 .intro F;obtain⟨f,rfl,C,o⟩:=Du u Y F;rw[k.pr]at C;exact bG.2 ⟨f,zq.2 ⟨I,(l f n C).1 o⟩,rfl⟩
 intro F;obtain⟨f,C,rfl⟩:=bG.1 F;obtain⟨o,N⟩:=zq.1 C;exact(LY c f n).1 ((l f n I).2 N)
end
section
variable {a:List EV}{P:Pm}
def Vw(P:Pm)(es:List EV):Prop:=∀S:Nat->EV,(∀n,dw 5 P.nv<|S n)->(∀n,n<ζ P.nd->iP 5 (P.say 5 n S) (S n))->∀n,iP 5 (nU es n)<|S n
def Vw.start(P:Pm)(n:Nat):Vw P (replicate n A'):=λS _ _ m=>by
 have:nU (replicate n A') m=A':=by simp only[nU,getD,j!];split<;>rfl
 rw[this];trivial
def Yv(K:n<ζ a)(x:EV)(m:Nat):nU (a.set n x) m=if m=n then x else nU a m:=by
 simp only[nU,getD,e5];by_cases e:n=m
 .subst e;simp[K]
 rw[aA e,aA λh=>e h.symm]
def rR(h:∀e∈a,dw 5 P.nv e)(m:Nat):dw 5 P.nv (nU a m):=by
 rw[nU,getD];cases d:a[m]? with
 |none=>exact lq
 |some e=>exact h e<|aO d
def Vw.put(d:nD P)(h:Vw P a)(c:∀e∈a,dw 5 P.nv e)(X:ζ a=ζ P.nd)(K:n<ζ a):Vw P (a.set n<|qD 5 (nU a n)<|P.say 5 n<|nU a):=λS u y m=>by
 rw[Yv K];by_cases e:m=n
 .subst e;rw[aD rfl];have C:=gi (aP rfl) d m<|rR c;refine DB (rR c m) C (h S u y m) ?_;exact fh (gi (aP rfl) d m u) C (yj (aP rfl) d m (rR c) u λk=>h S u y k)<|y m I
 rw[aA e];exact h S u y m
def hE(nv:Nat):EV->Nat
 |none=>nv+1
 |some l=>l.countP λv=>!v.any
def muE(nv:Nat)(es:List EV):Nat:=(es.map<|hE nv).sum
def Ns:∀(a b:List VV),ζ a=ζ b->(∀v∈a,okV 5 v)->(∀v∈b,okV 5 v)->(zipWith (g! 5) a b).countP (λv=>!v.any)<=a.countP (λv=>!v.any)/\((zip b a).all (λx=>VV.p5 (g! 5 x.1 x.2) x.2)=O'->(zipWith (g! 5) a b).countP (λv=>!v.any)<a.countP (λv=>!v.any))
 |[],[],_,_,_=>⟨aK,λh=>by simp at h⟩
 |[],_::_,h,_,_=>by simp at h
 |_::_,[],h,_,_=>by simp at h
 |x::a,y::b,h,c,hb=>by
  obtain⟨X,d⟩:=Ns a b (H' h) (λv R=>c v<|by simp[R]) (λv R=>hb v<|by simp[R]);have F:=(c x ak).form;have B:=(hb y ak).form;rw[aD rfl]at F B;simp only[zipWith_cons_cons,Cu,zip_cons_cons,vk];by_cases e:x=y
  .subst e;have C:g! 5 x x=x:=by rw[g!,aD rfl,aD ((VV.fX x x).2 rfl)]
   rw[C,(VV.fX x x).2 rfl,eN];exact⟨I,λh=>I'<|d h⟩
  have C:g! 5 x y=VV.dT:=by rw[g!,aD rfl,aA λh=>e ((VV.fX x y).1 h)]
  have a:g! 5 y x=VV.dT:=by rw[g!,aD rfl,aA λh=>e ((VV.fX y x).1 h).symm]
  rw[C,a];rcases F with F|F
  .subst F;rw[(VV.fX _ _).2 rfl,eN];exact⟨I,λh=>I'<|d h⟩
  have N:x.any=O':=by rw[F];rfl
  have d:(!VV.dT.any)=O':=rfl;rw[N,d];simp only[Cs,dQ,eF,eV];exact⟨I,λ_=>I⟩
def XP{Q:Nat}{e x:EV}(c:dw 5 Q e)(F:dw 5 Q x)(d:t? 5 x e=O'):hE Q (qD 5 e x)<hE Q e:=by
 match e,x with
 |e,none=>simp[t?]at d
 |none,some l=>have:=(F l rfl).1;have a:l.countP (λv=>!v.any)<=ζ l:=countP_le_length;show l.countP _<Q+1;omega
 |some a,some b=>exact(Ns a b (by rw[(c a rfl).1,(F b rfl).1]) (c a rfl).2 (F b rfl).2).2 d
def SW:∀{c:List EV}{n Q:Nat}{e x:EV},c[n]?=z' e->hE Q x<hE Q e->muE Q (c.set n x)<muE Q c
 |[],n,_,_,_,h,_=>by simp at h
 |a::l,0,_,_,_,h,hl=>by simp at h;subst h;simp only[muE,dm,fA,kS];omega
 |a::l,n+1,Q,e,x,h,hl=>by have:=SW (c:=l) (n:=n) (x:=x) (H' h) hl;simp only[muE,cO,fA,kS]at this|-;omega
def Dv(v:VV):Vl:=if v.any then⟨2,0,0,O',0,0⟩ else⟨1,v.lo,0,O',0,0⟩
def wu(e:EV):Nd:=match e with|none=>⟨[],[],O',0,[]⟩|some l=>⟨[],[],N',0,l.map Dv⟩
def Uf(es:List EV):Ct:=⟨5,1,es.map wu⟩
def af2(a:List EV)(n:Nat)(K:n<ζ a):(Uf a).at n=wu (nU a n):=by rw[Ct.at,Uf,nU,getD,getD,a!,bj K];rfl
def VR{v:VV}(h:okV 5 v):cS (-1) (Dv v)=v:=by
 have Y:=h.form;rw[aD rfl]at Y;unfold Dv;rcases Y with Y|Y
 .rw[Y];rfl
 have:v.any=O':=by rw[Y];rfl
 rw[this];simp only[eF,eV,cS];exact Y.symm
def acQ(d:∀e∈a,dw 5 P.nv e)(n:Nat)(K:n<ζ a):eg (Uf a) (-1) n=nU a n:=by
 rw[eg,af2 a n K];have c:=rR d n;cases d:nU a n with
 |none=>rfl
 |some l=>
  have:=(c l d).2;have C:gC (wu<|z' l) (-1)=z' ((l.map Dv).map<|cS (-1)):=by unfold gC;exact aA (λh=>by rcases h with h|h;(· cases h);have:=h.1;omega)
  rw[C];congr 1;rw[fS]
  conv=>rhs;rw[<-map_id l]
  exact eQ λv R=>VR<|this v R
def af1{f:List EV}(j:∀e∈f,dw 5 P.nv e):AI (Uf f) P.nv:=by
 have F:∀x∈(Uf f).nodes,∃e∈f,x=wu e:=λx F=>by obtain⟨e,C,g⟩:=bG.1 F;exact⟨e,C,g.symm⟩
 have i:∀(e:EV)(l:List VV),e∈f->e=z' l->∀v∈(wu e).aM,∃u∈l,okV 5 u/\v=Dv u:=λe l d K v i=>by subst K;obtain⟨u,C,g⟩:=bG.1 i;exact⟨u,C,(j _ d l rfl).2 u C,g.symm⟩
 have R:∀x∈(Uf f).nodes,∀v∈x.aM,∃u,okV 5 u/\v=Dv u:=λx a v c=>by
  obtain⟨e,d,rfl⟩:=F x a;cases e with
  |none=>cases c
  |some l=>obtain⟨u,_,g⟩:=i _ l d rfl v c;exact⟨u,g⟩
 refine⟨rfl,λx a n=>?_,λx a v c=>?_,λx a v c=>?_,λx a=>?_⟩
 .obtain⟨e,d,rfl⟩:=F x a;cases e with
  |none=>cases n
  |some l=>
   refine⟨by simp[wu,(j _ d l rfl).1],fY,λv c=>?_⟩;obtain⟨u,_,_,rfl⟩:=i _ l d rfl v c;unfold Dv;cases u.any
   .exact aP ⟨rfl,rfl⟩
   exact aR<|aR ⟨rfl,rfl,rfl⟩
 .obtain⟨u,k,rfl⟩:=R x a v c;cases f:u.any
  .rw[show Dv u=⟨1,u.lo,0,O',0,0⟩by rw[Dv,f];rfl];exact⟨k.bd.lo,by show(-2^63:Int)<=0/\(0:Int)<=9223372036854775807;decide⟩
  rw[show Dv u=⟨2,0,0,O',0,0⟩by rw[Dv,f];rfl];exact⟨by show(-2^63:Int)<=0/\(0:Int)<=9223372036854775807;decide,by show(-2^63:Int)<=0/\(0:Int)<=9223372036854775807;decide⟩
 .obtain⟨u,k,rfl⟩:=R x a v c;unfold Dv;cases u.any<;>rfl
 obtain⟨e,d,rfl⟩:=F x a;cases e with
 |none=>exact⟨rfl,λ_=>rfl⟩
 |some l=>exact⟨rfl,λh=>by cases h⟩
def Pc(e:EV):tU (wu e)=wu e:=by
 cases e with
 |none=>rfl
 |some l=>simp only[wu,tU,fS];congr 1;exact eQ λv _=>by simp only[Function.comp,Dv,plV];split<;>rfl
def Xd{c:Ct}(f:nD P)(T:LsC P 5 c)(hE:AI c P.nv)(X:ζ a=ζ P.nd)(d:∀e∈a,dw 5 P.nv e)(k:Vw P a)(u:∀n,n<ζ a->iP 5 (P.say 5 n<|nU a) (nU a n)){R:Nat}(j:∀x∈c.nodes,x.rank<R/\∀v∈x.aM,v.rank<R):c.nodes.map tU=a.map wu:=by
 have Y:=nC T.VD;obtain⟨U,h⟩:=Yn T.VD T.pr T.gr;obtain⟨K,_⟩:=zn Y;have y:=(E! f hE).1 U;have g:=af1 d
 have X:∀n,eg c (-1) n=eg (Uf a) (-1) n:=λn=>by
  by_cases i:n<ζ a
  .rw[acQ d n i];refine BL (fH hE _ n) (rR d n) ?_<|k _ (λm=>fH hE _ m) y n;rw[<-Yh hE (R:=(R:Int)) I j n];exact ki f hE h K (S:=nU a) (rR d) (λm d=>u m I) R n R I fY
  have C:c.at n=EA:=pf I;have c:(Uf a).at n=EA:=pf (by simp[Uf];omega);unfold eg;rw[C,c]
 have:=KP hE g (by simp[Uf];omega) X;rw[this];unfold Uf;rw[fS];exact eQ λe _=>Pc e
end
section
variable {e size d s:Nat}{D:List y'}
structure rW where
  v:y'
  n:Nat
  xs:List y'
  rd:Bool
def Ic:rW:=⟨g' A' 0 0,0,[],O'⟩
def L!(b:Bool)(e:rW):List y':=[if b then e.v else g' A' 0 0,g' A' 0 0,h' e.rd,G 0,if b then g' A' 0 0 else e.v]
def nk(b:Bool)(e:rW):ζ (L! b e)=5:=rfl
def aeh(b:Bool)(e:rW)(v:y')(n:Nat)(D:List y'):L! b ⟨v,n,D,e.rd⟩=(L! b e).set (if b then 0 else 4) v:=by cases b<;>rfl
def abl(b:Bool)(e:rW)(r:Bool):L! b {e with rd:=r}=(L! b e).set 2 (h' r):=by cases b<;>rfl
def gZ(b:Bool)(l:List rW):List y':=l.flatMap<|L! b
def Oz(b:Bool)(l:List rW):ζ (gZ b l)=ζ l*5:=by
 induction l with
 |nil=>rfl
 |cons a l B=>simp only[gZ,bW,bg,bU]at B|-;rw[B,nk];omega
def jL(b:Bool):∀(l:List rW)(k:Nat)(e:rW)(j:Nat),l[k]?=z' e->j<5->(gZ b l)[k*5+j]?=(L! b e)[j]?
 |[],k,e,j,h,_=>by simp at h
 |a::q,0,e,j,h,hj=>by simp at h;subst h;simp only[gZ,bW,e6,bH];rw[gI<|by rw[nk];omega]
 |a::q,k+1,e,j,h,hj=>by have B:=jL b q k e j (H' h) hj;simp only[gZ,bW]at B|-;rw[eB<|by rw[nk];omega,<-B];congr 1;rw[nk];omega
def uz(b:Bool):∀(l:List rW)(k:Nat)(e L:rW)(j:Nat)(v:y'),l[k]?=z' e->j<5->L! b L=(L! b e).set j v->(gZ b l).set (k*5+j) v=gZ b (l.set k L)
 |[],k,e,L,j,v,h,_,_=>by simp at h
 |a::q,0,e,L,j,v,h,f,he=>by simp at h;subst h;simp only[gZ,dm,bW,e6,bH];rw[xI _ _<|by rw[nk];omega,he]
 |a::q,k+1,e,L,j,v,h,f,he=>by have B:=uz b q k e L j v (H' h) f he;simp only[gZ,cO,bW]at B|-;rw[lY _ _<|by rw[nk];omega,<-B];congr 2;rw[nk];omega
def M!(b:Bool)(n:Nat):(replicate n [g' A' 0 0,g' A' 0 0,h' O',G 0,g' A' 0 0]).flatten=gZ b (replicate n Ic):=by
 induction n with
 |zero=>rfl
 |succ n B=>rw[gM,oj,B,gM];cases b<;>rfl
structure kn(b:Bool)(nb B t s N:Nat)(l:List rW)(W:p'):Prop where
  dy:W.1[nb]?=z' (i' (θ<|gZ b l) 96 (0,0))
  low:nb<B
  len:ζ l=N
  own:∀e∈l,ρ W B t s e.v e.n e.xs
  EF:∀(i j:Nat)(e f:rW),l[i]?=z' e->l[j]?=z' f->i≠j->∀g,φ e.v=z' g->φ f.v≠z' g
def k8{a:p'}(h:ρ W B e size v n D)(f:∀g,B<=g->φ v=z' g->g<δ W.1->a.1[g]?=W.1[g]?):ρ a B e size v n D:=
 ⟨h.1,h.2.imp id λ⟨g,a,Y,C,c,N,d⟩=>⟨g,a,Y,C,c,(f g c (by rw[C];rfl)<|blt N).trans N,d⟩⟩
def yQ{g:Nat}(h:ρ W B e size v n D)(c:φ v=z' g):B<=g/\g<δ W.1:=by
 rcases h.2 with⟨C,_⟩|⟨a,a,Y,C,d,N,_⟩
 .rw[C]at c;cases c
 rw[C]at c;cases c;exact⟨d,blt N⟩
def kn.below{l:List rW}{c:p'}(h:kn b d B t s N l W)(a:Bl W c):kn b d B t s N l c:=
 ⟨aG a h.dy,h.low,h.len,λe l=>k8 (h.own e l) λg _ _ c=>a.block g c,h.EF⟩
def kn.made{a:Nat}(h:W.1[a]?=z' (i' (θ<|gZ b<|replicate N Ic) 96 (0,0)))(v:a<B):kn b a B t s N (replicate N Ic) W:=
 ⟨h,v,ak,λe l=>by rw[fB l];exact⟨by simp[Ic],aP ⟨rfl,rfl⟩⟩,λi j e f S _ _ g c=>by rw[fB<|aO S]at c;cases c⟩
def ux{l:List rW}{i:Nat}{e f:rW}(h:(l.set k e)[i]?=z' f):(i=k/\f=e)\/(i≠k/\l[i]?=z' f):=by
 rw[e5]at h;by_cases S:k=i
 .rw[aD S]at h;split at h
  .exact aP ⟨S.symm,(cJ h).symm⟩
  cases h
 rw[aA S]at h;exact aR ⟨λe=>S e.symm,h⟩
def kn.push{u m:Nat}{l:List rW}{X x:p'}{e:rW}{o:y'}{v:List y'}(h:kn b u B t s N l W)(D:l[k]?=z' e)(E:Bl W X)(a:B<=δ X.1)(F:ξ X x<|φ e.v)(T:ρ x B t s o (e.n+m)<|e.xs++v)(Q:φ o=φ e.v\/φ o=z' X.1.size):
  kn b u B t s N (l.set k ⟨o,e.n+m,e.xs++v,e.rd⟩) (κ x (O u<|k*5+(if b then 0 else 4)) o):=by
 have X:=h.low;have a:=E.size;have v:=h.own e<|aO D;have s:∀g,φ e.v=z' g->u≠g:=λg r K=>by have:=(yQ v r).1;omega
 have R:∀g,g≠u->(κ x (O u<|k*5+(if b then 0 else 4)) o).1[g]?=x.1[g]?:=λg r=>v7 r;have c:∀g,g<δ W.1->φ e.v≠z' g->x.1[g]?=W.1[g]?:=λg r K=>(F.block g I λq=>K q.symm).trans<|E.block g r;have a:b' x u (θ<|gZ b l) 96:=(c u (blt h.dy) λq=>s _ q rfl).trans h.dy;refine⟨?_,X,by rw[dh];exact h.len,λf Y=>?_,λi j p q U P z g r w=>?_⟩
 .rw[H a,cj,uz b l k e _ _ o D (by cases b<;>decide)<|aeh b e o _ _]
 .obtain⟨i,S⟩:=gF.1 Y;rcases ux S with⟨_,rfl⟩|⟨C,n⟩
  .exact k8 T λg C _ _=>R g I
  refine k8 (h.own f<|aO n) λg y d a=>?_;rw[R g I];exact c g a<|h.EF i k f e n D C g d
 have L:∀f j,l[j]?=z' f->j≠k->φ f.v=z' g->φ o=z' g->False:=λf j Y a C n=>by
  rcases Q with y|y
  .rw[y]at n;exact h.EF j k f e Y D a g C n
  rw[y]at n;cases n;have:=(yQ (h.own f<|aO Y) C).2;omega
 rcases ux U with⟨rfl,rfl⟩|⟨C,n⟩<;>rcases ux P with⟨rfl,rfl⟩|⟨y,d⟩
 .exact z rfl
 .exact L q j d y w r
 .exact L p i n C r w
 exact h.EF i j p q n d z g r w
def kn.mark{l:List rW}{e:rW}(h:kn b d B t s N l W)(o:l[k]?=z' e)(r:Bool):kn b d B t s N (l.set k {e with rd:=r}) (κ W (O d<|k*5+2)<|h' r):=by
 have X:=h.low;refine⟨?_,X,by rw[dh];exact h.len,λf Y=>?_,λi j p q U w n g v=>?_⟩
 .rw[H h.dy,cj,uz b l k e _ 2 (h' r) o aj<|abl b e r]
 .have a:ρ W B t s f.v f.n f.xs:=by
   obtain⟨i,S⟩:=gF.1 Y;rcases ux S with⟨_,rfl⟩|⟨_,c⟩
   .exact h.own e<|aO o
   exact h.own f<|aO c
  exact k8 a λg C _ _=>v7 G'
 have u:∀(i:Nat)(f:rW),(l.set k {e with rd:=r})[i]?=z' f->∃a:rW,l[i]?=z' a/\a.v=f.v:=λi f Y=>by
  rcases ux Y with⟨rfl,rfl⟩|⟨_,c⟩
  .exact⟨e,o,rfl⟩
  exact⟨f,c,rfl⟩
 obtain⟨a,C,c⟩:=u i p U;obtain⟨f,N,d⟩:=u j q w;rw[<-d];exact h.EF i j a f C N n g (by rw[c];exact v)
end
section
variable {a:Nat}{g:List Bool}{t:TypeId}
def acw:(Tryz.prog.info? 4).map (λi=>(i.zero,i.size,i.bytes))=z' (z'<|h' O',1,1):=M
def muT(W:p')(tb:Nat)(v:y'):Nat:=(match W.1[tb]? with|some (.cells cs _ _)=>cs.toList.countP (λu=>match u with | .bool false=>N'|_=>O')|_=>0)+(match v with | .bool true=>1|_=>0)
def SY(h:W.1[a]?=z' (i' (θ<|g.map h') t (0,0)))(m:Bool):muT W a (h' m)=g.count O'+(if m then 1 else 0):=by
 unfold muT;rw[h];simp only[countP_map];congr 1
 .rw[count];congr 1;funext b;cases b<;>rfl
 cases m<;>rfl
def agc(h:W.1[a]?=z' (i' (θ<|g.map h') t (0,0))):zW W (z'<|O a 0) g:=by intro j b f;refine⟨a,0,rfl,?_⟩;rw[(A h).1];simp[f]
def adf{n:Nat}(h:W.1[a]?=z' (i' (θ<|g.map h') t (0,0)))(b:Bool):(κ W (O a n)<|h' b).1[a]?=z' (i' (θ ((g.set n b).map h')) t (0,0)):=by rw[H h,cj,uh]
def XW(n:Nat):(replicate n [h' O']).flatten=(replicate n O').map h':=by exact TU
def kn.abY{i B N:Nat}{l:List rW}{g:List (List Bool)}(h:kn N' i B 3 1 N l W)(y:∀j e,l[j]?=z' e->e.n=ζ (mT g j)/\e.xs=(mT g j).map GG/\e.rd=O'):cw W (z'<|O i 0) (lsN g N):=by
 intro j n f;unfold lsN at f;rw[a!]at f;have d:j<N:=by
  by_cases T:j<N
  .exact T
  rw[cq G']at f;cases f
 rw[j7 d]at f;simp at f;subst f;obtain⟨e,f⟩:=La (l:=l) (i:=j) (by rw[h.len];exact d);obtain⟨U,k,S⟩:=y j e f;have d:=h.own e<|aO f;obtain⟨a,c,R⟩:=aV d;rw[R,U,k]at d;have Y:(mT g j).map GG=((mT g j).map Int.ofNat).map G:=by rw[fS];rfl
 rw[Y]at d;have o:=uL d;have T:∀k,k<5->χ W (O i<|0+j*5+k)=(L! N' e)[k]?:=λk d=>by rw[(A h.dy).1,cL,bH,jL N' l j e k f d]
 refine⟨i,0,a,A',A',c,0,0,rfl,?_,T 1 I,?_,T 3 I,T 4 I,⟨o.1,(λj x h=>by cases h),(λj v h=>by cases h),o.2,(λ_=>rfl),(λ_=>rfl)⟩⟩
 .have:=T 0 I;simp only[L!,dQ]at this;rw[R,U]at this;simpa using this
 have:=T 2 I;simp only[L!]at this;rwa[S]at this
def Fs(g:Nat)(p:Int)(U:1<=p/\p<=4)(D:List RC)(nx:List<|List Nat)(P:Pm)(w:p')(h:DP w g D nx P.nv)(t:DR D nx P)(hX:DX D P)(Y:cN P)(hF:P.facts p<=1000):
  Cl 39 (mF g p) w λe w'=>∃nb x,e=n' (cG nb<|ζ P.nd)/\cw w' (z'<|O nb 0) (lsN x<|ζ P.nd)/\ζ x=P.facts p/\lsF P p x/\Below w.1.size w w':=by
 have DO:ζ D<=60:=by rw[t.len];exact Y.most
 have z:=Y.nv;have r:J (∀W,Below w.1.size w W->Cl 74 (mF g p) W (Rb W<|G (P.facts p:Nat))):=λW hW=>by have:=ri g p D nx P.nv W (h.below hW) DO z;rwa[DS t hX]at this
 have AS:=hid λW f n a m x hW hf K hB hl=>Bb g p f n a m x D nx P W (h.below hW) t hX Y U hf I K hB hl;obtain⟨g,g,g,g,g,g,T,_,_⟩:=h.box;have s:=hid T;have L:=t.len;rw[<-L];obtain⟨N,hN⟩:=Ea<|ζ D;obtain⟨F,B⟩:=Ea<|P.facts p;rw[<-hN]at AS s DO L|-;rw[<-B]at r AS hF|-;have HN:=hid L;obtain⟨W,hi,D,V,E⟩:=cI tg;have X:J (_/\_/\_/\_):=⟨hi,D,V,E⟩;obtain⟨i1,l,j,k,g⟩:=cI acw;have o:J (_/\_/\_/\_):=⟨l,j,k,g⟩;obtain⟨i3,hj,R,u,C⟩:=cI lJ;have Qe:J (_/\_/\_/\_):=⟨hj,R,u,C⟩;clear hj R u C;have hp5:(p==5)=O':=by simp;omega
 clear h t hX Y T hN B hi D V E l j k g L z;have g:¬p=5:=I;clear U;have E:=A s.o;go_enter func39,ntmps39;go_upto_region 2 with(at_make;refine gL _ rfl (.tmp 25) (.tmp 25) 46 rfl w.1.size 96 W _ 5 underlying46 X.a X.b X.c .i64 .i64 N N N rfl rfl rfl rfl (by rw[X.C];omega) (by unfold maxLen;omega) ak ?_;intro D j g;have V:=hid<|Aa j g;clear j g)
 have HM:J (D.1[δ w.1]?=z' (i' (θ<|gZ N'<|replicate N Ic) 96 (0,0))/\Below w.1.size w D):=by have C:=V.a;rw[dF _ 5 (by simp[Value.cells]) N]at C;refine⟨?_,aQ.grown V.A aK (λq e=>by cases e)⟩;rw[(eJ C).1,<-M! N'];rfl
 clear V X E;go_upto_region 31 with(go_at_call 74;refine(r.o _ HM.A).mono ?_;rintro e W2 ⟨rfl,T⟩;have H2:=hid<|Aa (aq HM.A T)<|aG T HM.a;clear T)
 clear r HM;obtain⟨nb,TE⟩:=Ea w.1.size;rw[<-TE]at H2|-;have HA:=hid TE;clear TE;have HB0:J (nb<δ W2.1):=blt H2.A;obtain⟨B,hB⟩:=Ea W2.1.size;have HBe:=hid hB;clear hB;go_wp2_with fail;go_loopw[15] (λg wr=>∃(f:Nat)(x:List<|List Bool)(l:List rW),f<=F/\g=G f/\J (ζ x=f/\lsF P p x/\kn N' nb B 3 1 N l wr/\(∀j e,l[j]?=z' e->e.n=ζ (mT x j)/\e.xs=(mT x j).map GG/\e.rd=O')/\Below nb w wr/\B<=δ wr.1)) (λg _=>F-(intOf g).toNat)
 case atStart=>
  have h0:lsF P p []:=λf hf=>by cases hf
  refine⟨0,[],replicate N Ic,bm,rfl,⟨rfl,h0,kn.made H2.A<|by rw[HBe.o];exact HB0.o,λj e hj=>?_,by rw[HA.o];exact H2.a,by rw[HBe.o];exact aK⟩⟩;rw[fB<|aO hj];exact⟨rfl,rfl,rfl⟩
 obtain⟨f,x,l,hf,rfl,HK⟩:=hrel
 rename p'=>W4
 have E:=A<|aG (by have:=HK.e;rw[HA.o]at this;exact this) s.o;by_cases L:f<F;rotate_left
 .obtain rfl:f=F:=I;go_wp2_with fail;go_ret;exact⟨nb,x,rfl,HK.c.abY HK.d,HK.a,HK.b,by have Y:=HK.e;rw[HA.o]at Y;exact Y⟩
 have g:(f:Int)<F:=I;go_upto_region 35 with(at_make;refine gL _ rfl (.tmp 157) (.tmp 157) 139 rfl W4.1.size 4 i1 _ 1 underlying139 o.a o.b o.c .i64 .i64 N N N rfl rfl rfl rfl (by rw[o.C];omega) (by unfold maxLen;omega) ak ?_;intro o k g;have V:=hid<|Aa k g;clear k g)
 have HM:J (o.1[δ W4.1]?=z' (i' (θ ((replicate N O').map h')) 4 (0,0))/\Bl W4 o):=by have C:=V.a;rw[dF _ 1 (by simp[Value.cells]) N]at C;refine⟨?_,aQ.grown V.A aK (λq e=>by cases e)⟩;rw[(eJ C).1,<-XW];rfl
 clear V E;go_wp2_with fail;go_loopw[17] (λmv g=>∃(R:Bool)(t:List Bool),mv=h' R/\J (g.1[δ W4.1]?=z' (i' (θ<|t.map h') 4 (0,0))/\ζ t=N/\Vv P p f t/\(R=O'->∀n,n<N->P.rule p f n (qq t)=N'->qq t n=N')/\Bl W4 g)) (λmv g=>muT g W4.1.size mv)
 case atStart=>exact⟨N',_,rfl,⟨HM.a,ak,Vv.start _ _ _ _,(λh=>by cases h),HM.A⟩⟩
 obtain⟨R,t,rfl,X⟩:=hrel
 rename p'=>U
 cases R;rotate_left
 .go_wp2_with fail;go_loopw[17,18] (λmv nv wr=>∃(mo:Bool)(n:Nat)(u:List Bool),mv=h' mo/\n<=N/\nv=G n/\J (wr.1[δ W4.1]?=z' (i' (θ<|u.map h') 4 (0,0))/\ζ u=N/\Vv P p f u/\(mo=O'->u=t/\∀m,m<n->P.rule p f m (qq u)=N'->qq u m=N')/\(mo=N'->u.count O'+1<=t.count O')/\Bl W4 wr)) (λ_ nv _=>N-(intOf nv).toNat)
  case atStart=>exact⟨O',0,t,rfl,bm,rfl,⟨X.a,X.b,X.c,(λ_=>⟨rfl,λm hm=>I⟩),(λh=>by cases h),X.D⟩⟩
  obtain⟨mo,n,u,rfl,K,rfl,E⟩:=hrel;by_cases k:n<N;rotate_left
  .obtain rfl:n=N:=I;go_wp2_with fail;go_roundw
   case rel=>exact⟨mo,u,rfl,⟨E.a,E.b,E.c,(λh=>(E.d h).2),E.E⟩⟩
   show muT _ _ _<muT _ _ _;rw[SY E.a,SY X.a];cases mo
   .rw[(E.d rfl).1];simp
   have:=E.e rfl;simp;omega
  have TI:(n:Int)<N:=I;have hb0:Below w.1.size w wr:=by have C:=HK.e;rw[HA.o]at C;exact(aq C E.E)
  have HR:=hid<|AS.o wr f n (cV W4.1.size) N u hb0 L k (agc E.a) E.b;obtain⟨pt,V⟩:=Ea<|P.rule p f n<|qq u;rw[<-V]at HR;have HPT:=hid V;clear V hb0;have V:n<ζ u:=by rw[E.b];exact k
  obtain⟨un,afC⟩:=Ea<|u[n];have ZO:J (u[n]?=z' un):=by show _=_;rw[afC];exact bj V
  clear afC V;go_upto_region 42 with(go_at_call 75;refine HR.o.mono ?_;rintro e g ⟨rfl,T⟩;have V:=hid<|Aa (aG T E.a) T;clear T)
  clear HR;have o:χ g (O W4.1.size n)=z' (h' un):=by rw[(A V.a).1];simp[ZO.o]
  have g:=(A V.a).2;have TE:=blt V.a;have hat:J (qq u n=un):=by show _=_;simp only[qq,getD,ZO.o];rfl
  have gW:=hid<|aq E.E V.A
  have T:J (∀m:Nat,(mo=O'->u=t/\∀m,m<n->P.rule p f m (qq u)=N'->qq u m=N')->(P.rule p f n (qq u)=N'->qq u n=N')->(mo=O'->u=t/\∀m,m<n+1->P.rule p f m (qq u)=N'->qq u m=N')):=λ_ C h2 h3=>⟨(C h3).1,λm hm hr=>by
   by_cases e:m=n
   .subst e;exact h2 hr
   .exact(C h3).2 m I hr⟩
  cases pt
  .go_wp2_with fail;go_roundw
   case rel=>exact⟨mo,n+1,u,rfl,k,e',⟨V.a,E.b,E.c,T.o 0 E.d (λh=>by rw[<-HPT.o]at h;cases h),E.e,gW.o⟩⟩
   exact F'
  cases un;rotate_left
  .go_wp2_with fail;go_roundw
   case rel=>exact⟨mo,n+1,u,rfl,k,e',⟨V.a,E.b,E.c,T.o 0 E.d λ_=>hat.o,E.e,gW.o⟩⟩
   exact F'
  go_wp2_with fail;go_roundw
  case rel=>
   have T:=Nu ZO.o;refine⟨N',n+1,u.set n N',rfl,k,e',⟨adf V.a N',by rw[dh];exact E.b,E.c.put (by rw[E.b];exact HN.o) (by rw[E.b];exact k) HPT.o.symm,(λh=>by cases h),(λ_=>?_),gW.o.setCell aK _⟩⟩;cases mo
   .rw[<-(E.d rfl).1];omega
   have:=E.e rfl;omega
  exact F'
 have g:J (kn N' nb B 3 1 N l U):=HK.c.below X.D;have o:J (B<=δ U.1):=bX HK.E X.D.size;have E:J (Below nb w U):=by have C:=HK.e;rw[HA.o]at C|-;exact aq C X.D
 have DD:J (lsF P p<|x++[t]):=HK.b.snoc (by rw[HK.a];exact X.c) (by rw[HK.a,<-HN.o];exact X.d rfl);have HFN:J (∀j,mT (x++[t]) j=mT x j++(if qq t j=N' then[f] else[])):=λj=>by rw[PL,HK.a]
 go_wp2_with fail;go_loopw[20] (λnv wr=>∃(n:Nat)(q:List rW),n<=N/\nv=G n/\J (kn N' nb B 3 1 N q wr/\(∀j e,q[j]?=z' e->e.n=ζ (mT (if j<n then x++[t] else x) j)/\e.xs=(mT (if j<n then x++[t] else x) j).map GG/\e.rd=O')/\wr.1[δ W4.1]?=z' (i' (θ<|t.map h') 4 (0,0))/\Below nb w wr/\B<=δ wr.1)) (λnv _=>N-(intOf nv).toNat)
 case atStart=>exact⟨0,l,bm,rfl,⟨g.o,(λj e hj=>by simpa using HK.d j e hj),X.a,E.o,o.o⟩⟩
 obtain⟨n,q,K,rfl,HQ⟩:=hrel
 rename p'=>W7
 have y1:=A HQ.c;by_cases k:n<N;rotate_left
 .obtain rfl:n=N:=I;go_wp2_with fail;go_roundw
  case rel=>
   refine⟨f+1,x++[t],q,L,e',⟨by simp[HK.a],DD.o,HQ.a,λj r hj=>?_,HQ.d,HQ.D⟩⟩;have Y:=HQ.b j r hj;rw[aD (by have:=(aX.1 hj).1;rw[HQ.a.len]at this;exact this)]at Y;exact Y
  exact F'
 have TI:(n:Int)<N:=I;obtain⟨tn,g⟩:=La (l:=t) (i:=n) (by rw[X.b];exact k);have YR:J (qq t n=tn):=by show _=_;simp only[qq,getD,g];rfl
 have hct:χ W7 (O W4.1.size n)=z' (h' tn):=by rw[y1.1];simp[g]
 have hyf:=y1.2;clear g y1;obtain⟨e,l⟩:=La (l:=q) (i:=n) (by rw[HQ.a.len];exact k);have R:=HQ.b n e l;rw[aA<|Nat.lt_irrefl n]at R;have o:=HQ.a.own e<|aO l;have W:=A HQ.a.dy;have CR:χ W7 (O nb<|n*5)=z' e.v:=by have:=jL N' q n e 0 l aj;rw[W.1,cL];exact this
 obtain⟨ea,ec,L⟩:=aV o;rw[L]at CR;have g:=W.2;have GC:=blt HQ.a.dy;have HE:=hid<|Aa l<|Aa R<|Aa o L;have K:e.n<=1000:=by
  rw[R.1];have C:ζ (mT x n)<=ζ x:=by have:=IY (λf=>qq (x.getD f []) n)<|range<|ζ x;rw[qP]at this;exact this
  rw[HK.a]at C;omega
 clear l R o L W
 have hup:J (∀(b:Bool)(j:Nat)(r:rW),q[j]?=z' r->j≠n->r.n=ζ (mT (if j<n+1 then x++[t] else x) j)/\r.xs=(mT (if j<n+1 then x++[t] else x) j).map GG/\r.rd=O'):=λ_ j r hj z=>by
  have:=HQ.b j r hj;by_cases AR:j<n
  .rw[aD AR]at this;rw[aD I];exact this
  rw[aA AR]at this;rw[aA I];exact this
 cases tn
 .go_wp2_with fail;go_roundw
  case rel=>
   refine⟨n+1,q,k,e',⟨HQ.a,λj r hj=>?_,HQ.c,HQ.d,HQ.D⟩⟩;by_cases AR:j=n
   .subst AR;obtain rfl:e=r:=cJ<|HE.a.symm.trans hj;rw[aD<|CF j,HFN.o,aA<|by rw[YR.o];decide,iE];exact HE.b
   exact hup.o N' j r hj AR
  exact F'
 have hB7:=HQ.D;have agL:e.n+1<=maxLen:=by unfold maxLen;omega
 have agK:(e.n+1)*8<=140737488355328:=I;have GA:J (some nb≠φ (g' ea e.n ec)):=λe8=>by have h8:=HE.c;rw[HE.C]at h8;have Y:=(yQ h8 e8.symm).1;have:=HQ.a.low;omega
 go_upto_region 49 with fail
 clear hyf hct;go_wp2_with (at_builtin;refine qN _ rfl _ _ 36 rfl B 3 i3 (G 0) 1 8 underlying36 Qe.a Qe.b Qe.c Qe.C rfl aj (bk ea e.n ec) e.n e.xs rfl ((by have:=HE.c;rw[HE.C]at this;exact this.alloc _)) (O W7.1.size 0) 1 1 [G f] rfl rfl lT (by intro u hu;simp at hu;subst hu;rfl) agL agK (by rw[mY];omega) ?_;intro g W8 Hd Im afH hv8;obtain⟨g,g,rfl⟩:=aV Hd;have g:W8.1[nb]?=z' (i' (θ<|gZ N' q) 96 (0,0)):=(Im.block nb (eh GC<|by rw[mY];exact ud _) GA.o).trans (((cf W7 _).block nb GC).trans HQ.a.dy);have l:χ W8 (O nb<|n*5)=z' (bk ea e.n ec):=(bh<|g.trans HQ.a.dy.symm).trans CR;have e:=(A g).2;have H8:=hid<|Aa Hd<|Aa Im<|Aa hv8 g;clear Hd Im hv8 afH g);go_roundw
 case rel=>
  have g:B<=δ (W7.alloc<|i' #[G f] 3).1:=by rw[mY];exact Nat.le_succ_of_le hB7
  have e:=HQ.a.push HE.a (cf W7<|i' #[G f] 3) g (by rw[HE.C];exact H8.b) H8.a (by rw[HE.C];exact H8.c);refine⟨n+1,_,k,e',⟨e,λj r hj=>?_,?_,?_,?_⟩⟩
  .rcases ux hj with⟨rfl,rfl⟩|⟨C,h2⟩
   .rw[aD<|CF j,HFN.o,aD YR.o];refine⟨by simp[HE.b.1],?_,HE.b.2.2⟩;rw[fq,<-HE.b.2.1];rfl
   exact hup.o N' j r h2 C
  .have e:nb<δ W4.1:=eh HQ.a.low HK.E;have e:=blt HQ.c;rw[v7<|by show δ W4.1≠nb;omega];refine(H8.b.block W4.1.size (eh e<|by rw[mY];exact ud _) λe8=>?_).trans (((cf W7 _).block _ e).trans HQ.c);obtain⟨e,e,Y⟩:=eK HE.c _ (by rw[HE.C];exact e8.symm);rw[HQ.c]at Y;cases Y
  .refine((HQ.d.alloc (mE GC) _).grown H8.b (by rw[mY];omega) λk hk=>?_).setCell aK _;have h8:=HE.c;rw[HE.C]at h8;have Y:=(yQ h8 hk).1;have:=HQ.a.low;omega
  have Y:=H8.b.size;rw[mY]at Y;simp only[World.setCell,IV];omega
 exact F'
end
section
variable {U:Nat}{e:EV}
structure ER where
  b:Bool
  a:t'
  n:Nat
  c:Nat
  e:EV
def Nh(r:ER):List y':=[h' r.b,g' r.a r.n r.c]
def iX(l:List ER):List y':=l.flatMap Nh
def iW:∀(l:List ER)(k:Nat)(r:ER)(j:Nat),l[k]?=z' r->j<2->(iX l)[k*2+j]?=(Nh r)[j]?
 |[],k,e,j,h,_=>by simp at h
 |a::q,0,e,j,h,hj=>by simp at h;subst h;simp only[iX,bW,e6,bH];rw[gI<|by simp[Nh];omega]
 |a::q,k+1,e,j,h,hj=>by have B:=iW q k e j (H' h) hj;simp only[iX,bW]at B|-;rw[eB<|by simp[Nh];omega,<-B];congr 1;simp[Nh];omega
def p4:∀(l:List ER)(k:Nat)(r:ER),k<ζ l->((iX l).set (k*2)<|h' r.b).set (k*2+1) (bk r.a r.n r.c)=iX (l.set k r)
 |[],k,r,h=>by simp at h
 |a::q,0,r,h=>by simp only[iX,dm,bW,e6,bH];rfl
 |a::q,k+1,r,h=>by
  have B:=p4 q k r<|H' h;simp only[iX,cO,bW]at B|-;rw[<-B,lY _ _<|by simp[Nh];omega,lY _ _<|by simp[Nh];omega];congr 2
  .congr 1;simp[Nh];omega
  simp[Nh];omega
def XV(n:Nat)(r:ER):(replicate n<|Nh r).flatten=iX (replicate n r):=by exact TU
def X6:ER:=⟨O',A',0,0,z' []⟩
def Un:ER:=⟨N',A',0,0,A'⟩
structure jd(W:p')(ab N:Nat)(l:List ER):Prop where
  dy:W.1[ab]?=z' (i' (θ<|iX l) 133 (0,0))
  len:ζ l=N
  at_:∀r∈l,cR W r.b r.a r.n r.c r.e
  nil:∀r∈l,r.e=A'->r.a=A'/\r.n=0/\r.c=0
def jd.below{c:p'}{l:List ER}(h:jd W U N l)(a:Bl W c):jd c U N l:=⟨aG a h.dy,h.len,λr c=>(h.at_ r c).below a,h.nil⟩
def jd.qp{l:List ER}(h:jd W U N l):vh W (z'<|O U 0) (l.map ER.e):=by
 intro j e f;rw[a!]at f;cases a:l[j]? with
 |none=>rw[a]at f;cases f
 |some r=>
  rw[a]at f;simp at f;subst f;have T:∀k,k<2->χ W (O U<|0+j*2+k)=(Nh r)[k]?:=λk c=>by rw[(A h.dy).1,cL,bH,iW l j r k a c]
  exact⟨U,0,r.b,r.a,r.n,r.c,rfl,T 0 I,T 1 I,h.at_ r<|aO a⟩
def yc{α:Type}(h:α->Nat):∀(l:List α)(f:Nat->Nat),(∀j x,l[j]?=z' x->f j=h x)->((range<|ζ l).map f).sum=(l.map h).sum
 |[],_,_=>rfl
 |a::l,f,hf=>by have B:=yc h l (λj=>f<|j+1) λj x f=>hf (j+1) x<|H' f;rw[bU,range_succ_eq_map,fA,kS,fS,fA,kS,<-B,hf 0 a rfl];rfl
def Nt:∀l:List VV,(l.map λv=>if v.any then 0 else 1).sum=l.countP λv=>!v.any
 |[]=>rfl
 |a::l=>by rw[fA,kS,Cu,Nt l];cases a.any<;>simp<;>omega
def adv(W:p')(a:t')(j:Nat):Nat:=match a with|some x=>(match χ W (O x.block<|x.off+j*3)with|some (.bool false)=>1|_=>0)|none=>0
def af4(W:p')(nv:Nat)(b s:Option y'):Nat:=match b,s with|some (.bool true),_=>nv+1|some (.bool false),some (.slice a n _)=>((range n).map<|adv W a).sum|_,_=>0
def muX(W:p')(ab N nv:Nat)(v:y'):Nat:=((range N).map λj=>af4 W nv (χ W<|O ab<|j*2)<|χ W<|O ab<|j*2+1).sum+(match v with | .bool true=>1|_=>0)
def X7(h:cR W b a n c e):af4 W Q (z'<|h' b) (z'<|g' a n c)=hE Q e:=by
 match e,h with
 |none,h=>obtain rfl:b=N':=h;rfl
 |some E,h=>obtain⟨rfl,rfl,N,_⟩:=h;show((range<|ζ E).map<|adv W a).sum=E.countP λv=>!v.any;rw[yc (λv:VV=>if v.any then 0 else 1) E,Nt];intro j x f;obtain⟨a,a,V,d,_⟩:=N j x f;subst V;simp only[adv,d];cases x.any<;>rfl
def SX{l:List ER}(h:jd W U N l)(m:Bool):muX W U N Q (h' m)=muE Q (l.map ER.e)+(if m then 1 else 0):=by
 unfold muX muE;rw[<-h.len,fS,yc (λr:ER=>hE Q r.e) l]
 .cases m<;>rfl
 intro j r f;have T:∀k,k<2->χ W (O U<|j*2+k)=(Nh r)[k]?:=λk a=>by rw[(A h.dy).1,cL,iW l j r k f a]
 have D:=T 0 aj;have C:=T 1 aj;simp only[e!]at D;rw[D,C];exact X7<|h.at_ r<|aO f
def jd.put{a:p'}{l:List ER}{r:ER}(h:jd W U N l)(d:k<N)(g:Bl W a)(f:cR a r.b r.a r.n r.c r.e)(K:r.e=A'->r.a=A'/\r.n=0/\r.c=0)(Y:∀(e:ER),e∈l\/e=r->cR a e.b e.a e.n e.c e.e->cR (κ (κ a (O U<|k*2)<|h' r.b) (O U<|k*2+1)<|bk r.a r.n r.c) e.b e.a e.n e.c e.e):
  jd (κ (κ a (O U<|k*2)<|h' r.b) (O U<|k*2+1)<|bk r.a r.n r.c) U N (l.set k r):=by
 have s:=h.below g;refine⟨?_,by rw[dh];exact h.len,λe c=>?_,λe c=>?_⟩
 .rw[H<|H s.dy _,cj,cj,p4 l k r<|by rw[h.len];exact d]
 .rcases gJ c with C|C
  .exact Y e (aP C)<|s.at_ e C
  subst C;exact Y e (aR rfl) f
 rcases gJ c with C|C
 .exact h.nil e C
 subst C;exact K
def RI{l:List y'}(h:l[i]?=z' v):l.set i v=l:=by
 apply et;intro j;rw[e5];by_cases e:i=j
 .subst e;rw[aD rfl,aD (aX.1 h).1,h]
 rw[aA e]
def KO(l:List ER):∀(o:Nat)(x:Int),(iX l)[o]?≠z' (G x):=by intro o x h;have:=aO h;unfold iX at this;rw[mem_flatMap]at this;obtain⟨r,_,a⟩:=this;simp[Nh]at a
def cR.off{l:List ER}(h:cR W b a n c e)(d:W.1[U]?=z' (i' (θ<|iX l) t (0,0))):cR (κ W (O U i) v) b a n c e:=by
 match e,h with
 |none,h=>exact h
 |some E,h=>
  obtain⟨C,a,N,c⟩:=h;refine⟨C,a,λj x f=>?_,c⟩;obtain⟨g,k,V,Q,p,r⟩:=N j x f;have z:g≠U:=λq=>by subst q;rw[(A d).1,cL]at p;exact KO l _ _ p
  have a:∀o,χ (κ W (O U i) v) (O g o)=χ W (O g o):=λo=>bh (v7<|by show g≠U;exact z);exact⟨g,k,V,(a _).trans Q,(a _).trans p,(a _).trans r⟩
def cR.agv{l:List ER}{r:ER}(h:cR W b a n c e)(d:W.1[U]?=z' (i' (θ<|iX l) t (0,0)))(f:k<ζ l):cR (κ (κ W (O U<|k*2)<|h' r.b) (O U<|k*2+1)<|bk r.a r.n r.c) b a n c e:=by
 have C:=h.off (i:=k*2) (v:=h' r.b) d;obtain⟨x,F⟩:=La f;have a:(κ W (O U<|k*2)<|h' r.b).1[U]?=z' (i' (θ<|iX<|l.set k ⟨r.b,x.a,x.n,x.c,x.e⟩) t (0,0)):=by rw[H d,cj,<-p4 l k _ f];congr 3;refine(RI ?_).symm;rw[xB I,iW l k x 1 F aj];rfl
 exact C.off a
end
def R4(N p:Nat)(x y:Int)(h:(gZ O'<|replicate N Ic)[p]?=z' (G x)):(gZ O'<|replicate N Ic)[p+1]?≠z' (G y):=by
 have U:=(aX.1 h).1;rw[Oz,Cr]at U;have a:(replicate N Ic)[p / 5]?=z' Ic:=by rw[j!,aD I]
 have l:p % 5<5:=AU _ I;have h1:=jL O' _ (p / 5) Ic (p % 5) a l;rw[show p / 5*5+p % 5=p by omega,h]at h1;have N:p % 5=3:=by
  generalize p % 5=m at h1 l
  match m,l,h1 with
  |0,_,h1=>cases h1
  |1,_,h1=>cases h1
  |2,_,h1=>cases h1
  |3,_,_=>rfl
  |4,_,h1=>cases h1
 have c:=jL O' _ (p / 5) Ic 4 a I;rw[show p / 5*5+4=p+1 by omega]at c;rw[c];intro h;cases h
structure Vk(w V:p')(nb:Nat)(X:p'):Prop where
  dy:∀k,k<δ V.1->k≠nb->X.1[k]?=V.1[k]?
  sz:δ V.1<=δ X.1
  low:Below nb w X
def Vk.set{w V X:p'}{a:Nat}(h:Vk w V a X)(i:Nat)(v:y'):Vk w V a (κ X (O a i) v):=
 ⟨λk C a=>(v7 a).trans<|h.dy k C a,by simp only[World.setCell,IV];exact h.sz,h.low.setCell aK _⟩
def Vk.grow{w V X Y a:p'}{d:Nat}{e:Option Nat}(h:Vk w V d X)(K:d<δ V.1)(c:Bl X Y)(g:ξ Y a e)(f:∀k,e=z' k->δ V.1<=k):Vk w V d a:=by
 have C:=h.sz;have a:=c.size;refine⟨λk a z=>((g.block k I λe=>?_).trans<|c.block k I).trans<|h.dy k a z,I' g.size,(h.low.trans<|c.mono I).grown g I λk a=>?_⟩
 .have:=f k e.symm;omega
 have:=f k a;omega
def kn.abX{g B N:Nat}{q:List rW}{W:p'}{v:List Nd}(h:kn O' g B 73 6 N q W)(X:ζ v=N)(y:∀(j:Nat)(e:rW)(n:Nd),q[j]?=z' e->v[j]?=z' n->e.rd=n.aF/\e.n=ζ n.aM/\e.xs=kd n.aM/\n.facts=[]/\n.bf=[]/\n.rank=0):cw W (z'<|O g 0) v:=by
 intro j n f;have d:j<N:=by have:=(aX.1 f).1;omega
 obtain⟨e,l⟩:=La (l:=q) (i:=j) (by rw[h.len];exact d);obtain⟨U,d,S,P,K,o⟩:=y j e n l f;have i:=h.own e<|aO l;obtain⟨a,c,R⟩:=aV i;rw[R,d,S]at i;have T:∀k,k<5->χ W (O g<|0+j*5+k)=(L! O' e)[k]?:=λk f=>by rw[(A h.dy).1,cL,bH,jL O' q j e k l f]
 refine⟨g,0,A',A',a,0,0,c,rfl,?_,?_,?_,?_,?_,⟨?_,?_,EU i,(λ_=>rfl),(λ_=>rfl),λp=>?_⟩⟩
 .rw[P];exact T 0 I
 .rw[K];exact T 1 I
 .rw[<-U];exact T 2 I
 .rw[o];exact T 3 I
 .have:=T 4 I;rwa[show(L! O' e)[4]?=z' e.v from rfl,R,d]at this
 .rw[P];intro j x h;cases h
 .rw[K];intro j x h;cases h
 rcases i.2 with⟨C,_⟩|⟨g,a,Y,C,_⟩
 .injection C
 subst p;injection C with p;cases p
def Ru{t:List Vl}{v:Nat}{x:Vl}(h:t[v]?=z' x):kd (t.take<|v+1)=kd (t.take v)++jq x:=by rw[take_add_one,h];simp[kd]
def acu:(Tryz.prog.info? 133).map (λi=>(i.zero,i.size,i.bytes))=z' (z'<|j' uo,2,32):=M
def Ft(T:Nat)(D:List RC)(nx:List<|List Nat)(P:Pm)(w:p')(h:DP w T D nx P.nv)(t:DR D nx P)(U:cN P)(V:nD P):
  Cl 39 #[m'<|z'<|O T 0,G 5] w λe w'=>∃nb g,e=n' (cG nb<|ζ P.nd)/\cw w' (z'<|O nb 0) (g.map wu)/\ζ g=ζ P.nd/\(∀e∈g,dw 5 P.nv e)/\Vw P g/\(∀n,n<ζ g->iP 5 (P.say 5 n<|nU g) (nU g n))/\Below w.1.size w w':=by
 have DO:ζ D<=60:=by rw[t.len];exact U.most
 have tj:=U.nv;have HSA:=hid λW n Y ac g hW hE hl ho=>Ba T n 5 (aP rfl) D nx P Y ac g W (h.below hW) t U V hE hl ho;have HBL:=hid λW T nb Y ba an ac bn g x y hx hy ox oy=>yu 5 P.nv T nb Y ba an ac bn g x y W hx hy tj (N2.of (p:=5) ox) (N2.of (p:=5) oy);have HJN:=hid λW T nb Y ba an ac bn g x y hx hy ox oy=>Bi 5 P.nv T nb Y ba an ac bn g x y W hx hy tj (N2.of (p:=5) ox) (N2.of (p:=5) oy);obtain⟨g,g,xa,g,g,g,F,_,_⟩:=h.box;have s:=hid F;have L:=t.len;rw[<-L];obtain⟨N,X⟩:=Ea<|ζ D;obtain⟨nv,f⟩:=Ea P.nv;rw[<-X]at HSA s DO L|-;rw[<-f]at HSA HBL HJN s tj|-;have HN:=hid<|Aa L<|Aa f V;obtain⟨i3,hj,l,u,g⟩:=cI Tp;have Qe:J (_/\_/\_/\_):=⟨hj,l,u,g⟩;clear hj l u g;obtain⟨T,hi,D,E,B⟩:=cI tg;have C:J (_/\_/\_/\_):=⟨hi,D,E,B⟩;obtain⟨i1,l,r,u,g⟩:=cI acu;have o:J (_/\_/\_/\_):=⟨l,r,u,g⟩;clear h t U V F X f hi D E B l r u g L;have E:=A s.o;go_enter func39,ntmps39;go_upto_region 2 with(at_make;refine gL _ rfl (.tmp 25) (.tmp 25) 46 rfl w.1.size 96 T _ 5 underlying46 C.a C.b C.c .i64 .i64 N N N rfl rfl rfl rfl (by rw[C.C];omega) (by unfold maxLen;omega) ak ?_;intro t g f;have V:=hid<|Aa g f;clear g f)
 have u:J (t.1[δ w.1]?=z' (i' (θ<|gZ O'<|replicate N Ic) 96 (0,0))/\Below w.1.size w t):=by have h1:=V.a;rw[dF _ 5 (by simp[Value.cells]) N]at h1;refine⟨?_,aQ.grown V.A aK (λq e=>by cases e)⟩;rw[(eJ h1).1,<-M! O'];rfl
 clear V C E;have E:=A<|aG u.A s.o;go_upto_region 4 with(at_make;refine gL _ rfl (.tmp 33) (.tmp 33) 130 rfl t.1.size 133 i1 _ 2 underlying130 o.a o.b o.c .i64 .i64 N N N rfl rfl rfl rfl (by rw[o.C];omega) (by unfold maxLen;omega) ak ?_;intro s g f;have V:=hid<|Aa g f;clear g f)
 have l:J (s.1[δ t.1]?=z' (i' (θ<|iX<|replicate N X6) 133 (0,0))/\Below t.1.size t s):=by have h1:=V.a;rw[dF _ 2 (by simp[Value.cells]) N]at h1;refine⟨?_,aQ.grown V.A aK (λq e=>by cases e)⟩;rw[(eJ h1).1,<-XV];rfl
 clear V o E;go_wp2_with fail;go_loopw[7] (λg wr=>∃i:Nat,i<=N/\g=G i/\J (wr.1[δ t.1]?=z' (i' (θ<|iX<|replicate i Un++replicate (N-i) X6) 133 (0,0))/\Below t.1.size t wr)) (λg _=>N-(intOf g).toNat)
 case atStart=>exact⟨0,bm,rfl,⟨H' l.a,l.A⟩⟩
 obtain⟨i,hi,rfl,f⟩:=hrel
 rename p'=>W3
 by_cases L:i<N
 .have g:(i:Int)<N:=I;have g:(replicate i Un++replicate (N-i) X6)[i]?=z' X6:=by rw[eB ak];simp only[Cr,oh,j!];rw[aD I]
  have c0:χ W3 (O t.1.size<|i*2)=z' (h' O'):=by rw[(A f.a).1,cL];exact iW _ i X6 0 g aj
  have s:χ W3 (O t.1.size<|i*2+1)=z' (g' A' 0 0):=by rw[(A f.a).1,cL];exact iW _ i X6 1 g aj
  have Is:=(A f.a).2;have HL:=hid<|Aa g<|blt f.a;clear g;go_wp2_with fail;go_roundw
  case rel=>
   have g:(replicate i Un++replicate (N-i) X6).set i Un=replicate (i+1) Un++replicate (N-(i+1)) X6:=by rw[lY _ _ ak,Cr,oh,show N-i=(N-(i+1))+1 by omega,gM,dm,show replicate (i+1) Un=replicate i Un++[Un] from IU,fK];rfl
   refine⟨i+1,L,e',⟨?_,?_⟩⟩
   .have h9:=p4 (replicate i Un++replicate (N-i) X6) i Un G';rw[g]at h9;rw[<-h9,H<|H f.a _,cj,cj];rfl
   exact(f.A.setCell aK _).setCell aK _
  exact F'
 obtain rfl:N=i:=I
 have HR:J (jd W3 t.1.size N (replicate N Un)/\Below w.1.size w W3):=by
  have h1:=f.a;rw[oh,replicate_zero,iE]at h1;refine⟨⟨h1,ak,λr hr=>?_,λr hr=>?_⟩,(aq u.A f.A)⟩
  .rw[fB hr];exact rfl
  rw[fB hr];exact λ_=>⟨rfl,rfl,rfl⟩
 have HON:=hid<|aG f.A u.a;clear f l;obtain⟨ab,f⟩:=Ea t.1.size;have HBa:J (δ w.1<ab):=by show _<_;rw[f];exact blt u.a
 rw[<-f]at HR|-;clear f L hi u;go_wp2_with fail;go_loopw[8] (λmv wr=>∃(L:Bool)(l:List ER),mv=h' L/\J (jd wr ab N l/\(∀e∈l.map ER.e,dw 5 nv e)/\Vw P (l.map ER.e)/\(L=O'->∀n,n<N->iP 5 (P.say 5 n<|nU<|l.map ER.e) (nU (l.map ER.e) n))/\Below ab W3 wr)) (λmv wr=>muX wr ab N nv mv)
 case atStart=>
  refine⟨N',_,rfl,⟨HR.a,λe B=>?_,?_,(λh=>by cases h),aQ⟩⟩
  .rw[qR]at B;rw[fB B];exact lq
  rw[qR];exact Vw.start P N
 obtain⟨L,l,rfl,X⟩:=hrel
 rename p'=>W4
 cases L;rotate_left
 .go_wp2_with fail;go_loopw[8,9] (λmv AT wr=>∃(mo:Bool)(n:Nat)(q:List ER),mv=h' mo/\n<=N/\AT=G n/\J (jd wr ab N q/\(∀e∈q.map ER.e,dw 5 nv e)/\Vw P (q.map ER.e)/\(mo=O'->q.map ER.e=l.map ER.e/\∀m,m<n->iP 5 (P.say 5 m<|nU<|q.map ER.e) (nU (q.map ER.e) m))/\(mo=N'->muE nv (q.map ER.e)+1<=muE nv (l.map ER.e))/\Below ab W3 wr)) (λ_ AT _=>N-(intOf AT).toNat)
  case atStart=>exact⟨O',0,l,rfl,bm,rfl,⟨X.a,X.b,X.c,(λ_=>⟨rfl,λm hm=>I⟩),(λh=>by cases h),X.D⟩⟩
  obtain⟨mo,n,q,rfl,hn,rfl,HU⟩:=hrel
  rename p'=>W5
  by_cases wB:n<N;rotate_left
  .obtain rfl:n=N:=I;go_wp2_with fail;go_roundw
   case rel=>exact⟨mo,q,rfl,⟨HU.a,HU.b,HU.c,(λh=>(HU.d h).2),HU.E⟩⟩
   show muX _ _ _ _ _<muX _ _ _ _ _;rw[SX HU.a,SX X.a];cases mo
   .rw[(HU.d rfl).1];simp
   have:=HU.e rfl;simp;omega
  have TI:(n:Int)<N:=I;have L:=hid<|HR.A.trans<|HU.E.mono<|mE HBa.o;have HS:=hid<|HSA.o W5 n (z'<|O ab 0) N (q.map ER.e) L.o HU.a.qp (by rw[b9];exact HU.a.len) HU.b;obtain⟨r,hr⟩:=La (l:=q) (i:=n) (by rw[HU.a.len];exact wB);have f:nU (q.map ER.e) n=r.e:=by rw[nU,getD,a!,hr];rfl
  have C3:=hid<|Aa hr f;clear hr f;obtain⟨sy,f⟩:=Ea<|P.say 5 n<|nU<|q.map ER.e;rw[<-f]at HS
  have CE:J (sy=P.say 5 n (nU<|q.map ER.e)/\dw 5 nv sy):=⟨f,by
   rw[f];have h9:=gi (p:=5) (aP rfl) HN.B n (a:=nU<|q.map ER.e) (rR (P:=P)<|by rw[<-HN.b];exact HU.b);rw[<-HN.b]at h9
   exact h9⟩
  clear f;go_upto_region 15 with(go_at_call 71;refine HS.o.mono ?_;rintro e Y ⟨oT,a2,n2,m2,rfl,B,F⟩;have s:=hid<|Aa B F;clear B F)
  refine iU (F:=Code.wp _ _ _ _) λU g=>?_;have f:J (Bl W5 U/\b' U Y.1.size (fe oT a2 n2 m2) 133/\cR U oT a2 n2 m2 sy/\jd U ab N q/\ab≠δ Y.1):=⟨aq s.A g.b,g.a,s.a.below g.b,HU.a.below<|aq s.A g.b,by have h1:=blt (HU.a.below s.A).dy;omega⟩;clear g s HS;generalize δ Y.1=g at f|-;have CC:∀k,k<2->χ U (O ab<|n*2+k)=(Nh r)[k]?:=λk hk=>by rw[(A f.d.dy).1,cL,iW q n r k C3.a hk]
  have HCR:J (χ U (O ab<|n*2)=z' (h' r.b)/\χ U (O ab<|n*2+1)=z' (bk r.a r.n r.c)):=⟨CC 0 aj,CC 1 aj⟩;clear CC;have BC:J (cR U r.b r.a r.n r.c r.e/\dw 5 nv r.e):=⟨f.d.at_ r<|aO C3.a,HU.b r.e<|bG.2 ⟨r,aO C3.a,rfl⟩⟩;obtain⟨ok,o⟩:=Ea<|t? 5 sy r.e;have Y:J (∀W,Bl U W->Cl 72 #[G 5,j'<|fe oT a2 n2 m2,j'<|fe r.b r.a r.n r.c] W (Rb W<|h' ok)):=λW hW=>by rw[o];exact HBL.o W oT r.b a2 r.a n2 m2 r.n r.c sy r.e (f.c.below hW) (BC.o.1.below hW) CE.A BC.o.2
  have Qx:=hid o;clear o;refine wp_region_held_drew (S:=λW'=>Bl U W') M aQ.drew λaC=>?_;refine tq 0 (G 5) ?_;refine tr 1 (j'<|fe oT a2 n2 m2) (λW' aW=>(A<|aG aW f.b).1) ?_;refine tq 2 (cG ab N) ?_;refine tq 3 (G n) ?_;refine tq 4 (AZ ab n) ?_;refine tr 5 (j'<|fe r.b r.a r.n r.c) (λW' aW=>Aa (aB HCR.a aW)<|aB HCR.A aW) ?_;refine r1 6 λK hK=>?_;go_simp;refine(Y.o _ aQ.drew).mono ?_;rintro e Z ⟨rfl,F⟩;have HZ:=hid<|aq aQ.drew F;clear F;refine hK.out _ _ HZ.o λaC=>?_;clear hK K;refine pt ?_;refine tq 7 (h' ok) ?_;refine wpAnyH_done M ?_ _;clear aC Y;have Vp:J (Below ab W3 Z/\jd Z ab N q):=by have h1:=blt HU.a.dy;exact⟨HU.E.trans ((aq f.a HZ.o).mono<|mE h1),f.d.below HZ.o⟩
  cases ok;rotate_left
  .go_wp2_with fail;go_roundw
   case rel=>
    refine⟨mo,n+1,q,rfl,wB,e',⟨Vp.A,HU.b,HU.c,(λh=>⟨(HU.d h).1,λm hm=>?_⟩),HU.e,Vp.a⟩⟩;by_cases e:m=n
    .subst e;rw[<-CE.a,C3.A];exact(ja CE.A BC.o.2).1 Qx.o.symm
    exact(HU.d h).2 m I
   exact F'
  have g:=hid<|Aa (f.c.below HZ.o)<|Aa (aG HZ.o f.b)<|Aa (aB HCR.a HZ.o)<|Aa (aB HCR.A HZ.o)<|BC.o.1.below HZ.o;have Is:=(A Vp.A.dy).2;have f:=hid Is;clear Is;have f:=hid λW hW=>HJN.o W r.b oT r.a a2 r.n r.c n2 m2 r.e sy (g.D.below hW) (g.a.below hW) BC.o.2 CE.A;go_upto_region 17 with fail
  refine st (λW'=>Bl Z W') 10 (hS:=aQ.drew) (h:=λaC=>?_);refine tt 0 (cG ab N) (h:=?_);refine tt 1 (G n) (h:=?_);refine tt 2 (G 5) (h:=?_);refine tt 3 (cG ab N) (h:=?_);refine tt 4 (G n) (h:=?_);refine tt 5 (AZ ab n) (h:=?_);refine tt 6 (j'<|fe r.b r.a r.n r.c) (y:=λW' aW=>by have k1:=aB g.c aW;have k2:=aB g.d aW;clear aC aW;go_simp) (h:=?_);refine tt 7 (j'<|fe oT a2 n2 m2) (y:=λW' aW=>by have k1:=(A<|aG aW g.b).1;clear aC aW;go_simp) (h:=?_);refine rt 8 (h:=λK hK=>?_);go_simp;refine(f.o _ aQ.drew).mono ?_;rintro e f ⟨nb3,a3,n3,m3,rfl,f,Y⟩;have F:=hid<|Aa f<|aq aQ.drew Y;clear f Y;refine hK.out _ _ (λ_=>F.A) ?_;clear hK K aC;have aC:=F.A;refine pt ?_;refine tt 9 (AZ ab n) (h:=?_);refine rt 10 (h:=λK hK=>?_);have k1:=aB g.c F.A;have k2:=aB g.d F.A;have k3:=(A (Vp.A.below F.A).dy).2;go_simp;refine hK.out _ _ (λh=>absurd h aj) ?_;clear hK K k1 k2 k3 aC;refine pt ?_;refine dt (h:=?_);go_wp2_with fail;go_roundw
  case rel=>
   have IM:(q.set n ⟨nb3,a3,n3,m3,qD 5 r.e sy⟩).map ER.e=(q.map ER.e).set n (qD 5 r.e sy):=by rw[uh]
   have hne:qD 5 r.e sy≠A':=by
    have h9:=Qx.o;cases sy with
    |none=>simp[t?]at h9
    |some v=>cases r.e<;>simp[qD]
   have U:=Vp.A.put (r:=⟨nb3,a3,n3,m3,qD 5 r.e sy⟩) wB F.A F.a (λh=>absurd h hne) (λe _ h=>h.agv (Vp.A.below F.A).dy<|by rw[Vp.A.len];exact wB);have g:n<ζ (q.map ER.e):=by rw[b9,Vp.A.len];exact wB
   have f:(q.map ER.e)[n]?=z' r.e:=by rw[a!,C3.a];rfl
   have hml:=SW f<|XP BC.o.2 CE.A Qx.o.symm;have hlb:=HU.c.put (n:=n) HN.B (by rw[<-HN.b];exact HU.b) (by rw[b9,Vp.A.len];exact HN.a) g;rw[C3.A,<-CE.a]at hlb;refine⟨N',n+1,_,rfl,wB,e',⟨U,?_,?_,(λh=>by cases h),(λ_=>?_),?_⟩⟩
   .rw[IM];intro e B;rcases gJ B with h1|h1
    .exact HU.b e h1
    rw[h1];exact oZ BC.o.2 CE.A
   .rw[IM];exact hlb
   .rw[IM];cases mo
    .rw[<-(HU.d rfl).1];exact hml
    have:=HU.e rfl;omega
   have h1:=blt Vp.A.dy;exact((Vp.a.trans<|F.A.mono<|mE h1).setCell aK _).setCell aK _
  exact F'
 have u:δ w.1<ab:=HBa.o;have E:=blt X.a.dy;have HO4:J (kn O' w.1.size W4.1.size 73 6 N (replicate N Ic) W4):=kn.made ((X.D.block w.1.size u).trans HON.o)<|Nat.lt_trans u E;have Iq:J (Below w.1.size w W4):=HR.A.trans<|X.D.mono<|mE u;obtain⟨nb,C⟩:=Ea w.1.size;rw[<-C]at HO4 u|-;have HA:=hid<|Aa C<|Aa u E;have f:J (Vk w W4 nb W4):=⟨λ_ _ _=>rfl,aK,by rw[C];exact Iq.o⟩;clear C u E;go_wp2_with fail;go_loopw[12] (λAT wr=>∃(n:Nat)(q:List rW),n<=N/\AT=G n/\J (kn O' nb W4.1.size 73 6 N q wr/\(∀j e r,q[j]?=z' e->l[j]?=z' r->if j<n then e.rd=!r.b/\e.n=ζ (wu r.e).aM/\e.xs=kd (wu r.e).aM else e=Ic)/\Vk w W4 nb wr)) (λAT _=>N-(intOf AT).toNat)
 case atStart=>exact⟨0,_,bm,rfl,⟨HO4.o,(λj e r hj _=>by rw[aA<|Nat.not_lt_zero j];exact fB<|aO hj),f.o⟩⟩
 obtain⟨n,q,hn,rfl,HQ⟩:=hrel
 rename p'=>W7
 by_cases wB:n<N;rotate_left
 .obtain rfl:n=N:=I;have agB:¬(n:Int)<n:=I;go_wp2_with fail;go_ret;refine⟨nb,rfl,l.map ER.e,HQ.a.abX (by rw[b9,b9];exact X.a.len) λj e f hj tX=>?_,by rw[b9];exact X.a.len,X.b,X.c,(λm hm=>X.d (by trivial) m (by rw[b9,X.a.len]at hm;exact hm)),by have:=HQ.B.low;rwa[HA.a]at this⟩;rw[a!,a!]at tX;cases hr:l[j]? with
  |none=>rw[hr]at tX;cases tX
  |some r=>
   rw[hr]at tX;simp at tX;subst tX;have h9:=HQ.b j e r hj hr;rw[aD (by have:=(aX.1 hj).1;rwa[HQ.a.len]at this)]at h9;have h1:=X.a.at_ r<|aO hr;cases BY:r.e with
   |none=>rw[BY]at h1 h9;exact⟨by rw[h9.1,show r.b=N' from h1];rfl,h9.2.1,h9.2.2,rfl,rfl,rfl⟩
   |some vs=>rw[BY]at h1 h9;exact⟨by rw[h9.1,show r.b=O' from h1.1];rfl,h9.2.1,h9.2.2,rfl,rfl,rfl⟩
 have TI:(n:Int)<N:=I;obtain⟨r,hr⟩:=La (l:=l) (i:=n) (by rw[X.a.len];exact wB);obtain⟨e,B⟩:=La (l:=q) (i:=n) (by rw[HQ.a.len];exact wB);have u:=(HQ.B.dy ab HA.B<|I' HA.b).trans X.a.dy;have c0:χ W7 (O ab<|n*2)=z' (h' r.b):=by rw[(A u).1,cL];exact iW l n r 0 hr aj
 have E:χ W7 (O nb<|n*5+2)=z' (h' e.rd):=by rw[(A HQ.a.dy).1,cL];exact jL O' q n e 2 B aj
 have fn:=(A HQ.a.dy).2;have C:=blt HQ.a.dy;have h0:=HQ.b n e r B hr;rw[aA<|Nat.lt_irrefl n]at h0;subst h0;have HE:=hid<|Aa hr B;clear hr B u;go_upto_region 23 with fail
 have HMK:J (kn O' nb W4.1.size 73 6 N (q.set n ⟨g' A' 0 0,0,[],!r.b⟩) (κ W7 (O nb<|n*5+2)<|h' !r.b)/\Vk w W4 nb (κ W7 (O nb<|n*5+2)<|h' !r.b)):=⟨HQ.a.mark HE.A (!r.b),HQ.B.set _ _⟩;have HRN:J (r.n=ζ (wu r.e).aM):=by
  have h1:=X.a.at_ r<|aO HE.a;have h2:=X.a.nil r<|aO HE.a;show _=_;cases BY:r.e with
  |none=>exact(h2 BY).2.1
  |some vs=>rw[BY]at h1;simp[wu,h1.2.1]
 clear c0 E fn C;obtain⟨V,u⟩:=Ea<|κ W7 (O nb<|n*5+2)<|h' !r.b;rw[<-u]at HMK|-;clear u;go_wp2_with fail;go_loopw[13] (λf wr=>∃(v:Nat)(q':List rW)(sv:y'),v<=r.n/\f=G v/\J (kn O' nb W4.1.size 73 6 N q' wr/\q'[n]?=z' ⟨sv,v,kd ((wu r.e).aM.take v),!r.b⟩/\(∀j,j≠n->q'[j]?=q[j]?)/\Vk w W4 nb wr)) (λf _=>r.n-(intOf f).toNat)
 case atStart=>exact⟨0,_,_,bm,rfl,⟨HMK.a,by rw[getElem?_set_self<|by rw[HQ.a.len];exact wB];rfl,(λj hj=>xB λh=>hj h.symm),HMK.A⟩⟩
 obtain⟨v,q',sv,f,rfl,HU⟩:=hrel
 rename p'=>W8
 have ID:=(HU.C.dy ab HA.B<|I' HA.b).trans X.a.dy;have CC:χ W8 (O ab<|n*2+1)=z' (bk r.a r.n r.c):=by rw[(A ID).1,cL,iW l n r 1 HE.a aj];rfl
 by_cases hlv:v<r.n;rotate_left
 .obtain rfl:v=r.n:=I;have agB:¬(r.n:Int)<(r.n:Int):=I;go_wp2_with fail;go_roundw
  case rel=>
   refine⟨n+1,q',wB,e',⟨HU.a,λj e r' hj hr'=>?_,HU.C⟩⟩;by_cases AR:j=n
   .subst AR;obtain rfl:r=r':=cJ<|HE.a.symm.trans hr';obtain rfl:=cJ<|HU.b.symm.trans hj;rw[aD<|CF j];exact⟨rfl,HRN.o,by show kd _=_;rw[HRN.o,jj]⟩
   rw[HU.c j AR]at hj;have h9:=HQ.b j e r' hj hr';by_cases f:j<n
   .rw[aD f]at h9;rw[aD I];exact h9
   rw[aA f]at h9;rw[aA I];exact h9
  exact F'
 have f:(v:Int)<(r.n:Int):=I
 obtain⟨vs,GS⟩:∃vs,r.e=z' vs:=by
  cases BY:r.e with
  |none=>exact absurd (X.a.nil r (aO HE.a) BY).2.1 I
  |some vs=>exact⟨vs,rfl⟩
 have o:=X.b r.e<|bG.2 ⟨r,aO HE.a,rfl⟩;have h1:=X.a.at_ r<|aO HE.a;rw[GS]at h1 o;have hvn:=(o vs rfl).1;obtain⟨-,hn1,hvv,-⟩:=h1;obtain⟨x,hx⟩:=La (l:=vs) (i:=v) I;obtain⟨b1,o1,ha,k0,k1,k2⟩:=hvv v x hx;have Iv:=dW k0;have agP:b1≠nb:=λe=>by subst e;rw[(A HO4.o.dy).1,cL]at k1 k2;exact R4 _ _ _ _ k1 k2
 have It:=HU.C.dy b1 Iv agP;have d0:=(bh It).trans k0;have d1:=(bh It).trans k1;rw[ha]at CC;have f:v<8:=I;have E:=HU.a.own _<|aO HU.b;obtain⟨ea,B,f⟩:=aV E;have u:sv=g' ea v B:=f;clear f;subst u;have CR:χ W8 (O nb<|n*5+4)=z' (g' ea v B):=by rw[(A HU.a.dy).1,cL];exact jL O' q' n _ 4 HU.b aj
 have f:=(A HU.a.dy).2;have C:=blt HU.a.dy;have u:∀k,φ (g' ea v B)=z' k->δ W4.1<=k:=λk hk=>(yQ E hk).1;have Py:(wu r.e).aM[v]?=z' (Dv x):=by rw[GS];simp[wu,hx]
 have HPU:J (∀(X W9:p')(v9:y'),Bl W8 X->ξ X W9 (φ<|g' ea v B)->ρ W9 W4.1.size 73 6 v9 (v+1) (kd ((wu r.e).aM.take v)++jq (Dv x))->(φ v9=φ (g' ea v B)\/φ v9=z' X.1.size)->kn O' nb W4.1.size 73 6 N (q'.set n ⟨v9,v+1,kd ((wu r.e).aM.take<|v+1),!r.b⟩) (κ W9 (O nb<|n*5+4) v9)/\(q'.set n ⟨v9,v+1,kd ((wu r.e).aM.take<|v+1),!r.b⟩)[n]?=z' ⟨v9,v+1,kd ((wu r.e).aM.take<|v+1),!r.b⟩/\(∀j,j≠n->(q'.set n ⟨v9,v+1,kd ((wu r.e).aM.take<|v+1),!r.b⟩)[j]?=q[j]?)/\Vk w W4 nb (κ W9 (O nb<|n*5+4) v9)):=λX W9 v9 f g ho A9=>by rw[Ru Py];exact⟨HU.a.push HU.b f (bX HU.C.sz f.size) g ho A9,by rw[getElem?_set_self<|by rw[HU.a.len];exact wB],(λj hj=>(xB λh=>hj h.symm).trans<|HU.c j hj),(HU.C.grow (Nat.lt_trans HA.b HA.B) f g u).set _ _⟩
 have Qg:=hid<|Aa ID<|Aa HU.a.dy<|Aa E u;have HSZ:=hid HU.C.sz;have ag0:=hid Iv;obtain⟨xa,GP⟩:=Ea x.any;rw[<-GP]at d0;have HXA:=hid GP;have XE:v+1<=maxLen:=by unfold maxLen;omega
 have hl2:(v+1)*48<=140737488355328:=I;have GA:J (some nb≠φ (g' ea v B)):=λe8=>by have:=u _ e8.symm;have:=HU.a.low;omega
 clear GP Py E u hx hvv k0 k1 k2 o GS ID It ha Iv hn1 hvn;cases xa;rotate_left
 .have XN:J (jq (Dv x)=[G 2,G 0,G 0,h' O',G 0,G 0]):=by show _=_;rw[Dv,<-HXA.o];rfl
  go_upto_region 27 with fail
  clear d0 d1 CC;have AN:=HSZ.o;go_wp2_with (at_builtin;refine qN _ rfl _ _ 71 rfl W4.1.size 73 i3 _ 6 48 underlying71 Qe.a Qe.b Qe.c Qe.C rfl aj (g' ea v B) v (kd ((wu r.e).aM.take v)) rfl (Qg.c.alloc _) (O W8.1.size 0) 1 1 [G 2,G 0,G 0,h' O',G 0,G 0] rfl rfl (mM<|cF W8 _) (by intro u hu;simp only[cM,dR,dz]at hu;rcases hu with rfl|rfl|rfl|rfl|rfl|rfl<;>rfl) XE hl2 (by rw[mY];omega) ?_;intro v9 W9 o9 g9 _ A9;obtain⟨a9,c9,rfl⟩:=aV o9;have f:b' W9 nb (θ<|gZ O' q') 96:=(g9.block nb (eh C<|by rw[mY];exact ud _) GA.o).trans (((cf W8 _).block nb C).trans Qg.b);have g:=(bh<|f.trans Qg.b.symm).trans CR;have g:=(A f).2;rw[<-XN.o]at o9;have H9:=hid<|HPU.o _ _ _ (cf W8 _) g9 o9 A9;clear o9 g9 A9 f);go_roundw
  case rel=>exact⟨v+1,_,_,hlv,e',hid H9.o⟩
  exact F'
 have XN:J (jq (Dv x)=[G 1,G x.lo,G 0,h' O',G 0,G 0]):=by show _=_;rw[Dv,<-HXA.o];rfl
 go_upto_region 28 with fail
 refine st (λW'=>b' W' nb (θ<|gZ O' q') 96/\b' W' ab (θ<|iX l) 133/\χ W' (O b1<|o1+v*3+1)=z' (G x.lo)) 19 (hS:=⟨Qg.b,Qg.a,d1⟩) (h:=λaC=>?_);refine tt 0 (cG nb N) (h:=?_);refine tt 1 (G n) (h:=?_);refine tt 2 (cG nb N) (h:=?_);refine tt 3 (G n) (h:=?_);refine tt 4 (A0 nb n) (h:=?_);refine tt 5 (m'<|z'<|O nb<|n*5+4) (h:=?_);refine tt 6 (g' ea v B) (y:=λW' aW=>by have k1:=(bh<|aW.1.trans Qg.b.symm).trans CR;clear aC aW;go_simp) (h:=?_);refine tt 7 (cG ab N) (h:=?_);refine tt 8 (G n) (h:=?_);refine tt 9 (AZ ab n) (h:=?_);refine tt 10 (m'<|z'<|O ab<|n*2+1) (h:=?_);refine tt 11 (kW b1 o1 r.n r.c) (y:=λW' aW=>by have k1:=(bh<|aW.2.1.trans Qg.a.symm).trans CC;clear aC aW;go_simp) (h:=?_);refine tt 12 (G v) (h:=?_);refine tt 13 (m'<|z'<|O b1<|o1+v*3) (h:=?_);refine tt 14 (m'<|z'<|O b1<|o1+v*3+1) (h:=?_);refine tt 15 (G x.lo) (y:=λW' aW=>by have k1:=aW.2.2;clear aC aW;go_simp) (h:=?_);refine tt 16 (j' #[G 1,G x.lo,G 0,h' O',G 0,G 0]) (h:=?_);refine rt 17 (h:=λK hK=>?_);go_simp;refine hK.out _ _ (λ_=>⟨aG bA aC.1,aG bA aC.2.1,aB aC.2.2 bA⟩) ?_;clear hK K;refine pt ?_;refine TY (F:=λV=>pz _ _ _ _ _ _ _ _ _ V) λf E=>?_;have o:=hid<|Aa (aG E.A Qg.b)<|Aa (aG E.A Qg.a)<|aB d1 E.A;have CI:=hid<|aZ Qg.c E.A;have AN:=bX HSZ.o E.A.size;refine rt 18 (h:=λK hK=>?_);refine gw rfl (.tmp 129) (.tmp 140) 71 rfl W4.1.size 73 i3 _ 6 48 underlying71 Qe.a Qe.b Qe.c Qe.C rfl aj (g' ea v B) v (kd ((wu r.e).aM.take v)) rfl CI.o (O W8.1.size 0) 1 1 [G 1,G x.lo,G 0,h' O',G 0,G 0] rfl rfl (mM E.a) (by intro u hu;simp only[cM,dR,dz]at hu;rcases hu with rfl|rfl|rfl|rfl|rfl|rfl<;>rfl) XE hl2 AN ?_;intro v9 W9 o9 g9 A9;obtain⟨a9,c9,rfl⟩:=aV o9;have f:=(g9.block nb (blt o.a) GA.o).trans o.a;have l:=(g9.block ab (blt o.b) (λe=>by have:=Qg.C ab e.symm;have:=HA.B;omega)).trans o.b;have g:χ W9 (O b1<|o1+v*3+1)=z' (G x.lo):=(bh<|g9.block b1 (dW o.B) (λe=>by have:=Qg.C b1 e.symm;have:=ag0.o;omega)).trans o.B;refine hK.out _ _ (λ_=>⟨f,l,g⟩) ?_;clear hK K;rw[<-XN.o]at o9;have H9:=hid<|Aa (HPU.o _ _ _ E.A g9 o9 A9) f;have aC:_/\_/\_:=⟨f,l,g⟩;clear o9 g9 A9 o CI E f l g AN;refine pt ?_;refine rt 19 (h:=λK hK=>?_);go_simp;refine hK.out _ _ (λh=>absurd h aj) ?_;clear hK K;refine pt ?_;refine rt 20 (h:=λK hK=>?_);go_simp;refine hK.out _ _ (λh=>absurd h aj) ?_;clear hK K;refine pt ?_;refine rt 21 (h:=λK hK=>?_);have k1:=A H9.A;have k2:=(bh<|H9.A.trans Qg.b.symm).trans CR;have k3:=k1.2;clear k1;go_simp;refine hK.out _ _ (λh=>absurd h aj) ?_;clear hK K k2 k3 aC;refine pt ?_;refine dt (h:=?_);go_wp2_with fail;go_roundw
 case rel=>exact⟨v+1,_,_,hlv,e',hid H9.a⟩
 exact F'
section
variable {D:List Int}
def Pw{e:Nat}(h:ρ w B e 1 (g' a n c) n<|D.map G):bK w a D/\n=ζ D/\n<=c/\c<=maxLen:=by
 have C:=h.1;rw[b9,Nat.mul_one]at C;rcases h.2 with⟨R,D⟩|⟨g,a,Y,R,_,_,b,k,_⟩
 .simp at R;refine⟨λj x f=>?_,C.symm,I,by unfold maxLen;omega⟩;have:=(aX.1 f).1;omega
 simp at R;obtain⟨rfl,rfl⟩:=R;refine⟨λj x f=>⟨g,0,rfl,?_⟩,C.symm,b,k⟩;have:=h.cells (g:=g) rfl j (G x) (by rw[a!,f];rfl);rwa[dY]at this
def abI(h:ρ w B 3 1 (g' a n c) n<|D.map G)(F:∀x∈D,ga x)(g:0<δ w.1):∃N,N<δ w.1/\jC w N (g' a n c):=by
 obtain⟨S,K,T,d⟩:=Pw h;subst K;rcases D with _|⟨y,z⟩
 .exact⟨0,g,a,[],c,rfl,T,d,λj x f=>by simp at f⟩
 obtain⟨b,o,rfl,k⟩:=S 0 y rfl;refine⟨b,dW k,_,y::z,c,rfl,T,d,λj x f=>?_⟩;obtain⟨X,b,e,i⟩:=S j x f;cases e;exact⟨o,rfl,F x<|aO f,i⟩
end
def QJ{j:Array Oper}{q:List Oper}{o:Oper}{a:Act}{Q:Exit->Act->p'->Prop}(V:o.guard=A')(s x:Operand)(t e:TypeId)
  (v:o.op=.call {callee:=.builtin .append,args:=#[s,x],argTypes:=#[t,t]}) (C:Tryz.prog.underlying t=z' (.slice e)) (S:(Tryz.prog.info? e).map (λi=>(i.zero,i.size,i.bytes))=z' (z'<|G 0,1,8))
  (B:a.eval s=g' A' 0 0) (c:t') (g:Nat) (m:List Int) (F:a.eval x=g' c (ζ m) g) (W:c=A'->g=0) (d:bK w c m) (L:ζ m*8<=140737488355328)
  (h:∀z n i,ρ i w.1.size e 1 (g' z (ζ m) n) (ζ m) (m.map G)->ξ w i A'->wpList Tryz.prog j Q q (a.put o.dst<|g' z (ζ m) n) i):
  wpList Tryz.prog j Q (o::q) a w:=by
 obtain⟨N,S,D,P,u⟩:=cI S;cases c with
 |none=>
  have T:=W rfl;subst T;have l:m=[]:=by
   cases m with
   |nil=>rfl
   |cons y r=>obtain⟨b,o,e,_⟩:=d 0 y rfl;cases e
  subst l;refine wpList_append_own_none V s x t v w.1.size e N 1 C S (g' A' 0 0) 0 [] B dj F ?_;exact h A' 0 w dj<|QB _ _
 |some a=>refine Lp w V s x t v w.1.size e N (G 0) 1 8 C S D P u rfl aj (g' A' 0 0) 0 [] B dj a (ζ m) g (m.map G) F ak (BE d) GM (by simp only[maxLen];omega) I aK ?_;intro R E f k _;rw[bH,gg]at f;obtain⟨K,p,rfl⟩:=aV f;exact h K p E f k
def uM{B e n c:Nat}{a:t'}{D:List Int}(h:ρ w B e 1 (g' a n c) (ζ D)<|D.map G):bK w a D:=by exact afU
def AnZ(s:x')(p er:Int)(x:x'):Prop:=(er≠0/\x=⟨#[]⟩)\/(er=0/\1<=p/\p<=6/\∃pn vs q c,iD s=.inr (pn,vs)/\kC 0 [] (pn.map PN.bB)=z' q/\x=⟨θ<|kH c⟩/\c.aL=p/\c.grade=(if p=6 then 2 else 1)/\YF (l8 pn q<|ζ vs) p c/\rV c)
def Wj{r:Pr}{p f:Int}{a E:Nat}(h:FA r p a E f=0):(∃q,r=.inr q)/\(1<=p/\p<=6)/\a<=200/\E<=20/\0<=f/\f<=8:=by
 cases r with
 |inl b=>cases b<;>cases h
 |inr q=>
  by_cases C:p<1\/6<p
  .rw[abp C]at h;cases h
  by_cases c:200<a\/20<E\/f<0\/8<f
  .rw[abo I c]at h;cases h
  exact⟨⟨q,rfl⟩,I,I,I,I,I⟩
def CN(s:x')(p:Int)(a b:t')(c d B e:Nat)(S R:List Int)(f:Int)(w:p')(hE:Env w)(n:lV w)(C:ρ w B 3 1 (bk a (ζ S) c) (ζ S)<|S.map G)(l:ρ w e 2 1 (bk b (ζ R) d) (ζ R)<|R.map G)(B:∀x∈S,ga x)(Q:∀x∈R,ga x):
  Cl 18 (A1 s p a (ζ S) c b (ζ R) d f) w λe i=>(∃x,e=n' (o' #[k' x,G<|FA (iD s) p (ζ S) (ζ R) f])/\AnZ s p (FA (iD s) p (ζ S) (ζ R) f) x)/\Bl w i:=by
 by_cases D:FA (iD s) p (ζ S) (ζ R) f=0;rotate_left
 .exact(ET s p a b (ζ S) c (ζ R) d f w hE D).mono λe i h=>⟨⟨_,h.1,aP ⟨D,rfl⟩⟩,h.2⟩
 obtain⟨⟨q,k⟩,U,r,P,t,x⟩:=Wj D;obtain⟨N,g,j⟩:=abI C B (by obtain⟨m,o⟩:=hE.Xb;have:=dW o;omega);refine(CM s p N a b (ζ S) c d R f w hE n U j g r (uM l) Q P ⟨t,x⟩).mono λe i h=>⟨?_,h.2⟩;have N:=h.1;unfold AnR at N;obtain⟨d,E⟩:=q;rw[k]at N;obtain⟨S,c,V,u,e,f,o,a⟩:=N;refine⟨_,?_,aR ⟨D,U.1,U.2,d,E,S,c,k,V,rfl,e,f,o,a⟩⟩;rw[D];exact u
def afl{c:Ct}(h:rV c):∀n∈c.nodes.map tU,lA n:=by intro n K;obtain⟨x,F,rfl⟩:=bG.1 K;have C:=h.nodes x F;refine⟨C.facts,λf Y=>(by cases Y),Tx,λv R=>?_,C.fsz,by simp[tU],by simpa[tU]using C.vsz⟩;obtain⟨u,a,rfl⟩:=bG.1 R;have:=C.aM u a;exact⟨this.aH,this.lo,this.hi,Tx,Tx⟩
def JE(N:Nat)(p:Int)(U:1<=p/\p<=5)(D:List RC)(v:List<|List Nat)(P:Pm)(c:Ct)(w:p')(h:DP w N D v P.nv)(t:DR D v P)(g:DX D P)(s:NW P)(T:LsC P p c):
  Cl 39 (mF N p) w λe a=>∃f,e=n' (cG f<|ζ P.nd)/\cw a (z'<|O f 0) (c.nodes.map tU)/\Bl w a:=by
 have Y:P.facts p<=1000:=bX (B1 s.ok _) aj;by_cases d:p<=4
 .refine(Fs N p ⟨U.1,d⟩ D v P w h t g s.ok Y).mono ?_;rintro e a ⟨f,g,rfl,C,j,n,k⟩;exact⟨f,rfl,by rw[Xc d T j Y n];exact C,k⟩
 have l:p=5:=I;subst l;refine(Ft N D v P w h t s.ok s.cs).mono ?_;rintro e a ⟨f,a,rfl,C,j,n,d,V,k⟩
 have a:KcC c P.nv:=aan T.ok T.pr T.wA.nodes (by
  rw[<-Nc T.ok (by rw[T.pr];omega) (zn<|nC T.VD).1]
  exact nC T.VD)
 have e:∀x∈c.nodes,x.rank<((100001:Nat):Int)/\∀v∈x.aM,v.rank<((100001:Nat):Int):=λx F=>by obtain⟨i,S⟩:=gF.1 F;have:=a.at i;rw[show c.at i=x by rw[Ct.at,bN,S];rfl]at this;exact⟨I' this.2.2.2.1,λv R=>I' ((this.2.1 v R).2.2)⟩
 exact⟨f,rfl,by rw[Xd s.cs T a.env j n d V e];exact C,k⟩
def Oj(c g:t')(h j:Nat)(D:List Int)(w:p')(C:bK w c D)(a:bK w g D)(X:ζ D*8<=140737488355328):
  Cl 29 #[g' c (ζ D) h,g' g (ζ D) j] w (Rb w<|h' N'):=by
 have s:J (bK w c D/\bK w g D):=⟨C,a⟩;clear C a;have a:((ζ D:Int) !=(ζ D:Int))=O':=ak;go_enter func29,ntmps29;go_wp2_with fail;go_loopw[5] (λi wr=>∃k:Nat,k<=ζ D/\i=G k/\J (Bl w wr)) (λi _=>ζ D-(intOf i).toNat)
 case atStart=>exact⟨0,bm,rfl,aQ⟩
 obtain⟨k,a,rfl,l⟩:=hrel;by_cases L:k<ζ D;rotate_left
 .have a:¬(k:Int)<(ζ D:Int):=I;go_wp2_with fail;go_ret;exact⟨rfl,l.o⟩
 have a:(k:Int)<(ζ D:Int):=I;obtain⟨x,F⟩:=La L;obtain⟨a,a,rfl,Q⟩:=(s.a.below l.o) k x F;obtain⟨o,f,rfl,p⟩:=(s.A.below l.o) k x F;have d:(x !=x)=O':=ak;clear F;go_wp2_with fail;go_quiet (fail);go_wp2_with fail;go_roundw
 case rel=>exact⟨k+1,I,e',below_drewN l.o _⟩
 exact F'
def NA{w V X:p'}{B o:Nat}{L:Array y'}{t:TypeId}{v:y'}(c:Bl w V)(d:δ w.1<=B)(h:V.1[B]?=z' (cU L t))(g:ξ V X A'):Bl w (κ X (O B o) v)/\(κ X (O B o) v).1[B]?=z' (i' (L.setIfInBounds o v) t (0,0))/\(∀k,k≠B->k<δ V.1->(κ X (O B o) v).1[k]?=V.1[k]?)/\δ V.1<=δ (κ X (O B o) v).1:=by have e:X.1[B]?=z' (cU L t):=(g.block B (blt h) ak).trans h;refine⟨(c.grown g c.size (λk a=>by cases a)).setCell d _,H e _,λk a X=>(v7 a).trans<|g.block k X ak,?_⟩;simp only[World.setCell,IV];exact g.size
structure AnC(s x:x')(p g:Int)(N:Nat)(ns:List Nd):Prop where
  dc:∀W,Cl 37 #[k' x] W λe w'=>(∃la lc,e=n' (o' #[j' #[G p,G g,g' la N lc],G 0]))/\Bl W w'
  ck:∀W,Cl 34 #[k' s,k' x] W λe w'=>∃da dc,e=n' (o' #[g' da N dc,G 0])/\cw w' da ns/\Bl W w'
  pr:∀W,Cl 38 #[k' s] W λe w'=>∃pb,e=n' (o' #[m'<|z'<|O pb 0,G 0])/\(p<=5->∀X,Bl w' X->Cl 39 (mF pb p) X λe X'=>∃nb,e=n' (cG nb N)/\cw X' (z'<|O nb 0) ns/\Bl X X')/\Bl W w'
  sm:∀W a b ac bc,cw W a ns->cw W b ns->Cl 30 #[g' a N ac,g' b N bc] W (Rb W<|h' N')
def adx{s x:x'}{p:Int}{g:List PN}{E:List bI}{q:List (bI×Nat)}{c:Ct}(C:1<=p)(n:iD s=.inr (g,E))(j:kC 0 [] (g.map PN.bB)=z' q)(F:x=⟨θ<|kH c⟩)(B:c.aL=p)(P:c.grade=(if p=6 then 2 else 1))(o:YF (l8 g q<|ζ E) p c)(u:rV c):
  AnC s x p (if p=6 then 2 else 1) (ζ c.nodes) (c.nodes.map tU):=by
 have d:c.aL=6/\c.grade=2\/c.aL<=5/\c.grade=1:=by have:=pR o.ok;rw[B]at this|-;rw[P];split<;>omega
 subst F;have k:=J1 n j;have hN:=(zn<|nC o.VD).1;refine⟨λW=>?_,λW=>?_,λW=>?_,λW a b V Y ha U=>?_⟩
 .refine(vU c W o.ok u o.small d).mono λe g h=>⟨?_,h.2⟩;obtain⟨i,R,rfl,-⟩:=h.1;exact⟨i,R,by rw[B,P]⟩
 .exact(JR n j o.ok u o.small d o.VD W).mono λ_ _ h=>h
 .refine(q! s W).mono ?_;rintro e t ⟨Q,F⟩;rw[n]at F;obtain⟨N,g,d,z,x,y,D,d,S,rfl,T,r,X,l,f,w,v,K,L⟩:=F;obtain rfl:=cJ<|j.symm.trans w;have g:=Ni n j r l f.rel v K L;have d:=aay f.rel q<|ζ E;have e:=aax n f.rel q<|ζ E;refine⟨N,rfl,λl X f=>?_,Q⟩;have:=JE N p ⟨C,l⟩ D _ _ c X (g.below f) d e k ⟨B,by rw[P,aA I],o.ok,u,o.VD⟩;rwa[<-hN]at this
 have:=Ac a b V Y (c.nodes.map tU) W ha U (afl u) (by have:=u.sz;simpa using this);rwa[b9]at this
def tM(s:x')(p f:Int)(y t:t')(P L:Nat)(S R:List Int)(w:p')(hE:Env w)(o:lV w)(C:bK w y S)(l:bK w t R)(h:y=A'->P=0)(r:t=A'->L=0)(g:ζ S*8<=140737488355328)(i:ζ R*8<=140737488355328)(k:∀x∈S,ga x)(Q:∀x∈R,ga x):
  Cl 14 (A1 s p y (ζ S) P t (ζ R) L f) w λe T=>e=n' (h' N')/\Below w.1.size w T:=by
 obtain⟨er,v⟩:=Ea<|FA (iD s) p (ζ S) (ζ R) f;have K:J (∀W a b c d B B2,Below w.1.size w W->ρ W B 3 1 (bk a (ζ S) c) (ζ S) (S.map G)->ρ W B2 2 1 (bk b (ζ R) d) (ζ R) (R.map G)->Cl 18 (A1 s p a (ζ S) c b (ζ R) d f) W λe T=>(∃x,e=n' (o' #[k' x,G er])/\AnZ s p er x)/\Bl W T):=λW a b c d B B2 j o1 D=>by rw[v];exact CN s p a b c d B B2 S R f W (hE.below j) (o.below j) o1 D k Q
 have N:J (∀W,Cl 35 (A1 s p y (ζ S) P t (ζ R) L f) W<|Rb W<|G er):=λW=>by rw[v];exact FB s p y t (ζ S) P (ζ R) L f W
 have F:=hid λW a c j d=>ni a y c P S W d (C.below j) g;have Y:=hid λW a c j d=>Oj a t c L R W d (l.below j) i;have n:=hid<|Aa C<|Aa l<|Aa h<|Aa r<|Aa g i;clear v hE o C l h r g i k Q;go_enter func14,ntmps14;go_upto_region 2 with fail
 refine gnB (F:=Code.wp _ _ _ _) λV g=>?_;obtain⟨v,h⟩:=Ea w.1.size;obtain⟨q,i⟩:=Ea<|δ w.1+1;have C:v≠q:=I;have hot:q≠v:=I;have l:J (Below w.1.size w V/\b' V v #[g' y (ζ S) P,g' t (ζ R) L,G f] 38/\b' V q #[g' A' 0 0,g' A' 0 0,G f] 38/\δ w.1<=q/\q<δ V.1/\v<δ V.1):=by rw[h,i];exact⟨g.a,g.b,g.c,I,by rw[g.C];omega,by rw[g.C];omega⟩
 rw[<-i,<-h];clear h i g;have E:=(A l.b).1;have i:=A l.c;go_upto_region 3 with(at_builtin;refine QJ rfl (.tmp 25) (.tmp 27) 36 3 rfl underlying36 lJ rfl y P S rfl n.c (n.a.below l.a) n.e ?_;intro Q r a D k;clear E i;have i:=A ((k.block q l.e ak).trans l.c);have u:=hid<|Aa D k;clear D k)
 obtain⟨V2,o⟩:=Ea<|κ a (O q 0)<|bk Q (ζ S) r;have h:J (Below w.1.size w V2/\b' V2 v #[g' y (ζ S) P,g' t (ζ R) L,G f] 38/\b' V2 q #[g' Q (ζ S) r,g' A' 0 0,G f] 38/\ρ V2 V.1.size 3 1 (bk Q (ζ S) r) (ζ S) (S.map G)/\δ V.1<=δ V2.1):=by have U:=NA (o:=0) (v:=g' Q (ζ S) r) l.a l.d l.c u.A;rw[o];exact⟨U.1,(U.2.2.1 v C l.E).trans l.b,U.2.1,k8 u.a λg hg _ _=>v7 (by show g≠q;have:=l.e;omega),U.2.2.2⟩
 rw[<-o];clear o u i;have E:=(A h.b).1;have i:=A h.c;go_upto_region 4 with(at_builtin;refine QJ rfl (.tmp 31) (.tmp 33) 23 2 rfl underlying23 acx rfl t L R rfl n.d (n.b.below h.a) n.E ?_;intro o d2 a D k;clear E i;have i:=A ((k.block q (blt h.c) ak).trans h.c);have u:=hid<|Aa D k;clear D k)
 obtain⟨V3,k⟩:=Ea<|κ a (O q 1)<|g' o (ζ R) d2;have a:J (Below w.1.size w V3/\ρ V3 V.1.size 3 1 (bk Q (ζ S) r) (ζ S) (S.map G)/\ρ V3 V2.1.size 2 1 (g' o (ζ R) d2) (ζ R) (R.map G)/\∀W,Bl V3 W->b' W v #[g' y (ζ S) P,g' t (ζ R) L,G f] 38/\b' W q #[g' Q (ζ S) r,g' o (ζ R) d2,G f] 38):=by have U:=NA (o:=1) (v:=g' o (ζ R) d2) h.a l.d h.c u.A;have d:=l.e;have d:=h.D;rw[k];refine⟨U.1,k8 h.d λg hg R X=>U.2.2.1 g I X,k8 u.a λg hg _ _=>v7 G',λW j=>⟨aG j ((U.2.2.1 v C<|blt h.b).trans h.b),aG j U.2.1⟩⟩
 rw[<-k];clear k u i h l C hot;have i:=A (a.C V3 aQ).2;go_upto_region 5 with(go_at_call 18;refine(K.o V3 Q o r d2 _ _ a.a a.b a.c).mono ?_;rintro e d ⟨⟨x,rfl,f⟩,h⟩;have B:=hid<|Aa f h;clear f h i)
 have i:=A (a.C d B.A).1;go_upto_region 6 with(go_at_call 35;refine(N.o d).mono ?_;rintro e C ⟨rfl,h⟩;have f:=hid<|aq B.A h;clear h i)
 have E:=A (a.C C f.o).1;have i:=A (a.C C f.o).2;go_upto_region 7 with(go_at_call 36;refine(F.o C Q r (aq a.a f.o) ((uM a.b).below f.o)).mono ?_;rintro e U ⟨rfl,h⟩;have d:=hid<|aq f.o h;clear h E i)
 have E:=A (a.C U d.o).1;have i:=A (a.C U d.o).2;go_upto_region 8 with(go_at_call 29;refine(Y.o U o d2 (aq a.a d.o) ((uM a.c).below d.o)).mono ?_;rintro e g ⟨rfl,h⟩;have H7:=hid<|Aa B.a<|aq a.a<|aq d.o h;clear h E i)
 clear K N F Y n a B f d;have k:(er !=er)=O':=ak;go_upto_region 10 with(go_at_call 26;refine(WR er _).mono ?_;rintro e W8 ⟨rfl,rfl⟩)
 rcases H7.a with⟨D,F⟩|⟨D,l,R,o,a,q,c,hq,i,F,e3,K,u,n⟩
 .have a:=H' D;subst F;go_wp2_with fail;go_ret;exact⟨rfl,H7.A⟩
 have Y:=hid<|adx l hq i F e3 K u n;generalize ζ c.nodes=N at Y;generalize c.nodes.map tU=v at Y;subst D;clear hq i F e3 K u n k;go_upto_region 13 with(go_at_call 37;refine(Y.o.dc W8).mono ?_;rintro e l ⟨⟨i,lc,rfl⟩,h⟩;have F:=hid<|aq H7.A h;clear h)
 refine iU (F:=Code.wp _ _ _ _) λV9 k=>?_;have D:=hid<|aq F.o k.b;obtain⟨cb,u⟩:=Ea l.1.size;have n:J (b' V9 cb #[G p,G<|if p=6 then 2 else 1,g' i N lc] 51):=by rw[u];exact k.a
 rw[<-u];clear u k F H7;go_upto_region 14 with(go_at_call 34;refine(Y.o.ck V9).mono ?_;rintro e u ⟨da,dc,rfl,K,h⟩;have k:=hid<|Aa K<|Aa h<|aq D.o h;clear K h)
 have y:(p !=p)=O':=ak;have E:=A<|aG k.b n.o;by_cases F:p=6
 .subst F;go_wp2_with fail;go_ret;exact⟨rfl,k.B⟩
 have a:=H' F;have l:J (p<=5):=by show p<=5;omega
 rw[aA F]at n E;go_upto_region 19 with(go_at_call 38;refine(Y.o.pr u).mono ?_;rintro e c ⟨a,rfl,X,h⟩;have a:=hid<|Aa (X l.o)<|Aa (k.a.below h)<|Aa (aq k.B h)<|aq k.b h;clear X h E)
 go_upto_region 20 with(go_at_call 39;refine(a.a c aQ).mono ?_;rintro e d ⟨f,rfl,K,h⟩;have c:=hid<|Aa K<|Aa (a.b.below h)<|Aa (aq a.c h)<|aq a.C h;clear K h)
 go_upto_region 21 with(go_at_call 30;refine(Y.o.sm d da (z'<|O f 0) dc N c.b c.a).mono ?_;rintro e a ⟨rfl,h⟩;have a:=hid<|Aa (aq c.c h)<|aq c.C h;clear h)
 have E:=A<|aG a.A n.o;go_wp2_with fail;go_ret;exact⟨rfl,a.a⟩
def Em(s:x')(p f:Int)(k g:t')(B o:Nat)(S R:List Int)(w:p')(hE:Env w)(t:lV w)(C:bK w k S)(u:bK w g R)(a:k=A'->B=0)(r:g=A'->o=0)(q:ζ S*8<=140737488355328)(i:ζ R*8<=140737488355328)(n:∀x∈S,ga x)(Q:∀x∈R,ga x):
  Cl 6 #[k' s,G p,j' #[g' k (ζ S) B,g' g (ζ R) o,G f]] w λe l=>e=n' (h' N')/\Below w.1.size w l:=by
 have c:J (∀W (s:x') (p:Int),Below w.1.size w W->Cl 14 #[k' s,G p,j' #[g' A' 0 0,g' A' 0 0,G 0]] W (Rb W<|h' N')):=λW s p d=>tM s p 0 A' A' 0 0 [] [] W (hE.below d) (t.below d) (λj x h=>by cases h) (λj x h=>by cases h) (λ_=>rfl) (λ_=>rfl) ak ak ak ak;have T:=hid λW d=>tM s p f k g B o S R W (hE.below d) (t.below d) (C.below d) (u.below d) a r q i n Q;clear hE t C u a r q i n Q;go_enter func6,ntmps6;go_upto_region 1 with fail
 refine qo (F:=Code.wp _ _ _ _) λn U=>?_;obtain⟨i,a⟩:=Ea w.1.size;have d:J (Below w.1.size w n/\b' n i #[g' k (ζ S) B,g' g (ζ R) o,G f] 38):=by rw[a];exact⟨U.a,U.b⟩
 rw[<-a];clear a U;go_upto_region 2 with(go_at_call 14;refine(c.o n _ _ d.a).mono ?_;rintro e t ⟨rfl,a⟩;have c:=hid a;clear a)
 have E:=A<|aG c.o d.A;go_upto_region 3 with(go_at_call 14;refine(T.o t<|aq d.a c.o).mono ?_;rintro e F ⟨rfl,a⟩;have u:=hid<|aq c.o a;clear a E)
 have E:=A<|aG u.o d.A;go_upto_region 4 with(go_at_call 14;refine(T.o F<|aq d.a u.o).mono ?_;rintro e o ⟨rfl,a⟩;have z:=hid<|aq u.o a;clear a E)
 go_wp2_with fail;go_ret;exact⟨rfl,aq d.a z.o⟩
end Go.Proofs.YtmipbiligijcpaaGreatDoor
