import Derived.Test.YtmipbiligijcpaaGreatDoorA02
import Derived.Laws.EntriesVeiled
import Derived.Deep.Cut
import Derived.Laws.AppendOwnNone
import Derived.Lib.TrailingZeros
import Derived.Lib.SlBytesConst
import Derived.Lib.SlBytesRow
namespace Go.Proofs.YtmipbiligijcpaaGreatDoor
set_option linter.all false
set_option maxHeartbeats 0
set_option maxRecDepth 99999
open Go.RowKit Go.Proofs Go.Maps Tryz List open List renaming length→ζ,toArray→θ open _root_.Array renaming size→δ open World renaming setCell→κ,ownsRow→ρ,cell?→χ,grownBy→ξ open Value renaming ownBlock→φ open Value renaming slice→i',bool→j',agg→l',string→m',pointer→o' open Obj renaming cells→k' open Ending renaming returned→p' open Option renaming some→B',none→C' open Bool renaming true→O',false→P'
variable {B a b k m:Nat}{W w:u'}{p:Prop}{q:Option Nat}{s:z'}
def L?(s:BS)(f:Nat):BS:=if f<64 then(s.1|||2 ^ f,s.2) else(s.1,s.2|||2 ^ (f-64))
def eY(fs:List Nat):BS:=fs.foldl L? (0,0)
def gz{s:BS}(h:cL s){f:Nat}(Y:f<128):cL (L? s f):=by
 unfold L?;split
 ·have:(2:Nat) ^ f<2 ^ 64:=IZ I I;have C:=h.lo;have a:s.1|||2 ^ f<2 ^ 64:=Cq I this
  exact⟨H',h.hi⟩
 have:(2:Nat) ^ (f-64)<2 ^ 64:=IZ I I;have C:=h.hi;have a:s.2|||2 ^ (f-64)<2 ^ 64:=Cq I this
 exact⟨h.lo,by show s.2|||2 ^ (f-64)<_;omega⟩
def SK:∀(o:List Nat) (u:BS),cL u->(∀f∈o,f<128)->cL (o.foldl L? u)
 |[],u,h,_=>h
 |s::r,u,h,k=>SK r _ (gz h (k s ak)) (λx F=>k x (by simp[F]))
def mc(o:List Nat)(k:∀f∈o,f<128):cL (eY o):=SK o _ ⟨aj,aj⟩ k
def F5{o:List Nat}{k f:Nat}(h:o[k]?=B' f):eY (o.take (k+1))=L? (eY (o.take k)) f:=by have X:=(bm.1 h).1;rw[cX X,(bm.1 h).2];simp[eY]
def SE(a f:Nat)(b:a<18446744073709551616)(Y:f<64):bits .or .u64 (a:Int) (IntKind.u64.wrap (2 ^ f))=((a|||2 ^ f:Nat):Int):=by
 have C:(2:Nat) ^ f<2 ^ 64:=IZ I Y;have c:IntKind.u64.wrap (2 ^ f)=((2 ^ f:Nat):Int):=by rw[w6,Int.natCast_pow];refine Int.emod_eq_of_lt (Int.pow_nonneg aj) ?_;have:((2 ^ f:Nat):Int)<((2 ^ 64:Nat):Int):=Int.ofNat_lt.2 C;rw[Int.natCast_pow]at this;simpa using this
 rw[c];exact Cr a (2 ^ f) b I
def YT{p:Prop}(h:p:=by
 show(wr.setCell _ _).1[δ w.1]?=_;rw[aJ H']
 exact c.b):p:=h
def Kn(q:x')(c:Nat)(o:List Nat)(w:u')(h:cE w q (o.map Int.ofNat))(S:∀f∈o,f<128)(X:ζ o<=1000):
  Cl 241 #[i' q (ζ o) c] w (Rb w (dh (eY o))):=by
 have s:=hid (A h S);clear h S;go_enter func241,ntmps241;go_wp2;go_loopw[8] (λi wr=>∃k:Nat,k<=ζ o/\i=G k/\J (Bl w wr/\wr.1[δ w.1]?=B' jj/\wr.1[δ w.1+1]?=B' (k' #[Z (eY (o.take k)).1,Z (eY (o.take k)).2] 267 (0,0)))) (λi _=>ζ o-(intOf i).toNat)
 ·
  refine⟨0,bj,rfl,cG,fC.1,?_⟩;have:=(bL w fY fY).2;simpa[eY]using this
 obtain⟨k,a,rfl,c⟩:=hrel;by_cases L:k<ζ o;rotate_left
 ·have a:¬(k:Int)<(ζ o:Int):=I;have N:o.take k=o:=cH I;rw[N]at c;obtain⟨E,b⟩:=M c.B;obtain⟨d,d⟩:=M c.b;go_wp2;have r:χ (κ wr (O w.1.size 0) (Z ((eY o).1:Int))) (O w.1.size 0)=B' (Z ((eY o).1:Int)):=by rw[(M (aq c.b _)).1];rfl
  have R:χ (κ (κ wr (O w.1.size 0) (Z ((eY o).1:Int))) (O w.1.size 1) (Z ((eY o).2:Int))) (O w.1.size 1)=B' (Z ((eY o).2:Int)):=by rw[(M (aq (aq c.b _) _)).1];rfl
  refine aC (v:=dh (eY o)) (by simp[results241,go_sem,dh,r,R]) rfl ⟨rfl,?_⟩;exact(c.a.setCell aF _).setCell aF _
 have a:(k:Int)<(ζ o:Int):=I;obtain⟨f,F⟩:=La L;obtain⟨a,a,rfl,T⟩:=s.a k (f:Int) (by rw[cg,F];rfl);have Y:=s.A f (aT F);have a:=hid F;clear F;have t:=ax T c.a;obtain⟨u,C⟩:=Ea (eY (o.take k));have g:=hid C;rw[<-C]at c;clear C;obtain⟨E,b⟩:=M c.B;by_cases b:f<64
 ·have Q:f / 64=0:=I;have L:χ wr (O (δ w.1+1) 0)=B' (Z u.1):=by rw[E];rfl
  clear E;go_wp2
  go_region
  go_wp2;go_roundw
  case measure=>exact G'
  have d:=nk b;have B:=mc (o.take k) (λx F=>s.A x (uq F));rw[d,SE u.1 f (by rw[g.o];exact B.lo) b];refine⟨k+1,I,f',?_,?_,?_⟩
  ·exact(c.a.setCell H' _).drew
  ·exact YT
  rw[F5 a.o,<-g.o];rw[L?,aB b];exact aq c.B _
 have Q:f / 64=1:=I;have L:χ wr (O (δ w.1+1) 1)=B' (Z u.2):=by rw[E];rfl
 clear E;go_wp2
 go_region
 go_wp2;go_roundw
 case measure=>exact G'
 have d:f % 64=f-64:=I;have B:=mc (o.take k) (λx F=>s.A x (uq F));rw[d,SE u.2 (f-64) (by rw[g.o];exact B.hi) I];refine⟨k+1,I,f',?_,?_,?_⟩
 ·exact(c.a.setCell H' _).drew
 ·exact YT
 rw[F5 a.o,<-g.o];rw[L?,aA b];exact aq c.B _
def nM(W:u')(b f:Nat)(Y:f<128)(T:χ W (O b 0)=B' (G f)):
  Cl 241 (qK b) W (Rb W (dh (eY [f]))):=by
 refine Kn (B' (O b 0)) 1 [f] W ?_ (I' Y) ak;intro j x hj
 match j,hj with
 |0,hj=>simp at hj;subst hj;exact⟨b,0,rfl,T⟩
 |j+1,hj=>simp at hj
def Xd(s:BS)(f:Nat)(w:u')(y:cL s)(Y:f<128):
  Cl 245 #[dh s,G f] w (Rb w (j' (Qi (vQ (eY [f]) s)))):=by
 have V:J (∀W b,χ W (O b 0)=B' (G f)->Cl 241 (qK b) W (Rb W (dh (eY [f])))):=λW b T=>nM W b f Y T;have Q:J (∀W,Cl 296 #[dh (eY [f]),dh s] W (Rb W (j' (Qi (vQ (eY [f]) s))))):=λW=>yQ _ _ W (mc _ (I' Y)) y;obtain⟨z,a⟩:=Ea (Qi (vQ (eY [f]) s));rw[<-a]at Q⊢;obtain⟨u,C⟩:=Ea (eY [f]);rw[<-C]at Q V;clear a C y Y;simp only[dh]at V Q⊢;go_enter func245,ntmps245;go_wp2;generalize j:w.alloc (qH s.1 s.2)=b;have B:J (Bl w b/\χ b (O w.1.size 0)=B' (Z s.1)/\χ b (O w.1.size 1)=B' (Z s.2)):=by subst j;exact⟨bf,ak,ak⟩
 have a:δ w.1<δ b.1:=lP B.b;have L:=B.b;have a:=B.B;have a:δ w.1≠δ b.1:=I;have x:δ b.1≠δ w.1:=I;clear j
 go_region_held3 (λc=>χ c (O w.1.size 0)=B' (Z s.1)/\χ c (O w.1.size 1)=B' (Z s.2)) (go_keep) (first|(go_at_call 241;refine D' (V.o _ _ ak) λt l=>?_;have p:Bl b t:=H ay l;have R:=ax B.b p;have F:=ax B.B p;have gb:=hid p;clear p l)|(go_at_call 296;refine D' (Q.o _) λF X=>?_;have r:Bl b F:=H (by repeat(first|exact gb.o|with_reducible refine below_drewN ?_ _|with_reducible refine jh ?_)) X;have i:=ax B.b r;have a:=ax B.B r;have c:=hid r;clear r X))
 all_goals
  go_wp2;go_ret
  first|exact⟨rfl,H B.a c.o⟩|exact⟨rfl,below_drewN (H B.a c.o) _⟩
def kz(W:u')(b:Nat)(s t:BS)(y:cL s)(U:cL t)(T:χ W (O b 0)=B' (Z s.1))(Q:χ W (O b 1)=B' (Z s.2))(p:χ W (O b 2)=B' (Z t.1))(c:χ W (O b 3)=B' (Z t.2)):
  Cl 267 (xk b) W (Rb W (dh (oo s t))):=by
 have e:zR [s,t]=oo s t:=by simp[zR,oo]
 rw[<-e];refine AZ (B' (O b 0)) 2 [s,t] W ?_ ?_ ak
 ·intro j x hj
  match j,hj with
  |0,hj=>simp at hj;subst hj;exact⟨b,0,rfl,T,Q⟩
  |1,hj=>simp at hj;subst hj;exact⟨b,0,rfl,p,c⟩
  |j+2,hj=>simp at hj
 intro x F;simp at F;rcases F with rfl|rfl
 ·exact y
 exact U
def pW(n:Nat):BS:=(range n).foldl (λs f=>oo s (eY [f])) (0,0)
def xu(n:Nat):pW (n+1)=oo (pW n) (eY [n]):=by simp[pW,nY]
def xw:∀n,n<=128->cL (pW n)
 |0,_=>⟨aj,aj⟩
 |n+1,h=>by rw[xu];exact rN (xw n I) (mc _ H')
def xt(n:Nat)(w:u')(K:n<=128):
  Cl 208 #[G n] w (Rb w (dh (pW n))):=by
 go_enter func208,ntmps208;go_wp2;go_loopw[6] (λi wr=>∃k:Nat,k<=n/\i=G k/\J (Bl w wr/\wr.1[δ w.1]?=B' jj/\wr.1[δ w.1+1]?=B' (k' #[Z (pW k).1,Z (pW k).2] 267 (0,0)))) (λi _=>n-(intOf i).toNat)
 ·
  refine⟨0,bj,rfl,cG,fC.1,?_⟩;have:=(bL w fY fY).2;simpa[pW]using this
 obtain⟨k,b,rfl,c⟩:=hrel;by_cases L:k<n;rotate_left
 ·have b:¬(k:Int)<n:=I;have N:k=n:=I;subst N;have E:=M c.B;have d:=M c.b;go_wp2;have r:χ (κ wr (O w.1.size 0) (Z ((pW k).1:Int))) (O w.1.size 0)=B' (Z ((pW k).1:Int)):=by rw[(M (aq c.b _)).1];rfl
  have R:χ (κ (κ wr (O w.1.size 0) (Z ((pW k).1:Int))) (O w.1.size 1) (Z ((pW k).2:Int))) (O w.1.size 1)=B' (Z ((pW k).2:Int)):=by rw[(M (aq (aq c.b _) _)).1];rfl
  refine aC (v:=dh (pW k)) (by simp[results208,go_sem,dh,r,R]) rfl ⟨rfl,?_⟩;exact(c.a.setCell aF _).setCell aF _
 have b:(k:Int)<n:=I;have V:=hid λW b T=>nM W b k I T;have g:J (∀(W:u') b,χ W (O b 0)=B' (Z ((pW k).1:Int))->χ W (O b 1)=B' (Z ((pW k).2:Int))->χ W (O b 2)=B' (Z ((eY [k]).1:Int))->χ W (O b 3)=B' (Z ((eY [k]).2:Int))->Cl 267 (xk b) W (Rb W (dh (pW (k+1))))):=by rw[xu];exact λW b D C a N=>kz W b _ _ (xw k I) (mc _ H') D C a N
 obtain⟨u,C⟩:=Ea (pW k);obtain⟨t,U⟩:=Ea (eY [k]);obtain⟨v,R⟩:=Ea (pW (k+1));rw[<-R]at g;rw[<-C]at g c;rw[<-U]at g V;have B:=hid R;clear C U R;have E:=M c.B;simp only[dh]at V g;have a:=(aY.1 c.B).1;have s:δ w.1+1≠δ wr.1:=I;have x:δ wr.1≠δ w.1+1:=I;go_wp2
 go_region_law (go_simp;first|(refine bK (V.o _ _ ak) ?_;rintro e t ⟨rfl,l⟩;have S:t.1[δ w.1+1]?=_:=(l.block _ (by simp;have:=(aY.1 c.B).1;omega)).trans ((bQ (aY.1 c.B).1).trans c.B);have W:=M S;have P:=(aY.1 S).1;have y:δ w.1+1≠δ t.1:=I;have r:=y.symm;have p:Bl wr t:=H ay l;have a:=hid (A S p);clear S l p)|(refine bK (g.o _ _ ak ak ak ak) ?_;rintro e F ⟨rfl,X⟩;have b:F.1[δ w.1+1]?=_:=(X.block _ (by simp;have:=(aY.1 a.a).1;omega)).trans ((bQ (aY.1 a.a).1).trans a.a);have d:=M b;have r:Bl wr F:=H (H a.A ay) X;have d:=hid (A b r);clear b X r))
 all_goals
  go_wp2;go_roundw
  ·
   refine⟨k+1,I,f',?_,?_,?_⟩
   ·exact((H c.a d.A).setCell H' _).setCell H' _
   ·rw[aJ H',aJ H'];exact(d.A.block _ (aY.1 c.b).1).trans c.b
   rw[<-B.o];exact aq (aq d.a _) _
  exact G'
section
variable {s t:BS}
def bt(s:BS)(f:Nat):Bool:=if f<64 then s.1.testBit f else s.2.testBit (f-64)
def zy(s t:BS)(f:Nat):bt (oo s t) f=(bt s f||bt t f):=by unfold bt oo;split<;>simp
def LU(a b i:Nat)(c:b<18446744073709551616)(S:i<64):(woW a b).testBit i=(a.testBit i&&!b.testBit i):=by rw[woW,Nat.testBit_and];have:18446744073709551615-b=2 ^ 64-(b+1):=I;rw[this,Nat.testBit_two_pow_sub_succ I];simp[S]
def Nu(s t:BS)(f:Nat)(U:cL t)(Y:f<128):bt (vQ s t) f=(bt s f&&!bt t f):=by
 unfold bt vQ;split
 ·exact LU _ _ _ U.lo I
 exact LU _ _ _ U.hi I
def fo(s:BS)(g f:Nat)(Y:f<128)(a:g<128):bt (L? s g) f=(bt s f||decide (f=g)):=by
 unfold bt L?;by_cases C:g<64
 ·rw[aB C];by_cases a:f<64
  ·rw[aB a,aB a,Nat.testBit_or,Nat.testBit_two_pow];simp[eq_comm]
  rw[aA a,aA a,show decide (f=g)=false by simp;omega,wZ]
 rw[aA C];by_cases a:f<64
 ·rw[aB a,aB a,show decide (f=g)=false by simp;omega,wZ]
 rw[aA a,aA a,Nat.testBit_or,Nat.testBit_two_pow];congr 1;rw[wY];omega
def mU(f:Nat):bt (0,0) f=P':=by unfold bt;split<;>simp
def UO:∀(o:List Nat) (u:BS) (f:Nat),f<128->(∀g∈o,g<128)->bt (o.foldl L? u) f=(bt u f||decide (f∈o))
 |[],u,f,_,_=>ak
 |g::r,u,f,Y,hr=>by rw[iC,UO r _ f Y (λx F=>hr x (by simp[F])),fo u g f Y (hr g ak),q9];congr 1;rw[cj];simp
def mV(o:List Nat)(f:Nat)(Y:f<128)(h:∀g∈o,g<128):bt (eY o) f=decide (f∈o):=by rw[eY,UO o _ f Y h,mU,iE]
def Nv:∀(n f:Nat),n<=128->f<128->bt (pW n) f=decide (f<n)
 |0,f,_,_=>by rw[show pW 0=(0,0)from rfl,mU];simp
 |n+1,f,K,hf=>by rw[xu,zy,Nv n f I hf,mV [n] f hf H',cj];simp;omega
def UM:∀(l:List BS) (u:BS) (f:Nat),bt (l.foldl oo u) f=(bt u f||l.any λs=>bt s f)
 |[],u,f=>ak
 |s::r,u,f=>by rw[iC,UM r,zy,q?,q9]
def afP(l:List BS)(f:Nat):bt (zR l) f=l.any λs=>bt s f:=by rw[zR,UM,mU,iE]
def EE{a b:Nat}(c:a<18446744073709551616)(c:b<18446744073709551616)(h:∀i,i<64->a.testBit i=b.testBit i):a=b:=by
 refine Nat.eq_of_testBit_eq λi=>?_;by_cases S:i<64
 ·exact h i S
 have a:(18446744073709551616:Nat)<=2 ^ i:=by have:=uj (n:=2) I (show 64<=i by omega);exact this
 rw[Nat.testBit_lt_two_pow I,Nat.testBit_lt_two_pow I]
def fy(y:cL s)(U:cL t)(h:∀f,f<128->bt s f=bt t f):s=t:=by
 obtain⟨c,b⟩:=s;obtain⟨S,a⟩:=t;have V:c=S:=EE y.lo U.lo λi S=>by have:=h i I;unfold bt at this;rwa[aB S,aB S]at this
 have u:b=a:=EE y.hi U.hi λi S=>by have:=h (i+64) I;unfold bt at this;rw[aA I,aA I]at this;simpa using this
 rw[V,u]
def fx(s:BS):Qi s=O'↔s=(0,0):=by obtain⟨a,b⟩:=s;simp[Qi]
def XO(y:cL s):Qi s=O'↔∀f,f<128->bt s f=P':=by
 rw[fx];constructor
 ·rintro rfl f _;exact mU f
 intro h;exact fy y ⟨aj,aj⟩ λf Y=>by rw[h f Y,mU]
def yq(U:cL t):Qi (vQ s t)=O'↔∀f,f<128->bt s f=O'->bt t f=O':=by
 rw[XO (CD s t)];constructor
 ·intro h f Y y;have:=h f Y;rw[Nu s t f U Y,y,dW]at this;simpa using this
 intro h f Y;rw[Nu s t f U Y];cases y:bt s f with
 |false=>rfl
 |true=>rw[h f Y y];rfl
def acp{f:Nat}(y:cL s)(Y:f<128):Qi (vQ (eY [f]) s)=bt s f:=by
 rw[cj,yq y];constructor
 ·intro h;exact h f Y (by rw[mV [f] f Y (I' Y)];simp)
 intro h g a d;rw[mV [f] g a (I' Y)]at d;simp at d;subst d;exact h
end
section
variable {T p:Nat} {v:A'}
structure RR where
  st:List A'
  ea:x'
  ec:Nat
  es:List (Nat×A')
abbrev RR.ev(r:RR):A':=i' r.ea (ζ r.es) r.ec
def rz(r:RR):List A':=r.st++[r.ev]
def ic(rl:List RR):List A':=rl.flatMap rz
def iV(es:List (Nat×A')):List A':=es.flatMap λe=>[G e.1,e.2]
def K7(a:List (Nat×A'))(e:Nat×A'):iV (a++[e])=iV a++[G e.1,e.2]:=by simp[iV]
def A8{m:Nat}:∀(c:List RR),(∀r∈c,ζ r.st=m)->ζ (ic c)=ζ c*(m+1)
 |[],_=>by simp[ic]
 |r::q,h=>by have B:=A8 q (λx F=>h x (by simp[F]));have D:=h r ak;simp only[ic,cN,bF,rz,cC,gN]at B⊢;rw[oR];omega
def Fb{m:Nat}:∀(c:List RR) (k:Nat) (r:RR) (j:Nat),(∀r∈c,ζ r.st=m)->c[k]?=B' r->j<m+1->(ic c)[k*(m+1)+j]?=(rz r)[j]?
 |[],k,r,j,_,h,_=>by simp at h
 |a::q,0,r,j,d,h,hj=>by simp at h;subst h;have D:=d a ak;simp only[ic,cN,e?,bW];rw[jN (by simp[rz];omega)]
 |a::q,k+1,r,j,d,h,hj=>by have D:=d a ak;have B:=Fb q k r j (λx F=>d x (by simp[F])) (I' h) hj;simp only[ic,cN]at B⊢;rw[ek (by simp[rz,oR];omega),<-B];congr 1;simp[rz,oR];omega
def pZ{m:Nat}:∀(c:List RR) (k:Nat) (r g:RR) (j:Nat) (v:A'),(∀r∈c,ζ r.st=m)->c[k]?=B' r->j<m+1->rz g=(rz r).set j v->(ic c).set (k*(m+1)+j) v=ic (c.set k g)
 |[],k,r,g,j,v,_,h,_,_=>by simp at h
 |a::q,0,r,g,j,v,d,h,f,he=>by simp at h;subst h;have D:=d a ak;simp only[ic,dN,cN,e?,bW];rw[I5 _ _ (by simp[rz];omega),he]
 |a::q,k+1,r,g,j,v,d,h,f,he=>by have D:=d a ak;have B:=pZ q k r g j v (λx F=>d x (by simp[F])) (I' h) f he;simp only[ic,cO,cN]at B⊢;rw[sk _ _ (by simp[rz,oR];omega),<-B];congr 2;simp[rz,oR];omega
structure Sys(W:u')(B rb m tR tE:Nat)(rl:List RR):Prop where
  lQ:W.1[rb]?=B' (k' (θ (ic rl)) tR (0,0))
  low:B<=rb
  len:∀r∈rl,ζ r.st=m
  row:∀r∈rl,ρ W B tE 2 r.ev (ζ r.es) (iV r.es)
  zp:∀(i j:Nat) (a b:RR),rl[i]?=B' a->rl[j]?=B' b->i≠j->φ a.ev=C'\/φ a.ev≠φ b.ev
def Sys.below{b:u'}{c:List RR}(e:Sys W B a m T p c)(f:Bl W b):Sys b B a m T p c:=by refine⟨(f.block _ (aY.1 e.lQ).1).trans e.lQ,e.low,e.len,λr a=>?_,e.zp⟩;have h:=e.row r a;exact aal
def afy{p:Prop}(h:p:=by
 refine⟨?_,E.2 _⟩;have X:=h.len r (aT b);have L:j<m+1:=by have:=(bm.1 f).1;simp[rz]at this;omega
 rw[E.1,eu,Fb c k r j h.len b L,f]):p:=h
def Sys.cell{c:List RR}(h:Sys W B a m T p c){j:Nat}{r:RR}(b:c[k]?=B' r)(f:(rz r)[j]?=B' v):χ W (O a (k*(m+1)+j))=B' v/\W.frozen? (O a (k*(m+1)+j))=P':=by have E:=M h.lQ;exact afy
def eh{e size n t:Nat}{D:List A'}{L:Array A'}(h:ρ W B e size v n D)(a:W.1[k]?=B' (c7 L t))(l:e≠t):φ v≠B' k:=by
 rcases h.2 with⟨V,_⟩|⟨g,b,Y,V,_,N,_⟩
 ·rw[V];simp[Value.ownBlock]
 rw[V];intro u;have:g=k:=by simpa[Value.ownBlock]using u
 subst this;rw[N]at a;simp at a;exact l a.2
def Sys.grow{X l:u'}{c:List RR}{r:RR}{e:Nat×A'}{d:x'}{b:Nat}(h:Sys W B a m T p c)(U:p≠T)(hk:c[k]?=B' r)(f:Bl W X)
  (q:ξ X l (φ r.ev)) (t:ρ l B p 2 (i' d (ζ r.es+1) b) (ζ r.es+1) (iV r.es++[G e.1,e.2])) (K:φ (i' d (ζ r.es+1) b)=φ r.ev\/φ (i' d (ζ r.es+1) b)=B' X.1.size):
  Sys (κ l (O a (k*(m+1)+m)) (i' d (ζ r.es+1) b)) B a m T p (c.set k ⟨r.st,d,b,r.es++[e]⟩):=by
 have P:=h.below f;have f:=(aY.1 P.lQ).1;have z:some a≠φ r.ev:=λe=>eh (P.row r (aT hk)) P.lQ U e.symm
 have w:=(q.block a f z).trans P.lQ;have L:=eh t w U;have V:=h.len r (aT hk);have o:=(bm.1 hk).1;have u:∀(size n:Nat) (v:A') (D:List A'),ρ l B p size v n D->φ v≠B' a->ρ (κ l (O a (k*(m+1)+m)) (i' d (ζ r.es+1) b)) B p size v n D:=by
  intro size n v D o R;refine⟨o.1,?_⟩;rcases o.2 with a|⟨g,b,Y,C,i,N,d⟩
  ·exact aI a
  refine aK ⟨g,b,Y,C,i,?_,d⟩;rw[aJ (by rintro rfl;exact R (by rw[C];rfl))];exact N
 refine⟨?_,h.low,?_,?_,?_⟩
 ·rw[aq w];congr 2;rw[cJ];congr 1;refine pZ c k r _ m _ h.len hk I ?_;simp only[rz,RR.ev,bF,fF];rw[sk _ _ I,V,kH];rfl
 ·intro x F;rcases mZ F with F|rfl
  ·exact h.len x F
  exact V
 ·intro x F;rw[oP]at F;obtain⟨j,f⟩:=F;rw[fG]at f;by_cases s:k=j
  ·rw[aB s,aB I]at f;cases f;have:=u 2 _ _ _ t L;simpa[RR.ev,K7]using this
  rw[aA s]at f;have y:=P.row x (aT f);have Q:=h.zp j k x r f hk I;have:ρ l B p 2 x.ev (ζ x.es) (iV x.es):=by
   refine⟨y.1,?_⟩;rcases y.2 with a|⟨g,b,Y,C,i,N,d⟩
   ·exact aI a
   refine aK ⟨g,b,Y,C,i,(q.block g (aY.1 N).1 ?_).trans N,d⟩;rcases Q with Q|Q
   ·rw[C]at Q;simp[Value.ownBlock]at Q
   intro e;exact Q (by rw[<-e,C];rfl)
  exact u 2 _ _ _ this (eh y P.lQ U)
 intro i j a b S f t;rw[fG]at S f;by_cases E:k=i
 ·rw[aB E,aB I]at S;cases S;rw[aA I]at f;have Q:=h.zp j k b r f hk I;simp only[RR.ev,bF,fF];rcases K with K|K
  ·rw[K];rcases Q with Q|Q
   ·rw[show φ b.ev=C' from Q];cases o:φ r.ev with
    |none=>exact aI rfl
    |some q=>exact aK ak
   exact aK (λe=>Q e.symm)
  rw[K];refine aK λe=>?_;have:=((P.row b (aT f)).lt X.1.size e.symm).2;omega
 rw[aA E]at S;by_cases s:k=j;rotate_left
 ·rw[aA s]at f;exact h.zp i j a b S f t
 rw[aB s,aB I]at f;cases f;have Q:=h.zp i k a r S hk I;simp only[RR.ev,bF,fF];rcases K with K|K
 ·rw[K];exact Q
 rw[K];refine aK λe=>?_;have:=((P.row a (aT S)).lt X.1.size e).2;omega
structure Ef where
  drop:BS
  add:BS
def Ev(e:Ef):A':=l' #[Z e.drop.1,Z e.drop.2,Z e.add.1,Z e.add.2]
structure Ed(e:Ef):Prop where
  drop:cL e.drop
  add:cL e.add
def Il(e:Ef)(s:BS):BS:=oo (vQ s e.drop) e.add
def gv(e:Ef)(s:BS)(w:u')(l:Ed e)(y:cL s):
  Cl 328 #[Ev e,dh s] w (Rb w (dh (Il e s))):=by
 have k:J (∀W,Cl 153 #[dh s,dh e.drop] W (Rb W (dh (vQ s e.drop)))):=λW=>o7 s e.drop W y l.drop;have g:J (∀(W:u') b,χ W (O b 0)=B' (Z ((vQ s e.drop).1:Int))->χ W (O b 1)=B' (Z ((vQ s e.drop).2:Int))->χ W (O b 2)=B' (Z e.add.1)->χ W (O b 3)=B' (Z e.add.2)->Cl 267 (xk b) W (Rb W (dh (Il e s)))):=λW b D C c N=>kz W b _ _ (CD _ _) l.add D C c N;obtain⟨z,f⟩:=Ea (Il e s);obtain⟨u,C⟩:=Ea (vQ s e.drop);rw[<-f]at g⊢;rw[<-C]at g k;clear f C l y;obtain⟨⟨Y,c⟩,N,l⟩:=e;obtain⟨f,e⟩:=s;simp only[dh,Ev]at k g⊢;go_enter func328,ntmps328;go_wp2
 generalize j:((w.alloc (k' #[Z Y,Z c,Z N,Z l] 397)).alloc (k' #[Z f,Z e] 267)).alloc fY=b;have U:J (Bl w b/\b.1[δ w.1]?=B' (k' #[Z Y,Z c,Z N,Z l] 397 (0,0))/\b.1[δ w.1+1]?=B' (k' #[Z f,Z e] 267 (0,0))/\b.1[δ w.1+1+1]?=B' jj):=by
  subst j;refine⟨gB,?_,?_,?_⟩
  ·rw[bQ H'];exact(bL w _ _).1
  ·rw[bQ ak];exact(bL w _ _).2
  have:=cv ((w.alloc (k' #[Z Y,Z c,Z N,Z l] 397)).alloc (k' #[Z f,Z e] 267)) fY;simpa using this
 clear j;have E:=M U.b;have c:=M U.c;have W:=M U.C;have e:=(aY.1 U.C).1;have c:δ w.1≠δ b.1:=I;have s:δ w.1+1≠δ b.1:=I;have x:δ w.1+1+1≠δ b.1:=I
 go_region_law (go_simp;first|(refine bK (k.o _) ?_;rintro L t ⟨rfl,l⟩;have p:Bl b t:=H ay l;have F:=M ((p.block _ I).trans U.b);have c:=p.size;have y:δ w.1≠δ t.1:=I;have c:δ w.1+1+1≠δ t.1:=I;have f:=y.symm;have k:=c.symm;have gb:=hid p;clear p l)|(refine bK (g.o _ _ ak ak ak ak) ?_;rintro L F ⟨rfl,X⟩;have r:Bl b F:=H (H gb.o ay) X;have R:=M ((r.block _ I).trans U.C);have c:=hid r;clear r X))
 all_goals
  go_wp2;have v:=(c.o.block _ e).trans U.C;have b:χ (κ F (O (δ w.1+1+1) 0) (Z z.1)) (O (δ w.1+1+1) 0)=B' (Z z.1):=by rw[(M (aq v _)).1];rfl
  have r1:χ (κ (κ F (O (δ w.1+1+1) 0) (Z z.1)) (O (δ w.1+1+1) 1) (Z z.2)) (O (δ w.1+1+1) 1)=B' (Z z.2):=by rw[(M (aq (aq v _) _)).1];rfl
  refine aC (v:=dh z) (by simp[results328,go_sem,dh,b,r1]) rfl ⟨rfl,?_⟩;exact((H U.a c.o).setCell H' _).setCell H' _
abbrev dx(rb n:Nat):A':=l' (fe rb n)
def vz(e:Ef):A':=.func (.func 328) #[Ev e] #[]
end
section
variable {a b:A'} {q:Nat} {v:Ef}
def Dy:(Tryz.prog.info? 267).map (λi=>(i.zero,i.size,i.bytes))=B' (B' (l' #[Z 0,Z 0]),2,16):=au
def fz(s:BS):List A':=[Z s.1,Z s.2]
def fS(ss:List BS):List A':=ss.flatMap fz
def saS(s0:BS)(es:List (Nat×Ef))(held:Nat->BS):BS:=zR (s0::es.map λe=>Il e.2 (held e.1))
def zk:∀(l:List (Nat×A')) (k:Nat) (x:Nat×A'),l[k]?=B' x->(iV l)[k*2]?=B' (G x.1)/\(iV l)[k*2+1]?=B' x.2
 |[],k,x,h=>by simp at h
 |a::l,0,x,h=>by simp at h;subst h;simp[iV]
 |a::l,k+1,x,h=>by have:=zk l k x (I' h);simp only[iV,cN,cW,ej]at this⊢;rw[show(k+1)*2=k*2+1+1 by omega];simpa using this
def Ua{l:List (Nat×A')}{a:List (Nat×Ef)}(c:l=a.map λe=>(e.1,vz e.2))(b:a[k]?=B' (m,v)):(iV l)[k*2]?=B' (G m)/\(iV l)[k*2+1]?=B' (vz v):=zk l k (m,vz v) (by rw[c,cg,b];rfl)
def F?{X:u'}{t:TypeId}(h:X.1[q]?=B' (k' #[a,b] t (0,0))):∀(j:Nat) (u:A'),[a,b][j]?=B' u->χ X (((O q 0):Addr).add j)=B' u:=by intro j u f;rw[eX,bW,(M h).1];simpa using f
def u0{w a:u'}{o:Obj}(c:Below B w a)(h:w.1[k]?=B' o)(b:k<B):a.1[k]?=B' o:=(c.block k b).trans h
def SI{e:Ef}{s:BS}(l:Ed e)(y:cL s):cL (Il e s):=rN (CD _ _) l.add
def zA:∀(l:List BS) (j:Nat) (s:BS),l[j]?=B' s->(fS l)[j*2]?=B' (Z s.1)/\(fS l)[j*2+1]?=B' (Z s.2)
 |[],j,s,h=>by simp at h
 |a::l,0,s,h=>by simp at h;subst h;simp[fS,fz]
 |a::l,j+1,s,h=>by have:=zA l j s (I' h);simp only[fS,cN,fz,cW,ej]at this⊢;rw[show(j+1)*2=j*2+1+1 by omega];simpa using this
def RP{n c:Nat}{a:x'}{l:List BS}(h:ρ W B 267 2 (i' a n c) n (fS l)):mB W a l:=by
 intro j s f;have a:=zA l j s f;rcases h.2 with⟨R,_⟩|⟨g,b,Y,R,_⟩
 ·exfalso;have C:=h.1;simp at R;have:=(bm.1 a.1).1;simp_all
 simp at R;obtain⟨rfl,rfl⟩:=R;have U:=h.cells (g:=g) rfl _ _ a.1;have b:=h.cells (g:=g) rfl _ _ a.2;rw[eX]at U b;exact⟨g,0,rfl,U,b⟩
def SB{t:Nat}(h:W.1[q]?=B' (k' #[a,b] t (0,0)))(v:B<=q):ρ W B t 2 (i' (B' (O q 0)) 1 1) 1 [a,b]:=by refine⟨rfl,aK ⟨q,1,#[a,b],rfl,v,h,aF,?_,rfl,rfl⟩⟩;unfold maxLen;decide
def fu{p:Nat}{r:RR}{b:List (Nat×Ef)}(h:ρ W B p 2 r.ev (ζ r.es) (iV r.es))(l:r.es=b.map λe=>(e.1,vz e.2))(a:b[k]?=B' (m,v)):∃g,r.ea=B' (O g 0)/\χ W (O g (k*2))=B' (G m)/\χ W (O g (k*2+1))=B' (vz v):=by
 have o:=(bm.1 a).1;rcases h.2 with⟨_,e⟩|⟨g,b,Y,R,_⟩
 ·rw[l,b!]at e;omega
 simp[RR.ev]at R;refine⟨g,R.1,?_,?_⟩
 ·have:=h.cells (g:=g) (by simp[RR.ev,Value.ownBlock,R.1]) (k*2) (G m) (Ua l a).1;rwa[eX,bW]at this
 have:=h.cells (g:=g) (by simp[RR.ev,Value.ownBlock,R.1]) (k*2+1) (vz v) (Ua l a).2;rwa[eX,bW]at this
def N!(f B N n u:Nat)(c:List RR)(r:RR)(s0:BS)(es:List (Nat×Ef))(C:Array A')(b:Nat->BS)(w:u')(j:Sys w B f 2 393 404 c)(X:ζ c=N)(p:N<=60)(hr:c[n]?=B' r)(R:r.st=fz s0)(T:cL s0)(c:r.es=es.map λe=>(e.1,vz e.2))(g:∀e∈es,Ed e.2/\cL (b e.1))(k:ζ es<=200)(E:∀D w,(callFunc u D).run Tryz.prog w=.ok (.enter u D) w)
  (V:∀e∈es,∀W,Bl w W->Cl u (#[G e.1]++C) W (Rb W (dh (b e.1)))):
  Cl 226 #[dx f N,G n,.func (.func u) #[] C] w (Rb w (dh (saS s0 es b))):=by
 have o:=j.cell (j:=0) (v:=Z s0.1) hr (by simp[rz,R,fz]);have l:=j.cell (j:=1) (v:=Z s0.2) hr (by simp[rz,R,fz]);have p:=j.cell (j:=2) (v:=i' r.ea (ζ es) r.ec) hr (by simp[rz,R,fz,RR.ev,c]);have k:n<N:=by rw[<-X];exact(bm.1 hr).1
 have k:(n:Int)<N:=I;have D:=hid (j.row r (aT hr));have B:=hid (A V (A g (A T c)));simp only[Nat.reduceAdd,gD]at o l p;have k:=zD w (k' #[i' (B' (O f 0)) N N,.func (.func 267) #[] #[],.func (.func 296) #[] #[]] 260) fY;have t:=ax o.1 k;have Y:=ax l.1 k;have q:=ax p.1 k;clear j V g T c R hr X o l p k;simp only[dx];go_enter func226,ntmps226;go_upto_region 4 with(fail)
 generalize j:(((w.alloc (k' #[i' (B' (O f 0)) N N,.func (.func 267) #[] #[],.func (.func 296) #[] #[]] 260)).alloc fY).alloc (k' #[Z s0.1,Z s0.2,i' r.ea (ζ es) r.ec] 393)).alloc (qH s0.1 s0.2)=g;have U:J (Bl w g/\d' g w.1.size #[i' (B' (O f 0)) N N,.func (.func 267) #[] #[],.func (.func 296) #[] #[]] 260/\g.1[δ w.1+1]?=B' jj/\g.1[δ w.1+1+1+1]?=B' (vf s0.1 s0.2)):=by subst j;obtain⟨k,R,_,c⟩:=qp w (k' #[i' (B' (O f 0)) N N,.func (.func 267) #[] #[],.func (.func 296) #[] #[]] 260) fY (k' #[Z s0.1,Z s0.2,i' r.ea (ζ es) r.ec] 393) (qH s0.1 s0.2);exact⟨iw,k,R,c⟩
 clear j t Y q;have c:=blt U.C;go_loopw[8,22] (λf y wr=>∃(k:Nat) (a:x') (c:Nat),k<=ζ es/\y=G k/\f=i' a (k+1) c/\J (ρ wr (δ w.1+1+1+1) 267 2 (i' a (k+1) c) (k+1) (fS (s0::(es.take k).map λe=>Il e.2 (b e.1)))/\Below (δ w.1+1+1+1) g wr)) (λ_ y _=>ζ es-(intOf y).toNat)
 ·exact⟨0,_,_,bj,rfl,rfl,SB U.C aF,aQ⟩
 obtain⟨k,a,c,f,rfl,rfl,R⟩:=hrel;have p:Bl w wr:=U.a.trans (R.A.mono I);have f:=R.A.size;by_cases L:k<ζ es;rotate_left
 ·have o:¬(k:Int)<(ζ es:Int):=I;have q:k=ζ es:=I;subst q;rw[gg]at R;have g:J (∀W,Bl wr W->Cl 267 #[i' a (ζ es+1) c] W (Rb W (dh (saS s0 es b)))):=by intro W j;have X:ζ (s0::es.map λe=>Il e.2 (b e.1))=ζ es+1:=ak;have:=AZ a c (s0::es.map λe=>Il e.2 (b e.1)) W (RP (aZ R.a j)) (by intro s y;rcases dr.1 y with rfl|y;(· exact B.c);obtain⟨e,T,rfl⟩:=cZ.1 y;exact SI (B.b e T).1 (B.b e T).2) H';rwa[X]at this
  obtain⟨z,f⟩:=Ea (saS s0 es b);rw[<-f]at g;have j:=hid f;clear f;have E:=M (u0 R.A U.b I);have f:=hid p;have l:δ w.1+1<δ wr.1:=I;clear p;simp only[dh]at g;go_wp2_with (go_at_call 267;refine D' (g.o _ aQ) λt l=>?_;have v:=aL l (u0 R.A U.c I);clear E;have E:=M v;have q:=hid (A l v);clear l v);have v:=q.A;have g:χ (κ t (O (δ w.1+1) 0) (Z z.1)) (O (δ w.1+1) 0)=B' (Z z.1):=by rw[(M (aq v _)).1];rfl
  have r1:χ (κ (κ t (O (δ w.1+1) 0) (Z z.1)) (O (δ w.1+1) 1) (Z z.2)) (O (δ w.1+1) 1)=B' (Z z.2):=by rw[(M (aq (aq v _) _)).1];rfl
  refine aC (v:=dh z) (by simp[results226,go_sem,dh,g,r1]) rfl ⟨by rw[j.o],?_⟩;exact((H f.o q.a).setCell H' _).setCell H' _
 have o:(k:Int)<(ζ es:Int):=I;obtain⟨⟨m,v⟩,F⟩:∃x,es[k]?=B' x:=⟨_,bR L⟩;obtain⟨g,g,o,f⟩:=fu (aZ D.o p) B.C F;obtain⟨N,D⟩:=B.b _ (aT F);have Y:J (∀W,Bl w W->Cl u (#[G m]++C) W (Rb W (dh (b m)))):=B.a _ (aT F);have s:J (∀W,Cl 328 #[Ev v,dh (b m)] W (Rb W (dh (Il v (b m))))):=λW=>gv v (b m) W N D;have U:=hid F;clear F N D;rw[g];simp only[vz]at f;go_upto_region 6 with(fail)
 generalize g:wr.alloc (k' #[G m,.func (.func 328) #[Ev v] #[]] 404)=V;have B:J (Bl wr V/\d' V wr.1.size #[G m,.func (.func 328) #[Ev v] #[]] 404):=by subst g;exact⟨bf,bV⟩
 clear g o f;have E:=M B.A;have u:J (Bl w V):=H p B.a;have f:=B.a.size;obtain⟨x,g⟩:=Ea (b m);obtain⟨f,j⟩:=Ea (Il v (b m));rw[<-g]at Y s;have r:J (f=Il v (b m)):=j;rw[g,<-j,<-g]at s;clear g j p;obtain⟨N,hi,D,j,g⟩:=cQ Dy;have o:J (_/\_/\_/\_):=⟨hi,D,j,g⟩;clear hi D j g;generalize g:Ev v=g at s;generalize dh x=g at Y s;simp only[dh]at s
 go_region_law (first|(go_simp;refine bK (Y.o _ (H u.o ay)) ?_;rintro e t ⟨rfl,l⟩;have q:J (Bl V t):=H ay l;clear E l;have E:=M (aL q.o B.A))|(go_simp;refine bK (s.o _) ?_;rintro e F ⟨rfl,X⟩;have j:J (Bl V F):=H (H q.o ay) X;clear X)|(refine jq rfl (.tmp 26) (.tmp 34) 264 rfl (δ w.1+1+1+1) 267 N (l' #[.int .u64 0,.int .u64 0]) 2 16 underlying264 o.a o.b o.c o.C rfl aj (i' a (k+1) c) (k+1) (fS (s0::(es.take k).map λe=>Il e.2 (b e.1))) (by simp[Act.eval,Act.put]) (by exact aZ R.a (H (H B.a j.o) ay)) (O F.1.size 0) 1 1 [.int .u64 (f.1:Int),.int .u64 (f.2:Int)] (by simp[Act.eval,Act.put]) rfl (F? (cv F _)) (by intro u C;simp at C;rcases C with rfl|rfl<;>rfl) (by unfold maxLen;omega) I (by have:=j.o.size;simp;omega) ?_;intro E c c W y;obtain⟨C,l,rfl⟩:=aV c;have g:=hid (A c W);clear c W y))
 all_goals
  go_wp2;go_roundw
  ·
   have T:fS (s0::(es.take (k+1)).map λe=>Il e.2 (b e.1))=fS (s0::(es.take k).map λe=>Il e.2 (b e.1))++[Z f.1,Z f.2]:=by rw[cX L,(bm.1 U.o).2,eW,r.o];simp[fS,fz]
   refine⟨k+1,C,l,L,f',rfl,?_,?_⟩
   ·rw[T];exact g.a
   exact R.A.trans ((((H B.a j.o).mono I).alloc (J' j.o.size) _).grown g.A (by have:=j.o.size;simp;omega) (λq e=>((aZ R.a (H B.a j.o)).lt q e).1))
  exact G'
end
abbrev RS:=List (BS×List (Nat×Ef))
def P7(R:RS):List (List A'×List (Nat×A')):=R.map λr=>(fz r.1,r.2.map λe=>(e.1,vz e.2))
structure Lv(R:RS)(N:Nat):Prop where
  len:ζ R=N
  most:N<=60
  each:∀r∈R,cL r.1/\ζ r.2<=200/\∀e∈r.2,Ed e.2/\e.1<N
def qz(w:u')(B rb:Nat)(R:RS):Prop:=∃rl,Sys w B rb 2 393 404 rl/\rl.map (λr=>(r.st,r.es))=P7 R
def qz.below{w a:u'}{B b:Nat}{R:RS}(h:qz w B b R)(d:Bl w a):qz a B b R:=by obtain⟨c,C,a⟩:=h;exact⟨c,C.below d,a⟩
def JA(R:RS)(held:Nat->BS)(n:Nat):BS:=match R[n]? with|some r=>saS r.1 r.2 held|none=>(0,0)
def wJ(hs:List BS)(n:Nat):BS:=hs.getD n (0,0)
def yX{y:List BS}(h:∀s∈y,cL s)(n:Nat):cL (wJ y n):=by
 unfold wJ;cases e:y[n]? with
 |none=>rw[getD,e];exact⟨aj,aj⟩
 |some s=>rw[getD,e];exact h s (aT e)
def RX{R:RS}{N:Nat}(h:Lv R N){b:Nat->BS}(V:∀n,cL (b n))(n:Nat):cL (JA R b n):=by
 unfold JA;cases e:R[n]? with
 |none=>exact(show cL (0,0)from⟨aj,aj⟩)
 |some r=>
  refine Q5 _ λs y=>?_;have:=h.each r (aT e);rcases dr.1 y with rfl|y
  ·exact this.1
  obtain⟨x,F,rfl⟩:=cZ.1 y;exact SI (this.2.2 x F).1 (V x.1)
def A5(h B N n u:Nat)(R:RS)(a:Array A')(b:Nat->BS)(w:u')(v:qz w B h R)(i:Lv R N)(K:n<N)(d:∀m,cL (b m))(E:∀D w,(callFunc u D).run Tryz.prog w=.ok (.enter u D) w)
  (V:∀m,m<N->∀W,Bl w W->Cl u (#[G m]++a) W (Rb W (dh (b m)))):
  Cl 226 #[dx h N,G n,.func (.func u) #[] a] w (Rb w (dh (JA R b n))):=by
 obtain⟨c,C,f⟩:=v;have X:ζ c=N:=by have:=dZ length f;simp[P7]at this;rw[this,i.len]
 obtain⟨r,k⟩:=La (l:=c) (i:=n) I;obtain⟨q,g⟩:=La (l:=R) (i:=n) (by rw[i.len];exact K);have j:=dZ (λl=>l[n]?) f;simp only[P7,cg,k,g,m?,fD,eR]at j;have f:=i.each q (aT g);have e:JA R b n=saS q.1 q.2 b:=by rw[JA,g]
 rw[e];exact N! h B N n u c r q.1 q.2 a b w C X i.most k j.1 f.1 j.2 (λe l=>⟨(f.2.2 e l).1,d e.1⟩) f.2.1 E (λe l W j=>V e.1 (f.2.2 e l).2 W j)
def Po(q m:Nat)(a:x')(N c:Nat)(y:List BS)(w:u')(e:w.1[q]?=B' (k' #[i' a N c] 264 (0,0)))(X:ζ y=N)(p:N<=60)(d:m<N)(u:mB w a y):
  Cl 240 #[G m,o' (B' (O q 0))] w (Rb w (dh (wJ y m))):=by
 have F:y[m]?=B' (wJ y m):=by rw[wJ,getD,bR I];rfl
 obtain⟨b,o,rfl,T,Q⟩:=u m _ F;have g:(m:Int)<N:=I;generalize wJ y m=z at *;have E:=M e;have a:=cz w fY;have t:=ax T a;have Y:=ax Q a;have L:=blt e;have s:q≠δ w.1:=I;clear u F X e T Q a;go_enter func240,ntmps240;go_wp2;refine aC (v:=dh z) (by simp[results240,go_sem,dh]) rfl ⟨rfl,?_⟩
 (repeat first|exact aQ|refine jM ?_ (by first|omega|(simp;omega)) _|refine lz ?_ (by first|omega|(simp;omega)|(simp;done)) _)
def E0(R:RS)(hs:List BS)(N:Nat):Bool:=(range N).all λn=>Qi (vQ (JA R (wJ hs) n) (wJ hs n))
def Js(l B N c:Nat)(a:x')(R:RS)(y:List BS)(w:u')(v:qz w B l R)(i:Lv R N)(X:ζ y=N)(u:mB w a y)(b:∀s∈y,cL s):
  Cl 168 #[dx l N,i' a N c] w (Rb w (j' (E0 R y N))):=by
 have f:=i.most;have g:=hid (A v (A i (A X (A u b))));clear v i X u b;simp only[dx];go_enter func168,ntmps168;go_upto_region 3 with(fail)
 generalize j:(w.alloc (k' (fe l N) 260)).alloc (k' #[i' a N c] 264)=b;have U:J (Bl w b/\d' b w.1.size (fe l N) 260/\d' b (δ w.1+1) #[i' a N c] 264):=by subst j;exact⟨cG,fC.1,fC.2⟩
 clear j;have a:=blt U.B;go_loopw[11] (λa wr=>∃k:Nat,k<=N/\a=G k/\J (E0 R y k=O'/\Bl b wr)) (λa _=>N-(intOf a).toNat)
 ·exact⟨0,bj,rfl,rfl,aQ⟩
 obtain⟨k,a,rfl,u⟩:=hrel;have a:=u.A.size;have p:Bl w wr:=H U.a u.A;by_cases L:k<N;rotate_left
 ·have a:¬(k:Int)<N:=I;have q:k=N:=I;go_wp2;go_ret;exact⟨by rw[<-q,u.a];rfl,p⟩
 have a:(k:Int)<N:=I;have F:y[k]?=B' (wJ y k):=by rw[wJ,getD,bR (by rw[g.c];exact L)];rfl
 obtain⟨b,o,rfl,T,Q⟩:=g.d k _ F;have E:=ax T p;have Y:=ax Q p;have q:=M (aL u.A U.b);have x:=hid (A p F);obtain⟨t,a⟩:=Ea (Qi (vQ (JA R (wJ y) k) (wJ y k)));have K:J (t=P'->E0 R y N=P'):=λh=>kR (k:=k) (a.symm.trans h) L;have HT:J (t=O'->E0 R y (k+1)=O'):=λh=>by have C:=u.a;unfold E0 at C⊢;rw[c8,C,<-a,h];rfl
 have P:=yX g.D k;have X:J (∀W,Cl 296 #[dh (JA R (wJ y) k),dh (wJ y k)] W (Rb W (j' t))):=by rw[a];exact λW=>yQ _ _ W (RX g.b (yX g.D) k) P
 have r:J (∀W,Bl wr W->Cl 226 #[dx l N,G k,.func (.func 240) #[] #[o' (B' (O (δ w.1+1) 0))]] W (Rb W (dh (JA R (wJ y) k)))):=by intro W j;have C:=H x.a j;refine A5 l B N k _ R _ (wJ y) W (g.a.below C) g.b L (yX g.D) (λD w=>Tryz.call240 D w) λm d v h=>?_;exact Po (δ w.1+1) m _ N c y v (aL h (aL j (aL u.A U.B))) g.c f d (λj s f=>by obtain⟨b,o,e,T,Q⟩:=g.d j s f;exact⟨b,o,e,ax (ax T C) h,ax (ax Q C) h⟩)
 simp only[dx]at r;generalize wJ y k=z at *;generalize JA R (wJ y) k=b at *;clear F T Q p a P;go_upto_region 5 with(fail)
 generalize g:wr.alloc (k' #[Z z.1,Z z.2] 267)=V;have B:J (Bl wr V/\d' V wr.1.size #[Z z.1,Z z.2] 267/\d' V w.1.size (fe l N) 260):=by subst g;exact⟨bf,bV,aL bf (aL u.A U.b)⟩
 clear g E Y q;have E:=M B.b;have q:=M B.B;have U:χ V (O wr.1.size 0)=B' (Z z.1):=by rw[E.1];rfl
 have c:χ V (O wr.1.size 1)=B' (Z z.2):=by rw[E.1];rfl
 have a:χ V (O w.1.size 0)=B' (dU l N):=by rw[q.1];rfl
 have P:χ V (O w.1.size 1)=B' ji:=by rw[q.1];rfl
 have b:χ V (O w.1.size 2)=B' n9:=by rw[q.1];rfl
 have S:=hid (A U (A c (A a (A P b))));clear E q;simp only[dh]at r X
 go_region_held3 (λi=>χ i (O wr.1.size 0)=B' (Z z.1)/\χ i (O wr.1.size 1)=B' (Z z.2)/\χ i (O w.1.size 0)=B' (dU l N)/\χ i (O w.1.size 1)=B' ji/\χ i (O w.1.size 2)=B' n9) (go_keep) ((first|(go_at_call 226;refine D' (r.o _ (H B.a ay)) λa l=>?_;have p:Bl V a:=H ay l;have r:=hid p;have P:=ax S.a p;have F:=ax S.b p;have a:=ax S.c p;have s:=ax S.d p;have a:=ax S.D p;clear l p)|(go_at_call 296;refine D' (X.o _) λv X=>?_;have p:Bl V v:=H (H r.o ay) X;have j:=hid p;have d:=ax S.a p;have N:=ax S.b p;have a:=ax S.c p;have a:=ax S.d p;have a:=ax S.D p;clear X p)))
 all_goals
  cases t
  ·go_wp2;go_ret;exact⟨by rw[K.o (by trivial)];rfl,H x.a (H B.a j.o)⟩
  go_wp2;go_roundw
  ·exact⟨k+1,L,f',HT.o (by trivial),H u.A (H B.a j.o)⟩
  exact G'
section
variable {α:Type} {g t:Nat} {l:List BS} {x:Nd}
def Lu(count:Int)(x:Nd):Bool:=match x.facts.getLast? with|some f=>decide (f<count)|none=>O'
def mA{l:List α}{x:α}(f:α->Bool)(h:l[k]?=B' x):(l.take (k+1)).all f=((l.take k).all f&&f x):=by have X:=(bm.1 h).1;rw[cX X,(bm.1 h).2];simp
def vL{l:List α}{x:α}(f:α->Bool)(h:l[k]?=B' x)(Y:f x=P'):l.all f=P':=by rw[kJ];intro a;rw[cF]at a;have:=a x (aT h);rw[Y]at this;cases this
def aah{p:Prop}(h:p:=by
 go_wp2;go_roundw
 ·exact⟨i+1,L,f',by rw[mA _ b.o,e.a,U.o];rfl,e.A.alloc e.A.size _⟩
 exact G'):p:=h
def D9(T:x')(r:Nat)(v:List Nd)(count:Int)(w:u')(h:b9 w T v)(B:∀x∈v,dY x)(K:ζ v<=60):
  Cl 167 #[i' T (ζ v) r,G count] w (Rb w (j' (v.all (Lu count)))):=by
 have s:=hid (A h B);clear h B;go_enter func167,ntmps167;go_wp2;go_loopw[10] (λy wr=>∃i:Nat,i<=ζ v/\y=G i/\J ((v.take i).all (Lu count)=O'/\Bl w wr)) (λy _=>ζ v-(intOf y).toNat)
 ·exact⟨0,bj,rfl,rfl,aQ⟩
 obtain⟨i,S,rfl,e⟩:=hrel;by_cases L:i<ζ v;rotate_left
 ·have a:¬(i:Int)<(ζ v:Int):=I;go_wp2;go_ret;exact⟨by have C:=e.a;rw[cH I]at C;rw[C];rfl,e.A⟩
 have a:(i:Int)<(ζ v:Int):=I;obtain⟨x,F⟩:=La L;obtain⟨b,o,a,l,z,q,rc,k,rfl,T,Q,p,a,P,g⟩:=s.a.below e.A i x F;have c:=(s.A x (aT F)).Qg;have b:=hid F;clear F;by_cases D:ζ x.facts=0
 ·have U:J (Lu count x=O'):=by show _=_;rw[Lu,du.1 D];rfl
  rw[D]at T;exact aah
 obtain⟨m,d⟩:∃m,ζ x.facts=m+1:=⟨ζ x.facts-1,I⟩;obtain⟨f,Y⟩:=La (l:=x.facts) (i:=m) I;obtain⟨o,h,rfl,j⟩:=g.facts m f Y;have a:=cz wr (k' #[i' (B' (O o h)) (ζ x.facts) q,i' l (ζ x.aW) rc,j' x.aD,G x.rank,i' z (ζ x.vals) k] 96);have k:=ax j a;have U:J (Lu count x=decide (f<count)):=by show _=_;rw[Lu,Cn,d,Nat.add_sub_cancel,Y]
 clear g j Y a;rw[d]at T k;rw[d]at c;have g:(m:Int)<((m:Int)+1):=I;have B:wrap64 ((m:Int)+1-1)=m:=by unfold wrap64;omega
 by_cases T:count<=f
 ·have Y:decide (f<count)=P':=by simp;omega
  go_wp2;go_ret;exact⟨by rw[vL _ b.o (U.o.trans Y)];rfl,e.A.alloc e.A.size _⟩
 have Y:decide (f<count)=O':=by simp;omega
 go_wp2;go_roundw
 ·exact⟨i+1,L,f',by rw[mA _ b.o,e.a,U.o,Y];rfl,e.A.alloc e.A.size _⟩
 exact G'
def rQ(z:Array A')(m:Nat)(d:z.size=m):∀n,(madeCells z (n*m)).toList=(replicate n z.toList).flatten
 |0=>by simp[madeCells]
 |n+1=>by have B:=rQ z m d n;simp only[madeCells,Cu,Cs]at B⊢;rw[oR,Nat.one_mul,Cp,eW,B,Qq,LC];congr 1;rw[lW];simp only[oU,flatten_nil,gO];refine ext_getElem (by simp[d]) λi C a=>?_;simp only[b!,Co]at C;simp only[IP,getElem_range,Function.comp,d];rw[oX n m,Nat.mul_add_mod,nk C,getElem!_pos z i I];simp
def Nc(x:Nd):List Nat:=x.facts.map Int.toNat
def ry(x:Nd):BS:=eY (Nc x)
def PQ(l:List BS):ζ (fS l)=ζ l*2:=by
 induction l with
 |nil=>rfl
 |cons a l B=>simp only[fS,cN,bF,cC]at B⊢;simp[fz]at B⊢;omega
def Ca:∀(l:List BS) (k:Nat) (s:BS),k<ζ l->((fS l).set (k*2) (Z s.1)).set (k*2+1) (Z s.2)=fS (l.set k s)
 |[],k,s,h=>by simp at h
 |a::l,0,s,h=>by simp[fS,fz]
 |a::l,k+1,s,h=>by have:=Ca l k s (I' h);simp only[fS,cN,fz,cW,ej,cO]at this⊢;rw[show(k+1)*2=k*2+1+1 by omega];simp only[cO];rw[this]
def XR{s:BS}(h:W.1[g]?=B' (k' (θ (fS l)) t (0,0)))(a:k<ζ l):(κ (κ W (O g (k*2)) (Z s.1)) (O g (k*2+1)) (Z s.2)).1[g]?=B' (k' (θ (fS (l.set k s))) t (0,0)):=by rw[aq (aq h _) _];congr 2;rw[cJ,cJ,Ca l k s a]
def PT(h:W.1[g]?=B' (k' (θ (fS l)) t (0,0)))(a:k<ζ l):∃u v,χ W (O g (k*2))=B' u/\χ W (O g (k*2+1))=B' v/\W.frozen? (O g (k*2))=P'/\W.frozen? (O g (k*2+1))=P':=by have E:=M h;have X:=PQ l;exact⟨(fS l)[k*2]'(I),(fS l)[k*2+1]'(I),by rw[E.1];simp,by rw[E.1];simp,E.2 _,E.2 _⟩
def UT(h:W.1[g]?=B' (k' (θ (fS l)) t (0,0))):mB W (B' (O g 0)) l:=by intro j s f;have E:=M h;have:=zA l j s f;exact⟨g,0,rfl,by rw[E.1];simpa using this.1,by rw[E.1];simpa using this.2⟩
def E6{f:Nd->α}{z:α}{v:List Nd}{i:Nat}(F:v[i]?=B' x):(((v.take i).map f)++replicate (ζ v-i) z).set i (f x)=((v.take (i+1)).map f)++replicate (ζ v-(i+1)) z:=by have X:=(bm.1 F).1;rw[sk _ _ H',cX X,(bm.1 F).2,b!,gC,nX I,kH,show ζ v-i=(ζ v-(i+1))+1 by omega,gF,dN];simp
def Xp(n:Nat):(replicate n [Z 0,Z 0]).flatten=fS (replicate n (0,0)):=by
 induction n with
 |zero=>rfl
 |succ n B=>rw[gF,oU,B,gF];rfl
def A4{B n a:Nat}{z:List A'}(h:ρ W B t a (dU g n) n z):W.1[g]?=B' (k' (θ z) t (0,0))/\B<=g:=by
 rcases h.2 with⟨e,_⟩|⟨g,a,Y,e,C,a,N,_,l,c⟩
 ·simp at e
 simp at e;obtain⟨rfl,rfl⟩:=e;refine⟨?_,C⟩;rw[a];congr 2;rw[cH (by simp[l])]at c;rw[<-c]
def ZP{w:u'}{a:x'}(h:cE w a x.facts)(D:∀f∈x.facts,0<=f):cE w a ((Nc x).map Int.ofNat):=by
 have:(Nc x).map Int.ofNat=x.facts:=by
  rw[Nc,lW]
  conv=>rhs;rw[<-map_id x.facts]
  refine iD λf Y=>?_;have:=D f Y;simp only[Function.comp,id];exact Int.toNat_of_nonneg this
 rw[this];exact h
def RQ(T:x')(b:Nat)(v:List Nd)(w:u')(h:b9 w T v)(Y:∀x∈v,∀f∈x.facts,0<=f/\f<128)(X:∀x∈v,ζ x.facts<=128)(K:ζ v<=60):
  Cl 169 #[i' T (ζ v) b] w λe c=>∃g,e=p' (i' (B' (O g 0)) (ζ v) (ζ v))/\mB c (B' (O g 0)) (v.map ry)/\Bl w c:=by
 obtain⟨j,S,D,P,a⟩:=cQ Dy;have b:J (_/\_/\_/\_):=⟨S,D,P,a⟩;clear S D P a;have s:=hid (A h (A Y X));clear h Y X;go_enter func169,ntmps169;go_wp2_with (at_make;refine j8 _ rfl (.tmp 7) (.tmp 7) 264 rfl w.1.size 267 j _ 2 underlying264 b.a b.b b.c .i64 .i64 (ζ v) (ζ v) (ζ v) rfl rfl rfl rfl (by rw[b.C];omega) (by unfold maxLen;omega) ak ?_;intro t a d;have V:=hid (A a d);clear a d);have r:J (t.1[δ w.1]?=B' (k' (θ (fS (((v.take 0).map ry)++replicate (ζ v-0) (0,0)))) 267 (0,0))/\Bl w t):=by have C:=V.a;rw[rQ _ 2 (by simp[Value.cells]) (ζ v)]at C;refine⟨?_,aQ.grown V.A aF (λq e=>by cases e)⟩;rw[(A4 C).1];congr 2;rw[lY,Ez,ej,ri,<-Xp];rfl
 clear V;go_loopw[11] (λy wr=>∃i:Nat,i<=ζ v/\y=G i/\J (wr.1[δ w.1]?=B' (k' (θ (fS (((v.take i).map ry)++replicate (ζ v-i) (0,0)))) 267 (0,0))/\Bl w wr)) (λy _=>ζ v-(intOf y).toNat)
 ·exact⟨0,bj,rfl,r.o⟩
 clear r;obtain⟨i,S,rfl,d⟩:=hrel;by_cases L:i<ζ v;rotate_left
 ·have b:¬(i:Int)<(ζ v:Int):=I;go_wp2;go_ret;refine⟨δ w.1,rfl,?_,d.A⟩;have:=UT d.a;rwa[cH I,show ζ v-i=0 by omega,Cm,gO]at this
 have b:(i:Int)<(ζ v:Int):=I;obtain⟨x,F⟩:=La L;obtain⟨b,o,a,l,b,r,rc,b,rfl,B,Q,p,E,P,k⟩:=s.a.below d.A i x F;have Y:=s.b x (aT F);have X:=s.B x (aT F);have V:J (∀W,Bl wr W->Cl 241 #[i' a (ζ x.facts) r] W (Rb W (dh (ry x)))):=by intro W j;have:=Kn a r (Nc x) W ((ZP k.facts λf h=>(Y f h).1).below j) (λf h=>by obtain⟨g,u,rfl⟩:=cZ.1 h;have:=Y g u;omega) (by simp[Nc];omega);rwa[show(Nc x).length=ζ x.facts by simp[Nc]]at this
 have D:=hid F;have B:=blt d.a;clear k Y F;obtain⟨z,k⟩:=Ea (ry x);rw[<-k]at V;have c:=hid k;clear k;have u:ζ (((v.take i).map ry)++replicate (ζ v-i) (0,0))=ζ v:=by simp;omega
 simp only[dh]at V;go_wp2_with (go_at_call 241;refine D' (V.o _ bf) λt l=>?_;have p:=H bf l;have r:=aL p d.a;obtain⟨a,R,U,a,k,f⟩:=PT r (k:=i) (by rw[u];exact L);have b:=hid (A p r);clear l p r);go_roundw
 ·
  refine⟨i+1,L,f',?_,?_⟩
  ·have:=XR (s:=z) b.A (k:=i) (by rw[u];exact L);rwa[c.o,E6 D.o,<-c.o]at this
  exact((H d.A b.a).setCell aF _).setCell aF _
 exact G'
end
def Cf(w:u'):Prop:=∀j,j<64->χ w (O 0 j)=B' (.int .u8 ((Lib.deBruijn64tab.getD j 0:Nat):Int))
def Cf.below{w a:u'}(h:Cf w)(b:Bl w a):Cf a:=λj f=>ax (h j f) b
def im(x a:Nat)(F:x<18446744073709551616)(z:x≠0)(i:x&&&(18446744073709551616-x)=a):
  IntKind.u64.wrap (bits BinOp.and IntKind.u64 (x:Int) (IntKind.u64.wrap (-(x:Int)))*285870213051353865) / 288230376151711744=((a*285870213051353865 % 18446744073709551616 / 288230376151711744:Nat):Int):=by
 have V:IntKind.u64.wrap (-(x:Int))=((18446744073709551616-x:Nat):Int):=by rw[w6];omega
 rw[V,bits_and_u64_nat x _ F I,i,w6];omega
def VM(x k a:Nat)(w:u')(z:((x:Int)==0)=P')
  (X:IntKind.u64.wrap (bits BinOp.and IntKind.u64 (x:Int) (IntKind.u64.wrap (-(x:Int)))*285870213051353865) / 288230376151711744=(a:Int))
  (S:a<64) (b:k<64) (Y:χ w (O 0 a)=B' (.int .u8 (k:Int))):
  Cl 228 #[Z x] w λe a=>e=p' (G k)/\a=w:=by
 go_enter func228,ntmps228;go_wp2_with (simp only[X]);go_ret;exact⟨rfl,rfl⟩
def aaK(x:Nat)(w:u')(F:x<18446744073709551616)(z:x≠0)(b:Cf w):
  Cl 228 #[Z x] w λe a=>e=p' (G ((Lib.ctz 64 x:Nat):Int))/\a=w:=by
 obtain⟨i,c⟩:=Lib.lowest_bit 64 x z F;obtain⟨S,a⟩:=Lib.deBruijn64_at _ c;have Y:=b _ S;rw[a]at Y;exact VM x _ _ w (by rw[b?];omega) (im x _ F z i) S c Y
def Gc(x:Nat)(F:x<18446744073709551616)(z:x≠0):Lib.ctz 64 x<64/\x.testBit (Lib.ctz 64 x)=O'/\(∀i,i<Lib.ctz 64 x->x.testBit i=P')/\∀i,(x&&&(x-1)).testBit i=(x.testBit i&&decide (i≠Lib.ctz 64 x)):=by
 obtain⟨m,d,b⟩:=Lib.ctzFrom_spec 64 x I F;have e:Lib.ctz 64 x=Lib.ctzFrom 64 x:=by simp[Lib.ctz,z]
 rw[e];generalize Lib.ctzFrom 64 x=k at d b;have U:0<2 ^ k:=uk I;have a:∀i,x.testBit i=(decide (k<=i)&&(2*m+1).testBit (i-k)):=by intro i;rw[d,oX,Nat.testBit_mul_two_pow]
 have Q:(x-1) / 2 ^ k=2*m:=by
  have:x-1=2 ^ k*(2*m)+(2 ^ k-1):=by rw[d,Nat.mul_add,LB];omega
  rw[this,I7 U,CA I];omega
 refine⟨b,?_,?_,?_⟩
 ·rw[a];simp
 ·intro i S;rw[a];simp;omega
 intro i;rw[Nat.testBit_and];by_cases C:i<k
 ·rw[a,show decide (k<=i)=P' by simp;omega];simp
 have b:(x-1).testBit i=(2*m).testBit (i-k):=by rw[<-Q,Nat.testBit_div_two_pow];congr 1;omega
 rw[b];by_cases N:i=k
 ·subst N;simp
 obtain⟨j,f⟩:∃j,i-k=j+1:=⟨i-k-1,I⟩;rw[a,f,Nat.testBit_succ,Nat.testBit_succ,show(2*m+1) / 2=m by omega,show 2*m / 2=m by omega];cases a:m.testBit j<;>simp[N]
def oE(x base:Nat):List Nat:=((range 64).filter x.testBit).map (base+·)
def K1{p:Nat->Bool}{k n:Nat}(a:k<n)(C:p k=O')(c:∀i,i<k->p i=P'):(range n).filter p=k::(range n).filter λi=>p i&&decide (i≠k):=by
 have e:range n=range k++(k::(range (n-k-1)).map (λj=>k+1+j)):=by rw[show n=k+(1+(n-k-1))by omega,Cp,Cp];simp[nY,e9]
 have d:∀q:Nat->Bool,(∀i,i<k->q i=P')->(range k).filter q=[]:=by intro q f;rw[filter_eq_nil_iff];intro a b;rw[eQ]at b;rw[f a b];simp
 rw[e,filter_append,filter_append,d p c,d (λi=>p i&&decide (i≠k)) (λi S=>by rw[c i S];rfl),ej,ej,filter_cons,filter_cons,C];simp only[c!,ne_eq,not_true_eq_false,decide_false,ur,bO,bU];congr 1;refine filter_congr ?_;intro a b;simp only[cZ,eQ]at b;obtain⟨j,_,rfl⟩:=b;simp;intro _;omega
def Ll(x k:Nat)(F:x<18446744073709551616)(z:x≠0):oE x k=(k+Lib.ctz 64 x)::oE (x&&&(x-1)) k:=by obtain⟨D,C,a,N⟩:=Gc x F z;rw[oE,K1 D C a,u?];congr 2;refine filter_congr λi _=>(N i).symm
def r?(k:Nat):oE 0 k=[]:=by rw[oE,filter_eq_nil_iff.2 (by intro a _;simp)];rfl
def uV(s:BS):List Nat:=oE s.1 0++oE s.2 64
def tp(s:BS)(y:cL s)(f:Nat):f∈uV s↔f<128/\bt s f=O':=by
 unfold uV oE bt;rw[eE,cZ,cZ];constructor
 ·rintro(⟨a,b,rfl⟩|⟨a,b,rfl⟩)<;>rw[IY,eQ]at b
  ·rw[aB I,bW];exact⟨I,b.2⟩
  rw[aA I,Nat.add_sub_cancel_left];exact⟨I,b.2⟩
 rintro⟨C,a⟩;by_cases h:f<64
 ·rw[aB h]at a;exact aI ⟨f,by rw[IY,eQ];exact⟨h,a⟩,I⟩
 rw[aA h]at a;exact aK ⟨f-64,by rw[IY,eQ];exact⟨I,a⟩,I⟩
def dq(w:u')(rb:Nat)(s:z')(bad:Bool):Prop:=w.1[rb]?=B' (k' #[m' s,j' bad] 178 (0,0))
def dq.grown{w c:u'}{b:Nat}{a:Bool}{q:Option Nat}(h:dq w b s a)(e:ξ w c q)(d:some b≠q):dq c b s a:=(e.block b (aY.1 h).1 d).trans h
def Rz(h:0<s.size):s.toList.isEmpty=P':=by
 have X:ζ s.1.1=s.size:=rfl;rw[dp];cases y:s.1.1 with
 |nil=>rw[y]at X;simp at X;omega
 |cons a r=>rfl
def Q8{p:Prop}(h:p:=by
 go_enter func156,ntmps156;go_wp2;go_ret
 exact⟨rfl,Q.o⟩):p:=h
def rB(b:Nat)(s:z')(c:Bool)(w:u')(h:dq w b s c)(f:c=O'\/s.size=0):
  Cl 156 (di b) w λe a=>e=p' (.int .u8 0)/\dq a b s O'/\ξ w a (B' b):=by
 have E:=M h;have d:=(show J (dq w b s c)from h);clear h;have a:dq (κ w (O b 1) (j' O')) b s O'/\ξ w (κ w (O b 1) (j' O')) (B' b):=⟨aq d.o _,jm⟩;have Q:=hid a;clear a;cases c with
 |true=>exact Q8
 |false=>
  have y:s.size=0:=by rcases f with h|h;cases h;exact h
  have l:s=⟨#[]⟩:=data_inj (by have:ζ s.1.1=0:=y;simpa using du.1 this);subst l;exact Q8
def A!(b:Nat)(s:z')(w:u')(h:dq w b s P')(D:0<s.size)(y:s.size<=60000):
  Cl 156 (di b) w λe a=>e=p' (.int .u8 (s[0]).toNat)/\dq a b (s.extract 1 s.size) P'/\ξ w a (B' b):=by
 have E:=M h;have d:=(show J (dq w b s P')from h);clear h;have z:=Rz D;have a:dq (κ w (O b 0) (m' (s.extract 1 s.size))) b (s.extract 1 s.size) P'/\ξ w (κ w (O b 0) (m' (s.extract 1 s.size))) (B' b):=⟨aq d.o _,jm⟩;have Q:=hid a;clear a;exact Q8
def ER{s:z'}(h:0<s.size):s.1.1=s[0]::(s.extract 1 s.size).1.1:=by
 have X:ζ s.1.1=s.size:=rfl;have e:(s.extract 1 s.size).1.1=s.1.1.drop 1:=by rw[ByteArray.data_extract,Array.toList_extract];show(s.1.1.drop 1).take (s.size-1)=_;rw[cH (by rw[nW,X];exact aF)]
 rw[e];cases y:s.1.1 with
 |nil=>rw[y]at X;simp at X;omega
 |cons a r=>
  have:s[0]=a:=by
   have b:s.1.1[0]?=B' a:=by rw[y];rfl
   have N:s.1.1[0]?=B' s[0]:=by rw[bR (by rw[X];exact h)];rfl
   rw[N]at b;exact I1 b
  rw[this];rfl
def PX:∀r:Fin 256,bits BinOp.and IntKind.u8 ((r.val:Nat):Int) 127=((r.val % 128:Nat):Int):=by decide +kernel
def gh(b:UInt8):bits BinOp.and IntKind.u8 (b.toNat:Int) 127=((b.toNat % 128:Nat):Int):=PX ⟨b.toNat,gV b⟩
def Qy(n:Nat)(h:n<18446744073709551616):IntKind.u64.wrap (n:Int)=n:=by
 have e:IntKind.u64.wrap (n:Int)=n % 18446744073709551616:=by simp[IntKind.wrap,IntKind.bits,IntKind.signed]
 rw[e];omega
def Dd(i:Nat):128 ^ i=2 ^ (7*i):=by rw[Nat.pow_mul]
def xU(n i:Nat)(b:UInt8)(K:n<128 ^ i)(R:n+128 ^ i*(b.toNat % 128)<18446744073709551616):bits BinOp.or IntKind.u64 (n:Int) (IntKind.u64.wrap (IntKind.u64.wrap (bits BinOp.and IntKind.u8 (b.toNat:Int) 127)*2 ^ (7*i)))=((n+128 ^ i*(b.toNat % 128):Nat):Int):=by
 rw[gh,Qy _ I];have e:((b.toNat % 128:Nat):Int)*2 ^ (7*i)=((128 ^ i*(b.toNat % 128):Nat):Int):=by
  rw[Dd]
  push_cast
  rw[Int.mul_comm]
 rw[e,Qy _ I,Cr _ _ I I];congr 1;have a:128 ^ i*(b.toNat % 128)=(b.toNat % 128) <<< (7*i):=by rw[Nat.shiftLeft_eq,Dd,oX]
 rw[a,Nat.or_comm,<-Nat.shiftLeft_add_eq_or_of_lt (by rw[<-Dd];exact K),w8]
def fi(w w':u')(rb:Nat)(s:z')(e:Ending):Prop:=(∃n s',rc s.1.1=B' (n,s'.1.1)/\s'.size<=s.size/\e=p' (Z n)/\dq w' rb s' P')\/(rc s.1.1=C'/\e=p' (Z 0)/\∃s',s'.size<=s.size/\dq w' rb s' O')
def Y0(h:p:=by
 have Y:decide ((b.toNat:Int)<128)=O':=by rw[bq];omega
 have z:n+128 ^ i*(b.toNat % 128)<18446744073709551616:=by have C:128 ^ i*(b.toNat % 128)<=128 ^ i*1:=I0 _ I;have D:=K.o;omega
 have u:=xU n i b K.o z;obtain⟨N,p⟩:=Ea (n+128 ^ i*(b.toNat % 128));rw[<-p]at u z;have r:=hid p;clear p;have w:J (rc s.1.1=B' (N,F.1.1)):=by show _=_;rw[V.b,tJ _ _ _ _ _ h,aA I];have d:=nk h;have g:=r.o;rw[d]at g;rw[<-g,aB z]
 clear j B a y f k;go_wp2_with (go_at_call 156;refine(V.a _ P.o).mono ?_;rintro e t ⟨rfl,C,l⟩;have E:=M C;have c:=hid (A C l);clear C l);go_ret
 exact⟨aI ⟨N,F,w.o,J' V.B,rfl,c.a⟩,T.o.trans c.A⟩):p:=h
def Q7(h:p:=by
 clear j B a y;go_wp2_with (go_at_call 156;refine(V.a _ P.o).mono ?_;rintro e t ⟨rfl,C,l⟩;have E:=M C;have c:=hid (A C l);clear C l);go_ret
 exact⟨aK ⟨w.o,rfl,F,J' V.B,aq c.a _⟩,(T.o.trans c.A).trans jm⟩):p:=h
def YZ(h:p:=by
 have C:128 ^ i*(b.toNat % 128)<=128 ^ i*127:=I0 _ I;have L:=a I;have D:=K.o
 omega):p:=h
def OX(b:Nat)(s:z')(w:u')(h:dq w b s P')(y:s.size<=60000):
  Cl 230 (di b) w λe a=>fi w a b s e/\ξ w a (B' b):=by
 have d:=(show J (dq w b s P')from h);clear h;go_enter func230,ntmps230;go_wp2;go_loopw[3,4] (λQ a wr=>∃(i n:Nat) (q:z'),i<=9/\n<128 ^ i/\Q=Z n/\a=G ((7*i:Nat):Int)/\q.size<=s.size/\J (rc s.1.1=ot i n (kS (10-i) q.1.1))/\J (dq wr b q P')/\J (ξ w wr (B' b))) (λ_ a _=>100-(intOf a).toNat)
 ·exact⟨0,0,s,I,ak,rfl,rfl,aF,abh _,d,Cz _ _⟩
 obtain⟨i,n,q,S,o,rfl,rfl,d,v,P,T⟩:=hrel;by_cases D:0<q.size;rotate_left
 ·have w:J (rc s.1.1=C'):=by show _=_;have l:q.1.1=[]:=du.1 (show q.size=0 by omega);rw[v.o,l,Xr]
  have a:((0:Int)==0)=O':=rfl;go_wp2_with (go_at_call 156;refine(rB b q P' _ P.o (aK I)).mono ?_;rintro e t ⟨rfl,C,l⟩;have E:=M C;have c:=hid (A C l);clear C l)
  all_goals
   go_ret
   first
    |exact⟨aK ⟨w.o,rfl,q,d,c.a⟩,T.o.trans c.A⟩
    |exact⟨aK ⟨w.o,rfl,q,d,aq c.a _⟩,(T.o.trans c.A).trans jm⟩
 obtain⟨k,y⟩:∃k,10-i=k+1:=⟨9-i,I⟩;have j:=gV (q[0]);have X:(q.extract 1 q.size).size<=q.size:=ak;have R:=v.o;rw[y,ER D]at R;have L:=λW v=>A! b q W v D I;generalize g:q[0]=b at j R L;generalize f:q.extract 1 q.size=F at X R L;have V:=hid (A L (A R X));have d:n<128 ^ i:=o;have K:=hid d;have B:128 ^ i<=2^63:=by have:128 ^ i<=128 ^ 9:=uj I S;omega
 have a:i<9->128 ^ i<=72057594037927936:=by intro h;have:128 ^ i<=128 ^ 8:=uj I I;omega
 clear L R X g f o d;by_cases h:b.toNat<128;rotate_left
 ·by_cases v:i=9
  ·have q:((b.toNat:Int)==0)=P':=by rw[b?];omega
   have x:decide (1<(b.toNat:Int))=O':=by rw[bq];omega
   have o:(7*(i:Int)==63)=O':=by rw[bT];omega
   have Y:decide ((b.toNat:Int)<128)=P':=by rw[cR];omega
   have w:J (rc s.1.1=C'):=by show _=_;rw[V.b,G4 _ _ _ _ _ h,show k=0 by omega];rfl
   exact Q7
  have q:((b.toNat:Int)==0)=P':=by rw[b?];omega
  have x:decide (1<(b.toNat:Int))=O':=by rw[bq];omega
  have o:(7*(i:Int)==63)=P':=by rw[b?];omega
  have Y:decide ((b.toNat:Int)<128)=P':=by rw[cR];omega
  have z:n+128 ^ i*(b.toNat % 128)<18446744073709551616:=by exact YZ
  have u:=xU n i b K.o z;obtain⟨N,p⟩:=Ea (n+128 ^ i*(b.toNat % 128));rw[<-p]at u z;have r:=hid p;clear p;have w:J (rc s.1.1=ot (i+1) N (kS (10-(i+1)) F.1.1)/\N<128 ^ (i+1)):=by
   refine⟨?_,?_⟩
   ·rw[V.b,G4 _ _ _ _ _ h,r.o,show 10-(i+1)=k by omega]
   have C:128 ^ i*(b.toNat % 128)<=128 ^ i*127:=I0 _ I;have D:=K.o;rw[r.o,ni];omega
  clear j B a y;go_wp2_with (go_at_call 156;refine(V.a _ P.o).mono ?_;rintro e t ⟨rfl,C,l⟩;have E:=M C;have c:=hid (A C l);clear C l);exact⟨⟨i+1,N,F,I,w.A,rfl,f',J' V.B,w.a,c.a,T.o.trans c.A⟩,by simp[intOf];omega⟩
 by_cases f:b.toNat=0
 ·by_cases k:i=0;rotate_left
  ·have q:((b.toNat:Int)==0)=O':=by rw[bT];omega
   have d:decide (0<7*(i:Int))=O':=by rw[bq];omega
   have x:decide (1<(b.toNat:Int))=P':=by rw[cR];omega
   have Y:decide ((b.toNat:Int)<128)=O':=by rw[bq];omega
   have w:J (rc s.1.1=C'):=by show _=_;rw[V.b,tJ _ _ _ _ _ h,aB I]
   exact Q7
  have q:((b.toNat:Int)==0)=O':=by rw[bT];omega
  have d:decide (0<7*(i:Int))=P':=by rw[cR];omega
  have x:decide (1<(b.toNat:Int))=P':=by rw[cR];omega
  have o:(7*(i:Int)==63)=P':=by rw[b?];omega
  exact Y0
 by_cases k:b.toNat=1
 ·have q:((b.toNat:Int)==0)=P':=by rw[b?];omega
  have x:decide (1<(b.toNat:Int))=P':=by rw[cR];omega
  exact Y0
 by_cases v:i=9
 ·have q:((b.toNat:Int)==0)=P':=by rw[b?];omega
  have x:decide (1<(b.toNat:Int))=O':=by rw[bq];omega
  have o:(7*(i:Int)==63)=O':=by rw[bT];omega
  have Y:decide ((b.toNat:Int)<128)=O':=by rw[bq];omega
  have w:J (rc s.1.1=C'):=by show _=_;rw[V.b,tJ _ _ _ _ _ h,aA I,aA ?_];subst v;omega
  exact Q7
 have q:((b.toNat:Int)==0)=P':=by rw[b?];omega
 have x:decide (1<(b.toNat:Int))=O':=by rw[bq];omega
 have o:(7*(i:Int)==63)=P':=by rw[b?];omega
 have Y:decide ((b.toNat:Int)<128)=O':=by rw[bq];omega
 have z:n+128 ^ i*(b.toNat % 128)<18446744073709551616:=by exact YZ
 have u:=xU n i b K.o z;obtain⟨N,p⟩:=Ea (n+128 ^ i*(b.toNat % 128));rw[<-p]at u z;have r:=hid p;clear p;have w:J (rc s.1.1=B' (N,F.1.1)):=by show _=_;rw[V.b,tJ _ _ _ _ _ h,aA I];have d:=nk h;have g:=r.o;rw[d]at g;rw[<-g,aB z]
 clear j B a y;go_wp2_with (go_at_call 156;refine(V.a _ P.o).mono ?_;rintro e t ⟨rfl,C,l⟩;have E:=M C;have c:=hid (A C l);clear C l);go_ret;exact⟨aI ⟨N,F,w.o,J' V.B,rfl,c.a⟩,T.o.trans c.A⟩
section
variable {α:Type}
def RdA(w':u')(rb:Nat)(s:z')(res:Option (α×y'))(val:α->A')(z:A')(e:Ending):Prop:=
 (∃a s',res=B' (a,s'.1.1)/\s'.size<=s.size/\e=p' (val a)/\dq w' rb s' P')\/(res=C'/\e=p' z/\∃s',s'.size<=s.size/\dq w' rb s' O')
def et(bad:Bool)(p:y'->Option (α×y'))(s:z'):Option (α×y'):=if bad then C' else p s.1.1
def nJ(a:Nat)(s:z')(b:Bool)(w:u')(h:dq w a s b)(y:s.size<=60000):
  Cl 230 (di a) w λe c=>RdA c a s (et b rc s) (λn:Nat=>Z n) (Z 0) e/\ξ w c (B' a):=by
 cases b with
 |false=>refine(OX a s w h y).mono ?_;rintro e c ⟨C,b⟩;exact⟨C,b⟩
 |true=>
  have d:=(show J (dq w a s O')from h);clear h;go_enter func230,ntmps230;go_wp2;go_loopw[3,4] (λQ b wr=>Q=Z 0/\b=G 0/\wr=w) (λ_ _ _=>0)
  ·exact⟨rfl,rfl,rfl⟩
  obtain⟨rfl,rfl,rfl⟩:=hrel;go_wp2_with (go_at_call 156;refine(rB a s O' _ d.o (aI rfl)).mono ?_;rintro e t ⟨rfl,C,N⟩;have E:=M C;have c:=hid (A C N);clear C N);go_ret;exact⟨aK ⟨rfl,rfl,s,aF,c.a⟩,c.A⟩
def fH(most:Int)(l:y'):Option (Nat×y'):=match rc l with
 |some (n,r)=>if (n:Int)<=most then B' (n,r) else C'
 |none=>C'
def YY{p:Prop}(h:p:=by
 go_wp2_with fail;go_ret;refine⟨aK ⟨?_,rfl,h,d,Q.a⟩,c.B.trans Q.A⟩;have b:=c.a;unfold et at b⊢;cases l with
 |true=>rfl
 |false=>
  simp only[bO,bU]at b⊢;unfold fH;rw[b];simp only
  rw[aA I]):p:=h
def yl(o:Nat)(s:z')(l:Bool)(a:Int)(w:u')(h:dq w o s l)(y:s.size<=60000)(d:lr a):
  Cl 158 #[o' (B' (O o 0)),G a] w λe b=>RdA b o s (et l (fH a) s) (λn:Nat=>G n) (G 0) e/\ξ w b (B' o):=by
 obtain⟨j,t⟩:=d;have Y:=hid (nJ o s l w h y);clear h;go_enter func158,ntmps158;go_wp2_with fail;refine bK Y.o ?_;rintro e t ⟨C,N⟩;rcases C with⟨n,h,i,d,rfl,e⟩|⟨i,rfl,h,d,e⟩;rotate_left
 ·obtain⟨E,g⟩:=M e
  have K:J (et l (fH a) s=C'):=by
   show _=_;unfold et at i⊢;cases l with
   |true=>rfl
   |false=>simp only[bO,bU]at i⊢;unfold fH;rw[i]
  have c:=hid (A e N);have W:dq (κ t (O o 1) (j' true)) o h true/\ξ t (κ t (O o 1) (j' true)) (B' o):=⟨aq e _,jm⟩;have Q:=hid W;clear W i e N;by_cases b:a<0
  ·go_wp2_with fail;go_ret;exact⟨aK ⟨K.o,rfl,h,d,Q.a⟩,c.A.trans Q.A⟩
  obtain⟨k,rfl⟩:=Int.eq_ofNat_of_zero_le (show 0<=a by omega);have f:¬((k:Int)<0):=I;go_wp2_with fail;go_ret;exact⟨aK ⟨K.o,rfl,h,d,c.a⟩,c.A⟩
 have K:n<18446744073709551616:=by
  unfold et at i;cases l with
  |true=>cases i
  |false=>exact(oF.1 i).2
 obtain⟨E,g⟩:=M e;have c:=hid (A i (A e N));have W:dq (κ t (O o 1) (j' true)) o h true/\ξ t (κ t (O o 1) (j' true)) (B' o):=⟨aq e _,jm⟩;have Q:=hid W;clear W i e N;by_cases b:a<0
 ·exact YY
 obtain⟨k,rfl⟩:=Int.eq_ofNat_of_zero_le (show 0<=a by omega);by_cases R:n<=k
 ·have f:¬((k:Int)<n):=I;have r:n<9223372036854775808:=I;go_wp2_with fail;go_ret;refine⟨aI ⟨n,h,?_,d,rfl,c.b⟩,c.B⟩;have b:=c.a;unfold et at b⊢;cases l with
  |true=>cases b
  |false=>simp only[bO,bU]at b⊢;unfold fH;rw[b];simp only;rw[aB I]
 have f:(k:Int)<n:=I;exact YY
end
def xI(l:y'):Option (UInt8×y'):=match l with
 |b::r=>B' (b,r)
 |[]=>C'
def rM(c:Nat)(s:z')(a:Bool)(w:u')(h:dq w c s a)(y:s.size<=60000):
  Cl 156 (di c) w λe d=>RdA d c s (et a xI s) (λb:UInt8=>.int .u8 (b.toNat:Int)) (.int .u8 0) e/\ξ w d (B' c):=by
 by_cases D:a=O'\/s.size=0
 ·refine(rB c s a w h D).mono ?_;rintro e d ⟨rfl,C,b⟩;refine⟨aK ⟨?_,rfl,s,aF,C⟩,b⟩;unfold et;cases a with
  |true=>rfl
  |false=>have l:s.1.1=[]:=du.1 (show s.size=0 by rcases D with h|h;cases h;exact h);rw[l];rfl
 have f:a=P':=by cases a<;>simp_all
 subst f;have a:0<s.size:=I;refine(A! c s w h a y).mono ?_;rintro e d ⟨rfl,C,b⟩;refine⟨aI ⟨s[0],s.extract 1 s.size,?_,ak,rfl,C⟩,b⟩;rw[et,ER a];rfl
def fO(l:y'):Option (Bool×y'):=match l with
 |b::r=>if b.toNat<=1 then B' (decide (b.toNat=1),r) else C'
 |[]=>C'
theorem aap{p:Prop}(h:p:=by
 unfold et xI at i;cases d with
 |true=>cases i
 |false=>
  refine⟨rfl,?_⟩;simp only[bO,bU]at i;split at i
  ·rename_i o q l;simp at i;rw[l,i.1,i.2]
  cases i):p:=h
def Bv(a:Nat)(s:z')(d:Bool)(w:u')(h:dq w a s d)(y:s.size<=60000):
  Cl 232 (di a) w λe c=>RdA c a s (et d fO s) (λb:Bool=>j' b) (j' P') e/\ξ w c (B' a):=by
 have Y:=hid (rM a s d w h y);clear h;go_enter func232,ntmps232;go_wp2_with fail;refine bK Y.o ?_;rintro e t ⟨C,N⟩;rcases C with⟨b,g,i,e,rfl,f⟩|⟨i,rfl,g,e,f⟩;rotate_left
 ·have E:=M f
  have K:J (et d fO s=C'):=by
   show _=_;unfold et at i⊢;cases d with
   |true=>rfl
   |false=>
    simp only[bO,bU]at i⊢;cases X:s.1.1 with
    |nil=>rfl
    |cons a r=>rw[X]at i;simp[xI]at i
  have c:=hid (A f N);clear f N i;go_wp2_with fail;go_ret;exact⟨aK ⟨K.o,rfl,g,e,aq c.a _⟩,c.A.trans jm⟩
 have E:=M f;have j:=gV b;have a:d=P'/\s.1.1=b::g.1.1:=by exact aap
 obtain⟨rfl,X⟩:=a;have c:=hid (A X (A f N));clear X f N i;by_cases R:b.toNat<=1
 ·have f:decide (1<(b.toNat:Int))=P':=by rw[cR];omega
  go_wp2_with fail;go_ret;refine⟨aI ⟨decide (b.toNat=1),g,?_,e,?_,?_⟩,c.B.trans jm⟩
  ·unfold et fO;rw[c.a];simp[R]
  ·show p' (j' _)=_;exact aN (by rw[cj];simp;omega)
  exact aq c.b _
 have f:decide (1<(b.toNat:Int))=O':=by rw[bq];omega
 have d:((b.toNat:Int)==1)=P':=by rw[b?];omega
 go_wp2_with fail;go_ret;refine⟨aK ⟨?_,rfl,g,e,aq c.b _⟩,c.B.trans jm⟩;unfold et fO;rw[c.a];simp[R]
def xx(n:Nat):Int:=if n % 2=0 then((n / 2:Nat):Int) else -((n / 2:Nat):Int)-1
def iK(l:y'):Option (Int×y'):=match rc l with
 |some (n,r)=>B' (xx n,r)
 |none=>C'
def po(b:Nat)(s:z')(a:Bool)(w:u')(h:dq w b s a)(y:s.size<=60000):
  Cl 334 (di b) w λe c=>RdA c b s (et a iK s) (λx:Int=>G x) (G 0) e/\ξ w c (B' b):=by
 have Y:=hid (nJ b s a w h y);clear h;go_enter func334,ntmps334;go_wp2_with fail;refine bK Y.o ?_;rintro e t ⟨C,N⟩;rcases C with⟨n,e,i,d,rfl,b⟩|⟨i,rfl,e,d,b⟩;rotate_left
 ·have K:J (et a iK s=C'):=by
   show _=_;unfold et at i⊢;cases a with
   |true=>rfl
   |false=>simp only[bO,bU]at i⊢;rw[iK,i]
  have c:=hid (A b N);clear b N i;go_wp2_with fail;go_ret;exact⟨aK ⟨K.o,rfl,e,d,c.a⟩,c.A⟩
 have f:n<18446744073709551616:=by
  unfold et at i;cases a with
  |true=>cases i
  |false=>exact(oF.1 i).2
 have K:J (et a iK s=B' (xx n,e.1.1)):=by
  show _=_;unfold et at i⊢;cases a with
  |true=>cases i
  |false=>simp only[bO,bU]at i⊢;rw[iK,i]
 have c:=hid (A b N);clear i b N;obtain⟨q,f,j⟩:∃q:Nat,q=n / 2/\(n:Int) / 2=(q:Int):=⟨n / 2,rfl,I⟩;have a:q<2^63:=I;by_cases a:n % 2=0
 ·have b:((n:Int) % 2==0)=O':=by rw[bT];omega
  have g:J (xx n=(q:Int)):=by show _=_;rw[xx,aB a,f]
  clear a f;go_wp2_with fail;go_ret;exact⟨aI ⟨xx n,e,K.o,d,by rw[g.o];rfl,c.a⟩,c.A⟩
 have b:((n:Int) % 2==0)=P':=by rw[b?];omega
 have g:J (xx n=-(q:Int)-1):=by show _=_;rw[xx,aA a,f]
 clear a f;go_wp2_with fail;go_ret;exact⟨aI ⟨xx n,e,K.o,d,by rw[g.o];rfl,c.a⟩,c.A⟩
def p7(b:Nat)(s:z')(a:Bool)(w:u')(h:dq w b s a)(y:s.size<=60000):
  Cl 291 (di b) w λe c=>RdA c b s (et a (fH 100000) s) (λn:Nat=>G n) (G 0) e/\ξ w c (B' b):=by
 have T:=yl b s a 100000 w h y ⟨I,I⟩;have Y:=hid T;clear h T;go_enter func291,ntmps291;go_wp2_with fail;refine bK Y.o ?_;rintro e t ⟨C,N⟩;rcases C with⟨n,d,i,a,rfl,b⟩|⟨i,rfl,d,a,b⟩
 ·have c:=hid (A i (A b N));clear i b N;go_wp2_with fail;go_ret;exact⟨aI ⟨n,d,c.a,a,rfl,c.b⟩,c.B⟩
 have c:=hid (A i (A b N));clear i b N;go_wp2_with fail;go_ret;exact⟨aK ⟨c.a,rfl,d,a,c.b⟩,c.B⟩
def fT(v:Vl):A':=l' #[G v.aG,G v.lo,G v.hi,j' v.bJ,G v.first,G v.rank]
def Gt(p g:Int)(w:u'):Cl 203 #[l' #[G p,G g]] w λe a=>e=p' (j' (decide (g=1)))/\a=w.alloc (fL p g):=by go_enter func203,ntmps203;go_wp2;go_ret;exact⟨aN (by rw[cj];simp),rfl⟩
def mW{a b c}:=@Gt a b c
def jZ(p g:Int)(w:u'):Cl 134 #[l' #[G p,G g]] w λe a=>e=p' (j' (decide (p<=4)))/\a=w.alloc (fL p g):=by go_enter func134,ntmps134;go_wp2;go_ret;exact⟨rfl,rfl⟩
def lF(p g:Int)(w:u'):Cl 131 #[l' #[G p,G g]] w λe a=>e=p' (j' (known p g))/\a=w.alloc (fL p g):=by
 go_enter func131,ntmps131;go_wp2
 all_goals
  go_ret;refine⟨aN ?_,by first|rfl|simp_all⟩;rw[known,cj];simp;omega
def Gu(p g r:Int)(v:Vl)(l:v.bJ=O')(w:u'):Cl 305 #[l' #[G p,G g],l' #[G v.aG,G v.lo,G v.hi,j' v.bJ,G v.first,G v.rank],G r] w λe a=>e=p' (j' (nL g r v))/\Below w.1.size w a:=by
 go_enter func305,ntmps305;go_wp2_with (go_at_call 203;refine mW.mono ?_;rintro e b ⟨rfl,rfl⟩)
 all_goals
  go_ret;refine⟨aN ?_,by first|exact gB|exact cG⟩;simp[nL, *]
  try omega
def Zb{p:Prop}(h:p:=by
 go_enter func265,ntmps265;go_wp2
 all_goals
  go_ret;refine⟨aN ?_,by first|exact gB|exact cG⟩;unfold eM
  simp[*]):p:=h
def qg(p g r:Int)(v:Vl)(w:u'):Cl 265 #[l' #[G p,G g],l' #[G v.aG,G v.lo,G v.hi,j' v.bJ,G v.first,G v.rank],G r] w (Rb w (j' (eM p g r v))):=by
 by_cases c:p=6
 ·exact Zb
 cases l:v.bJ with
 |true=>have T:=λW=>Gu p g r v l W;rw[l]at T;go_enter func265,ntmps265;go_wp2_with (go_at_call 305;refine D' (T _) λb a=>?_);go_ret;refine⟨aN (by simp[eM,c,l]),H cG a⟩
 |false=>exact Zb
section
variable {o:Nat} {a:Bool}
def RdP{α:Type}(w':u')(rb:Nat)(s:z')(res:Option (α×y'))(val:α->A')(z:A'->Prop)(e:Ending):Prop:=
 (∃a s',res=B' (a,s'.1.1)/\s'.size<=s.size/\e=p' (val a)/\dq w' rb s' P')\/(res=C'/\∃v s',z v/\e=p' v/\s'.size<=s.size/\dq w' rb s' O')
def gp(h:ξ w W q)(o:Obj):ξ w (W.alloc o) q:=h.trans (jO W o q)
def iR{o:Obj}(h:ξ (w.alloc o) W q):ξ w W q:=(jO w o q).trans h
def dq.alloc(h:dq w b s a)(o:Obj):dq (w.alloc o) b s a:=(bQ (aY.1 h).1).trans h
def dq.lt(h:dq w b s a):b<δ w.1:=(aY.1 h).1
def gL(lo:Int)(n:Nat):Int:=wrap64 (IntKind.u64.wrap (IntKind.u64.wrap lo+(n:Int)))
def bI{a:u'}(h:ξ w a q)(c:δ w.1<=b)(v:A'):ξ w (κ a (O b o) v) q:=
 ⟨h.os,h.tape,h.output,by simpa[World.setCell]using h.size,λk a c=>(aJ H').trans (h.block k a c)⟩
def dq.far{c:Nat}(h:dq w c s a)(d:c≠b)(v:A'):dq (κ w (O b o) v) c s a:=(aJ d).trans h
def gY{rb:Nat}{bad:Bool}(g:ξ w W (B' rb))(h:dq W rb s bad)(a:δ w.1<=b)(z:rb≠b)(U N c d C t:A'):dq (κ (κ (κ (κ (κ (κ W (O b 0) U) (O b 1) N) (O b 2) c) (O b 3) d) (O b 4) C) (O b 5) t) rb s bad/\ξ w (κ (κ (κ (κ (κ (κ W (O b 0) U) (O b 1) N) (O b 2) c) (O b 3) d) (O b 4) C) (O b 5) t) (B' rb):=
 ⟨(((((h.far z _).far z _).far z _).far z _).far z _).far z _,bI (bI (bI (bI (bI (bI g a _) a _) a _) a _) a _) a _⟩
def sU(l:y'):Option (Vl×y'):=match iK l with
 |some (lo,r)=>match rc r with
  |some (n,q)=>B' (⟨3,lo,gL lo n,P',0,0⟩,q)
  |none=>C'
 |none=>C'
def cP{k a:Nat}{L:Array A'}{t:TypeId}(h:w.1[k]?=B' (c7 L t))(g:ξ w W (B' a))(z:k≠a):W.1[k]?=B' (c7 L t):=(g.block k (aY.1 h).1 (I' z)).trans h
theorem YX{p:Prop}(h:p:=by
 have C:=c.o.2.1;have g:=u.o.1;unfold et at C g⊢;cases f with
 |true=>cases C
 |false=>
  simp only[bO,bU]at C g⊢;unfold sU;rw[C];simp only
  rw[g]):p:=h
def FX(l:Nat)(s:z')(f:Bool)(w:u')(h:dq w l s f)(y:s.size<=60000):
  Cl 294 (di l) w λe a=>RdP a l s (et f sU s) fT (λz=>∃v,z=fT v) e/\ξ w a (B' l):=by
 have L:=h.lt;have T:=λ(g:dq (w.alloc (k' jn 73)) l s f)=>po l s f _ g y;have d:=hid (A T h);clear h T;go_enter func294,ntmps294;go_wp2_with fail;refine bK (d.a (d.A.alloc _)) ?_;rintro e t ⟨C,N⟩;have r:=cP (cv w (k' jn 73)) N I;rcases C with⟨j,U,i,a,rfl,o⟩|⟨i,rfl,U,a,o⟩;rotate_left
 ·have Y:=nJ l U true t o I
  have K:J (et f sU s=C'):=by
   show _=_;unfold et at i⊢;cases f with
   |true=>rfl
   |false=>simp only[bO,bU]at i⊢;unfold sU;rw[i]
  have c:=hid (A Y (A K.o (A (iR N) r)));clear Y i N r o;go_wp2_with fail;refine bK c.a ?_;rintro e F ⟨g,k⟩;have b:=cP c.C k I;rcases g with⟨n,h,d,a,rfl,q⟩|⟨d,rfl,h,a,q⟩
  ·cases d
  have E:=M b;have u:=hid (A d (A q (A k b)));clear d q k b;go_wp2_with fail;have R:=gY (c.c.trans u.c) u.b (xe w.1.size) I (G 3) (G 0) (G 0) (j' false) (G 0) (G 0);refine aC (v:=fT ⟨3,0,0,false,0,0⟩) (by simp[results,results294,go_sem,E.1,fT]) rfl ?_;exact⟨aK ⟨c.b,_,h,⟨_,rfl⟩,rfl,I,R.1⟩,R.2⟩
 have Y:=nJ l U false t o I;have c:=hid (A Y (A i (A (iR N) r)));clear Y i N r o;go_wp2_with fail;refine bK c.a ?_;rintro e F ⟨g,k⟩;have b:=cP c.C k I;rcases g with⟨n,h,d,a,rfl,q⟩|⟨d,rfl,h,a,q⟩
 ·have E:=M b;have u:=hid (A d (A q (A k b)));clear d q k b;go_wp2_with fail;refine aC (v:=fT ⟨3,j,gL j n,false,0,0⟩) (by simp[results,results294,go_sem,E.1,fT,gL]) rfl ?_;have R:=gY (c.c.trans u.c) u.b (xe w.1.size) I (G 3) (G j) (G (gL j n)) (j' false) (G 0) (G 0);refine⟨aI ⟨⟨3,j,gL j n,false,0,0⟩,h,?_,I,rfl,R.1⟩,R.2⟩;exact YX
 have E:=M b;have u:=hid (A d (A q (A k b)));clear d q k b;go_wp2_with fail;have R:=gY (c.c.trans u.c) u.b (xe w.1.size) I (G 3) (G j) (G (wrap64 (IntKind.u64.wrap (IntKind.u64.wrap j)))) (j' false) (G 0) (G 0);refine aC (v:=fT ⟨3,j,wrap64 (IntKind.u64.wrap (IntKind.u64.wrap j)),false,0,0⟩) (by simp[results,results294,go_sem,E.1,fT]) rfl ?_;refine⟨aK ⟨?_,_,h,⟨_,rfl⟩,rfl,I,R.1⟩,R.2⟩;exact YX
end
def UH{m:Nat}(h:m<256):(m:Int)=(((UInt8.ofNat m).toNat:Nat):Int):=by simp only[oW];omega
section
variable {α:Type}
def jt{Y:Int}{o:List Int}{f:Int}(h:o[k]?=B' f):cU Y (o.drop k)=(decide (Y<=f)&&decide (f<=100000)&&cU (f+1) (o.drop (k+1))):=by have X:=bm.1 h;rw[qF X.1,X.2];rfl
def fR{l:List α}{x:α}{p:α->Bool}(h:l[k]?=B' x):(l.drop k).all p=(p x&&(l.drop (k+1)).all p):=by have X:=bm.1 h;rw[qF X.1,X.2];rfl
def D8(a:x')(q:Nat)(o:List Int)(w:u')(h:cE w a o)(B:∀f∈o,lr f)(X:ζ o*8<=140737488355328):
  Cl 263 #[i' a (ζ o) q] w (Rb w (j' (cU 0 o))):=by
 have s:J (cE w a o/\∀f∈o,lr f):=⟨h,B⟩;clear h B;go_enter func263,ntmps263;go_wp2;go_loopw[3,8] (λY i wr=>wr=w/\∃(k:Nat) (f:Int),k<=ζ o/\i=G k/\Y=G f/\J (cU 0 o=cU f (o.drop k))) (λ_ i _=>ζ o-(intOf i).toNat)
 ·exact⟨rfl,0,0,bj,rfl,rfl,by show _=_;simp⟩
 obtain⟨rfl,k,Y,a,rfl,rfl,b⟩:=hrel;by_cases L:k<ζ o;rotate_left
 ·have a:¬(k:Int)<(ζ o:Int):=I;obtain rfl:k=ζ o:=I;go_wp2;go_ret;exact⟨aN (by rw[b.o];simp[cU]),aQ⟩
 have a:(k:Int)<(ζ o:Int):=I;obtain⟨x,F⟩:=La L;obtain⟨a,a,rfl,Q⟩:=s.a k x F;obtain⟨L,g⟩:=s.A x (aT F);have c:=hid F;clear F;go_wp2
 all_goals first
  |(
   refine⟨⟨by trivial,k+1,x+1,I,f',f',?_⟩,by simp[intOf];omega⟩;show _=_;rw[b.o,jt c.o];have a:Y<=x/\x<=100000:=I
   simp[a.1,a.2])
  |(
   go_ret;refine⟨aN ?_,aQ⟩;rw[b.o,jt c.o];symm;rw[kJ];simp
   omega)
def D7(p g:Int)(l:x')(rc:Nat)(y:List Int)(m:Nat)(w:u')(h:cE w l y)(d:m*8<=140737488355328)(X:ζ y*8<=140737488355328):
  Cl 264 #[l' #[G p,G g],i' l (ζ y) rc,G m] w (Rb w (j' (eD g y m))):=by
 have s:=hid h;clear h;by_cases f:g=1;rotate_left
 ·go_enter func264,ntmps264;go_wp2_with (go_at_call 203;refine mW.mono ?_;rintro e b ⟨rfl,rfl⟩);go_ret;exact⟨aN (by rw[eD,aA f];cases y<;>simp<;>omega),cG⟩
 by_cases V:ζ y=m;rotate_left
 ·have c:((ζ y:Int) !=(m:Int))=O':=by simp;omega
  go_enter func264,ntmps264;go_wp2_with (go_at_call 203;refine mW.mono ?_;rintro e b ⟨rfl,rfl⟩);go_ret;exact⟨aN (by simp[eD,f,V]),cG⟩
 subst V;go_enter func264,ntmps264;go_wp2_with (go_at_call 203;refine mW.mono ?_;rintro e b ⟨rfl,rfl⟩);have U:=hid (zD w (k' #[G p,G 1] 166) (k' #[G p,G 1] 166));go_loopw[21] (λi wr=>∃k:Nat,k<=ζ y/\i=G k/\J (Bl w wr)/\J (y.all rk=(y.drop k).all rk)) (λi _=>ζ y-(intOf i).toNat)
 ·exact⟨0,bj,rfl,U,by show _=_;simp⟩
 obtain⟨k,b,rfl,U,h⟩:=hrel;by_cases L:k<ζ y;rotate_left
 ·have a:¬(k:Int)<(ζ y:Int):=I;obtain rfl:k=ζ y:=I;go_wp2;go_ret;exact⟨aN (by rw[eD,h.o];simp),U.o⟩
 have a:(k:Int)<(ζ y:Int):=I;obtain⟨x,F⟩:=La L;obtain⟨a,a,rfl,Q⟩:=(s.o.below U.o) k x F;have b:=hid F;clear F;go_wp2
 all_goals first
  |(
   refine⟨⟨k+1,I,f',U,?_⟩,by simp[intOf];omega⟩;show _=_;rw[h.o,fR b.o];have a:rk x=O':=by unfold rk;simp;omega
   simp[a])
  |(
   go_ret;refine⟨aN ?_,U.o⟩;rw[eD,h.o,fR b.o];have a:rk x=P':=by rw[rk,kJ];simp;omega
   simp[a,f])
def f?(l:List α):l.isEmpty=decide (ζ l=0):=by cases l<;>simp
def WJ(l:List α):(((ζ l:Nat):Int)==0)=decide (l=[]):=by
 cases l with
 |nil=>rfl
 |cons a r=>simp;omega
def nO{l:List α}(h:¬ζ l=0):(((ζ l:Nat):Int) !=0)=O':=by rw[kK];omega
def KN(a l z:x')(q rc x:Nat)(n:Nd)(w:u')(h:dY n):
  Cl 201 #[l' #[i' a (ζ n.facts) q,i' l (ζ n.aW) rc,j' n.aD,G n.rank,i' z (ζ n.vals) x]] w (Rb w (j' (fX n))):=by
 go_enter func201,ntmps201;go_wp2
 all_goals
  go_ret;refine⟨aN ?_,bf⟩;simp[fX,f?,WJ, *]
def Pj(p g:Int)(a f z:x')(q rc x:Nat)(n:Nd)(w:u')(h:nT w a f z q rc x n)(i:dY n):
  Cl 200 #[l' #[G p,G g],l' #[i' a (ζ n.facts) q,i' f (ζ n.aW) rc,j' n.aD,G n.rank,i' z (ζ n.vals) x]] w (Rb w (j' (dV g n))):=by
 obtain⟨d,c,y,b,P⟩:=n;have s:J (cE w a d/\cE w f c):=⟨h.facts,h.aW⟩;have K:=hid i;clear h i;cases y with
 |true=>go_enter func200,ntmps200;go_wp2;go_ret;exact⟨aN (by simp[dV]),cG⟩
 |false=>
  by_cases g:b=0;rotate_left
  ·go_enter func200,ntmps200;go_wp2;go_ret;exact⟨aN (by simp[dV,g]),cG⟩
  by_cases R:ζ P=0;rotate_left
  ·have b:=nO R;go_enter func200,ntmps200;go_wp2;go_ret;exact⟨aN (by simp[dV,f?,R]),cG⟩
  subst g;have b:((ζ P:Int) !=0)=P':=by simp[R]
  go_enter func200,ntmps200
  go_wp2_with (first
   |(go_at_call 263;refine D' (D8 a q d _ (s.a.below cG) K.o.facts K.o.Qg) λt l=>?_;have E:=M ((l.block _ H').trans (bL w _ _).1);have a:=M ((l.block _ ak).trans (bL w _ _).2);have r:=hid (H cG l);clear l)
   |(go_at_call 264;refine D' (D7 _ _ f rc c _ _ (s.A.below r.o) K.o.Qg K.o.rsz) λF X=>?_))
  all_goals
   go_ret;refine⟨aN ?_,by first|exact H r.o X|exact r.o⟩;simp[dV,f?,R, *]
def Za(h:p:=by
 have d:¬(k:Int)<(ζ P:Int):=I;obtain rfl:k=ζ P:=I;go_wp2;go_ret
 exact⟨aN (by rw[V.o,T.o];simp),b.o⟩):p:=h
def Y!(h:p:=by
 refine⟨⟨k+1,I,f',H (H c.o bf) X,?_⟩,by simp[intOf];omega⟩;show _=_;rw[T.o,fR B.o,f]
 rfl):p:=h
def Y?(h:p:=by
 subst j
 exact⟨gB,(bQ H').trans (bL w _ _).1,(bQ ak).trans (bL w _ _).2⟩):p:=h
def Y9(h:p:=by
 go_ret
 exact⟨aN (by rw[V.o,T.o,fR B.o,f];rfl),H (H b.o bf) X⟩):p:=h
def Pk(p g:Int)(a l z:x')(q rc x:Nat)(n:Nd)(w:u')(h:nT w a l z q rc x n)(K:dY n)(b:n.aD=O'):
  Cl 202 #[l' #[G p,G g],l' #[i' a (ζ n.facts) q,i' l (ζ n.aW) rc,j' n.aD,G n.rank,i' z (ζ n.vals) x]] w (Rb w (j' (eN p g n))):=by
 obtain⟨d,c,y,y,P⟩:=n;simp only at b;subst b;have s:=hid h.vals;have b:=hid K;have N:=K.vsz;clear h K;by_cases Y:ζ d=0;rotate_left
 ·have b:=nO Y;go_enter func202,ntmps202;go_wp2;go_ret;exact⟨aN (by simp[eN,f?,Y]),cG⟩
 by_cases f:ζ c=0;rotate_left
 ·have b:=nO f;go_enter func202,ntmps202;go_wp2
  all_goals
   go_ret;exact⟨aN (by simp[eN,f?,f]),cG⟩
 by_cases R:ζ P<=8;rotate_left
 ·have b:¬((ζ P:Int)<=8):=I;obtain rfl:d=[]:=du.1 Y;obtain rfl:c=[]:=du.1 f;simp only[gN];go_enter func202,ntmps202;go_wp2;go_ret;exact⟨aN (by simp[eN,f?,R]),cG⟩
 obtain rfl:d=[]:=du.1 Y;obtain rfl:c=[]:=du.1 f;simp only[gN];by_cases W:0<=y/\y<=100000;rotate_left
 ·go_enter func202,ntmps202;go_wp2
  all_goals
   go_ret;exact⟨aN (by simp[eN,rk];omega),cG⟩
 cases C:decide (g=1)with
 |false=>
  by_cases f:y=0;rotate_left
  ·have D:(y !=0)=O':=by rw[kK];exact f
   go_enter func202,ntmps202;go_wp2_with (go_at_call 203;refine mW.mono ?_;rw[C];rintro e h ⟨rfl,rfl⟩);go_ret;exact⟨aN (by simp[eN,C,f]),gB⟩
  subst f;have V:J (eN p g ⟨[],[],O',0,P⟩=P.all (eM p g 0)):=by show _=_;simp[eN,rk];omega
  go_enter func202,ntmps202;go_wp2_with (go_at_call 203;refine mW.mono ?_;rw[C];rintro e h ⟨rfl,rfl⟩);generalize j:((w.alloc (fL p g)).alloc (k' #[i' a 0 q,i' l 0 rc,j' O',G 0,i' z (ζ P) x] 96)).alloc (fL p g)=t;have U:J (Bl w t/\t.1[δ w.1]?=B' (ve p g)/\d' t (δ w.1+1) #[i' a 0 q,i' l 0 rc,j' O',G 0,i' z (ζ P) x] 96):=by exact Y?
  clear j C W;go_loopw[44] (λi wr=>∃k:Nat,k<=ζ P/\i=G k/\J (Bl t wr)/\J (P.all (eM p g 0)=(P.drop k).all (eM p g 0))) (λi _=>ζ P-(intOf i).toNat)
  ·exact⟨0,bj,rfl,aQ,by show _=_;simp⟩
  obtain⟨k,N,rfl,c,T⟩:=hrel;have E:=M ((c.o.block _ (aY.1 U.b).1).trans U.b);have K:=M ((c.o.block _ (aY.1 U.B).1).trans U.B);have b:=hid (H U.a c.o);have S:=(aY.1 U.B).1;have r:=c.o.size;have e1:δ w.1<δ wr.1:=I;have u:δ w.1+1<δ wr.1:=I;clear S r;by_cases L:k<ζ P;rotate_left
  ·exact Za
  have d:(k:Int)<(ζ P:Int):=I;obtain⟨v,o⟩:=La L;obtain⟨D,R,rfl,c0,Q,Y,c3,c4,c5⟩:=(s.o.below b.o) k v o;have B:=hid o;clear o;cases f:eM p g 0 v with
  |true=>go_wp2_with (go_at_call 265;refine(qg p g 0 v _).mono ?_;rw[f];rintro e F ⟨rfl,X⟩);exact Y!
  |false=>go_wp2_with (go_at_call 265;refine(qg p g 0 v _).mono ?_;rw[f];rintro e F ⟨rfl,X⟩);exact Y9
 |true=>
  have V:J (eN p g ⟨[],[],O',y,P⟩=P.all (eM p g y)):=by show _=_;simp[eN,rk,C,W];omega
  go_enter func202,ntmps202;go_wp2_with (go_at_call 203;refine mW.mono ?_;rw[C];rintro e h ⟨rfl,rfl⟩);generalize j:((w.alloc (fL p g)).alloc (k' #[i' a 0 q,i' l 0 rc,j' O',G y,i' z (ζ P) x] 96)).alloc (fL p g)=t;have U:J (Bl w t/\t.1[δ w.1]?=B' (ve p g)/\d' t (δ w.1+1) #[i' a 0 q,i' l 0 rc,j' O',G y,i' z (ζ P) x] 96):=by exact Y?
  clear j C W;go_loopw[44] (λi wr=>∃k:Nat,k<=ζ P/\i=G k/\J (Bl t wr)/\J (P.all (eM p g y)=(P.drop k).all (eM p g y))) (λi _=>ζ P-(intOf i).toNat)
  ·exact⟨0,bj,rfl,aQ,by show _=_;simp⟩
  obtain⟨k,N,rfl,c,T⟩:=hrel;have E:=M ((c.o.block _ (aY.1 U.b).1).trans U.b);have K:=M ((c.o.block _ (aY.1 U.B).1).trans U.B);have b:=hid (H U.a c.o);have S:=(aY.1 U.B).1;have r:=c.o.size;have e1:δ w.1<δ wr.1:=I;have u:δ w.1+1<δ wr.1:=I;clear S r;by_cases L:k<ζ P;rotate_left
  ·exact Za
  have d:(k:Int)<(ζ P:Int):=I;obtain⟨v,o⟩:=La L;obtain⟨D,R,rfl,c0,Q,Y,c3,c4,c5⟩:=(s.o.below b.o) k v o;have B:=hid o;clear o;cases f:eM p g y v with
  |true=>go_wp2_with (go_at_call 265;refine(qg p g y v _).mono ?_;rw[f];rintro e F ⟨rfl,X⟩);exact Y!
  |false=>go_wp2_with (go_at_call 265;refine(qg p g y v _).mono ?_;rw[f];rintro e F ⟨rfl,X⟩);exact Y9
end
def yS(p g:Int)(a c z:x')(q rc x:Nat)(n:Nd)(w:u')(h:nT w a c z q rc x n)(K:dY n):
  Cl 132 #[l' #[G p,G g],l' #[i' a (ζ n.facts) q,i' c (ζ n.aW) rc,j' n.aD,G n.rank,i' z (ζ n.vals) x]] w (Rb w (j' (bA p g n))):=by
 have s:=hid (A h K);clear h K;cases U:decide (p<=4)with
 |true=>
  have V:J (bA p g n=dV g n):=by show _=_;rw[bA,aB (I' U)]
  go_enter func132,ntmps132
  go_wp2_with (first
   |(go_at_call 134;refine(jZ _ _ _).mono ?_;rw[U];rintro e b ⟨rfl,rfl⟩)
   |(go_at_call 200;refine D' (Pj p g a c z q rc x n _ (s.a.below gB) s.A) λt l=>?_))
  go_ret;exact⟨aN V.o.symm,H gB l⟩
 |false=>
  have Q:J (¬p<=4):=by show ¬p<=4;simpa using U
  cases d:n.aD with
  |true=>
   have V:J (bA p g n=eN p g n):=by show _=_;rw[bA,aA Q.o,d];rfl
   have T:=λW f=>Pk p g a c z q rc x n W (s.a.below f) s.A d;rw[d]at T;go_enter func132,ntmps132
   go_wp2_with (first
    |(go_at_call 134;refine(jZ _ _ _).mono ?_;rw[U];rintro e b ⟨rfl,rfl⟩)
    |(go_at_call 202;refine D' (T _ gB) λt l=>?_))
   go_ret;exact⟨aN V.o.symm,H gB l⟩
  |false=>
   have V:J (bA p g n=fX n):=by show _=_;rw[bA,aA Q.o,d];rfl
   have T:=λW=>KN a c z q rc x n W s.A;rw[d]at T;go_enter func132,ntmps132
   go_wp2_with (first
    |(go_at_call 134;refine(jZ _ _ _).mono ?_;rw[U];rintro e b ⟨rfl,rfl⟩)
    |(go_at_call 201;refine D' (T _) λt l=>?_))
   go_ret;exact⟨aN V.o.symm,H gB l⟩
def Y8{p:Prop}(h:p:=by
 go_enter func84,ntmps84;go_wp2_with (go_at_call 131;refine(lF _ _ _).mono ?_;rw[d];rintro e b ⟨rfl,rfl⟩);go_ret
 exact⟨aN V.o.symm,gB⟩):p:=h
def KM(T:x')(r:Nat)(c:Ct)(w:u')(h:b9 w T c.nodes)(d:zM c):
  Cl 84 #[l' #[G c.aE,G c.grade,i' T (ζ c.nodes) r]] w (Rb w (j' (jz c))):=by
 obtain⟨p,g,P⟩:=c;have s:J (b9 w T P/\∀n∈P,dY n):=⟨h,d.nodes⟩;have y:=d.sz;clear h d;simp only;cases d:known p g with
 |false=>
  have V:J (jz ⟨p,g,P⟩=P'):=by show _=_;simp[jz,d]
  exact Y8
 |true=>
  by_cases f:ζ P<=60;rotate_left
  ·have V:J (jz ⟨p,g,P⟩=P'):=by show _=_;simp[jz,f]
   have K:60<(ζ P:Int):=I;exact Y8
  have V:J (jz ⟨p,g,P⟩=P.all (bA p g)):=by show _=_;simp[jz,d,f]
  have K:¬(60<(ζ P:Int)):=I;go_enter func84,ntmps84;go_wp2_with (go_at_call 131;refine(lF _ _ _).mono ?_;rw[d];rintro e b ⟨rfl,rfl⟩);generalize j:((w.alloc (k' #[G p,G g,i' T (ζ P) r] 51)).alloc (fL p g)).alloc (fL p g)=t;have U:J (Bl w t/\t.1[δ w.1+1]?=B' (ve p g)):=by subst j;exact⟨gB,(bQ ak).trans (bL w _ _).2⟩
  clear j d;go_loopw[23] (λi wr=>∃k:Nat,k<=ζ P/\i=G k/\J (Bl t wr)/\J (P.all (bA p g)=(P.drop k).all (bA p g))) (λi _=>ζ P-(intOf i).toNat)
  ·exact⟨0,bj,rfl,aQ,by show _=_;simp⟩
  obtain⟨k,d,rfl,v,T⟩:=hrel;have d:=M ((v.o.block _ (aY.1 U.A).1).trans U.A);have b:=hid (H U.a v.o);have S:=(aY.1 U.A).1;have r:=v.o.size;have u:δ w.1+1<δ wr.1:=I;clear S r;by_cases L:k<ζ P;rotate_left
  ·have d:¬(k:Int)<(ζ P:Int):=I;obtain rfl:k=ζ P:=I;go_wp2;go_ret;exact⟨aN (by rw[V.o,T.o];simp),b.o⟩
  have d:(k:Int)<(ζ P:Int):=I;obtain⟨n,C⟩:=La L;obtain⟨d,d,d,l,z,q,rc,x,rfl,c,Q,c,c,a,W⟩:=(s.a.below b.o) k n C;have B:J (P[k]?=B' n/\dY n/\nT wr d l z q rc x n):=⟨C,s.A n (aT C),W⟩;clear C W;cases c:bA p g n with
  |true=>go_wp2_with (go_at_call 132;refine(yS p g d l z q rc x n _ (B.B.below bf) B.b).mono ?_;rw[c];rintro e F ⟨rfl,X⟩);refine⟨⟨k+1,I,f',H (H v.o bf) X,?_⟩,by simp[intOf];omega⟩;show _=_;rw[T.o,fR B.a,c];rfl
  |false=>go_wp2_with (go_at_call 132;refine(yS p g d l z q rc x n _ (B.B.below bf) B.b).mono ?_;rw[c];rintro e F ⟨rfl,X⟩);go_ret;exact⟨aN (by rw[V.o,T.o,fR B.a,c];rfl),H (H b.o bf) X⟩
def ff(w w':u')(v:A')(l:y'):Prop:=ρ w' w.1.size 5 1 v (ζ l) (Lib.byteCells l)/\Bl w w'
def Df(w:u')(B:Nat)(l:y')(v:B<=δ w.1)(X:ζ l<=maxLen):ρ (w.alloc (k' (θ (Lib.byteCells l)) 5)) B 5 1 (dU w.1.size (ζ l)) (ζ l) (Lib.byteCells l):=by refine⟨by simp[Lib.byteCells],aK ⟨δ w.1,ζ l,_,rfl,v,cv w _,aF,X,by simp[Lib.byteCells],?_⟩⟩;rw[cH (by simp[Lib.byteCells])]
def SC{w:u'}{B:Nat}{v:A'}{l:y'}(h:ρ w B 5 1 v (ζ l) (Lib.byteCells l))(D:l≠[]):∃g a,v=i' (B' (O g 0)) (ζ l) a/\B<=g/\∀j u,(Lib.byteCells l)[j]?=B' u->χ w (((O g 0):Addr).add j)=B' u:=by
 rcases h.2 with⟨_,e⟩|⟨g,a,Y,R,b,_⟩
 ·exact absurd (du.1 e) D
 subst R;exact⟨g,a,rfl,b,h.cells (g:=g) rfl⟩
def PO{l:y'}:∀u∈Lib.byteCells l,u.oneCell'=O':=by intro u C;simp[Lib.byteCells]at C;obtain⟨a,_,rfl⟩:=C;rfl
def Lg(n:Nat):iA n≠[]:=by
 by_cases h:n<128
 ·rw[cS h];simp
 rw[lO h];simp
def AA(a b:y'):Lib.byteCells a++Lib.byteCells b=Lib.byteCells (a++b):=by simp[Lib.byteCells]
def B!{n:Nat}(h:n<256):Lib.byteCells [UInt8.ofNat n]=[.int .u8 (n:Int)]:=by simp only[Lib.byteCells,u?,Ez];rw[<-UH h]
def J1:∀(m n:Nat),n<=m->n<18446744073709551616->∀(w:u'),Cl 175 #[Z n] w λe a=>∃v,e=p' v/\ff w a v (iA n):=by
 intro m;induction m with
 |zero=>intro n K r w;obtain rfl:n=0:=I;go_enter func175,ntmps175;go_wp2_with fail;go_ret;refine⟨_,rfl,?_,bf⟩;rw[cS I];exact Df w _ [UInt8.ofNat 0] aF (by simp[maxLen])
 |succ m B=>
  intro n K r w;by_cases y:n<128
  ·have a:(n:Int)<128:=I;go_enter func175,ntmps175;go_wp2_with fail;go_ret;refine⟨_,rfl,?_,bf⟩;rw[cS y];have:=Df w w.1.size [UInt8.ofNat n] aF (by simp[maxLen]);rw[B! (show n<256 by omega)]at this⊢;exact this
  have a:¬(n:Int)<128:=I;obtain⟨q,a,j⟩:∃q:Nat,q=n / 128/\(n:Int) / 128=(q:Int):=⟨n / 128,rfl,I⟩;obtain⟨c,T,C⟩:∃c:Nat,c=n % 128+128/\(n:Int) % 128+128=(c:Int):=⟨n % 128+128,rfl,I⟩;have h:c<256:=I;have b:=Ho r;have z:iA n=[UInt8.ofNat c]++iA q:=by rw[lO y,T,a];rfl
  have u:1+ζ (iA q)<=10:=by rw[z]at b;simp at b;omega
  have j:=hid (A (B q I I) (A z (B! h)));have i:q<n:=I;clear B z b a T;obtain⟨N,S,D,P,a⟩:=cQ infoByte;have U:=hid (A S (A D (A P a)));clear S D P a;go_enter func175,ntmps175;go_wp2_with fail;refine(j.a _).mono ?_;rintro e t ⟨v,rfl,o,a⟩;have C:=Df w w.1.size [UInt8.ofNat c] aF (by simp[maxLen]);rw[j.B]at C;have e:=aZ C a;obtain⟨g,b,rfl,d,Y⟩:=SC o (Lg q);have V:=hid (A e (A Y a));clear C e o Y a;go_wp2_with (at_builtin;refine gu rfl _ _ 157 rfl w.1.size 5 N (.int .u8 0) 1 1 underlying157 U.a U.b U.c U.C rfl aj _ _ _ rfl V.a (O g 0) (ζ (iA q)) b (Lib.byteCells (iA q)) rfl (by simp[Lib.byteCells]) V.b PO (by simp[maxLen];omega) (by simp;omega) (by have:=V.B.size;simp at this;omega) ?_;intro R F f k _;obtain⟨a,p,rfl⟩:=aV f);go_ret;refine⟨_,rfl,?_,?_⟩
  ·rw[j.b,bF,<-AA,j.B];exact f
  have Q:=H (cz w (k' #[.int .u8 (c:Int)] 5)) V.B;exact Q.grown k Q.size (λk a=>(V.a.lt k a).1)
section
variable {D:List Int}
def BA{a:Addr}(h:cE w (B' a) D):∀(j:Nat) (u:A'),(D.map G)[j]?=B' u->χ w (a.add j)=B' u:=by intro j u f;simp only[cg,I6]at f;obtain⟨x,F,rfl⟩:=f;obtain⟨b,o,e,T⟩:=h j x F;cases e;rw[eX];exact T
def Tr:∀u∈D.map G,u.oneCell'=O':=by intro u C;simp at C;obtain⟨a,_,rfl⟩:=C;rfl
def aaF{b:Array Oper}{q:List Oper}{o:Oper}{a:Act}{Q:Exit->Act->u'->Prop}(V:o.guard=C')(s x:Operand)
  (k:o.op=.call {callee:=.builtin .append,args:=#[s,x],argTypes:=#[36,36]})
  (B:Nat) (v:A') (l:List Int) (t:a.eval s=v) (f:ρ w B 3 1 v (ζ l) (l.map G))
  (c:x') (g:Nat) (m:List Int) (F:a.eval x=i' c (ζ m) g) (W:c=C'->g=0) (d:cE w c m)
  (L:(ζ l+ζ m)*8<=140737488355328) (u:B<=δ w.1)
  (h:∀z i e,ρ e B 3 1 (i' z (ζ l+ζ m) i) (ζ (l++m)) ((l++m).map G)->ξ w e (φ v)->wpList Tryz.prog b Q q (a.put o.dst (i' z (ζ l+ζ m) i)) e):
  wpList Tryz.prog b Q (o::q) a w:=by
 obtain⟨N,S,D,P,j⟩:=cQ nQ;cases c with
 |none=>
  have T:=W rfl;subst T;have i:m=[]:=by
   cases m with
   |nil=>rfl
   |cons y r=>obtain⟨b,o,e,_⟩:=d 0 y rfl;cases e
  subst i;obtain⟨a,p,rfl⟩:=aV f;refine wpList_append_own_none V s x 36 k B 3 N 1 underlying36 S (aO a (ζ l) p) (ζ l) (l.map G) t f F ?_;exact h a p w (I' f) (Cz _ _)
 |some b=>refine Qm w V s x 36 k B 3 N (G 0) 1 8 underlying36 S D P j rfl aj v (ζ l) (l.map G) t f b (ζ m) g (m.map G) F ak (BA d) Tr (by simp only[maxLen];omega) I u ?_;intro R F f k _;obtain⟨a,p,rfl⟩:=aV f;exact h a p F (by rw[bF,eW];exact f) k
def Gw{B:Nat}{a:x'}{c n:Nat}(h:ρ w B 3 1 (i' a n c) (ζ D) (D.map G)):cE w a D:=by
 intro j x f;have r:=(bm.1 f).1;rcases h.2 with⟨_,e⟩|⟨g,a,Y,R,_⟩
 ·omega
 simp at R;obtain⟨rfl,rfl,rfl⟩:=R;have:=h.cells (g:=g) rfl j (G x) (by simp[f]);rw[eX]at this;exact⟨g,0,rfl,this⟩
end
def Ww(x:Int)(w:u'):Cl 26 #[G x] w λe a=>e=p' (G x)/\a=w:=by go_enter func26,ntmps26;go_wp2;go_ret;exact⟨rfl,rfl⟩
def QK{p:Prop}(h:p:=by
 clear F;go_wp2;go_quiet (fail);go_wp2;go_roundw
 ·exact⟨k+1,I,f',below_drewN b.o _⟩
 exact G'):p:=h
def sH(c g:x')(h j:Nat)(D:List Int)(w:u')(C:cE w c D)(a:cE w g D)(X:ζ D*8<=140737488355328):
  Cl 36 #[i' c (ζ D) h,i' g (ζ D) j] w (Rb w (j' O')):=by
 have s:J (cE w c D/\cE w g D):=⟨C,a⟩;clear C a;have b:((ζ D:Int) !=(ζ D:Int))=P':=ak;go_enter func36,ntmps36;go_wp2;go_loopw[5] (λi wr=>∃k:Nat,k<=ζ D/\i=G k/\J (Bl w wr)) (λi _=>ζ D-(intOf i).toNat)
 ·exact⟨0,bj,rfl,aQ⟩
 obtain⟨k,a,rfl,b⟩:=hrel;by_cases L:k<ζ D;rotate_left
 ·have a:¬(k:Int)<(ζ D:Int):=I;go_wp2;go_ret;exact⟨rfl,b.o⟩
 have a:(k:Int)<(ζ D:Int):=I;obtain⟨x,F⟩:=La L;obtain⟨a,a,rfl,Q⟩:=(s.a.below b.o) k x F;obtain⟨o,f,rfl,p⟩:=(s.A.below b.o) k x F;have d:(x !=x)=P':=ak;exact QK
def CO(q y h E a b:x')(N r l g S R:Nat)(n:Nd)(w:u')(C:nT w q y h N r l n)(d:nT w E a b g S R n)(K:dY n):
  Cl 57 #[l' #[i' q (ζ n.facts) N,i' y (ζ n.aW) r,j' n.aD,G n.rank,i' h (ζ n.vals) l],l' (n? E (ζ n.facts) g a (ζ n.aW) S n.aD n.rank b (ζ n.vals) R)] w (Rb w (j' O')):=by
 have s:=hid (A C (A d K));have f:=K.vsz;clear C d K;have d:(n.aD !=n.aD)=P':=ak;have P:(n.rank !=n.rank)=P':=ak;have D:((ζ n.vals:Int) !=(ζ n.vals:Int))=P':=ak;go_enter func57,ntmps57
 go_upto_region 3 with(first
  |(go_at_call 36;have _:=c;refine(sH y a r S n.aW _ (s.a.aW.below (H cG c.o)) (s.b.aW.below (H cG c.o)) s.B.rsz).mono ?_;clear p f;rintro e F ⟨rfl,o⟩;have p:=M (((H c.o o).block _ H').trans (bL w _ _).1);have f:=M (((H c.o o).block _ ak).trans (bL w _ _).2);have u:=hid (H c.o o);clear o)
  |(go_at_call 36;refine D' (sH q E N g n.facts _ (s.a.facts.below cG) (s.b.facts.below cG) s.B.Qg) λt e=>?_;have p:=M ((e.block _ H').trans (bL w _ _).1);have f:=M ((e.block _ ak).trans (bL w _ _).2);have c:=hid e;clear e))
 go_wp2;clear p f;generalize j:(w.alloc (k' #[i' q (ζ n.facts) N,i' y (ζ n.aW) r,j' n.aD,G n.rank,i' h (ζ n.vals) l] 96)).alloc (k' (n? E (ζ n.facts) g a (ζ n.aW) S n.aD n.rank b (ζ n.vals) R) 96)=d at u;have U:J (Bl w d/\d' d w.1.size #[i' q (ζ n.facts) N,i' y (ζ n.aW) r,j' n.aD,G n.rank,i' h (ζ n.vals) l] 96/\d' d (δ w.1+1) (n? E (ζ n.facts) g a (ζ n.aW) S n.aD n.rank b (ζ n.vals) R) 96):=by subst j;exact⟨cG,(bL w _ _).1,(bL w _ _).2⟩
 clear j;go_loopw[7] (λi wr=>∃k:Nat,k<=ζ n.vals/\i=G k/\J (Bl d wr)) (λi _=>ζ n.vals-(intOf i).toNat)
 ·exact⟨0,bj,rfl,u⟩
 obtain⟨k,a,rfl,b⟩:=hrel;have p:=M ((b.o.block _ (aY.1 U.b).1).trans U.b);have f:=M ((b.o.block _ (aY.1 U.B).1).trans U.B);have d:=hid (H U.a b.o);by_cases L:k<ζ n.vals;rotate_left
 ·have a:¬(k:Int)<(ζ n.vals:Int):=I;go_wp2;go_ret;exact⟨rfl,d.o⟩
 have a:(k:Int)<(ζ n.vals:Int):=I;obtain⟨v,F⟩:=La L;obtain⟨e,a,rfl,T,Q,p,a,P,a⟩:=(s.a.vals.below d.o) k v F;obtain⟨o,f,rfl,t,Y,a,a,a,B⟩:=(s.b.vals.below d.o) k v F;exact QK
def r6:∀(o:List Int) (Y:Int),ζ (eV Y o)=ζ o
 |[],_=>rfl
 |_::r,_=>by simp[eV,r6 r]
def B9{w:u'}{B:Nat}{v:A'}{l:y'}(h:ρ w B 5 1 v (ζ l) (Lib.byteCells l))(D:l≠[]):
  ∃a b,v=i' (B' a) (ζ l) b/\(convert 157 9 (i' (B' a) (ζ l) b)).run Tryz.prog w=.ok (m' ⟨θ l⟩) w:=by
 rcases h.2 with⟨_,e⟩|⟨g,b,Y,R,_⟩
 ·exact absurd (du.1 e) D
 refine⟨_,b,R,run_convert_bytes_back w 157 9 5 _ b l underlying157 underlying5 underlying9 (λj f=>?_)⟩;subst R;exact h.cells (g:=g) rfl j _ (by simp[Lib.byteCells,f])
def O4{c:Ct}(h:jz c=O'):known c.aE c.grade=O'/\ζ c.nodes<=60/\∀n∈c.nodes,bA c.aE c.grade n=O':=by unfold jz at h;simp only[bh,bq,cF]at h;exact⟨h.1.1,h.1.2,h.2⟩
def Kz(c:UInt8):Wm.oJ c=(decide (97<=(c.toNat:Int))&&decide ((c.toNat:Int)<=122)):=by rw[Wm.oJ,cj];simp;omega
def Uf(c:UInt8):Wm.gM c=(decide (48<=(c.toNat:Int))&&decide ((c.toNat:Int)<=57)):=by rw[Wm.gM,cj];simp;omega
def qu(s:z')(k:Nat)(h:k<s.size):Bool:=Wm.oJ s[k]||(Wm.gM s[k]&&decide (k≠0))
def Ol(s:z')(D:0<s.size)(b:∀j (h:j<s.size),qu s j h=O'):Wm.nm s=(decide (s.size<=6)&&!Wm.resv s.1.1):=by
 have V:Wm.oJ s[0]=O':=by have:=b 0 D;simpa[qu]using this
 have R:s.1.1.all Wm.sC=O':=by
  rw[cF];intro x F;obtain⟨j,f,rfl⟩:=w? F;have a:j<s.size:=by rw[<-Wm.bS s];exact f
  have:=b j a;have e:s.1.1[j]=s[j]:=rfl;rw[e];unfold qu at this;unfold Wm.sC;cases C:Wm.oJ s[j]with
  |true=>simp
  |false=>rw[C]at this;simp at this;simp[this.1]
 rw[Wm.F8 s D,V,R];simp
def Ba(s:z')(k:Nat)(h:k<s.size)(a:qu s k h=P'):Wm.nm s=P':=by
 unfold qu at a;simp only[q8,Bool.and_eq_false_iff]at a;rcases a.2 with Q|b
 ·exact Wm.SP s k h (by simp[Wm.sC,a.1,Q])
 have:k=0:=I' b;subst this;exact Wm.Dl s h a.1
def V?(s:z'):Wm.resv s.1.1=(s.toList==[105,110,112,117,116]||s.toList==[111,117,116,112,117,116]||s.toList==[105,102]||s.toList==[103,111,116,111]||s.toList==[114,101,116,117,114,110]):=by rw[dp];rfl
def Om(s:z')(w:u')(y:s.size<=3000):
  Cl 68 #[m' s] w λe a=>e=p' (j' (Wm.nm s))/\a=w:=by
 go_enter func68,ntmps68;go_wp2
 go_loop [3] (λi=>∃k:Nat,k<=s.size/\i=G k/\J (∀j (h:j<s.size),j<k->qu s j h=O')) (λi=>s.size-(intOf i).toNat)
 ·exact⟨0,bj,rfl,by show ∀j h,_;intro j h f;omega⟩
 obtain⟨k,a,rfl,T⟩:=hrel;by_cases L:k<s.size;rotate_left
 ·obtain rfl:k=s.size:=I;by_cases D:s.size=0
  ·have V:=hid (Wm.wG s D);have g:(s.size:Int)<1:=I;clear D;go_wp2;go_ret;exact⟨aN V.o.symm,rfl⟩
  have V:=hid (Ol s I (λj h=>T.o j h h));have g:1<=(s.size:Int):=I;clear D;by_cases c:s.size<=6;rotate_left
  ·have P:6<(s.size:Int):=I;have d:J (Wm.nm s=P'):=by show _=_;rw[V.o];simp[c]
   go_wp2;go_ret;exact⟨aN d.o.symm,rfl⟩
  have P:(s.size:Int)<=6:=I;have d:J (Wm.nm s=!Wm.resv s.1.1):=by show _=_;rw[V.o];simp[c]
  have a:J _:=V? s;cases b:(s.toList==[105,110,112,117,116])<;>cases o:(s.toList==[111,117,116,112,117,116])<;>cases x:(s.toList==[105,102])<;>cases c:(s.toList==[103,111,116,111])<;>cases l:(s.toList==[114,101,116,117,114,110])
  all_goals
   have R:=a.o;rw[b,o,x,c,l]at R;have B:J _:=R;clear R;go_wp2;go_ret;refine⟨aN ?_,rfl⟩;rw[d.o,B.o]
   try simp
 have a:(k:Int)<(s.size:Int):=I
 have step:qu s k L=O'->∀j (h:j<s.size),j<k+1->qu s j h=O':=by
  intro o j h f;by_cases e:j=k
  ·subst e;exact o
  exact T.o j h I
 have a:=hid step;clear step;by_cases C:97<=(s[k].toNat:Int)/\(s[k].toNat:Int)<=122
 ·have V:J (qu s k L=O'):=by show _=_;rw[qu,Kz];simp[C]
  obtain⟨g,P⟩:=C;go_wp2
  go_round
  ·exact⟨k+1,I,f',a.o V.o⟩
  exact G'
 by_cases t:48<=(s[k].toNat:Int)/\(s[k].toNat:Int)<=57
 ·by_cases b:k=0
  ·have V:=hid (Ba s k L (by rw[qu,Kz];simp;omega));have K:((k:Int)==0)=O':=by rw[bT];omega
   obtain⟨g,P⟩:=t;have D:(s[k].toNat:Int)<97:=I;clear C b;go_wp2;go_ret;exact⟨aN V.o.symm,rfl⟩
  have V:J (qu s k L=O'):=by show _=_;rw[qu,Uf];simp[t,b]
  have K:((k:Int)==0)=P':=by rw[b?];omega
  obtain⟨g,P⟩:=t;have D:(s[k].toNat:Int)<97:=I;clear C b;go_wp2
  go_round
  ·exact⟨k+1,I,f',a.o V.o⟩
  exact G'
 have V:=hid (Ba s k L (by rw[qu,Kz,Uf];simp;omega));have N:(s[k].toNat:Int)<48\/(57<(s[k].toNat:Int)/\(s[k].toNat:Int)<97)\/122<(s[k].toNat:Int):=I;clear C t;rcases N with g|⟨g,P⟩|g
 ·have Y:decide (97<=(s[k].toNat:Int))=P':=by rw[cR];omega
  have a:decide (48<=(s[k].toNat:Int))=P':=by rw[cR];omega
  have P:(s[k].toNat:Int)<97:=I;go_wp2;go_ret;exact⟨aN V.o.symm,rfl⟩
 ·have Y:decide (97<=(s[k].toNat:Int))=P':=by rw[cR];omega
  have a:decide (48<=(s[k].toNat:Int))=O':=by rw[bq];omega
  have b:decide ((s[k].toNat:Int)<=57)=P':=by rw[cR];omega
  have c:48<=(s[k].toNat:Int):=I;go_wp2;go_ret;exact⟨aN V.o.symm,rfl⟩
 have Y:decide (97<=(s[k].toNat:Int))=O':=by rw[bq];omega
 have a:decide (48<=(s[k].toNat:Int))=O':=by rw[bq];omega
 have b:decide ((s[k].toNat:Int)<=57)=P':=by rw[cR];omega
 have F:decide ((s[k].toNat:Int)<=122)=P':=by rw[cR];omega
 have P:97<=(s[k].toNat:Int):=I;have D:57<(s[k].toNat:Int):=I;have c:48<=(s[k].toNat:Int):=I;go_wp2;go_ret;exact⟨aN V.o.symm,rfl⟩
def km{a b}:=@Om a b
section
def tdq(d:Int)(D:0<=d)(Y:d<=9):(-9223372036854775808+d).tdiv 10=-((9223372036854775808-d) / 10):=by rw[show(-9223372036854775808+d)=-(9223372036854775808-d)by omega,Int.neg_tdiv,Int.tdiv_eq_ediv_of_nonneg I]
def ME(m:Nat)(d:Int)(D:0<=d)(Y:d<=9)(h:9223372036854775808<10*(m:Int)+d):-(m:Int)<(-9223372036854775808+d).tdiv 10:=by rw[tdq d D Y];omega
def T4(m:Nat)(d:Int)(D:0<=d)(Y:d<=9)(h:10*(m:Int)+d<=9223372036854775808):(-9223372036854775808+d).tdiv 10<=-(m:Int):=by rw[tdq d D Y];omega
def I!(n:Int)(h:-9223372036854775808<=n/\n<=9223372036854775807):wrap64 n=n:=by unfold wrap64;omega
def ML(m:Nat)(c:Int)(D:48<=c)(Y:c<=57)(h:10*(m:Int)+(c-48)<=9223372036854775808):wrap64 (wrap64 (10*-(m:Int))-(c-48))=-((10*m+(c-48).toNat:Nat):Int):=by have V:wrap64 (10*-(m:Int))=10*-(m:Int):=I! _ I;rw[V,I! _ I];omega
def ZR(m:Nat)(d:Int)(D:0<=d)(Y:d<=9)(a:-(m:Int)=(-9223372036854775808+d).tdiv 10)(X:wrap64 ((-9223372036854775808+d).tdiv 10*10) < -9223372036854775808+d):False:=by rw[tdq d D Y]at X;rw[I! _ I]at X;omega
open Wm in
def Uq(l D:y')(b:Bool)(t:dg l=D)(a:ng l=b):ga l=if ku b D then(if b then(if dS D<=9223372036854775808 then B' (-(dS D:Int)) else C') else if dS D<9223372036854775808 then B' (dS D:Int) else C') else C':=by rw[ga,pA,t,a]
open Wm in
def PF(a:Nat)(l:y')(c:UInt8):iX a (l++[c])=iX a l*10+(c.toNat-48):=by rw[iX,uo];rfl
open Wm in
def Um(a:Nat)(l r:y'):iX a (l++r)=iX (iX a l) r:=by unfold iX;rw[uo]
open Wm in
def Hg(D:z')(k:Nat)(h:k<D.size):dS (D.1.1.take (k+1))=10*dS (D.1.1.take k)+(D[k].toNat-48):=by rw[ux D k h];unfold dS;rw[PF];omega
open Wm in
def acC(D:z')(k:Nat):dS (D.1.1.take k)<=dS D.1.1:=by
 have:D.1.1=D.1.1.take k++D.1.1.drop k:=(oT k _).symm;rw[this];simp only[oT];unfold dS
 conv=>rhs;rw[this,Um]
 exact Nq _ _
open Wm in
def gm:∀(r:y') (a:Nat),a*10 ^ ζ r<=iX a r:=by
 intro r;induction r with
 |nil=>intro a;simp[iX]
 |cons c r B=>intro a;rw[kG,cC,ni];refine bD ?_ (B (a*10+(c.toNat-48)));rw[show a*(10 ^ ζ r*10)=(a*10)*10 ^ ζ r by rw[oX (10 ^ ζ r) 10,Nat.mul_assoc]];exact qG _ I
open Wm in
def BG(D:z')(b:Bool)(h:19<D.size)(K:ku b D.1.1=O'):9223372036854775808<dS D.1.1:=by
 have T:=fm D I;have X:=bS D;rw[T]at K X⊢;simp only[cC]at X;simp only[ku,bh]at K;have Q:gM D[0]=O':=by have:=K.1;simp only[qC,bh]at this;exact this.1
 have a:D[0].toNat≠48:=by intro e;have:=K.2;rw[e]at this;simp at this;omega
 have a:=(gq _).1 Q;rw[dS,kG];have U:=gm (D.1.1.drop 1) (0*10+(D[0].toNat-48));have C:1<=D[0].toNat-48:=I;have a:10 ^ 19<=10 ^ ζ (D.1.1.drop 1):=uj I I;have N:10 ^ ζ (D.1.1.drop 1)<=(0*10+(D[0].toNat-48))*10 ^ ζ (D.1.1.drop 1):=by have:=qG (10 ^ ζ (D.1.1.drop 1)) (show 1<=0*10+(D[0].toNat-48)by omega);simpa using this
 have d:(10:Nat) ^ 19=10000000000000000000:=aj;omega
end
section
variable {c:Nat}
def AB:y'->Nat
 |[]=>0
 |b::r=>b.toNat % 128+128*AB r
def UK:∀(m n:Nat),n<=m->AB (iA n)=n:=by
  intro m;induction m with
  | zero => intro n K;obtain rfl:n=0:=I
            rw[cS I];rfl
  |succ m B=>
    intro n K;by_cases h:n<128
    · rw[cS h]
      simp only[AB,oW];omega
    rw[lO h];simp only[AB,oW];rw[B (n / 128) I];omega
def yZ(l:List UInt8):Prop:=∀x∈l,128<=x.toNat
def uX:∀(m n:Nat),n<=m->∃(h:y') (b:UInt8),iA n=h++[b]/\yZ h/\b.toNat<128:=by
  intro m;induction m with
  | zero => intro n K;obtain rfl:n=0:=I
            exact⟨[],UInt8.ofNat 0,cS I,(λx F=>by cases F),aj⟩
  |succ m B=>
    intro n K;by_cases h:n<128
    · exact⟨[],UInt8.ofNat n,cS h,(λx F=>by cases F),by simp only[oW];omega⟩
    obtain⟨s,b,V,u,a⟩:=B (n / 128) I;refine⟨UInt8.ofNat (n % 128+128)::s,b,by rw[lO h,V];rfl,?_,a⟩;intro x F;rcases dr.1 F with rfl|F
    · simp only[oW];omega
    exact u x F
def uy:∀(h s:y') (b X:UInt8) (r g:y'),yZ h->yZ s->b.toNat<128->X.toNat<128->h++b::r=s++X::g->h=s/\b=X/\r=g
 |[],[],b,X,r,g,_,_,_,_,e=>by simp at e;exact⟨rfl,e.1,e.2⟩
 |[],x::s,b,X,r,g,_,a,N,_,e=>by simp at e;have:=a x ak;rw[<-e.1]at this;omega
 |x::h,[],b,X,r,g,C,_,_,d,e=>by simp at e;have:=C x ak;rw[e.1]at this;omega
 |x::h,y::s,b,X,r,g,C,a,N,d,e=>by simp at e;obtain⟨V,u⟩:=e;obtain⟨c,i,o⟩:=uy h s b X r g (λz f=>C z (by simp[f])) (λz f=>a z (by simp[f])) N d u;exact⟨by rw[V,c],i,o⟩
def ZJ(h:y')(b:UInt8)(r:y')(d:yZ h)(c:b.toNat<128):rc (h++b::r)=if iA (AB (h++[b]) % 18446744073709551616)=h++[b] then B' (AB (h++[b]) % 18446744073709551616,r) else C':=by
 by_cases T:iA (AB (h++[b]) % 18446744073709551616)=h++[b]
 ·rw[aB T];rw[rF];exact⟨by rw[T];simp,AJ _ I⟩
 rw[aA T];cases e:rc (h++b::r)with
 |none=>rfl
 |some p=>
  exfalso;obtain⟨m,q⟩:=p;obtain⟨C,a⟩:=oF.1 e;obtain⟨s,X,V,u,e⟩:=uX m m aF;rw[V,ef]at C;obtain⟨K,B,t⟩:=uy h s b X r q d u c e C;apply T;have:h++[b]=iA m:=by rw[V,K,B]
  rw[this,UK m m aF,nk a]
def fw(h:y')(a:yZ h):rc h=C':=by
 cases b:rc h with
 |none=>rfl
 |some p=>exfalso;obtain⟨m,q⟩:=p;obtain⟨C,c⟩:=oF.1 b;obtain⟨s,X,V,u,b⟩:=uX m m aF;have:=a X (by rw[C,V];simp);omega
def Wb(h:y')(b:UInt8)(r:y')(V:yZ h)(c:b.toNat<128)(X:9<ζ h):rc (h++b::r)=C':=by
 cases d:rc (h++b::r)with
 |none=>rfl
 |some p=>exfalso;obtain⟨m,q⟩:=p;obtain⟨C,a⟩:=oF.1 d;obtain⟨s,X,d,u,e⟩:=uX m m aF;have N:=Ho a;rw[d]at C N;rw[ef]at C;obtain⟨K,B,t⟩:=uy h s b X r q V u c e C;rw[<-K]at N;simp at N;omega
def mE(w:u')(rb:Nat)(s:z')(at':Nat)(bad:Bool):Prop:=w.1[rb]?=B' (k' #[m' s,G at',j' bad] 124 (0,0))
def mE.grown{w d:World}{b:Bool}(h:mE w c s a b)(f:w.grownBy d q)(e:some c≠q):mE d c s a b:=(f.block c (aY.1 h).1 e).trans h
def iT{a b:u'}(h:ξ a b q)(n:Nat):ξ a (b.drewN n) q:=⟨h.os,h.tape,h.output,h.size,h.block⟩
def pG(w:u')(q:Option Nat):ξ w w q:=⟨rfl,rfl,rfl,aF,λ_ _ _=>rfl⟩
def Gr(s:z')(fr k:Nat):Prop:=yZ ((s.1.1.drop fr).take k)
def Gr.more(h:Gr s b (a-b))(S:b<=a)(c:a<s.size)(d:128<=(s[a]'c).toNat):Gr s b (a+1-b):=by
 obtain⟨k,rfl⟩:∃k,a=b+k:=⟨a-b,I⟩;rw[show b+k-b=k by omega]at h;rw[show b+k+1-b=k+1 by omega];have X:ζ s.1.1=s.size:=rfl;have L:k<ζ (s.1.1.drop b):=by rw[nW];omega
 intro x F;rw[cX L]at F;rcases eE.1 F with F|F
 ·exact h x F
 simp at F;subst F;exact d
def jC{fr:Nat}(S:fr<=a)(b:a<s.size):s.1.1.drop fr=(s.1.1.drop fr).take (a-fr)++(s[a]'b)::s.1.1.drop (a+1):=by
 have X:ζ s.1.1=s.size:=rfl;have C:a-fr<ζ (s.1.1.drop fr):=by rw[nW];omega
 have c:(s.1.1.drop fr).drop (a-fr)=(s[a]'b)::s.1.1.drop (a+1):=by
  rw[qF C];congr 1
  ·rw[I3];have:fr+(a-fr)=a:=I;simp only[this];rfl
  rw[AQ];congr 1;omega
 conv=>lhs;rw[<-oT (a-fr) (s.1.1.drop fr),c]
def P6(s:z')(fr a:Nat):y':=(s.1.1.drop fr).take (a-fr+1)
def RV(S:b<=a)(c:a<s.size):P6 s b a=(s.1.1.drop b).take (a-b)++[s[a]'c]:=by
 have X:ζ s.1.1=s.size:=rfl;have C:a-b<ζ (s.1.1.drop b):=by rw[nW];omega
 rw[P6,cX C,I3];have:b+(a-b)=a:=I;simp only[this];rfl
def VW(S:b<=a)(c:a<s.size):ζ (P6 s b a)=a-b+1:=by have X:ζ s.1.1=s.size:=rfl;rw[P6,gC,nW];omega
def RW{q:Nat}(c:b<=q)(d:q<=a)(c:a<s.size):(P6 s b a).drop (q-b)=(s[q]'(I))::(P6 s b a).drop (q+1-b):=by
 have X:ζ s.1.1=s.size:=rfl;have C:q-b<ζ ((s.1.1.drop b).take (a-b+1)):=by rw[gC,nW];omega
 rw[P6,qF C];congr 1
 ·rw[getElem_take,I3];have:b+(q-b)=q:=I;simp only[this];rfl
 congr 1;omega
structure dz{α:Type}(s:z')(a:Nat)(bad:Bool)(p:y'->Option (α×y'))(v:α)(a':Nat)(Hw:Bool):Prop where
  le:a<=a'
  sz:a'<=s.size
  how:(Hw=P'/\bad=P'/\p (s.1.1.drop a)=B' (v,s.1.1.drop a'))\/(Hw=O'/\(bad=O'\/p (s.1.1.drop a)=C'))
def Ns{W:World}{b:Bool}(h:mE W c s a b):(intOf ((W.cell? (O c 1)).getD (G 0))).toNat=a:=by rw[(M h).1 1];simp[intOf]
def r7(N b:Nat)(s:z')(bad:Bool)(w:u')(h:mE w N s b bad)(Y:b<=s.size)(y:s.size<=60000):
  Cl 108 (di N) w λe a=>∃(n z:Nat) (f:Bool),e=p' (Z n)/\n<18446744073709551616/\dz s b bad rc n z f/\mE a N s z f/\ξ w a (B' N):=by
 have d:=hid h;have L:=(aY.1 h).1;have E:=M h;clear h;go_enter func108,ntmps108;go_wp2_with fail;clear E;go_loopw[] (λwr=>∃a:Nat,b<=a/\a<=s.size/\J (Gr s b (a-b))/\J (mE wr N s a bad/\ξ w wr (B' N))) (λwr=>s.size-(intOf ((χ wr (O N 1)).getD (G 0))).toNat)
 case atStart=>exact⟨b,aF,Y,(λx F=>by simp at F),d.o,pG _ _⟩
 obtain⟨a,S,g,T,B⟩:=hrel;have E:=M B.a;by_cases c:a<s.size;rotate_left
 ·have i:¬(a:Int)<(s.size:Int):=I;have r:=cV i;go_wp2_with fail;go_quiet (fail);go_wp2_with fail;have f:decide ((s.size:Int)<=(a:Int))=O':=ei I;go_quiet (fail);go_wp2_with fail;go_ret;refine⟨0,a,O',rfl,I,⟨S,g,aK ⟨rfl,aK ?_⟩⟩,aq (show(wr.drewN _).1[N]?=_ from B.a) _,(iT B.A _).trans jm⟩;have k:ζ s.1.1=s.size:=rfl;have d:=T.o;unfold Gr at d;rw[cH (by rw[nW];omega)]at d;exact fw _ d
 have i:(a:Int)<(s.size:Int):=I;have j:=gV s[a];by_cases h:128<=s[a].toNat
 ·have X:(128:Int)<=(s[a].toNat:Int):=I;have r:=hid (T.o.more S c h);go_wp2_with fail;go_quiet (fail);go_wp2_with fail;have Q:mE (κ (wr.drewN nq) (O N 1) (G ((a:Int)+1))) N s (a+1) bad:=aq (show(wr.drewN nq).1[N]?=_ from B.a) _;refine⟨⟨a+1,I,I,r,Q,(iT B.A _).trans jm⟩,?_⟩;rw[Ns Q,Ns B.a];omega
 have X:¬(128:Int)<=(s[a].toNat:Int):=I;go_wp2_with fail;go_quiet (fail);go_wp2_with fail;have f:decide ((s.size:Int)<=(a:Int))=P':=cV I;have f:¬s.size<=a:=I;have C:IntKind.i64.wrap ((a:Int)-(b:Int))=(a:Int)-(b:Int):=by simp[IntKind.wrap,IntKind.bits,IntKind.signed];omega
 by_cases Y:9<a-b
 ·have f:(9:Int)<IntKind.i64.wrap ((a:Int)-(b:Int)):=by rw[C];omega
  clear C;go_quiet (fail);go_wp2_with fail;go_ret;refine⟨0,a,O',rfl,I,⟨S,g,aK ⟨rfl,aK ?_⟩⟩,aq (show(wr.drewN _).1[N]?=_ from B.a) _,(iT B.A _).trans jm⟩;rw[jC S c];exact Wb _ _ _ T.o I (by have k:ζ s.1.1=s.size:=rfl;rw[gC,nW];omega)
 have f:¬(9:Int)<IntKind.i64.wrap ((a:Int)-(b:Int)):=by rw[C];omega
 clear C;go_quiet (fail);go_wp2_with fail;clear E;go_loopw[4,5] (λg y f=>∃(x:Int) (n:Nat),(b:Int)-1<=x/\x<=(a:Int)/\y=G x/\g=Z n/\J (n=AB ((P6 s b a).drop (x+1-(b:Int)).toNat) % 18446744073709551616)/\J (mE f N s a bad/\ξ w f (B' N))) (λ_ y _=>(intOf y+1-(b:Int)).toNat)
 case atStart=>
  refine⟨a,0,I,I,rfl,rfl,?_,B.a,iT B.A _⟩;show 0=_;rw[I2 (by rw[VW S c];omega)];rfl
 obtain⟨x,n,L,g,rfl,rfl,K,h⟩:=hrel;have E:=M h.a;have f:n<18446744073709551616:=by rw[K.o];exact AJ _ I
 by_cases g:(b:Int)<=x
 ·obtain⟨q,rfl⟩:∃q:Nat,x=(q:Int):=⟨x.toNat,I⟩;have X:q<s.size:=I;have j:(q:Int)<(s.size:Int):=I;have Y:=gV s[q];go_wp2_with fail;refine⟨⟨(q:Int)-1,(128*n+s[q].toNat % 128) % 18446744073709551616,I,I,rfl,?_,?_,h.a,h.A⟩,by simp[intOf];omega⟩
  ·congr 1;simp[IntKind.wrap,IntKind.bits,IntKind.signed]
  show _=_;rw[show((q:Int)-1+1-(b:Int)).toNat=q-b by omega,RW I I c];have p:=K.o;rw[show((q:Int)+1-(b:Int)).toNat=q+1-b by omega]at p;simp only[AB];omega
 go_wp2_with fail;obtain rfl:x=(b:Int)-1:=I;have p:n=AB (P6 s b a) % 18446744073709551616:=by have:=K.o;rwa[show((b:Int)-1+1-(b:Int)).toNat=0 by omega]at this
 clear E;obtain⟨V,g⟩:=Ea (κ wr (O N 1) (G ((a:Int)+1)));rw[<-g];have Q:mE V N s (a+1) bad:=by rw[g];exact aq h.a _
 have d:ξ w V (B' N):=by rw[g];exact h.A.trans jm
 refine(J1 n n aF f V).mono ?_;rintro e F ⟨v,rfl,o,R⟩;have P:=(R.block N (aY.1 Q).1).trans Q;have e:ξ w F (B' N):=d.trans ⟨R.os,R.tape,R.output,R.size,λk h _=>R.block k h⟩;have i:∃t h,v=i' (B' t) (ζ (iA n)) h/\∀q,(convert 157 9 (i' (B' t) (ζ (iA n)) h)).run Tryz.prog (F.drewN q)=.ok (m' ⟨θ (iA n)⟩) (F.drewN q):=by obtain⟨t,h,k,_⟩:=B9 o (Lg n);refine⟨t,h,k,λq=>?_⟩;obtain⟨U,j,j,K⟩:=B9 (own_drewN o q) (Lg n);rw[k]at j;cases j;exact K
 obtain⟨t,h,rfl,j⟩:=i;have h:=j 0;have h:(b:Int)<=((a+1:Nat):Int):=I;have W:((a+1:Nat):Int)<=(s.size:Int):=I;have D:(b:Int)<=a+1:=I;have h:(a:Int)+1<=(s.size:Int):=I;have u:=hid (A P (A e (A p o)));have E:=M P;clear g Q d o R P e p;go_wp2_with fail;go_quiet (fail);go_wp2_with fail
 all_goals
  rename_i e;rw[Lib.extract_toList,show a+1-b=a-b+1 by omega]at e;have d:(!iA n==P6 s b a)=_:=e;rw[Bool.not_eq_eq_eq_not]at d
 ·have l:=I' d;go_ret;refine⟨0,a+1,O',rfl,I,⟨I,I,aK ⟨rfl,aK ?_⟩⟩,aq (show(F.drewN _).1[N]?=_ from u.a) _,(iT u.b _).trans jm⟩;have N:=ZJ ((s.1.1.drop b).take (a-b)) (s[a]) (s.1.1.drop (a+1)) T.o I;rw[<-jC S c,<-RV S c,<-u.c,aA l]at N;exact N
 have l:=I' d;go_ret;refine⟨n,a+1,bad,rfl,f,⟨I,I,?_⟩,u.a,iT u.b _⟩;have N:=ZJ ((s.1.1.drop b).take (a-b)) (s[a]) (s.1.1.drop (a+1)) T.o I;rw[<-jC S c,<-RV S c,<-u.c,aB l]at N;cases bad with
 |true=>exact aK ⟨rfl,aI rfl⟩
 |false=>exact aI ⟨rfl,rfl,N⟩
end
def ir{n:Nat}(h:n<18446744073709551616):lr (xx n):=by unfold xx lr;split<;>omega
theorem aag{p:Prop}(h:p:=by
 rcases e.how with⟨C,a,N⟩|⟨C,a⟩
 ·exact aI ⟨C,a,by rw[N]⟩
 refine aK ⟨C,?_⟩;rcases a with a|a
 ·exact aI a
 right;rw[a]):p:=h
def lJ(d a:Nat)(s:z')(b:Bool)(w:u')(h:mE w d s a b)(g:a<=s.size)(y:s.size<=60000):
  Cl 176 (di d) w λe c=>∃(x:Int) (z:Nat) (f:Bool),e=p' (G x)/\lr x/\dz s a b iK x z f/\mE c d s z f/\ξ w c (B' d):=by
 have Y:=hid (r7 d a s b w h g y);clear h;go_enter func176,ntmps176;go_wp2_with fail;refine bK Y.o ?_;rintro e t ⟨n,z,f,rfl,K,e,Q,g⟩;have c:J (dz s a b iK (xx n) z f/\mE t d s z f/\ξ w t (B' d)/\lr (xx n)):=by refine⟨⟨e.le,e.sz,?_⟩,Q,g,ir K⟩;unfold iK;exact aag
 clear e Q g;by_cases a:n % 2=0
 ·have b:((n:Int) % 2==0)=true:=by rw[bT];omega
  go_wp2_with fail;go_ret;refine⟨xx n,z,f,?_,c.C,c.a,c.b,c.c⟩;show p' (G ((n:Int) / 2))=_;rw[show xx n=(n:Int) / 2 by unfold xx;rw[aB a];omega]
 have b:((n:Int) % 2==0)=false:=by rw[b?];omega
 go_wp2_with fail;go_ret;refine⟨xx n,z,f,?_,c.C,c.a,c.b,c.c⟩;show p' (G (-((n:Int) / 2)-1))=_;rw[show xx n=-((n:Int) / 2)-1 by unfold xx;rw[aA a];omega]
def eJ(d a k:Nat)(s:z')(c:Bool)(w:u')(h:mE w d s a c)(g:a<=s.size)(y:s.size<=60000)(b:k<=100000):
  Cl 64 #[o' (B' (O d 0)),G k] w λe b=>∃(n z:Nat) (f:Bool),e=p' (G n)/\n<=k/\dz s a c (fH (k:Int)) n z f/\mE b d s z f/\ξ w b (B' d):=by
 have Y:=hid (r7 d a s c w h g y);clear h;go_enter func64,ntmps64;go_wp2_with fail;refine bK Y.o ?_;rintro e t ⟨n,z,f,rfl,K,o,Q,h⟩;by_cases R:n<=k
 ·have g:¬((k:Int)<n):=I
  have e:J (dz s a c (fH (k:Int)) n z f/\mE t d s z f/\ξ w t (B' d)):=by
   refine⟨⟨o.le,o.sz,?_⟩,Q,h⟩;unfold fH;rcases o.how with⟨C,b,N⟩|⟨C,b⟩
   ·exact aI ⟨C,b,by rw[N];simp only;rw[aB I]⟩
   refine aK ⟨C,?_⟩;rcases b with b|b
   ·exact aI b
   right;rw[b]
  clear o Q h;go_wp2_with fail;go_ret;refine⟨n,z,f,?_,R,e.a,e.b,e.B⟩;rfl
 have g:((k:Int)<n):=I
 have e:J (dz s a c (fH (k:Int)) 0 z true/\mE t d s z f/\ξ w t (B' d)):=by
  refine⟨⟨o.le,o.sz,aK ⟨rfl,?_⟩⟩,Q,h⟩;unfold fH;rcases o.how with⟨C,b,N⟩|⟨C,b⟩
  ·right;rw[N];simp only;rw[aA I]
  rcases b with b|b
  ·exact aI b
  right;rw[b]
 have E:=M Q;clear o Q h;go_wp2_with fail;go_ret;exact⟨0,z,true,rfl,I,e.a,aq e.b _,e.B.trans jm⟩
def PG(c a:Nat)(s:z')(j:Bool)(w:u')(h:mE w c s a j)(Y:a<=s.size)(y:s.size<=60000):
  Cl 177 (di c) w λe d=>∃(b:UInt8) (z:Nat) (f:Bool),e=p' (G b.toNat)/\dz s a j xI b z f/\mE d c s z f/\ξ w d (B' c):=by
 have d:=hid h;have E:=M h;clear h;by_cases L:a<s.size;rotate_left
 ·have i:(s.size:Int)<=(a:Int):=I;go_enter func177,ntmps177;go_wp2;go_quiet (fail);go_wp2;go_ret;refine⟨0,a,O',rfl,⟨I,I,aK ⟨rfl,aK ?_⟩⟩,aq (show(w.drewN _).1[c]?=_ from d.o) _,(iT (pG w _) _).trans jm⟩;have X:ζ s.1.1=s.size:=rfl;rw[I2 I];rfl
 have i:¬(s.size:Int)<=(a:Int):=I;have r:(a:Int)<(s.size:Int):=I;have b:=gV s[a];go_enter func177,ntmps177;go_wp2;go_quiet (fail);go_wp2;obtain⟨V,g⟩:=Ea (κ (w.drewN nq) (O c 1) (G ((a:Int)+1)));rw[<-g];have Q:d' V c #[m' s,G ((a:Int)+1),j' j] 124:=by rw[g];exact aq (show(w.drewN nq).1[c]?=_ from d.o) _
 have b:ξ w V (B' c):=by rw[g];exact(iT (pG w _) _).trans jm
 have c:=hid (A Q b);clear E;have E:=M Q;clear Q b g;go_quiet (fail);go_wp2;go_ret;refine⟨s[a],a+1,j,rfl,⟨I,I,?_⟩,c.a,iT c.A _⟩;cases j with
 |true=>exact aK ⟨rfl,aI rfl⟩
 |false=>refine aI ⟨rfl,rfl,?_⟩;have:=jC (xe a) L;rw[kH,lY,ej]at this;rw[this];rfl
