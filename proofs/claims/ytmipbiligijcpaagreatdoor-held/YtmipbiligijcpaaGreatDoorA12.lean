import Derived.Test.YtmipbiligijcpaaGreatDoorA11
import Derived.Test.YtmipbiligijcpaaGreatDoorA10
import Derived.Test.YtmipbiligijcpaaGreatDoorA09
namespace Go.Proofs.YtmipbiligijcpaaGreatDoor
set_option linter.all false
set_option maxHeartbeats 0
set_option maxRecDepth 99999
open Go.RowKit Go.Shelf Go.Proofs Go.Maps Tryz List open List renaming length->ζ,toArray->θ open _root_.Array renaming size->δ open World renaming setCell->κ,ownsRow->ρ,cell?->χ,grownBy->ξ,setCells->ψ open Value renaming ownBlock->φ open Value renaming slice->h',bool->i',agg->k',string->m',pointer->n',tuple->p' open Obj renaming cells->j' open Ending renaming returned->o' open Option renaming some->C',none->D' open Bool renaming true->P',false->Q'
variable {B Q a i k n x:Nat}{R:Int}{W w:t'}{p:Prop}
section
attribute [local go_sem] Oper.semAt_some
def AA(v:Vl):List A':=[G v.aO,G v.lo,G v.hi,i' v.bO,G v.first,G v.rank]
def dR(vs:List Vl):List A':=vs.flatMap AA
def yh{E:List Vl}{k:Nat}{v:Vl}(h:E[k]?=C' v):dR (E.take<|k+1)=dR (E.take k)++AA v:=by have X:=(aV.1 h).1;rw[cX X,(aV.1 h).2];simp[dR]
def UL(v:VV):Vl:=if v.any then⟨2,0,0,Q',0,0⟩ else⟨1,v.lo,0,Q',0,0⟩
def Ra(e:PE)(n:Nat):List Vl:=(range n).map λi=>UL<|e.at i
def UN(e:PE){n i:Nat}(h:i<n):(Ra e n)[i]?=C' (UL<|e.at i):=by simp[Ra,h]
def xq(e:PE)(n:Nat):ζ (Ra e n)=n:=by simp[Ra]
def Tj{W:t'}{B f e size n:Nat}{v:A'}{D:List A'}(h:ρ W B e size v n D)(c:f<=B):ρ W f e size v n D:=
 ⟨h.1,h.2.imp id λ⟨g,a,Y,C,b,N⟩=>⟨g,a,Y,C,br c b,N⟩⟩
def aaY{p:Prop}(h:p:=by
 go_roundw
 case rel=>
  refine⟨j+1,o,m,L,f',rfl,?_,?_⟩
  .rw[i.o,R];exact W.a
  exact((aq b.A X.a).alloc (aq b.A X.a).size _).grown W.A (by have:=(aq b.A X.a).size;simp;omega) λq e=>((bu b.a X.a).lt q e).1
 exact H'):p:=h
def Bc(e:PE)(n:Nat)(w:t')(K:n<=8):
  Cl 142 #[k'<|θ<|KC.aL e,G n] w λr f=>∃a c,r=o' (h' a n c)/\ρ f w.1.size 73 6 (h' a n c) n (dR<|Ra e n)/\Bl w f:=by
 obtain⟨N,S,D,P,b⟩:=cG zK;have d:J (_/\_/\_/\_):=⟨S,D,P,b⟩;clear S D P b;have f:(n:Int)<=8:=I;go_enter func142,ntmps142;go_upto_region 1 with fail
 refine oP (F:=Code.wp _ _ _ _) λh U=>?_;have f:=U.B;have s:=ſ f;clear f;go_wp2_with fail;go_loopw[5,12] (λr y wr=>∃(j:Nat)(a:u')(c:Nat),j<=n/\y=G j/\r=h' a j c/\J (ρ wr h.1.size 73 6 (h' a j c) j (dR<|(Ra e n).take j)/\Bl h wr)) (λ_ y _=>n-(intOf y).toNat)
 case atStart=>exact⟨0,D',0,bq _,rfl,rfl,cY _ _ _ _,aP _ _⟩
 obtain⟨j,a,c,f,rfl,rfl,b⟩:=hrel;by_cases L:j<n;rotate_left
 .have g:¬(j:Int)<n:=I;obtain rfl:j=n:=I;go_wp2_with fail;refine aC (v:=h' a j c) (by simp[results142,go_sem]) rfl ⟨a,c,rfl,?_,aq U.a b.A⟩;have f:=b.a;rw[b!<|by rw[xq];exact aD _]at f;exact Tj f (by rw[s.o];omega)
 have g:(j:Int)<n:=I;have f:=A<|aF b.A U.b;obtain⟨o,g⟩:=KC.iX e (i:=j) I;have t:χ wr (O w.1.size<|1+j*2)=C' (i' (e.at j).any):=by rw[f.1];exact(cz ..).trans o
 have Y:χ wr (O w.1.size<|1+j*2+1)=C' (G (e.at j).lo):=by rw[f.1];exact(cz ..).trans g
 have i:=ſ<|yh<|UN e L;clear f o g;go_upto_region 5 with fail
 refine oP (F:=Code.wp _ _ _ _) λT X=>?_;clear t Y;obtain⟨E,g⟩:=A X.b;have f:=ſ X.B;cases B:(e.at j).any with
 |true=>
  rw[B]at E;have R:UL (e.at j)=⟨2,0,0,Q',0,0⟩:=by simp[UL,B]
  go_wp2_with (at_builtin;refine iK _ rfl _ _ 71 rfl h.1.size 73 N (k' nF) 6 48 underlying71 d.a d.b d.c d.C rfl aj (h' a j c) j (dR<|(Ra e n).take j) rfl ((bu b.a X.a).alloc _) (O T.1.size 0) 1 1 (AA ⟨2,0,0,Q',0,0⟩) rfl rfl (GL<|bj T _) (by intro u C;simp only[AA,cO,g!,gC]at C;rcases C with rfl|rfl|rfl|rfl|rfl|rfl<;>rfl) (by simp only[maxLen];omega) I (by have:=(aq b.A X.a).size;simp;omega) ?_;intro p l k F _;obtain⟨o,m,rfl⟩:=aX k;have W:=ſ<|M k F;clear k F);exact aaY
 |false=>
  rw[B]at E;have R:UL (e.at j)=⟨1,(e.at j).lo,0,Q',0,0⟩:=by simp[UL,B]
  go_wp2_with (at_builtin;refine iK _ rfl _ _ 71 rfl h.1.size 73 N (k' nF) 6 48 underlying71 d.a d.b d.c d.C rfl aj (h' a j c) j (dR<|(Ra e n).take j) rfl ((bu b.a X.a).alloc _) (O T.1.size 0) 1 1 (AA ⟨1,(e.at j).lo,0,Q',0,0⟩) rfl rfl (GL<|bj T _) (by intro u C;simp only[AA,cO,g!,gC]at C;rcases C with rfl|rfl|rfl|rfl|rfl|rfl<;>rfl) (by simp only[maxLen];omega) I (by have:=(aq b.A X.a).size;simp;omega) ?_;intro p l k F _;obtain⟨o,m,rfl⟩:=aX k;have W:=ſ<|M k F;clear k F);exact aaY
end
section
variable {j g:Nat}{l:List Vl}{E:List A'}
attribute [local go_sem] Oper.semAt_some
def KF(old next:PE)(r:Int)(i:Nat)(v:Vl):Vl:=if (next.at i).any&&!(old.at i).any then⟨2,0,0,P',(old.at i).lo,r⟩ else v
def KG(old next:PE)(r:Int)(vs:List Vl)(j:Nat):List Vl:=vs.mapIdx λi v=>if i<j then KF old next r i v else v
def IU(old next:PE)(r:Int)(vs:List Vl):List Vl:=vs.mapIdx λi v=>KF old next r i v
def TB(c next:PE)(r:Int)(E:List Vl):KG c next r E 0=E:=by refine dQ λi=>?_;simp[KG]
def D7(c next:PE)(r:Int)(E:List Vl)(j:Nat):ζ (KG c next r E j)=ζ E:=by simp[KG]
def XS(c next:PE)(r:Int)(E:List Vl):KG c next r E (ζ E)=IU c next r E:=by
 refine dQ λi=>?_;simp only[KG,IU,getElem?_mapIdx];cases h:E[i]? with
 |none=>rfl
 |some v=>have:=(aV.1 h).1;simp[this]
def TC(c next:PE)(r:Int)(E:List Vl){v:Vl}(h:E[j]?=C' v):KG c next r E (j+1)=(KG c next r E j).set j (KF c next r j v):=by
 refine dQ λi=>?_;rw[eQ,D7];by_cases S:j=i
 .subst S;have:=(aV.1 h).1;rw[aB rfl,aB this];simp only[KG,getElem?_mapIdx,h,gD,aB<|Nat.lt_succ_self j]
 have:(i<j+1)=(i<j):=by simp;omega
 simp[KG,S,this]
def GH(c next:PE)(r:Int)(E:List Vl)(h:((next.at j).any&&!(c.at j).any)=Q'):KG c next r E (j+1)=KG c next r E j:=by
 refine dQ λi=>?_;by_cases S:i=j
 .subst S;have R:∀v,KF c next r i v=v:=λv=>by rw[KF,h];rfl
  simp[KG,R]
 have:(i<j+1)=(i<j):=by simp;omega
 simp[KG,this]
def p4(l:List Vl):ζ (dR l)=ζ l*6:=by
 induction l with
 |nil=>rfl
 |cons a l B=>simp only[dR,b9,aW,bR]at B|-;rw[B];simp[AA];omega
def uC(a b:List Vl):dR (a++b)=dR a++dR b:=by simp[dR]
def WO(v:Vl):∀u∈AA v,u.oneCell'=P':=by intro u C;simp only[AA,cO,g!,gC]at C;rcases C with rfl|rfl|rfl|rfl|rfl|rfl<;>rfl
abbrev L2(W:t')(g:Nat)(l:List Vl)(tl:List A'):Prop:=W.1[g]?=C' (j' (θ<|dR l++tl) 73 (0,0))
def L2.set(v:Vl)(h:L2 W g l E)(a:k<ζ l):L2 (ψ W g (k*6)<|AA v) g (l.set k v) E:=by
 have V:l=l.take k++l[k]::l.drop (k+1):=ak
 have u:dR l++E=dR (l.take k)++(AA l[k]++(dR (l.drop<|k+1)++E)):=by
  conv=>lhs;rw[V]
  rw[uC,df];exact cQ _<|df _ _ _
 have b:dR (l.set k v)++E=dR (l.take k)++(AA v++(dR (l.drop<|k+1)++E)):=by rw[xZ,aB a,uC,df];exact cQ _<|df _ _ _
 unfold L2 at h|-;rw[u]at h;rw[b];have X:ζ (dR<|l.take k)=k*6:=by rw[p4,dG,kj I]
 rw[<-X];exact wY (L:=AA l[k]) (E:=AA v) h rfl
def L2.there(h:L2 W g l E)(a:k<ζ l):W.there g (k*6) 6:=λj f=>by
 obtain⟨a,g⟩:=A h;have X:k*6+j<ζ (dR l++E):=by rw[aW,p4];omega
 refine⟨?_,g _⟩;rw[a,cz,aQ X];rfl
def tD{S:Nat->Prop}{w:t'}{b:Nat}(c:S b\/δ w.1<=b):∀{a:t'},Kx S w a->∀(o:Nat)(E:List A'),Kx S w (ψ a b o E)
 |_,h,_,[]=>h
 |_,h,o,v::r=>tD c (h.set c o v) (o+1) r
def aaX{p:Prop}(h:p:=by
 go_wp2_with fail;go_roundw
 case rel=>exact⟨j+1,L,f',by rw[p.o];exact d.a,d.A⟩
 exact H'):p:=h
def D8(e:u')(x g:Nat)(f:List A')(E:List Vl)(c next:PE)(r:Int)(w:t')(l:ζ E<=8)(i:dK r)(h:E≠[]->e=C' (O g 0)/\L2 w g E f):
  Cl 141 #[h' e (ζ E) x,k'<|θ<|KC.aL c,k'<|θ<|KC.aL next,G r] w λe i=>(∃v,e=o' v)/\(E≠[]->L2 i g (IU c next r E) f)/\Kx (λk=>k=g/\E≠[]) w i:=by
 have s:=ſ h;obtain⟨n,d⟩:=Ea<|ζ E;rw[<-d]at l|-;have K:=ſ d;clear d h;go_enter func141,ntmps141;go_upto_region 1 with fail
 refine å (F:=Code.wp _ _ _ _) λe U=>?_;have i:=ſ U.C;go_wp2_with fail;go_loopw[11] (λy wr=>∃(j:Nat),j<=n/\y=G j/\J ((E≠[]->L2 wr g (KG c next r E j) f)/\Kx (λk=>k=g/\E≠[]) e wr)) (λy _=>n-(intOf y).toNat)
 case atStart=>exact⟨0,bq _,rfl,λR=>by rw[TB];exact aF U.a (s.o R).2,vx⟩
 obtain⟨j,f,rfl,d⟩:=hrel;by_cases L:j<n;rotate_left
 .have b:¬(j:Int)<n:=I;obtain rfl:j=n:=I;go_wp2_with fail
  go_end0
  refine⟨⟨_,rfl⟩,λR=>?_,(Kx.of U.a).trans d.A⟩;have C:=d.a R;rw[K.o,XS]at C;exact C
 have b:(j:Int)<n:=I;have b:(j:Int)<8:=I;obtain⟨v,R⟩:=La (l:=E) (i:=j) (by rw[<-K.o];exact L);have z:E≠[]:=by rintro rfl;simp at R
 obtain⟨rfl,a⟩:=s.o z;have i:=À a;have b:=d.A.box U.b (by rintro⟨h,_⟩;omega);have f:=d.A.box U.c (by rintro⟨h,_⟩;omega);obtain⟨t,Y⟩:=KC.S1 b (i:=j) I;obtain⟨o,V⟩:=KC.S1 f (i:=j) I;have h:=ſ R;have T:=ſ<|d.a z;have e:=(d.a z).there (k:=j) (by rw[D7,<-K.o];exact L);clear b f R a;cases F:(next.at j).any with
 |false=>rw[F]at o;have p:=ſ<|GH c next r E (j:=j) (by simp[F]);exact aaX
 |true=>
  rw[F]at o;cases B:(c.at j).any with
  |true=>rw[B]at t;have p:=ſ<|GH c next r E (j:=j) (by simp[F,B]);exact aaX
  |false=>
   rw[B]at t;have p:=ſ<|TC c next r E h.o;have b:KF c next r j v=⟨2,0,0,P',(c.at j).lo,r⟩:=by simp[KF,F,B]
   go_upto_region 5 with fail
   go_upto_region 6 with(refine wpList_store_mid rfl 73 (.tmp 36) (.tmp 35) rfl g (j*6) (θ<|AA ⟨2,0,0,P',(c.at j).lo,r⟩) rfl rfl e H (all_oneCell_toArray<|WO _) ?_)
   have a:=ſ<|M (T.o.set ⟨2,0,0,P',(c.at j).lo,r⟩ (k:=j)<|by rw[D7,<-K.o];exact L)<|tD (.inl ⟨rfl,z⟩) d.A (j*6)<|AA ⟨2,0,0,P',(c.at j).lo,r⟩;generalize ψ wr g (j*6) (AA ⟨2,0,0,P',(c.at j).lo,r⟩)=U at a|-;clear t Y o V e T;simp only[Act.put];go_wp2_with fail;go_roundw
   case rel=>exact⟨j+1,L,f',λ_=>by rw[p.o,b];exact a.a,a.A⟩
   exact H'
end
section
variable {y:List BS}{f:Nat}{R:RS}{P:Pm}{p:Int}
def kq(rs:List<|List Int)(i f:Nat):Int:=(rs.getD i []).getD f 0
structure V7(P:Pm)(p:Int)(R:RS)(s:Nat×List (List Int))(hs:List BS)(wt:BS):Prop where
  rl:ζ s.2=ζ P.nd
  rows:∀r∈s.2,ζ r=68
  low:∀i f,f<128->bt (cv hs i) f=P'->f<P.facts p
  snd:∀i,i<ζ P.nd->bt wt i=Q'->Bf (eP (kg R (cv hs) i)<|cv hs i)=P'
  rk:∀i f,i<ζ P.nd->f<128->bt (cv hs i) f=P'->0<=kq s.2 i f/\kq s.2 i f<s.1/\P.rule p f i (λm=>bt (cv hs m) f&&decide (kq s.2 m f<kq s.2 i f))=P'
  iI:s.1+ë hs<=ζ P.nd*128
def NK(N i:Nat):cv (replicate N (0,0)) i=(0,0):=by rw[cv,cy,jy];split<;>rfl
def agp:dj (0,0)=[]:=by rw[vi,Jt];intro f _;rw[ji];simp
def XZ(N:Nat):ë (replicate N (0,0))=N*128:=by
 rw[ë,rO,agp];induction N with
 |zero=>rfl
 |succ n B=>rw[eW,lh,B];simp;omega
def LI{m:Nat}(h:bt (cv y m) f=P'):m<ζ y:=by
 rcases iL m (ζ y) with C|C
 .exact C
 rw[show cv y m=(0,0)by rw[cv,cy,b? C];rfl,ji]at h;cases h
def O1{b a:Nat->BS}(h:∀r,R[n]?=C' r->∀e∈r.2,b e.1=a e.1):kg R b n=kg R a n:=by
 unfold kg;cases a:R[n]? with
 |none=>rfl
 |some r=>simp only[Ï];congr 2;refine eJ λe l=>?_;rw[h r a e l]
def w6(h:Ar P p R)(X:∀i f,f<128->bt (cv y i) f=P'->f<P.facts p)(K:n<ζ P.nd)(Y:f<128):bt (kg R (cv y) n) f=(decide (f<P.facts p)&&P.rule p f n λm=>bt (cv y m) f):=
 wZ h (λm f C a=>by
  cases b:bt (cv y m) f with
  |false=>rfl
  |true=>have:=X m f a b;omega) K Y
def qz{z:BS}(F:x<ζ y)(i:Nat):cv (y.set x z) i=if x=i then z else cv y i:=m? y x i z (0,0) F
def F3{y:List (List Int)}{r:List Int}(F:x<ζ y)(i f:Nat):kq (y.set x r) i f=if x=i then r.getD f 0 else kq y i f:=by rw[kq,m? y x i r [] F];split<;>rfl
def ě{p:Prop}(h:p:=by
 refine g.snd i S ?_;rw[oM (lZ I) I,Ab I I]at B
 simpa[e]using B):p:=h
def snS(h:Ar P p R):SnS R (ζ P.nd) (SU R<|ζ P.nd) Ñ (V7 P p R) (0,replicate (ζ P.nd)<|replicate 68 0):=by
 have T:=h.ins.most;refine⟨?_,?_,?_⟩
 .refine⟨ak,λr t=>by rw[iM t];simp,λi f _ o=>?_,λi S o=>?_,λi f _ _ o=>?_,?_⟩
  .rw[NK,ji]at o;cases o
  .rw[wm _ _ I I]at o;simp at o;omega
  .rw[NK,ji]at o;cases o
  rw[XZ];simp
 .intro s y c x g u F o;have d:=u.low x F;refine⟨g.rl,g.rows,g.low,λi S B=>?_,g.rk,g.iI⟩;by_cases e:i=x
  .subst e;exact o
  exact ě
 intro s y c x g u F o;have d:=u.low x F;have q:x<ζ y:=by rw[u.len];exact d
 have w:x<ζ s.2:=by rw[g.rl];exact d
 have E:=fe u.each x;have k:=yx h.ins (fe u.each) x;have z:∀f,f<128->bt (kg R (cv y) x) f=P'->f<P.facts p:=λf Y o=>by rw[w6 h g.low d Y,aS]at o;simpa using o.1
 have b:=Np q E o;have j:∀f,f<128->(f∈dj (eP (e7 (cv y x)<|kg R (cv y) x)<|cv y x)↔bt (kg R (cv y) x) f=P'/\bt (cv y x) f=Q'):=λf Y=>by rw[fz pS,oM E Y,gT];cases bt (cv y x) f<;>cases bt (kg R (cv y) x) f<;>simp[Y]
 have l:∀f,f<P.facts p->f<ζ (s.2.getD x []):=λf Y=>by have C:=g.rows (s.2.getD x []) (by rw[cy,aQ w];exact e9 w);have L:=h.few;omega
 have D:∀i f,f<128->bt (cv y i) f=P'->kq (Ñ s x (cv y x)<|e7 (cv y x)<|kg R (cv y) x).2 i f=kq s.2 i f:=λi f Y a=>by
  show kq (s.2.set x _) i f=_;rw[F3 w];split
  .rename_i e;subst e;rw[yw _ _ _ _<|l f<|g.low _ f Y a,ax (λK=>by rw[((j f Y).1 K).2]at a;cases a)];rfl
  rfl
 have N:∀i f,bt (cv y i) f=P'->bt (cv (y.set x<|e7 (cv y x)<|kg R (cv y) x) i) f=P':=λi f a=>by
  rw[qz q];split
  .rename_i e;subst e;rw[gT,a];rfl
  exact a
 refine⟨by simp[Ñ];exact g.rl,λr t=>?_,λi f Y a=>?_,λi S B=>?_,λi f S Y a=>?_,?_⟩
 .rcases hU t with t|rfl
  .exact g.rows r t
  rw[sS];exact g.rows _ (by rw[cy,aQ w];exact e9 w)
 .rw[qz q]at a;split at a
  .rw[gT,eS]at a;rcases a with a|a
   .exact g.low x f Y a
   exact z f Y a
  exact g.low i f Y a
 .have t:=DP (R:=R) T x;rw[gT,x5,oM (lZ I) I,Ab I I,ER _ _ _ _ I (λm f Y=>?_) _ I]at B;rotate_left
  .rw[cy,bH]at Y;cases t:R[m]? with
   |none=>rw[t]at Y;simp at Y
   |some r=>rw[t]at Y;simp at Y;obtain⟨b,o⟩:=Y;exact((h.ins.each r<|aK t).2.2 _ o).2
  have b:kg R (cv<|y.set x<|e7 (cv y x)<|kg R (cv y) x) i=kg R (cv y) i:=by
   refine O1 λr t e o=>?_;rw[qz q,ax];intro c;have L:=B.2;rw[show decide (i<ζ P.nd)=P' by simpa using S,eV]at L;have:x∈(R.map λr=>r.2.map (·.1)).getD i []:=by rw[cy,bH,t];exact bp.2 ⟨e,o,c.symm⟩
   simp at L;exact L<|J' this
  rw[b];by_cases e:x=i
  .subst e;rw[qz q,aB rfl];exact(mS<|gG E k).2 λf _ a=>by rw[gT,a];simp
  rw[qz q,ax e];refine g.snd i S ?_;have C:=B.1;simpa[show ¬i=x from λb=>e b.symm]using C
 .have v:∀r:Int,∀m,(bt (cv y m) f&&decide (kq s.2 m f<r))=P'->(bt (cv (y.set x<|e7 (cv y x)<|kg R (cv y) x) m) f&&decide (kq (Ñ s x (cv y x)<|e7 (cv y x)<|kg R (cv y) x).2 m f<r))=P':=λr m V=>by rw[aS]at V|-;rw[D m f Y V.1];exact⟨N m f V.1,V.2⟩
  cases Q:bt (cv y i) f with
  |true=>obtain⟨C,L,N⟩:=g.rk i f S Y Q;rw[D i f Y Q];exact⟨C,by show _<((s.1+1:Nat):Int);omega,uF (v _) N⟩
  |false=>
   rw[qz q]at a;split at a;rotate_left
   .rw[Q]at a;cases a
   rename_i e;subst e;rw[gT,Q,km]at a;have t:kq (Ñ s x (cv y x)<|e7 (cv y x)<|kg R (cv y) x).2 x f=s.1:=by show kq (s.2.set x _) x f=_;rw[F3 w,aB rfl,yw _ _ _ _<|l f<|z f Y a,aB<|(j f Y).2 ⟨a,Q⟩]
   rw[t];refine⟨I,by show _<((s.1+1:Nat):Int);omega,uF (th:=λm=>bt (cv y m) f) (λm V=>v s.1 m ?_) ?_⟩
   .rw[aS,V];exact⟨rfl,by simpa using(g.rk m f (by have:=LI V;rwa[u.len]at this) Y V).2.1⟩
   rw[w6 h g.low d Y,aS]at a;exact a.2
 show s.1+1+_<=_;have:=g.iI;omega
end
section
variable {X W9:t'}{e size:Nat}{v:A'}{D:List A'}{q b:Option Nat}{l r:List NE}{x:NE}
structure JF(N nb i:Nat)(U:t')(l:List NE)(cur:NE)(W:t'):Prop where
  fE:W.1[nb]?=C' (j' (θ<|jq<|l++cur::replicate (N-(i+1)) Nh) 96 (0,0))
  own:Av W U.1.size cur
  Rc:φ cur.fv=D'\/φ cur.fv≠φ cur.rv
  kx:Kx (λk=>k=nb) U W
def td(h:ρ X B e size v n D)(g:ξ X W9 q)(Q:φ v=D'\/φ v≠q):ρ W9 B e size v n D:=by
 refine⟨h.1,?_⟩;rcases h.2 with a|⟨q,b,cur,C,f,c,d⟩
 .exact aI a
 refine aH ⟨q,b,cur,C,f,(g.block q (À c) λe=>?_).trans c,d⟩;rw[C]at Q;rcases Q with Q|Q
 .simp[Value.ownBlock]at Q
 exact Q (by rw[<-e];rfl)
def nO{b o t:Nat}{u:A'}{L:Array A'}(h:ρ W B e size v n D)(c:W.1[b]?=C' (cL L t))(a:e≠t):ρ (κ W (O b o) u) B e size v n D:=by
 have D:=lX h c a;refine⟨h.1,?_⟩;rcases h.2 with a|⟨q,b,cur,C,c,e,d⟩
 .exact aI a
 refine aH ⟨q,b,cur,C,c,?_,d⟩;rw[bh _ _ _ _ (by rintro rfl;exact D<|by rw[C];rfl)];exact e
def Hw{W:t'}{g:A'}(h:ρ X B e size v n D)(Q:φ v=D'\/φ v≠q)(K:φ g=q\/φ g=C' X.1.size):φ v=D'\/φ v≠φ g:=by
 rcases K with K|K
 .rw[K];exact Q
 rcases Q with Q|Q
 .exact aI Q
 refine aH λe=>?_;rw[K]at e;have:=(h.lt _ e).2;omega
def KL{a:Option Nat}(h:a=D'\/a≠b):b=D'\/b≠a:=by
 rcases h with rfl|h
 .cases b with
  |none=>exact aI rfl
  |some k=>exact aH ak
 exact aH λe=>h e.symm
def at_len(h:ζ l=i):(l++x::r)[i]?=C' x:=by subst h;simp
def MB{y:NE}(h:ζ l=i):(l++x::r).set i y=l++y::r:=by subst h;simp
def Nv{U T:t'}{nb:Nat}(h:Kx (λk=>k=nb) U W)(a:Bl W T)(g:ξ T W9 b)(X:∀q,q<δ U.1->some q≠b):Kx (λk=>k=nb) U W9:=
 ⟨(g.os.trans a.os).trans h.os,(g.tape.trans a.tape).trans h.tape,(g.output.trans a.output).trans h.output,br h.size<|br a.size g.size,λk b K=>((g.block k (ep b<|br h.size a.size)<|X k b).trans<|a.block k<|ep b h.size).trans<|h.keep k b K⟩
section
variable {N nb i:Nat}{U W T W9:t'}{l:List NE}{cur:NE}{a9:u'}{c9:Nat}
def JF.low(h:JF N nb i U l cur W){q:Nat}(a:ρ T U.1.size 3 1 v n D)(b:q<δ U.1):some q≠φ v:=λe=>by have:=(a.lt q e.symm).1;omega
def JF.facts(h:JF N nb i U l cur W)(X:ζ l=i)(e:Bl W T)(f:Nat)(F:ξ T W9<|φ cur.fv)(k:ρ W9 U.1.size 3 1 (h' a9 (ζ cur.fs+1) c9) (ζ cur.fs+1)<|cur.fs.map Q7++[Q7 f])(K:φ (h' a9 (ζ cur.fs+1) c9)=φ cur.fv\/φ (h' a9 (ζ cur.fs+1) c9)=C' T.1.size)(b:nb<δ U.1):
  JF N nb i U l ⟨a9,c9,cur.fs++[f],cur.ra,cur.rc,cur.rs⟩ (κ W9 (O nb<|i*5)<|h' a9 (ζ cur.fs+1) c9):=by
 have c:=bu h.own.f e;have a:=bu h.own.r e;have w:W9.1[nb]?=_:=(F.block nb (À<|aF e h.fE)<|h.low c b).trans<|aF e h.fE;have d:=td a F<|KL h.Rc;refine⟨?_,⟨?_,nO d w aj⟩,?_,?_⟩
 .rw[aw w,cj];congr 3;have:=uT (l++cur::replicate (N-(i+1)) Nh) i cur ⟨a9,c9,cur.fs++[f],cur.ra,cur.rc,cur.rs⟩ 0 (h' a9 (ζ cur.fs+1) c9) (at_len X) I (by simp[Ng]);rwa[MB X]at this
 .have:=nO (o:=i*5) (u:=h' a9 (ζ cur.fs+1) c9) k w aj;simpa[NE.fv]using this
 .have:=KL<|Hw (W:=W) a (KL h.Rc) K;simpa[NE.fv,NE.rv]using this
 exact pJ (Nv h.kx e F λq a=>h.low c a) _ _
def JF.a!(h:JF N nb i U l cur W)(X:ζ l=i)(e:Bl W T)(r:Int)(F:ξ T W9<|φ cur.rv)(k:ρ W9 U.1.size 3 1 (h' a9 (ζ cur.rs+1) c9) (ζ cur.rs+1)<|cur.rs.map G++[G r])(K:φ (h' a9 (ζ cur.rs+1) c9)=φ cur.rv\/φ (h' a9 (ζ cur.rs+1) c9)=C' T.1.size)(b:nb<δ U.1):
  JF N nb i U l ⟨cur.fa,cur.fc,cur.fs,a9,c9,cur.rs++[r]⟩ (κ W9 (O nb<|i*5+1)<|h' a9 (ζ cur.rs+1) c9):=by
 have c:=bu h.own.f e;have a:=bu h.own.r e;have w:W9.1[nb]?=_:=(F.block nb (À<|aF e h.fE)<|h.low a b).trans<|aF e h.fE;have d:=td c F h.Rc;refine⟨?_,⟨nO d w aj,?_⟩,?_,?_⟩
 .rw[aw w,cj];congr 3;have:=uT (l++cur::replicate (N-(i+1)) Nh) i cur ⟨cur.fa,cur.fc,cur.fs,a9,c9,cur.rs++[r]⟩ 1 (h' a9 (ζ cur.rs+1) c9) (at_len X) I (by simp[Ng]);rwa[MB X]at this
 .have:=nO (o:=i*5+1) (u:=h' a9 (ζ cur.rs+1) c9) k w aj;simpa[NE.rv]using this
 .have:=Hw (W:=W) c h.Rc K;simpa[NE.fv,NE.rv]using this
 exact pJ (Nv h.kx e F λq b=>h.low a b) _ _
def JF.Tf{p:List NE->NE->Prop}{β:Type}{q:β->NE->Prop}:OwnFrom U.1.size λ(s:β) W=>∃cur,JF N nb i U l cur W/\q s cur:=by
 rintro s a B d ⟨cur,h,r⟩ b m
 have Q:∀{v:A'} {n:Nat} {D:List A'},ρ a U.1.size 3 1 v n D->φ v=D'\/φ v≠d:=fun {v n D} s=>by
  cases R:φ v with
  |none=>exact aI rfl
  |some k=>refine aH λe=>?_;obtain⟨_,o,C,j⟩:=m k e.symm;obtain⟨c,f,c⟩:=eZ s k R;rw[c]at C;cases C;cases j
 have F:Kx (λk=>d=C' k) a B:=⟨b.os,b.tape,b.output,b.size,λk g K=>b.block k g λe=>K e.symm⟩;refine⟨cur,⟨F.box h.fE λe=>?_,⟨td h.own.f b<|Q h.own.f,td h.own.r b<|Q h.own.r⟩,h.Rc,?_⟩,r⟩
 .obtain⟨_,o,C,j⟩:=m nb e;rw[h.fE]at C;cases C;cases j
 exact⟨b.os.trans h.kx.os,b.tape.trans h.kx.tape,b.output.trans h.kx.output,br h.kx.size b.size,λk g K=>(b.block k (ep g h.kx.size) λe=>L'<|(m k e.symm).1).trans<|h.kx.keep k g K⟩
end
end
section
variable {W':t'}{m N c:Nat}{a:u'}{rR E:List Vl}
structure VN where
  rd:Bool
  rk:Int
  va:u'
  vc:Nat
  g:Nat
  tl:List A'
  vs:List Vl
def ñ:VN:=⟨Q',0,D',0,0,[],[]⟩
def sN(e:VN):List A':=[h' D' 0 0,h' D' 0 0,i' e.rd,G e.rk,h' e.va (ζ e.vs) e.vc]
def eD(l:List VN):List A':=l.flatMap sN
def Mi(e:VN):Nd:=⟨[],[],e.rd,e.rk,e.vs⟩
def pZ(a b:List VN):eD (a++b)=eD a++eD b:=by simp[eD]
def Bx(l:List VN):ζ (eD l)=ζ l*5:=by
 induction l with
 |nil=>rfl
 |cons a l B=>simp only[eD,b9,aW,bR]at B|-;rw[B];simp[sN];omega
def yf:∀(l:List VN)(k:Nat)(e:VN)(j:Nat),l[k]?=C' e->j<5->(eD l)[k*5+j]?=(sN e)[j]?
 |[],k,e,j,h,_=>by simp at h
 |a::q,0,e,j,h,hj=>by simp at h;subst h;simp only[eD,b9,gN,bW];rw[iC<|by simp[sN];omega]
 |a::q,k+1,e,j,h,hj=>by have B:=yf q k e j (J' h) hj;simp only[eD,b9]at B|-;rw[fh<|by simp[sN];omega,<-B];congr 1;simp[sN];omega
def WM(e:VN):∀u∈sN e,u.oneCell'=P':=by intro u C;simp only[sN,cO,g!,gC]at C;rcases C with rfl|rfl|rfl|rfl|rfl<;>rfl
def YU(n:Nat):(replicate n [h' D' 0 0,h' D' 0 0,i' Q',G 0,h' D' 0 0]).flatten=eD (replicate n ñ):=by exact Ĝ
def OA{l:List VN}(e:VN)(h:W.1[m]?=C' (j' (θ<|eD l) 96 (0,0)))(a:k<ζ l):(ψ W m (k*5)<|sN e).1[m]?=C' (j' (θ<|eD<|l.set k e) 96 (0,0)):=by
 have V:l=l.take k++l[k]::l.drop (k+1):=ak
 have u:eD l=eD (l.take k)++(sN l[k]++eD (l.drop<|k+1)):=by
  conv=>lhs;rw[V]
  rw[pZ];rfl
 have b:eD (l.set k e)=eD (l.take k)++(sN e++eD (l.drop<|k+1)):=by rw[xZ,aB a,pZ];rfl
 rw[u]at h;rw[b];have X:ζ (eD<|l.take k)=k*5:=by rw[Bx,dG,kj I]
 rw[<-X];exact wY (L:=sN l[k]) (E:=sN e) h rfl
def vH{l:List VN}(h:W.1[m]?=C' (j' (θ<|eD l) 96 (0,0)))(a:k<ζ l):W.there m (k*5) 5:=λj f=>by
 obtain⟨E,g⟩:=A h;have X:k*5+j<ζ (eD l):=by rw[Bx];omega
 refine⟨?_,g _⟩;rw[E,cz,aQ X];rfl
structure wC(W:t')(B:Nat)(e:VN):Prop where
  row:e.vs≠[]->e.va=C' (O e.g 0)/\B<=e.g/\L2 W e.g e.vs e.tl
  non:e.va=D'->e.vc=0
structure AG(nb B N:Nat)(l:List VN)(W:t'):Prop where
  fE:W.1[nb]?=C' (j' (θ<|eD l) 96 (0,0))
  len:ζ l=N
  own:∀e∈l,wC W B e
  Rc:∀(i j:Nat)(e f:VN),l[i]?=C' e->l[j]?=C' f->i≠j->e.vs≠[]->f.vs≠[]->e.g≠f.g
def wC.keep{e:VN}(h:wC W B e)(a:∀k o,W.1[k]?=C' o->NF o/\B<=k->k=e.g->W'.1[k]?=C' o):wC W' B e:=
 ⟨λR=>⟨(h.row R).1,(h.row R).2.1,a _ _ (h.row R).2.2 ⟨⟨_,_,rfl⟩,(h.row R).2.1⟩ rfl⟩,h.non⟩
def AG.keep{l:List VN}(h:AG m B N l W)(c:∀k o,W.1[k]?=C' o->k=m\/NF o/\B<=k->W'.1[k]?=C' o):AG m B N l W':=
 ⟨c _ _ h.fE<|aI rfl,h.len,λe l=>(h.own e l).keep λk o a b _=>c k o a<|aH b,h.Rc⟩
def AG.below{l:List VN}{a:t'}(h:AG m B N l W)(b:Bl W a):AG m B N l a:=h.keep λ_ _ e _=>aF b e
def AG.low{l:List VN}(h:AG m B N l W){i:Nat}{e:VN}(a:l[i]?=C' e)(R:e.vs≠[]):e.g<δ W.1:=À ((h.own e<|aK a).row R).2.2
def JC{l:List VN}{e:VN}(a:l[x]?=C' e)(X:ζ rR=ζ e.vs):eD (l.set x {e with vs:=rR})=eD l:=by
 have F:=(aV.1 a).1;have V:l=l.take x++e::l.drop (x+1):=by have:=(aV.1 a).2;rw[<-this];simp
 rw[xZ,aB F,pZ]
 conv=>rhs;rw[V,pZ]
 congr 1;simp[eD,sN,X]
def AG.note{l:List VN}{e:VN}{u:t'}(h:AG m B N l W)(r:l[x]?=C' e)(X:ζ rR=ζ e.vs)(y:e.vs≠[]->L2 u e.g rR e.tl)(v:Kx (λk=>k=e.g/\e.vs≠[]) W u):AG m B N (l.set x {e with vs:=rR}) u:=by
 have F:=(aV.1 r).1;have z:rR≠[]↔e.vs≠[]:=by rw[<-L4,<-L4,X]
 have c:=h.own e<|aK r
 have o:∀i f,(l.set x {e with vs:=rR})[i]?=C' f->(i=x/\f={e with vs:=rR})\/(i≠x/\l[i]?=C' f):=λi f Y=>by
  rw[eQ]at Y;by_cases S:x=i
  .rw[aB S,aB F]at Y;exact aI ⟨S.symm,(dW Y).symm⟩
  rw[ax S]at Y;exact aH ⟨λe=>S e.symm,Y⟩
 refine⟨?_,by rw[jn];exact h.len,λf Y=>?_,λi j a b D w t g p=>?_⟩
 .rw[JC r X];refine v.box h.fE λ⟨V,R⟩=>?_;have:=(c.row R).2.2;rw[<-V]at this;unfold L2 at this;rw[h.fE]at this;exact absurd (eU<|dW this).2.1 aj
 .obtain⟨i,S⟩:=dN.1 Y;rcases o i f S with⟨_,rfl⟩|⟨C,q⟩
  .exact⟨λR=>⟨(c.row<|z.1 R).1,(c.row<|z.1 R).2.1,y<|z.1 R⟩,c.non⟩
  refine⟨λR=>?_,(h.own f<|aK q).non⟩;have s:=(h.own f<|aK q).row R;exact⟨s.1,s.2.1,v.box s.2.2 λ⟨d,l⟩=>h.Rc i x f e q r C R l d⟩
 rcases o i a D with⟨rfl,rfl⟩|⟨C,q⟩<;>rcases o j b w with⟨rfl,rfl⟩|⟨s,d⟩
 .exact absurd rfl t
 .exact h.Rc _ _ e b r d t (z.1 g) p
 .exact h.Rc _ _ a e q r t g<|z.1 p
 exact h.Rc i j a b q d t g p
def Oz(h:ρ W B 73 6 (h' a n c) n<|dR E)(K:ζ E=n)(rk:Int)(b:Bool):∃e:VN,e.va=a/\e.vc=c/\e.vs=E/\e.rd=b/\e.rk=rk/\wC W B e:=by
 rcases h.2 with⟨R,D⟩|⟨g,d,Y,R,C,i,N,d,l,j⟩
 .simp at R;subst D;have:=fg.1 K;subst this;exact⟨⟨b,rk,a,c,0,[],[]⟩,rfl,rfl,rfl,rfl,rfl,⟨λh=>absurd rfl h,λ_=>J' R.2⟩⟩
 simp at R;obtain⟨rfl,rfl⟩:=R;by_cases f:E=[]
 .exact⟨⟨b,rk,C'<|O g 0,c,g,[],E⟩,rfl,rfl,rfl,rfl,rfl,⟨λh=>absurd f h,λh=>by cases h⟩⟩
 refine⟨⟨b,rk,C'<|O g 0,c,g,Y.toList.drop<|n*6,E⟩,rfl,rfl,rfl,rfl,rfl,⟨λ_=>⟨rfl,C,?_⟩,λh=>by cases h⟩⟩;unfold L2;show W.1[g]?=C' (j' (θ<|dR E++Y.toList.drop (n*6)) 73 (0,0));rw[i,<-j,xY]
def AG.first{l:List VN}{rk:Int}{rd:Bool}(h:AG m B N l W)(F:x<N)(u:ρ w W.1.size 73 6 (h' a n c) n<|dR E)(K:ζ E=n)(k:Below W.1.size W w)(v:B<=δ W.1):
  ∃e:VN,sN e=[h' D' 0 0,h' D' 0 0,i' rd,G rk,h' a n c]/\Mi e=⟨[],[],rd,rk,E⟩/\AG m B N (l.set x e) (ψ w m (x*5)<|sN e):=by
 obtain⟨e,rfl,rfl,rfl,rfl,rfl,r⟩:=Oz u K rk rd;have s:=h.below k;have y:x<ζ l:=by rw[h.len];exact F
 have p:∀i f,(l.set x e)[i]?=C' f->(i=x/\f=e)\/(i≠x/\l[i]?=C' f):=λi f Y=>by
  rw[eQ]at Y;by_cases S:x=i
  .rw[aB S,aB y]at Y;exact aI ⟨S.symm,(dW Y).symm⟩
  rw[ax S]at Y;exact aH ⟨λe=>S e.symm,Y⟩
 have z:∀f:VN,wC w B f->wC (ψ w m (x*5)<|sN e) B f:=λf Y=>Y.keep λk o u L _=>by
  rw[dC _ _ _ _ _ λP=>?_]
  .exact u
  subst P;rw[s.fE]at u;obtain⟨⟨c,f,R⟩,_⟩:=L;rw[R]at u;exact absurd (eU<|dW u).2.1 aj
 have C:wC w B e:=⟨λR=>⟨(r.row R).1,br v (r.row R).2.1,(r.row R).2.2⟩,r.non⟩;refine⟨e,by simp[sN,K],by simp[Mi],OA e s.fE y,by rw[jn];exact h.len,λf Y=>?_,λi j a b Q D t g q=>?_⟩
 .obtain⟨i,S⟩:=dN.1 Y;rcases p i f S with⟨_,rfl⟩|⟨_,d⟩
  .exact z _ C
  exact z f<|s.own f<|aK d
 rcases p i a Q with⟨rfl,rfl⟩|⟨U,d⟩<;>rcases p j b D with⟨rfl,rfl⟩|⟨T,p⟩
 .exact absurd rfl t
 .have:=h.low p q;have:=(r.row g).2.1;omega
 .have:=h.low d g;have:=(r.row q).2.1;omega
 exact h.Rc i j a b d p t g q
def WQ{g:Nat}{l:List Vl}{E:List A'}(h:L2 W g l E):jj W (C'<|O g 0) l:=by
 intro j v f;have r:=(aV.1 f).1
 have V:∀k,k<6->χ W (O g<|0+j*6+k)=(AA v)[k]?:=λk a=>by
  rw[(A h).1,cz,bW,iC<|by rw[p4];omega];have u:l=l.take j++v::l.drop (j+1):=by have:=(aV.1 f).2;rw[<-this];simp
  have a:ζ (dR<|l.take j)=j*6:=by rw[p4,dG,kj I]
  rw[u,uC,fh I,a,Js];show(AA v++dR _)[k]?=_;rw[iC<|by simp[AA];omega]
 exact⟨g,0,rfl,V 0 I,V 1 I,V 2 I,V 3 I,V 4 I,V 5 I⟩
def AG.nodes{l:List VN}(h:AG m B N l W):bX W (C'<|O m 0) (l.map Mi):=by
 intro j n f;rw[bH]at f;cases a:l[j]? with
 |none=>rw[a]at f;cases f
 |some e=>
  rw[a]at f;simp at f;subst f;have C:=h.own e<|aK a;have T:∀k,k<5->χ W (O m<|0+j*5+k)=(sN e)[k]?:=λk b=>by rw[(A h.fE).1,cz,bW,yf l j e k a b]
  refine⟨m,0,D',D',e.va,0,0,e.vc,rfl,T 0 I,T 1 I,T 2 I,T 3 I,T 4 I,⟨λj v h=>by simp[Mi]at h,λj v h=>by simp[Mi]at h,λj v f=>?_,λ_=>rfl,λ_=>rfl,C.non⟩⟩;have z:e.vs≠[]:=by rintro D;simp[Mi,D]at f
  obtain⟨a,_,N⟩:=C.row z;rw[a];exact WQ N j v f
def AG.fr{B':Nat}{l:List VN}(h:AG m B N l W)(v:B'<=B)(K:B'<=m):jX B' W m (l.map Mi):=λ_ a=>
 (h.keep λk o e y=>by rcases y with rfl|y;(· exact(a _ K<|À e).trans e);exact(a k I<|À e).trans e).nodes
def jX.set{b o:Nat}{v:List Nd}{E:List A'}(h:jX B w m v)(a:b<B):bX (ψ w b o E) (C'<|O m 0) v:=h _ λ_ C _=>dC _ _ _ _ _ I
end
section
attribute [local go_sem] Oper.semAt_some
structure CkC(xb cb gb nb B N nv:Nat)(pv:A')(s:Nat×List Nd)(W:t'):Prop where
  c:W.1[cb]?=C' (iN s.1)
  x:W.1[xb]?=C' (j' (kL nb N) 46 (0,0))
  p:W.1[gb]?=C' (j' #[pv,G nv] 86 (0,0))
  l:∃l,AG nb B N l W/\l.map Mi=s.2
abbrev Wt(xb cb gb nb B:Nat)(k:Nat)(o:Obj):Prop:=k=cb\/k=xb\/k=nb\/k=gb\/NF o/\B<=k
def CkC.keep{u a c m B N Q:Nat}{d:A'}{s:Nat×List Nd}{W W':t'}(h:CkC u a c m B N Q d s W)(b:∀k o,W.1[k]?=C' o->Wt u a c m B k o->W'.1[k]?=C' o):CkC u a c m B N Q d s W':=
 ⟨b _ _ h.c<|aI rfl,b _ _ h.x<|aH<|aI rfl,b _ _ h.p<|aH<|aH<|aH<|aI rfl,by obtain⟨l,C,a⟩:=h.l;exact⟨l,C.keep λk o e y=>b k o e (by rcases y with y|y;(· exact aH<|aH<|aI y);exact aH<|aH<|aH<|aH y),a⟩⟩
def qR:Nd:=⟨[],[],Q',0,[]⟩
def PI(nv:Nat)(s:Nat×List Nd)(x:Nat)(old next:PE):Nat×List Nd:=
 (s.1+1,s.2.set x<|if old.r then⟨[],[],(s.2.getD x qR).reached,(s.2.getD x qR).rank,IU old next (s.1:Int) (s.2.getD x qR).aG⟩ else⟨[],[],P',(s.1:Int),Ra next nv⟩)
def ā{F:t'->Prop}{w:t'}{a b c:Obj}(h:∀V,J (Bl w V/\V.1[δ w.1]?=C' a/\V.1[δ w.1+1]?=C' b/\V.1[δ w.1+1+1]?=C' c/\δ V.1=δ w.1+1+1+1)->F V):F (((w.alloc a).alloc b).alloc c):=
 h _ ⟨aq (vu w a b) aY,aF aY (bP w a b).1,aF aY (bP w a b).2,by have:=bj ((w.alloc a).alloc b) c;simpa using this,ak⟩
def õ{p:Prop}(h:p:=by
 obtain⟨S,Q⟩:=A I8.b;go_upto_region 5 with fail
 have hz:=HZ.o;have d:=À H0.a.x;have d:=À H0.a.p;have d:J ((κ U (O cb 0)<|G<|(s.1:Int)+1).1[cb]?=C' (j' #[G ((s.1+1:Nat):Int)] 3 (0,0))/\(∀k,k≠cb->(κ U (O cb 0)<|G<|(s.1:Int)+1).1[k]?=U.1[k]?)/\Ky (Wt xb cb gb nb B) w (κ U (O cb 0)<|G<|(s.1:Int)+1)):=⟨by rw[aw I8.b];rfl,λk hk=>bh _ _ _ _ hk,ID.o.set (λ_ _=>aI rfl) _ _⟩;generalize κ U (O cb 0) (G<|(s.1:Int)+1)=i at d|-;have P:=(d.b _ I).trans I8.e;have y:=(d.b _ I).trans<|I8.F.trans HV.d;have hr:=bf P;have P:=b5 (n:=17) y rfl;clear S Q;go_wp2_with (first|(refine wpList_load_mid rfl KC.bN (.tmp 8) rfl (δ w.1+1) 0 rfl (KC.aL next) _ hr KC.fX rfl H ?_)|(refine wpList_store_mid rfl KC.bN (.tmp 9) (.tmp 32) rfl (δ w.1+1+1) 0 (θ<|KC.aL next) rfl rfl P H (KC.bn _) ?_));have P:=cm (cs:=KC.qd) y (vs:=KC.aL next) rfl;have hL:=run_loadVar_mid (P:=Tryz.prog) (ψ i (δ w.1+1+1) 0<|KC.aL next) (δ w.1+1+1) 0 KC.bN (KC.aL next) _ (bf P) KC.fX rfl H;have ho:∀k,k≠cb->k≠δ w.1+1+1->(ψ i (δ w.1+1+1) 0<|KC.aL next).1[k]?=U.1[k]?:=λk a b=>(dC _ _ _ _ _ b).trans<|d.b k a;refine aC (v:=k'<|θ<|KC.aL next) (by simp[results,results140,hL,Act.put,asAddr]) rfl ⟨rfl,⟨(dC _ _ _ _ _ I).trans d.a,(ho _ (λh=>hN1 h.symm) I).trans I8.a,(ho _ (λh=>hN2 h.symm) I).trans I8.c,l2,fi.o.keep λk o h1 h2=>?_,ff.o⟩,tC d.B (λo h=>absurd (À h) I) _ _⟩;rcases h2 with rfl|⟨⟨c1,Q,h2⟩,_⟩
 .exact(ho _ (λh=>Is h.symm) I).trans h1
 refine(ho k (λh=>?_) λh=>?_).trans h1
 .rw[h,I8.b,h2]at h1;exact absurd (eU<|dW h1).2.1 aj
 rw[h,I8.F,HV.d,h2]at h1
 exact absurd (eU<|dW h1).2.1 aj):p:=h
def Lr(xb cb gb nb B N f:Nat)(pv:A')(s:Nat×List Nd)(x:Nat)(old next:PE)(w:t')(m:CkC xb cb gb nb B N f pv s w)(F:x<N)(g:N<=60)(R:f<=8)(t:ζ (s.2.getD x qR).aG<=8)(g:s.1<100000)(g:B<=δ w.1):
  Cl 140 #[G x,k'<|θ<|KC.aL old,k'<|θ<|KC.aL next,n'<|C'<|O xb 0,n'<|C'<|O cb 0,n'<|C'<|O gb 0] w λe g=>e=o' (k'<|θ<|KC.aL next)/\CkC xb cb gb nb B N f pv (PI f s x old next) g/\Ky (Wt xb cb gb nb B) w g:=by
 obtain⟨l,hL,C⟩:=m.l;obtain⟨e,L⟩:=La (l:=l) (i:=x) (by rw[hL.len];exact F);have D:s.2[x]?=C' (Mi e):=by rw[<-C,bH,L];rfl
 have u:s.2.getD x qR=Mi e:=by rw[cy,D];rfl
 rw[u]at t;have H0:=ſ<|M m<|M hL<|M C<|M L u;have Is:cb≠nb:=λh=>by have h1:=m.c;have h2:=hL.fE;rw[<-h,h1]at h2;exact absurd (eU<|dW h2).2.1 aj
 have hN1:cb≠xb:=λh=>by have h1:=m.c;have h2:=m.x;rw[<-h,h1]at h2;exact absurd (eU<|dW h2).2.1 aj
 have hN2:cb≠gb:=λh=>by have h1:=m.c;have h2:=m.p;rw[<-h,h1]at h2;exact absurd (eU<|dW h2).2.1 aj
 have hN3:nb≠xb:=λh=>by have h1:=hL.fE;have h2:=m.x;rw[<-h,h1]at h2;exact absurd (eU<|dW h2).2.1 aj
 have hN4:nb≠gb:=λh=>by have h1:=hL.fE;have h2:=m.p;rw[<-h,h1]at h2;exact absurd (eU<|dW h2).2.1 aj
 have z:=À m.c;have r:=À hL.fE;have r:(x:Int)<N:=I;have r:(s.1:Int)<100000:=I;have X:J (∀W,Cl 142 #[k'<|θ<|KC.aL next,G f] W λr g=>∃a c,r=o' (h' a f c)/\ρ g W.1.size 73 6 (h' a f c) f (dR<|Ra next f)/\Bl W g):=λW=>Bc next f W R
 have z:J (∀W,AG nb B N l W->Cl 141 #[h' e.va (ζ e.vs) e.vc,k'<|θ<|KC.aL old,k'<|θ<|KC.aL next,G s.1] W λr g=>(∃v,r=o' v)/\(e.vs≠[]->L2 g e.g (IU old next (s.1:Int) e.vs) e.tl)/\Kx (λk=>k=e.g/\e.vs≠[]) W g):=λW hW=>D8 e.va e.vc e.g e.tl e.vs old next (s.1:Int) W t ⟨I,I⟩ (λR=>⟨((hW.own e<|aK L).row R).1,((hW.own e<|aK L).row R).2.2⟩)
 clear m hL C D t u;go_enter func140,ntmps140;go_upto_region 1 with fail
 refine ā (F:=Code.wp _ _ _ _) λV HV=>?_;have HZ:=ſ HV.D;have T:χ V (O w.1.size 0)=C' (i' old.r):=by rw[(A HV.b).1];rfl
 have m:J (∀W',Kx (λk=>k=e.g/\e.vs≠[]) V W'->W'.1[xb]?=C' (j' (kL nb N) 46 (0,0))/\W'.1[cb]?=C' (iN s.1)/\W'.1[gb]?=C' (j' #[pv,G f] 86 (0,0))/\W'.1[δ w.1]?=C' (j' (θ<|KC.aL old) 228 (0,0))/\W'.1[δ w.1+1]?=C' (j' (θ<|KC.aL next) 228 (0,0))/\W'.1[nb]?=C' (j' (θ<|eD l) 96 (0,0))/\W'.1[δ w.1+1+1]?=V.1[δ w.1+1+1]?):=λW' h=>by
  have r:∀{k:Nat} {L:Array A'} {t:Nat},V.1[k]?=C' (cL L t)->t≠73->¬(k=e.g/\e.vs≠[]):=fun {k L t} h1 h2 ⟨h3,h4⟩=>by have h5:=aF HV.a ((H0.b.own e<|aK H0.d).row h4).2.2;rw[<-h3,h1]at h5;exact h2 (eU<|dW h5).2.1
  have g:=fun {k:Nat} {L:Array A'} {t:Nat} (h1:V.1[k]?=C' (cL L t)) (h2:t≠73)=>h.box h1<|r h1 h2;exact⟨g (aF HV.a H0.a.x) aj,g (aF HV.a H0.a.c) aj,g (aF HV.a H0.a.p) aj,g HV.b aj,g HV.c aj,g (aF HV.a H0.b.fE) aj,(g HV.d aj).trans HV.d.symm⟩
 have t:J (∀W',Kx (λk=>k=e.g/\e.vs≠[]) V W'->χ W' (O nb<|x*5+4)=C' (bk e.va (ζ e.vs) e.vc)):=λW' h=>by rw[(A (m.o W' h).2.2.2.2.2.1).1,cz,yf l x e 4 H0.d I];rfl
 cases ho:old.r with
 |true=>
  rw[ho]at T;go_upto_region 2 with fail
  refine st (λW'=>Kx (λk=>k=e.g/\e.vs≠[]) V W') 9 (hS:=vx.drewN 1) (h:=λaE=>?_);refine tt 0 (cw nb N) (y:=λW' bm=>by have r:=(A (m.o _ bm).1).1;clear aE bm;go_simp) (h:=?_);refine tt 1 (G x) (h:=?_);refine tt 2 (Bu nb x) (h:=?_);refine tt 3 (n'<|C'<|O nb<|x*5+4) (h:=?_);refine tt 4 (bk e.va (ζ e.vs) e.vc) (y:=λW' bm=>by have r:=t.o _ bm;clear aE bm;go_simp) (h:=?_);refine tu 5 (k'<|θ<|KC.aL old) (y:=yieldsIf_load_mid H _ _ rfl _ _ rfl _ _ (λW' bm=>bf (m.o _ bm).2.2.2.1) KC.fX rfl H) (h:=?_);refine tu 6 (k'<|θ<|KC.aL next) (y:=yieldsIf_load_mid H _ _ rfl _ _ rfl _ _ (λW' bm=>bf (m.o _ bm).2.2.2.2.1) KC.fX rfl H) (h:=?_);refine tt 7 (G s.1) (y:=λW' bm=>by have r:=(A (m.o _ bm).2.1).1;clear aE bm;go_simp) (h:=?_);refine rt 8 (h:=λK hK=>?_);go_simp;refine bE (z.o _<|(H0.b.below HV.a).keep λk o e _=>e) ?_;rintro _ U ⟨⟨v,rfl⟩,hr,hk⟩;have g:=ſ (M hr<|show Kx (λk=>k=e.g/\e.vs≠[]) V U from aE.trans hk);clear hr hk aE;refine hK.out _ _ (λ_=>g.A) ?_;clear hK K;refine pt ?_;refine dt (h:=?_);have I8:=ſ<|m.o U g.A;have fi:=ſ<|(H0.b.below HV.a).note (rR:=IU old next (s.1:Int) e.vs) H0.d (by simp[IU]) g.a g.A;have ff:J ((l.set x {e with vs:=IU old next (s.1:Int) e.vs}).map Mi=(PI f s x old next).2):=by rw[mx,H0.c];simp only[PI,ho,b8,H0.D];rfl
  have ID:J (Ky (Wt xb cb gb nb B) w U):=(Ky.of HV.a).trans ⟨g.A.os,g.A.tape,g.A.output,g.A.size,λk o h1 L=>g.A.box h1 λ⟨h2,h3⟩=>L (by
   have h5:=(H0.b.own e<|aK H0.d).row h3;have L:=aF HV.a h5.2.2;rw[<-h2,h1]at L
   exact aH<|aH<|aH<|aH ⟨⟨_,_,dW L⟩,by rw[h2];exact h5.2.1⟩)⟩
  generalize l.set x {e with vs:=IU old next (s.1:Int) e.vs}=l2 at fi ff;clear m t z X T;exact õ
 |false=>
  rw[ho]at T;have D:=ſ λW' (h:Bl V W')=>M (aF h<|aF HV.a H0.a.x)<|M (aF h<|aF HV.a H0.a.c)<|M (aF h<|aF HV.a H0.a.p)<|aF h HV.c;clear m t z;go_upto_region 3 with fail
  refine st (λW'=>Bl V W') 9 (hS:=(aP _ _).drew) (h:=λaE=>?_);refine tt 0 (cw nb N) (y:=λW' bm=>by have r:=(A (D.o _ bm).1).1;clear aE bm;go_simp) (h:=?_);refine tt 1 (G x) (h:=?_);refine tt 2 (G s.1) (y:=λW' bm=>by have r:=(A (D.o _ bm).2.1).1;clear aE bm;go_simp) (h:=?_);refine tu 3 (k'<|θ<|KC.aL next) (y:=yieldsIf_load_mid H _ _ rfl _ _ rfl _ _ (λW' bm=>bf (D.o _ bm).2.2.2) KC.fX rfl H) (h:=?_);refine tt 4 (n'<|C'<|O gb 1) (h:=?_);refine tt 5 (G f) (y:=λW' bm=>by have r:=(A (D.o _ bm).2.2.1).1;clear aE bm;go_simp) (h:=?_);refine rt 6 (h:=λK hK=>?_);go_simp;refine bE (X.o _) ?_;clear T;rintro _ E ⟨r,T,rfl,hr,hk⟩;have g:=ſ (M hr<|show Bl V E from aq aE hk);clear hr hk aE;refine hK.out _ _ (λ_=>g.A) ?_;clear hK K;refine pt ?_;have aE:=g.A;refine tt 7 (k' #[h' D' 0 0,h' D' 0 0,i' P',G s.1,h' r f T]) (h:=?_);refine tt 8 (Bu nb x) (h:=?_);clear aE;obtain⟨m,Y,Wk,C⟩:=(H0.b.below HV.a).first (x:=x) (rk:=(s.1:Int)) (rd:=P') F g.a (xq _ _) g.A<|L' HV.a.size;refine rt 9 (h:=λK hK=>?_);rw[aB H];refine wp_store_mid 96 (.tmp 29) (.tmp 28) rfl nb (x*5) #[h' D' 0 0,h' D' 0 0,i' P',G s.1,h' r f T] rfl rfl (vH ((H0.b.below HV.a).below g.A).fE<|by rw[H0.b.len];exact F) H (by rw[show #[h' D' 0 0,h' D' 0 0,i' P',G s.1,h' r f T]=θ (sN m) by rw[Y]];exact all_oneCell_toArray<|WM _) ?_;refine hK.out _ _ (λh=>absurd h aj) ?_;clear hK K;refine pt ?_;refine dt (h:=?_);have u:∀k,k≠nb->(ψ E nb (x*5)<|sN m).1[k]?=E.1[k]?:=λk hk=>dC _ _ _ _ _ hk;have I8:J ((ψ E nb (x*5)<|sN m).1[xb]?=C' (j' (kL nb N) 46 (0,0))/\(ψ E nb (x*5)<|sN m).1[cb]?=C' (iN s.1)/\(ψ E nb (x*5)<|sN m).1[gb]?=C' (j' #[pv,G f] 86 (0,0))/\True/\(ψ E nb (x*5)<|sN m).1[δ w.1+1]?=C' (j' (θ<|KC.aL next) 228 (0,0))/\True/\(ψ E nb (x*5)<|sN m).1[δ w.1+1+1]?=V.1[δ w.1+1+1]?):=by have h1:=D.o _ g.A;exact⟨(u _ hN3.symm).trans h1.1,(u _ Is).trans h1.2.1,(u _ hN4.symm).trans h1.2.2.1,trivial,(u _ I).trans h1.2.2.2,trivial,(u _ I).trans<|(aF g.A HV.d).trans HV.d.symm⟩
  have ID:J (Ky (Wt xb cb gb nb B) w<|ψ E nb (x*5)<|sN m):=tC (Ky.of<|aq HV.a g.A) (λ_ _=>aH<|aH<|aI rfl) _ _;have fi:=ſ C;have ff:J ((l.set x m).map Mi=(PI f s x old next).2):=by rw[mx,H0.c];simp only[PI,ho,Wk];rfl
  show Exit.then _ _ _ _<|ψ E nb (x*5) [h' D' 0 0,h' D' 0 0,i' P',G s.1,h' r f T];rw[<-Y];generalize ψ E nb (x*5) (sN m)=U at *;generalize l.set x m=l2 at fi ff;clear X D Y Wk C u;exact õ
end
section
variable {b:t'}{P:Pm}
abbrev ú(W W':t')(ts:List Nat):Prop:=∀(k:Nat)(cs:Array A')(t:Nat),W.1[k]?=C' (cL cs t)->t∈ts->W'.1[k]?=C' (cL cs t)
def abN{m T p:Nat}{c:List RR}{R:List Nat}(h:Sys W B a m T p c)(e:ú W b R)(C:T∈R)(f:p∈R):Sys b B a m T p c:=by
 refine⟨e _ _ _ h.fE C,h.low,h.len,λr a=>?_,h.wN⟩;have D:=h.row r a;refine⟨D.1,?_⟩;rcases D.2 with a|⟨g,b,Y,C,N,d,l⟩
 .exact aI a
 exact aH ⟨g,b,Y,C,N,e _ _ _ d f,l⟩
abbrev KC.Pf:List Nat:=[375,378,381,152,4,376]
abbrev KB.Pf:List Nat:=[337,340,386,152,4,338]
def R!{p:Prop}(h:p:=by
 obtain⟨b,h⟩:=h;refine⟨b,abN h.sys c aj aj,h.len,h.st,λk r a=>(h.es k r a).mono λ_ _ _ Q=>?_⟩;obtain⟨b,y,g,wl,wc,V,B,m,s,f,u,a,C,e,N,d,l⟩:=Q
 exact⟨b,y,g,wl,wc,V,B,m,s,f,u,a,c _ _ _ C aj,c _ _ _ e aj,c _ _ _ N aj,c _ _ _ d aj,l⟩):p:=h
def KC.mR.ty(h:KC.mR W B a P)(c:ú W b KC.Pf):KC.mR b B a P:=by exact R!
def KB.mR.ty(h:KB.mR W B a P)(c:ú W b KB.Pf):KB.mR b B a P:=by exact R!
end
section
variable {a:Int}{v:VV}{x:Nd}{z:PE}{E:List VV}
def Zv(x:Int):Prop:=-9223372036854775808<=x/\x<=9223372036854775807
def Ă:Zv 0:=⟨aj,aj⟩
structure VlC(R rk:Int)(v:Vl):Prop where
  hi:v.hi=0
  lo:Zv v.lo
  first:Zv v.first
  form:(v.aO=1/\v.bO=Q'/\v.first=0/\v.rank=0)\/(v.aO=2/\v.bO=P'/\rk<v.rank/\v.rank<R/\v.lo=0)\/(v.aO=2/\v.bO=Q'/\v.lo=0/\v.first=0/\v.rank=0)
structure I6(R:Int)(nv:Nat)(x:Nd):Prop where
  fr:x.facts=[]/\x.a! = []
  out:x.reached=Q'->x.rank=0/\x.aG=[]
  zJ:x.reached=P'->ζ x.aG=nv/\0<=x.rank/\x.rank<R
  each:∀v∈x.aG,VlC R x.rank v
def VlC.up{rk:Int}{v:Vl}(h:VlC R rk v)(b:R<=a):VlC a rk v:=
 ⟨h.hi,h.lo,h.first,by rcases h.form with k|k|k;(· exact aI k);(· exact aH<|aI ⟨k.1,k.2.1,k.2.2.1,I,k.2.2.2.2⟩);exact aH<|aH k⟩
def I6.up(h:I6 R Q x)(b:R<=a):I6 a Q x:=⟨h.fr,h.out,λk=>⟨(h.zJ k).1,(h.zJ k).2.1,L'<|(h.zJ k).2.2⟩,λv R=>(h.each v R).up b⟩
def Nj(R:Int)(Q:Nat):I6 R Q qR:=⟨⟨rfl,rfl⟩,λ_=>⟨rfl,rfl⟩,λh=>by simp[qR]at h,λv R=>by simp[qR]at R⟩
def tQ{v:List Nd}(h:∀x∈v,I6 R Q x):ZN ⟨5,1,v⟩ Q:=
 ⟨rfl,λx F a=>⟨((h x F).zJ a).1,((h x F).zJ a).2.1,λv R=>by rcases((h x F).each v R).form with k|k|k;(· exact aI ⟨k.1,k.2.1⟩);(· exact aH<|aI ⟨k.1,k.2.1,k.2.2.1,k.2.2.2.2⟩);exact aH<|aH ⟨k.1,k.2.1,k.2.2.1⟩⟩,λx F v R=>⟨((h x F).each v R).lo,((h x F).each v R).first⟩,λx F v R=>((h x F).each v R).hi,λx F=>⟨(h x F).fr.1,λa=>((h x F).out a).2⟩⟩
def mO(v:Vl):iD (-1) v=if v.aO=3 then⟨Q',v.lo,v.hi⟩ else if v.aO=1 then VV.one v.lo else VV.fM:=by unfold iD;simp
def XU(h:I6 R Q x)(D:0<=R):oE x R=oE x (-1):=by
 unfold oE;cases a:x.reached with
 |false=>simp
 |true=>
  have C:=h.zJ a;rw[ax I',ax ak];congr 1;refine eJ λv a=>?_;rw[mO];unfold iD;rcases(h.each v a).form with k|k|k
  .simp[k.1]
  .have:¬R<=v.rank:=I;simp[k.1,this]
  simp[k.1,k.2.1]
def XQ(h:okV 5 v):(v.any=P'/\v=VV.fM)\/(v.any=Q'/\v=VV.one v.lo):=by
 have:=h.form;rw[aB rfl]at this;rcases this with e|e
 .exact aI ⟨by rw[e];rfl,e⟩
 exact aH ⟨by rw[e];rfl,e⟩
def UK(h:okV 5 v)(r:Int):iD r (UL v)=v:=by
 rcases XQ h with⟨C,a⟩|⟨C,a⟩
 .rw[a];rfl
 rw[UL,C];show iD r ⟨1,v.lo,0,Q',0,0⟩=v;rw[a];rfl
def adp(h:okV 5 v)(R rk:Int):VlC R rk (UL v):=by
 have a:=h.bd.lo;unfold UL;split
 .exact⟨rfl,Ă,Ă,aH<|aH ⟨rfl,rfl,rfl,rfl,rfl⟩⟩
 exact⟨rfl,a,Ă,aI ⟨rfl,rfl,rfl,rfl⟩⟩
def YT(h:PR Q z<|C' E)(a:dZ 5 Q<|C' E)(r:Int):(Ra z Q).map (iD r)=E:=by
 refine dQ λi=>?_;rw[bH];rcases iL i Q with S|S
 .rw[UN z S,h.2.2,cy];have X:i<ζ E:=by rw[h.2.1];exact S
  rw[aQ X];exact cQ C'<|UK ((a E rfl).2 _<|e9 X) r
 rw[b?<|by rw[xq];exact S,b?<|by rw[h.2.1];exact S];rfl
structure ahr(R:Int)(nv:Nat)(vs:List VV)(y:Nd):Prop where
  ok:I6 (R+1) nv y
  last:∀r,r=-1\/r=R+1->oE y r=C' vs
  hist:∀r,0<=r->r<=R->oE y r=D'
  rch:y.reached=P'/\y.rank=R
  bO:∀v∈y.aG,v.bO=Q'
def adq(h:PR Q z<|C' E)(b:dZ 5 Q<|C' E)(D:0<=R):ahr R Q E ⟨[],[],P',R,Ra z Q⟩:=by
 refine⟨⟨⟨rfl,rfl⟩,λh=>(by cases h),λ_=>⟨xq _ _,D,I'⟩,λv a=>?_⟩,λr d=>?_,λr C c=>?_,⟨rfl,rfl⟩,λv a=>?_⟩
 .obtain⟨i,S,rfl⟩:=bp.1 a;have S:=cq.1 S;rw[h.2.2,cy,aQ<|by rw[h.2.1];exact S];exact adp ((b E rfl).2 _<|e9 _) _ _
 .unfold oE;rw[ax I'];exact cQ C'<|YT h b r
 .unfold oE;exact aB<|aH ⟨C,c⟩
 obtain⟨i,S,rfl⟩:=bp.1 a;unfold UL;split<;>rfl
structure NtN(R:Int)(nv:Nat)(vs:List VV)(x y:Nd):Prop where
  ok:I6 (R+1) nv y
  last:oE y (-1)=C' vs
  hist:∀r,0<=r->r<=R->oE y r=oE x r
  rch:y.reached=P'/\y.rank=x.rank
  len:ζ y.aG=ζ x.aG
  bO:∀(j:Nat)(v:Vl),y.aG[j]?=C' v->v.bO=P'->x.aG[j]?=C' v\/(v.rank=R/\(vs.getD j VV.z).any=P')
def afS{c next:PE}{l:List VV}(F:I6 R Q x)(D:0<=R)(o:x.reached=P')(b:oE x (-1)=C' l)(i:PR Q c<|C' l)(K:PR Q next (C' E))(q:dZ 5 Q<|C' l)(D:dZ 5 Q<|C' E)(z:jk 5 (C' l)<|C' E):NtN R Q E x ⟨[],[],x.reached,x.rank,IU c next R x.aG⟩:=by
 have a:l=x.aG.map (iD<|-1):=by unfold oE at b;rw[ax<|by simp[o]]at b;exact(dW b).symm
 have X:∀(j:Nat)(v:Vl),x.aG[j]?=C' v->∃u w,l[j]?=C' u/\E[j]?=C' w/\u=iD (-1) v/\VlC R x.rank v/\VlC (R+1) x.rank (KF c next R j v)/\iD (-1) (KF c next R j v)=w/\(∀r,0<=r->r<=R->iD r (KF c next R j v)=iD r v)/\(KF c next R j v=v\/((KF c next R j v).rank=R/\w.any=P')):=by
  intro j v f;have d:=F.each v<|aK f;have C:l[j]?=C' (iD (-1) v):=by rw[a,bH,f];rfl
  have a:=(aV.1 C).1;have b:j<ζ E:=by rw[K.2.1,<-i.2.1];exact a
  have g:E[j]?=C' E[j]:=aQ b;have p:c.at j=iD (-1) v:=by rw[i.2.2,cy,C];rfl
  have a:next.at j=E[j]:=by rw[K.2.2,cy,g];rfl
  have s:=(D E rfl).2 _<|e9 b;have i:=(q l rfl).2 _<|aK C;have b:=z j _ _ C g;refine⟨_,_,C,g,rfl,d,?_⟩;unfold KF;rw[p,a];by_cases T:(E[j].any&&!(iD (-1) v).any)=P';rotate_left
  .rw[ax T];refine⟨d.up I,?_,λ_ _ _=>rfl,aI rfl⟩;rcases Yh b with e|e
   .exact e
   rw[e]at T|-;simp[VV.fM]at T;rcases XQ i with k|k
   .exact k.2
   rw[T]at k;cases k.1
  rw[aB T];rw[aS,jY]at T;have m:E[j]=VV.fM:=by rcases XQ s with k|k;(· exact k.2);rw[T.1]at k;cases k.1
  have y:v.aO=1:=by
   rcases d.form with k|k|k
   .exact k.1
   .rw[mO,ax I,ax I]at T;cases T.2
   rw[mO,ax I,ax I]at T;cases T.2
  have s:iD (-1) v=VV.one v.lo:=by rw[mO,ax I,aB y]
  rw[s];have W:=(F.zJ o).2;refine⟨⟨rfl,Ă,d.lo,aH<|aI ⟨rfl,rfl,W.2,I',rfl⟩⟩,m.symm,λr C g=>?_,aH ⟨rfl,T.1⟩⟩;unfold iD;rw[ax ak,ax ak,aB<|by simp[C,g],ax I,aB y];rfl
 have B:∀j,(IU c next R x.aG)[j]?=(x.aG[j]?).map (KF c next R j):=λj=>by simp[IU]
 have L:ζ (IU c next R x.aG)=ζ x.aG:=by simp[IU]
 refine⟨⟨⟨rfl,rfl⟩,λh=>(by rw[show _=x.reached from rfl,o]at h;cases h),λ_=>⟨L.trans (F.zJ o).1,(F.zJ o).2.1,by have:=(F.zJ o).2.2;show x.rank<R+1;omega⟩,λv d=>?_⟩,?_,λr C g=>?_,⟨o,rfl⟩,L,λj v f l=>?_⟩
 .obtain⟨j,f⟩:=dN.1 d;rw[B]at f;cases d:x.aG[j]? with
  |none=>rw[d]at f;cases f
  |some t=>rw[d]at f;obtain⟨_,_,_,_,_,_,k,_⟩:=X j t d;cases f;exact k
 .unfold oE;rw[ax<|by simp[o]];congr 1;refine dQ λj=>?_;rw[bH,B];cases d:x.aG[j]? with
  |none=>
   have:ζ E<=j:=by rw[K.2.1,<-(F.zJ o).1];exact rN.1 d
   rw[b? this];rfl
  |some t=>obtain⟨_,w,_,g,_,_,_,k,_⟩:=X j t d;rw[g];exact cQ C' k
 .unfold oE;show(if x.reached=Q'\/(0<=r/\r<=x.rank) then D' else C' ((IU c next R x.aG).map<|iD r))=_;split
  .rfl
  congr 1;refine dQ λj=>?_;rw[bH,B,bH];cases d:x.aG[j]? with
  |none=>rfl
  |some t=>obtain⟨_,_,_,_,_,_,_,_,k,_⟩:=X j t d;exact cQ C'<|k r C g
 have f:(IU c next R x.aG)[j]?=C' v:=f;rw[B]at f;cases d:x.aG[j]? with
 |none=>rw[d]at f;cases f
 |some t=>
  rw[d]at f;obtain⟨_,w,_,g,_,_,_,_,_,k⟩:=X j t d;have e:KF c next R j t=v:=by simpa using f
  rw[e]at k;rcases k with k|k
  .exact aI (by rw[k])
  exact aH ⟨k.1,by rw[cy,g];exact k.2⟩
end
section
variable {P:Pm}{v:List Nd}{E:List VV}
def yn{α:Type}{f:α->Nat}(d:α):∀(l:List α)(i:Nat)(s:α),i<ζ l->f s<f (l.getD i d)->((l.set i s).map f).sum<(l.map f).sum
 |[],i,s,h,_=>by simp at h
 |a::l,0,s,_,h=>by simp at h|-;exact h
 |a::l,i+1,s,h,h2=>by have:=yn d l i s (J' h)<|J' h2;rw[da,dX,dX,lh,lh];omega
def hP(nv:Nat)(e:PE):Nat:=if e.r then((range nv).filter λi=>!(e.at i).any).length else 9
def â(nv:Nat)(hs:List PE):Nat:=(hs.map<|hP nv).sum
def X0(Q N:Nat):â Q (replicate N PE.zero)=N*9:=by
 rw[â,rO];induction N with
 |zero=>rfl
 |succ n B=>rw[eW,lh,B];show 9+_=_;omega
def OZ{p:Int}{a b:Nat->EV}(h:∀q∈P.ins n,a q.1=b q.1):P.say p n a=P.say p n b:=by
 unfold Pm.say;generalize P.OO n=e;revert e;generalize P.ins n=l at h;induction l with
 |nil=>intro e;rfl
 |cons q l B=>intro e;rw[e8,e8,h q ak];exact B (λq a=>h q<|by simp[a]) _
abbrev gJ(ns:List Nd):Ct:=⟨5,1,ns⟩
structure mI(P:Pm)(s:Nat×List Nd)(hs:List PE)(wt:BS):Prop where
  len:ζ s.2=ζ P.nd
  zm:∀x∈s.2,I6 (s.1:Int) P.nv x
  pr:∀n,PR P.nv (bK hs n)<|gq (gJ s.2) (-1) n
  up:∀n,jk 5 (gq (gJ s.2) (-1) n)<|P.say 5 n<|gq (gJ s.2)<|-1
  lst:zq P (gJ s.2)=P'
  snd:∀i,i<ζ P.nd->bt wt i=Q'->jk 5 (P.say 5 i<|gq (gJ s.2)<|-1) (gq (gJ s.2) (-1) i)
  iI:s.1+â P.nv hs<=ζ P.nd*9
def GX{a:List Nd}:TT P (gJ a) n=P'↔(((gJ a).at n).reached=P'->QL 5 (oE ((gJ a).at n)<|((gJ a).at n).rank+1) (P.say 5 n<|gq (gJ a) ((gJ a).at n).rank)=P'/\∀(j:Nat)(v:Vl),((gJ a).at n).aG[j]?=C' v->v.bO=P'->Y9 (P.say 5 n<|gq (gJ a) v.rank) j=P'):=by
 unfold TT;cases b:((gJ a).at n).reached with
 |false=>simp
 |true=>
  simp only[Bool.not_true,km,aS,bZ,cq,forall_const,true_implies];refine and_congr Iff.rfl ⟨λh j v f l=>?_,λh j f=>?_⟩
  .have:=h j (aV.1 f).1;rw[f]at this;simpa[l]using this
  rw[aQ f];cases l:(((gJ a).at n).aG[j]).bO with
  |false=>simp[l]
  |true=>simpa[l]using h j _ (aQ f) l
def adG{x:Nat}{y:Nd}(F:x<ζ v):(gJ<|v.set x y).at n=if x=n then y else(gJ v).at n:=m? v x n y tB F
def EU(h:∀x∈v,I6 R Q x)(n:Nat):I6 R Q ((gJ v).at n):=by
 rcases Aj (gJ v) n with C|C
 .exact h _ C
 rw[C];exact Nj R Q
def Ve(h:∀x∈v,I6 R Q x)(D:0<=R):gq (gJ v) R=gq (gJ v) (-1):=funext λn=>XU (EU h n) D
def Ni{x:Nd}:oE x (-1)=D'↔x.reached=Q':=by unfold oE;cases x.reached<;>simp
structure StC(R:Int)(nv:Nat)(vs:List VV)(x y:Nd):Prop where
  ok:I6 (R+1) nv y
  last:oE y (-1)=C' vs
  hist:∀r,0<=r->r<=R->oE y r=oE x r
  rch:y.reached=P'
  rise:(x.reached=Q'/\y.rank=R/\oE y (R+1)=C' vs)\/(x.reached=P'/\y.rank=x.rank)
  bO:∀(j:Nat)(v:Vl),y.aG[j]?=C' v->v.bO=P'->x.aG[j]?=C' v\/(v.rank=R/\(vs.getD j VV.z).any=P')
section
variable {P:Pm}{s:Nat×List Nd}{hs:List PE}{wt:BS}{x:Nat}
structure OpC(P:Pm)(s:Nat×List Nd)(hs:List PE)(x:Nat)(vs:List VV):Prop where
  say:P.say 5 x (gq (gJ s.2)<|-1)=C' vs
  ok:dZ 5 P.nv (C' vs)
  pr:PR P.nv (KC.j8 (bK hs x)<|KC.bU P (bK hs) x) (C' vs)
  nb:QL 5 (C' vs) (gq (gJ s.2) (-1) x)=Q'
  le:jk 5 (gq (gJ s.2) (-1) x) (C' vs)
  eok:∀r n,dZ 5 P.nv<|gq (gJ s.2) r n
def mI.open(a:mI P s hs wt)(g:cF P)(T:mr P)(f:kF P)(e:ζ P.nx=ζ P.nd)(d:KC.fq (KC.bU P (bK hs) x) (bK hs x)=Q'):∃E,OpC P s hs x E:=by
 have b:∀r n,dZ 5 P.nv (gq (gJ s.2) r n):=λr n=>gI (tQ a.zm) r n;have c:=KC.fZ g T f e (λm=>⟨a.pr m,b (-1) m⟩) x;have Q:=λi=>(KC.cH c.1 c.2 i).1;have p:=λi=>(KC.cH (a.pr x) (b (-1) x) i).1;rw[DZ g.nv c.1 (a.pr x) Q p]at d;have f:=S8 g.nv (a.pr x) c.1 p Q;have e:A7 5 (gq (gJ s.2) (-1) x) (P.say 5 x<|gq (gJ s.2)<|-1)=P.say 5 x (gq (gJ s.2)<|-1):=P4 (pK (b _ _) c.2) c.2 (NA (b _ _) c.2 (a.up x)<|c8 5 _)<|Nz (b _ _) c.2;rw[e]at f;cases R:P.say 5 x (gq (gJ s.2)<|-1)with
 |none=>rw[R]at d;simp[QL]at d
 |some E=>have C:=a.up x;rw[R]at d f c C;exact⟨E,R,c.2,f,d,C,b⟩
def mI.node(i:mI P s hs wt)(h:OpC P s hs x E):∃y,(PI P.nv s x (bK hs x)<|KC.j8 (bK hs x)<|KC.bU P (bK hs) x).2=s.2.set x y/\StC (s.1:Int) P.nv E ((gJ s.2).at x) y:=by
 have U:=i.pr x;have F:=EU i.zm x;cases l:gq (gJ s.2) (-1) x with
 |none=>
  rw[l]at U;have a:(bK hs x).r=Q':=by rw[show bK hs x=PE.zero from U];rfl
  have C:=Ni.1 l;have f:=adq (R:=(s.1:Int)) h.pr h.ok I;refine⟨_,by simp only[PI,a];rfl,⟨f.ok,f.last _<|aI rfl,λr b a=>(f.hist r b a).trans ?_,f.rch.1,aI ⟨C,f.rch.2,f.last _<|aH rfl⟩,λj v a R=>?_⟩⟩
  .rw[oE,aB<|aI C]
  rw[f.bO v<|aK a]at R;cases R
 |some c=>
  rw[l]at U;have C:((gJ s.2).at x).reached=P':=by
   cases V:((gJ s.2).at x).reached with
   |true=>rfl
   |false=>rw[show gq (gJ s.2) (-1) x=D' from Ni.2 V]at l;cases l
  have X:=h.le;have a:=h.eok (-1) x;rw[l]at X a;have f:=afS F I C l U h.pr a h.ok X;refine⟨_,by simp only[PI,U.1,b8];rfl,⟨f.ok,f.last,f.hist,f.rch.1,aH ⟨C,f.rch.2⟩,f.bO⟩⟩
def OpC.less(h:OpC P s hs x E)(i:mI P s hs wt)(F:x<ζ hs)(l:P.nv<=8):â P.nv (hs.set x<|KC.j8 (bK hs x)<|KC.bU P (bK hs) x)<â P.nv hs:=by
 refine yn PE.zero hs x _ F ?_;show hP P.nv _<hP P.nv (bK hs x);have U:=i.pr x;cases l:gq (gJ s.2) (-1) x with
 |none=>rw[l]at U;unfold hP;rw[aB h.pr.1,show bK hs x=PE.zero from U];have:=length_filter_le (λi=>!((KC.j8 PE.zero<|KC.bU P (bK hs) x).at i).any)<|range P.nv;rw[uA]at this;show _<9;omega
 |some c=>
  have X:=h.le;have a:=h.eok (-1) x;have m:=h.nb;rw[l]at U X a m;unfold hP;rw[aB h.pr.1,aB U.1]
  have W:∀i,i<P.nv->∃u v,c[i]?=C' u/\E[i]?=C' v/\(bK hs x).at i=u/\(KC.j8 (bK hs x)<|KC.bU P (bK hs) x).at i=v/\okV 5 u/\okV 5 v/\gL 5 u v:=λi S=>by
   have C:i<ζ c:=by rw[U.2.1];exact S
   have l:i<ζ E:=by rw[h.pr.2.1];exact S
   have V:=aQ C;have d:=aQ l;exact⟨c[i],E[i],V,d,by rw[U.2.2,cy,V];rfl,by rw[h.pr.2.2,cy,d];rfl,(a c rfl).2 _<|e9 C,(h.ok E rfl).2 _<|e9 l,X i _ _ V d⟩
  refine xt _ (λi S K=>?_) ?_
  .obtain⟨u,v,_,_,V,d,_,_,r⟩:=W i<|cq.1 S;rw[d]at K;rw[V];rcases Yh r with e|e
   .rw[e];exact K
   rw[e]at K;cases K
  refine Classical.byContradiction λz=>?_
  have:QL 5 (C' E) (C' c)=P':=(jV h.ok a).2 λj a b p g=>by
   have f:j<P.nv:=by rw[<-h.pr.2.1];exact(aV.1 p).1
   obtain⟨u,v,o,c,V,d,q,a,r⟩:=W j f;rw[c]at p;rw[o]at g;cases p;cases g;rcases Yh r with e|e
   .rw[e];exact i! 5 _
   cases t:b.any with
   |true=>rcases XQ q with k|k;(· rw[k.2,e];exact i! 5 _);rw[t]at k;cases k.1
   |false=>exact absurd ⟨j,cq.2 f,by rw[d,e];rfl,by rw[V,t];rfl⟩ z
  rw[this]at m;cases m
end
end
section
variable {P:Pm}{s:Nat×List Nd}{y:List PE}{c:BS}
abbrev ý(N:Nat):Nat×List Nd:=(0,replicate N qR)
def Vd(N n:Nat):(gJ<|replicate N qR).at n=qR:=by rw[Ct.at,cy,jy];split<;>rfl
def Ob(N:Nat)(r:Int)(n:Nat):gq (gJ<|replicate N qR) r n=D':=by rw[gq,Vd];unfold oE;exact aB<|aI rfl
def YM(N n:Nat):bK (replicate N PE.zero) n=PE.zero:=by rw[bK,cy,jy];split<;>rfl
def K6(d:ζ P.nd<=60):mI P (ý<|ζ P.nd) (replicate (ζ P.nd) PE.zero) (j5<|ζ P.nd):=by
 refine⟨ak,λx F=>by rw[iM F];exact Nj _ _,λn=>by rw[Ob,YM];rfl,λn=>by rw[Ob];trivial,?_,λi S a=>?_,by rw[X0];simp⟩
 .unfold zq;simp only[bZ,cq];intro n _;rw[GX,Vd];intro h;cases h
 rw[wm _ _ I I]at a;simp at a;omega
def mI.skip(g:mI P s y c)(f:cF P)(T:mr P)(j:kF P)(a:ζ P.nx=ζ P.nd)(F:x<ζ P.nd)(h:KC.fq (KC.bU P (bK y) x) (bK y x)=P'):mI P s y (eP c<|cJ [x]):=by
 have d:=f.most;refine⟨g.len,g.zm,g.pr,g.up,g.lst,λi S B=>?_,g.iI⟩;by_cases e:i=x
 .subst e;have b:∀r n,dZ 5 P.nv (gq (gJ s.2) r n):=λr n=>gI (tQ g.zm) r n;have c:=KC.fZ f T j a (λm=>⟨g.pr m,b (-1) m⟩) i;rw[DZ f.nv c.1 (g.pr i) (λj=>(KC.cH c.1 c.2 j).1) λj=>(KC.cH (g.pr i) (b (-1) i) j).1]at h;exact(jV c.2<|b _ _).1 h
 exact ě
def mI.step{m:List PE}(p:mI P s m c)(z:cF P)(T:mr P)(ho:kF P)(NN:ζ P.nx=ζ P.nd)(F:x<ζ P.nd)(X:ζ m=ζ P.nd)(V:KC.fq (KC.bU P (bK m) x) (bK m x)=Q'):
  mI P (PI P.nv s x (bK m x)<|KC.j8 (bK m x)<|KC.bU P (bK m) x) (m.set x<|KC.j8 (bK m x)<|KC.bU P (bK m) x) (e7 (eP c<|cJ [x])<|(QY P).getD x (0,0)):=by
 have hm:=z.most;obtain⟨E,h⟩:=p.open z T ho NN V;obtain⟨y,hy,u⟩:=p.node h;have c:=h.less p (by rw[X];exact F) z.nv;have hxs:x<ζ s.2:=by rw[p.len];exact F
 have C:(PI P.nv s x (bK m x)<|KC.j8 (bK m x)<|KC.bU P (bK m) x).1=s.1+1:=rfl;have hpr:=h.pr;have hxl:x<ζ m:=by rw[X];exact F
 generalize PI P.nv s x (bK m x) (KC.j8 (bK m x)<|KC.bU P (bK m) x)=L at *;generalize KC.j8 (bK m x) (KC.bU P (bK m) x)=z at *;have W:∀n,(gJ L.2).at n=if x=n then y else(gJ s.2).at n:=λn=>by rw[hy];exact adG hxs
 have o:∀r n,gq (gJ L.2) r n=if x=n then oE y r else gq (gJ s.2) r n:=λr n=>by rw[gq,W];split<;>rfl
 have U:∀q∈L.2,I6 (L.1:Int) P.nv q:=λq Y=>by
  rw[C];rw[hy]at Y;rcases hU Y with Y|rfl
  .exact(p.zm q Y).up I
  have:=u.ok;simpa using this
 have ag2:∀r n,dZ 5 P.nv (gq (gJ L.2) r n):=λr n=>gI (tQ U) r n
 have g:∀r:Int,0<=r->r<=s.1->gq (gJ L.2) r=gq (gJ s.2) r:=λr a b=>funext λn=>by
  rw[o];split
  .rename_i e;subst e;exact u.hist r a b
  rfl
 have D:gq (gJ s.2) (s.1:Int)=gq (gJ s.2) (-1):=Ve p.zm I
 have hle:∀n,jk 5 (gq (gJ s.2) (-1) n) (gq (gJ L.2) (-1) n):=λn=>by
  rw[o];split
  .rename_i e;subst e;rw[u.last];exact h.le
  exact c8 5 _
 have N:∀n,jk 5 (P.say 5 n<|gq (gJ s.2)<|-1) (P.say 5 n<|gq (gJ L.2)<|-1):=λn=>SB (aI rfl) T n (h.eok<|-1) (ag2<|-1) hle;refine⟨by rw[hy,jn];exact p.len,U,λn=>?_,λn=>?_,?_,λi hi B=>?_,by rw[C];have:=p.iI;omega⟩
 .rw[o,qA hxl];split
  .rw[u.last];exact hpr
  exact p.pr n
 .rw[o];split
  .rename_i e;subst e;rw[u.last,<-h.say];exact N x
  exact dT (nH (aI rfl) T n<|h.eok<|-1) (h.eok _ _) (p.up n)<|N n
 .unfold zq;simp only[bZ,cq];intro n b;have t:TT P (gJ s.2) n=P':=by have:=p.lst;unfold zq at this;simp only[bZ,cq]at this;exact this n b
  rw[GX]at t|-;have V:=EU p.zm;rw[W];by_cases e:x=n;rotate_left
  .rw[ax e];intro hr;obtain⟨o1,o2⟩:=t hr;have hi:=(V n).zJ hr;refine⟨?_,λj v f l=>?_⟩
   .rw[g _ hi.2.1 I];exact o1
   have R:=((V n).each v<|aK f).form;rw[l]at R;have hv2:((gJ s.2).at n).rank<v.rank/\v.rank<(s.1:Int):=by rcases R with q|q|q;(· cases q.2.1);(· exact⟨q.2.2.1,q.2.2.2.1⟩);cases q.2.1
   rw[g _ I I];exact o2 j v f l
  subst e;rw[aB rfl];intro _;rcases u.rise with⟨r1,b,c⟩|⟨r1,b⟩
  .refine⟨?_,λj v f l=>?_⟩
   .rw[b,c,g _ I<|cV _,D,h.say];exact(jV h.ok h.ok).2<|c8 5 _
   rcases u.bO j v f l with k|⟨k1,k2⟩
   .rw[((V x).out r1).2]at k;simp at k
   rw[k1,g _ I<|cV _,D,h.say];exact k2
  obtain⟨o1,o2⟩:=t r1;have hi:=(V x).zJ r1;refine⟨?_,λj v f l=>?_⟩
  .rw[b,u.hist _ I I,g _ hi.2.1 I];exact o1
  rcases u.bO j v f l with k|⟨k1,k2⟩
  .have R:=((V x).each v<|aK k).form;rw[l]at R;have hv2:((gJ s.2).at x).rank<v.rank/\v.rank<(s.1:Int):=by rcases R with q|q|q;(· cases q.2.1);(· exact⟨q.2.2.1,q.2.2.2.1⟩);cases q.2.1
   rw[g _ I I];exact o2 j v k l
  rw[k1,g _ I<|cV _,D,h.say];exact k2
 rw[gT,x5,oM (lZ I) I,Ab I I,J8 hm NN x i I]at B;have b:P.say 5 i (gq (gJ L.2)<|-1)=P.say 5 i (gq (gJ s.2)<|-1):=by refine OZ λq Y=>?_;rw[o,ax];intro e;have c:=B.2;rw[show decide (i<ζ P.nd)=P' by simpa using hi,eV]at c;exact gZ c<|bp.2 ⟨q,Y,e.symm⟩
 rw[b,o];by_cases e:x=i
 .subst e;rw[aB rfl,u.last,h.say];exact c8 5 _
 rw[ax e];refine p.snd i hi ?_;have C:=B.1;simpa[show ¬i=x from λu=>e u.symm]using C
def snC(d:cF P)(T:mr P)(e:kF P)(a:ζ P.nx=ζ P.nd):KC.SnE P (PI P.nv) (λ_ _ _ next=>next) (â P.nv) (mI P) (ý<|ζ P.nd):=by
 refine⟨K6 d.most,λs y c x i u F b=>i.skip d T e a (u.low x F) b,λs y c x i u F b=>i.step d T e a (u.low x F) u.len b,λs y c x i u F b=>?_,λs y c x i u F b=>?_⟩
 .obtain⟨E,h⟩:=i.open d T e a b;exact⟨_,h.pr,h.ok⟩
 obtain⟨E,h⟩:=i.open d T e a b;exact h.less i (by rw[u.len];exact u.low x F) d.nv
def mI.room(i:mI P s y c)(b:cF P)(x:Nat):ζ (s.2.getD x qR).aG<=8/\s.1<100000:=by
 have C:=EU i.zm x;have d:=b.most;have T:=i.iI;refine⟨?_,I⟩;show((gJ s.2).at x).aG.length<=8;cases a:((gJ s.2).at x).reached with
 |true=>rw[(C.zJ a).1];exact b.nv
 |false=>rw[(C.out a).2];simp
end
def DM(g cap:Nat)(D:List NC)(P:Pm)(w:t')(hP:PM w g cap D P)(l:cF P):
  Cl 220 #[gi g (ζ P.nd) cap P.nv] w λe w'=>∃rb c,e=o' (p' #[cP rb<|ζ P.nd,G (P.facts 1:Int)])/\Sys w' w.1.size rb 2 393 404 c/\c.map RR.pr=kR (ζ P.nd) (vh P (λn=>eN<|Pc P n) (vN P)<|ζ P.nd)/\Bl w w':=by
 have hN:=l.most;have C:=l.pos;have NQ:=l.nv;have s:=ſ<|M hP l;have E7:J (∀W,Cl 280 #[gi g (ζ P.nd) cap P.nv] W λe w'=>∃rb c,e=o' (cP rb<|ζ P.nd)/\Sys w' W.1.size rb 2 393 404 c/\c.map RR.pr=replicate (ζ P.nd) Q0/\Bl W w'):=λW=>l0 g (ζ P.nd) cap P.nv W hN;have AR:J (∀W,PM W g cap D P->Cl 281 #[gi g (ζ P.nd) cap P.nv] W λe w'=>∃ob va vc,e=o' (p' #[h' (C'<|O ob 0) (ζ P.nd)<|ζ P.nd,h' va P.nv vc,G (P.facts 1:Int)])/\ρ w' W.1.size 267 2 (cw ob<|ζ P.nd) (ζ P.nd) (du<|(range<|ζ P.nd).map<|rq P)/\ρ w' W.1.size 267 2 (bk va P.nv vc) P.nv (du<|py P P.nv<|ζ P.nd)/\Bl W w'):=λW hW=>wO g cap D P W hW l;obtain⟨N,j⟩:=Ea<|ζ P.nd;obtain⟨nv,f⟩:∃nv,nv=P.nv:=⟨_,rfl⟩;obtain⟨fc,b⟩:=Ea<|P.facts 1;rw[<-j]at hN C;rw[<-f]at NQ;rw[<-j,<-f]at E7;rw[<-j,<-f,<-b]at AR;rw[<-j,<-f,<-b];have HN:=ſ<|M j f;have R:J (∀W,Cl 208 #[G nv] W<|Rb W<|cn<|j5 nv):=λW=>o8 nv W I;obtain⟨up,k⟩:=Ea<|j5 nv;rw[<-k]at R;have HU:J (up=j5 P.nv):=by show _=_;rw[k,f]
 clear hP l j f k b;simp only[gi,cP,cn]at E7 AR R|-;go_enter func220,ntmps220;go_upto_region 1 with(fail)
 generalize u:(w.alloc<|j' (ei g N cap nv) 86).alloc (j' Fp 260)=W0;have HB:J (Bl w W0/\W0.1[δ w.1]?=C' (j' (ei g N cap nv) 86 (0,0))/\W0.1[δ w.1+1]?=C' mN):=by subst u;exact⟨cU,eO.1,eO.2⟩
 clear u;obtain⟨E,x2⟩:=A HB.b;go_upto_region 2 with(go_at_call 280;refine(E7.o _).mono ?_;rintro e W1 ⟨rb,c,rfl,b,Y,l⟩;have H1:=ſ<|M b<|M Y l;clear b Y l E x2)
 generalize u:W1.alloc (j' (dB rb N) 260)=W2;have b:J (Bl w W2/\W2.1[δ w.1]?=C' (j' (ei g N cap nv) 86 (0,0))/\W2.1[δ w.1+1]?=C' mN/\W2.1[δ W1.1]?=C' (j' (dB rb N) 260 (0,0))/\Sys W2 w.1.size rb 2 393 404 c/\c.map RR.pr=kR N (vh P (λ_=>eN (0,0)) (vN P) 0)):=by subst u;have l:=aq H1.B<|cE W1<|j' (dB rb N) 260;have y:=H1.a.below<|cE W1<|j' (dB rb N) 260;exact⟨aq HB.a l,aF l HB.b,aF l HB.B,bj _ _,y.deep HB.a.size,by rw[H1.b,Hu]⟩
 clear u;have l:δ w.1+1<δ W1.1:=by have:=H1.B.size;have:=À HB.B;omega
 have hrb:rb<δ W1.1:=À H1.a.fE;generalize δ W1.1=sb at b l hrb|-;obtain⟨r0,f,vg,_⟩:=Gp b.E C;have cc:J (c[0]?=C' r0/\r0.st=eN (0,0)):=⟨f,vg⟩;clear f vg;obtain⟨E,x2⟩:=A b.d;obtain⟨y1,y2⟩:=A b.b;have n1:rb≠sb:=I;have n2:=n1.symm;have l:(0:Int)<N:=I
 go_region_law (go_simp;refine bE (R.o _) ?_;rintro e l ⟨rfl,j⟩;have k:J (Bl W2 l):=aq ay j;clear j E x2 y1 y2;obtain⟨E,x2⟩:=A<|aF k.o b.d;have f:=(b.e.below k.o).two cc.a cc.A;simp only[gN,bW]at f;obtain⟨⟨z1,z2⟩,p,o⟩:=f)
 all_goals
  generalize u:κ (κ l (O rb 0)<|Z up.1) (O rb 1) (Z up.2)=C;have HT:J (Bl w C/\PM C g cap D P/\Sys C w.1.size rb 2 393 404 (c.set 0 ⟨eN up,r0.ea,r0.ec,r0.es⟩)/\(c.set 0 ⟨eN up,r0.ea,r0.ec,r0.es⟩).map RR.pr=kR N (vh P (λn=>eN<|Pc P n) (vN P) 0)/\C.1[δ w.1]?=C' (j' (ei g N cap nv) 86 (0,0))/\C.1[δ w.1+1]?=C' mN/\C.1[sb]?=C' (j' (dB rb N) 260 (0,0))):=by
   subst u;have hb:=k.o;have y:=b.e.below hb;have Y:=y.sQ (k:=0) (v:=Z up.1) (v':=Z up.2);have R:=y.start aj cc.a cc.A (z:=up);simp only[gN,bW]at Y R;have k:=aq b.a hb;refine⟨k.trans Y.low,(s.a.below k).tf Y aj aj aj aj,R,?_,Y.box (aF hb b.b) aj aj,Y.box (aF hb b.c) aj aj,Y.box (aF hb b.d) aj aj⟩;rw[Kl b.E cc.a];refine eJ λn _=>?_;by_cases h0:n=0
   .subst h0;simp[vh,Pc,HU.o]
   simp[vh,Pc,h0,eN]
  clear u;clear E x2 z1 z2 p o;obtain⟨E,x2⟩:=A HT.e;go_upto_region 4 with(go_at_call 281;refine(AR.o _ HT.b).mono ?_;rintro e U ⟨ob,va,vc,rfl,uj,b,f⟩;have k:=ſ<|M uj<|M b f;clear uj b f E x2)
  have B:J (Bl w U/\PM U g cap D P/\Sys U w.1.size rb 2 393 404 (c.set 0 ⟨eN up,r0.ea,r0.ec,r0.es⟩)/\U.1[δ w.1]?=C' (j' (ei g N cap nv) 86 (0,0))/\U.1[δ w.1+1]?=C' mN/\U.1[sb]?=C' (j' (dB rb N) 260 (0,0))/\ρ U w.1.size 267 2 (cw ob N) N (du<|(range N).map<|rq P)/\ρ U w.1.size 267 2 (h' va nv vc) nv (du<|py P nv N)):=by have hb:=k.B;exact⟨aq HT.a hb,HT.b.below hb,HT.c.below hb,aF hb HT.e,aF hb HT.f,aF hb HT.F,pD k.a HT.a.size,pD k.b HT.a.size⟩
  have b:=ſ HT.d;obtain⟨E,x2⟩:=A B.d;go_wp2_with fail;clear E x2;go_loopw[29] (λy wr=>∃(i:Nat)(ql:List RR),i<=N/\y=G i/\J (Sys wr w.1.size rb 2 393 404 ql/\ql.map RR.pr=kR N (vh P (λn=>eN<|Pc P n) (vN P) i)/\TF w.1.size 393 404 U wr)) (λy _=>N-(intOf y).toNat)
  case atStart=>exact⟨0,_,bq _,rfl,B.c,b.o,Bj⟩
  obtain⟨i,ql,hi,rfl,u⟩:=hrel;have zL:δ w.1<=δ wr.1:=br B.a.size u.B.low.size;have agY:δ U.1<=δ wr.1:=u.B.low.size;by_cases L:i<N;rotate_left
  .have b:¬(i:Int)<N:=I;have c:i=N:=I;have Y:=u.B;have j:=Y.box B.e aj aj;obtain⟨E,x2⟩:=A<|Y.box B.f aj aj;obtain⟨z1,z2⟩:=A j;have n1:δ w.1+1≠sb:=I;have n2:=n1.symm;clear Y;go_wp2_with fail;have k:=(A<|aw (o:=2) (aw (o:=1) (aw (o:=0) j<|cw rb N) iP) mM).1;refine aC (v:=p' #[cP rb N,G fc]) (by simp[results220,go_sem,(A<|aw (o:=0) j<|cw rb N).1,(A<|aw (o:=1) (aw (o:=0) j<|cw rb N) iP).1,k,cP]) rfl ⟨rb,rfl,ql,?_,?_,?_⟩
   .exact u.a.keep j ⟨aj,aj⟩ (λk j=>by rw[bh _ _ _ _ j,bh _ _ _ _ j,bh _ _ _ _ j])
   .rw[u.b,c]
   exact(((B.a.trans u.B.low).setCell I' _).setCell I' _).setCell I' _
  have b:(i:Int)<N:=I;have q:=B.b.tf u.B aj aj aj aj;obtain⟨r,R,T,z,F,_,Uq,_⟩:=q.nodes (by rw[<-HN.a];exact L);have X:=λj (b:j<14)=>(mY q T j b);have f:=aK z;obtain⟨p,V⟩:=Ea r.n;rw[<-V]at X z F f;simp only[NC.wv,NC.ev]at X;generalize r.bL=bL at X;generalize r.wa=wa at X;generalize r.wl=wl at X;generalize r.wc=wc at X;generalize r.ea=ea at X;generalize r.el=el at X;generalize r.ec=ec at X;have E8:J (∀W,Cl 282 #[k'<|aJ bL (h' wa wl wc) p<|h' ea el ec] W<|Rb W<|i'<|fL p):=λW=>(l! bL _ _ p W (s.A.aO p f).1).mono λe w' b=>⟨b.1,by rw[b.2];exact aY⟩;have II:J (fL p=P'->0<=p.var/\p.var<nv):=λh=>by have:=s.A.var p f (by simpa[fL]using h);have:=HN.A;omega
  have ee:J (vN P i=if fL p then⟨xh P N p.var.toNat,rq P i⟩ else Ú):=by show _=_;unfold vN;rw[F,<-HN.a]
  have Fe:J (∀W,PM W g cap D P->Sys W w.1.size rb 2 393 404 ql->δ w.1<=δ W.1->TF w.1.size 393 404 U W->Cl 283 #[cP rb N,gi g N cap nv,G i,Fc<|vN P i] W λr w'=>(∃v,r=o' v)/\∃aa,Sys w' w.1.size rb 2 393 404 aa/\aa.map RR.pr=kR N (vh P (λn=>eN<|Pc P n) (vN P)<|i+1)/\TF w.1.size 393 404 U w'):=by intro W j c k b;have:=vY g cap nv rb w.1.size i D P ql (vN P i) W j s.A (by rw[<-HN.a];exact L) c (by rw[<-HN.a];exact zb u.b) k (DY u.b λn _=>by have:=xp (st:=(λn=>eN<|Pc P n)) (E:=vN P) (n:=n) (tm s.A) i;omega);rw[<-HN.a]at this;refine this.mono ?_;rintro r w' ⟨h1,aa,h2,c,j⟩;refine⟨h1,aa,h2,?_,b.trans j⟩;rw[c,u.b,<-Hv]
  obtain⟨ok,o⟩:=Ea<|fL p;rw[<-o]at E8 II ee;obtain⟨x,var,op,test,⟨ai,av,ac⟩,⟨bi,bv,bc⟩,dz⟩:=p;have t:=OU X;simp only[aJ]at E8 II ee;simp only[cP,gi,Fc]at Fe;clear X o V z F f T q Uq;go_upto_region 8 with(fail)
  generalize f:(wr.alloc<|j' #[m' bL,h' wa wl wc,G x,G var,G op,G test,i' ai,G av,G ac,i' bi,G bv,G bc,h' ea el ec,m' dz] 152).alloc (j' x? 397)=V;have HV:J (Below wr.1.size wr V/\V.1[δ wr.1]?=C' (j' #[m' bL,h' wa wl wc,G x,G var,G op,G test,i' ai,G av,G ac,i' bi,G bv,G bc,h' ea el ec,m' dz] 152 (0,0))/\V.1[δ wr.1+1]?=C' (j' x? 397 (0,0))):=by subst f;exact⟨cU,eO.1,eO.2⟩
  clear f t;have ed:J (∀W,Bl V W->PM W g cap D P/\Sys W w.1.size rb 2 393 404 ql/\δ w.1<=δ W.1/\TF w.1.size 393 404 U W/\W.1[δ wr.1]?=C' (j' #[m' bL,h' wa wl wc,G x,G var,G op,G test,i' ai,G av,G ac,i' bi,G bv,G bc,h' ea el ec,m' dz] 152 (0,0))/\W.1[sb]?=C' (j' (dB rb N) 260 (0,0))/\W.1[δ w.1]?=C' (j' (ei g N cap nv) 86 (0,0))/\W.1[δ wr.1+1]?=C' (j' x? 397 (0,0))):=by intro W hW;have hb:=aq HV.a hW;have Y:=u.B.trans<|TF.aR hb zL;exact⟨B.b.tf Y aj aj aj aj,u.a.below hb,br zL hb.size,Y,aF hW HV.b,Y.box B.f aj aj,Y.box B.d aj aj,aF hW HV.B⟩
  generalize δ wr.1=T at ed zL agY HV|-;obtain⟨E,x2⟩:=A HV.b;cases ok
  .have At:J (vN P i=Ú):=ee.o;rw[At.o]at Fe;simp only[Ú]at Fe;go_upto_region 10 with(go_at_call 282;refine(E8.o _).mono ?_;rintro e W7 ⟨rfl,f⟩;have fw:=ſ f;clear f E x2)
   obtain⟨au,ar,Ba,Y,_,o,b3,b4⟩:=ed.o W7 fw.o;obtain⟨E,x2⟩:=A o;obtain⟨y1,y2⟩:=A b3;obtain⟨z1,z2⟩:=A b4;have fo:=ſ<|Fe.o W7 au ar Ba Y;clear au ar Ba Y o b3 b4;go_wp2_with (go_at_call 283;refine bE fo.o ?_;rintro e W8 ⟨⟨v,rfl⟩,aa,b⟩;have H8:=ſ b;clear b E x2 y1 y2 z1 z2);go_roundw
   case rel=>exact⟨i+1,aa,L,f',H8.o⟩
   exact H'
  have t:=II.o rfl;obtain⟨F,rfl⟩:∃F:Nat,var=(F:Int):=⟨var.toNat,L' t.1⟩;have hvj:F<nv:=by have:=t.2;omega
  have At:J (vN P i=⟨xh P N F,rq P i⟩):=by show _=_;rw[ee.o];simp
  rw[At.o]at Fe;simp only at Fe;obtain⟨q,rfl⟩:=Gu B.G I;have HRW:J (∀W,TF w.1.size 393 404 U W->((χ W (O ob<|i*2)=C' (Z ((rq P i).1:Int))/\W.frozen? (O ob<|i*2)=Q')/\χ W (O ob<|i*2+1)=C' (Z ((rq P i).2:Int))/\W.frozen? (O ob<|i*2+1)=Q')/\((χ W (O q<|F*2)=C' (Z ((xh P N F).1:Int))/\W.frozen? (O q<|F*2)=Q')/\χ W (O q<|F*2+1)=C' (Z ((xh P N F).2:Int))/\W.frozen? (O q<|F*2+1)=Q')/\q<T/\ob<T):=λW hW=>by have h1:=B.g;have h2:=B.G;obtain⟨_,b,c⟩:=jT h1;obtain⟨_,b,b⟩:=jT h2;have:=À c;have:=À b;exact⟨qi (ze h1 hW aj aj)<|by simp[L],qi (ze h2 hW aj aj)<|MP hvj,I,I⟩
  obtain⟨o1,uj⟩:=Ea<|rq P i;obtain⟨X,p⟩:=Ea<|xh P N F;rw[<-uj,<-p]at HRW Fe;clear t uj p;go_upto_region 9 with(go_at_call 282;refine(E8.o _).mono ?_;rintro e W7 ⟨rfl,f⟩;have fw:=ſ f;clear f E x2)
  obtain⟨_,_,_,Y,b,_,_,b4⟩:=ed.o W7 fw.o;obtain⟨E,x2⟩:=A b;obtain⟨z1,z2⟩:=A b4;have r1:=HRW.o W7 Y;clear Y b b4;have y:q≠T+1:=I;have r:=y.symm;have b:ob≠T+1:=I;have c:=b.symm;have b:T≠T+1:=I;have u:=b.symm
  go_region_law fail
  all_goals
   have H8:J (PM (κ (κ (κ (κ W7 (O (T+1) 0)<|Z X.1) (O (T+1) 1)<|Z X.2) (O (T+1) 2)<|Z o1.1) (O (T+1) 3)<|Z o1.2) g cap D P/\Sys (κ (κ (κ (κ W7 (O (T+1) 0)<|Z X.1) (O (T+1) 1)<|Z X.2) (O (T+1) 2)<|Z o1.1) (O (T+1) 3)<|Z o1.2) w.1.size rb 2 393 404 ql/\δ w.1<=δ (κ (κ (κ (κ W7 (O (T+1) 0)<|Z X.1) (O (T+1) 1)<|Z X.2) (O (T+1) 2)<|Z o1.1) (O (T+1) 3)<|Z o1.2).1/\TF w.1.size 393 404 U (κ (κ (κ (κ W7 (O (T+1) 0)<|Z X.1) (O (T+1) 1)<|Z X.2) (O (T+1) 2)<|Z o1.1) (O (T+1) 3)<|Z o1.2)/\(κ (κ (κ (κ W7 (O (T+1) 0)<|Z X.1) (O (T+1) 1)<|Z X.2) (O (T+1) 2)<|Z o1.1) (O (T+1) 3)<|Z o1.2).1[sb]?=C' (j' (dB rb N) 260 (0,0))/\(κ (κ (κ (κ W7 (O (T+1) 0)<|Z X.1) (O (T+1) 1)<|Z X.2) (O (T+1) 2)<|Z o1.1) (O (T+1) 3)<|Z o1.2).1[δ w.1]?=C' (j' (ei g N cap nv) 86 (0,0))/\(κ (κ (κ (κ W7 (O (T+1) 0)<|Z X.1) (O (T+1) 1)<|Z X.2) (O (T+1) 2)<|Z o1.1) (O (T+1) 3)<|Z o1.2).1[T+1]?=C' (j' #[Z X.1,Z X.2,Z o1.1,Z o1.2] 397 (0,0))):=by
    obtain⟨au,ar,Ba,Y,_,o,b3,b4⟩:=ed.o W7 fw.o;have keep:∀p,p≠T+1->(κ (κ (κ (κ W7 (O (T+1) 0)<|Z X.1) (O (T+1) 1)<|Z X.2) (O (T+1) 2)<|Z o1.1) (O (T+1) 3)<|Z o1.2).1[p]?=W7.1[p]?:=λp U=>(bh _ _ _ _ U).trans<|(bh _ _ _ _ U).trans<|(bh _ _ _ _ U).trans<|bh _ _ _ _ U;have b:sb≠T+1:=by rintro rfl;rw[o]at b4;simp at b4
    have c:δ w.1≠T+1:=by intro h;rw[<-h,b3]at b4;simp at b4
    refine⟨au.keep λp cs t f e ht=>keep p ?_,ar.keep b4 ⟨aj,aj⟩ keep,?_,?_,(keep _ b).trans o,(keep _ c).trans b3,?_⟩
    .rintro rfl;rw[b4]at e;simp at e;obtain⟨_,rfl,_⟩:=e;rcases ht with h|h<;>exact absurd h aj
    .simpa using Ba
    .exact⟨(((Y.low.setCell I' _).setCell I' _).setCell I' _).setCell I' _,λp cs t f e h1 h2=>(keep p<|L'<|(bG.1 e).1).trans<|Y.keep p cs t f e h1 h2⟩
    rw[aw (aw (aw (aw b4 _) _) _) _];rfl
   clear E x2 z1 z2 r1;generalize(κ (κ (κ (κ W7 (O (T+1) 0)<|Z X.1) (O (T+1) 1)<|Z X.2) (O (T+1) 2)<|Z o1.1) (O (T+1) 3)<|Z o1.2)=W8 at H8|-;obtain⟨au,ar,Ba,Y,o,b3,b4⟩:=H8.o;have b:Bl W8 W8.drew:=(aP _ _).drew;obtain⟨E,x2⟩:=A<|aF b o;obtain⟨y1,y2⟩:=A<|aF b b3;obtain⟨z1,z2⟩:=A<|aF b b4;have fo:=ſ<|Fe.o W8.drew (au.below b) (ar.below b) (br Ba b.size)<|Y.trans<|TF.aR b Ba;clear b;generalize W8.drew=b at fo E x2 y1 y2 z1 z2|-;clear au ar Ba Y o b3 b4;go_wp2_with (go_at_call 283;refine bE fo.o ?_;rintro e l ⟨⟨v,rfl⟩,aa,Y⟩;have W:=ſ Y;clear Y E x2 y1 y2 z1 z2);go_roundw
   case rel=>exact⟨i+1,aa,L,f',W.o⟩
   exact H'
def aeJ(P:Pm):kR (ζ P.nd) (vh P (λn=>eN<|Pc P n) (vN P)<|ζ P.nd)=JU (wL P (Pc P)<|vN P):=(UJ P _ _).symm
def Mn{p:Prop}(h:p:=by
 have v:=aF c.A eO.2;have F:=(A<|aw (o:=2) (aw (o:=1) (aw (o:=0) v<|cw f N) iP) mM).1;refine aC (v:=p' #[cP f N,G q]) (by simp[results150,go_sem,(A<|aw (o:=0) v<|cw f N).1,(A<|aw (o:=1) (aw (o:=0) v<|cw f N) iP).1,F,cP]) rfl ⟨f,rfl,?_,?_⟩
 .obtain⟨u,C,o⟩:=c.a;exact⟨u,(C.deep I').keep v ⟨aj,aj⟩ λk p=>by rw[bh _ _ _ _ p,bh _ _ _ _ p,bh _ _ _ _ p],o⟩
 exact(((aq cU c.A).setCell I' _).setCell I' _).setCell I' _):p:=h
def BI(g h:Nat)(D:List NC)(P:Pm)(p:Int)(w:t')(hP:PM w g h D P)(x:cF P)(d:∀n∈P.nd,nw<|jm n)(U:1<=p/\p<=4):
  Cl 150 #[gi g (ζ P.nd) h P.nv,G p] w λe i=>∃f,e=o' (p' #[cP f<|ζ P.nd,G (P.facts p:Int)])/\og i w.1.size f (P.rs p)/\Bl w i:=by
 obtain⟨N,l⟩:=Ea<|ζ P.nd;obtain⟨Q,a⟩:=Ea P.nv;have T:p=1\/p=2\/p=3\/p=4:=I;clear U;rcases T with rfl|rfl|rfl|rfl
 .have Y:J (∀W,Bl w W->Cl 220 #[gi g (ζ P.nd) h P.nv] W λe i=>∃f,e=o' (p' #[cP f<|ζ P.nd,G (P.facts 1:Int)])/\og i W.1.size f (P.rs 1)/\Bl W i):=by intro W j;refine(DM g h D P W (hP.below j) x).mono ?_;rintro e i ⟨f,u,rfl,C,o,y⟩;exact⟨f,rfl,w! C<|o.trans<|aeJ P,y⟩
  obtain⟨q,b⟩:=Ea<|P.facts 1;rw[<-l,<-a,<-b]at Y|-;clear hP x d l a b;simp only[gi,cP]at Y|-;go_enter func150,ntmps150;go_wp2_with (go_at_call 220;refine(Y.o _ cU).mono ?_;rintro e t ⟨f,rfl,s,r⟩;have c:=ſ<|M s r;clear s r;have E:=A<|aF c.A eO.2);exact Mn
 .have Y:J (∀W,Bl w W->Cl 221 #[gi g (ζ P.nd) h P.nv] W λe i=>∃f,e=o' (p' #[cP f<|ζ P.nd,G (P.facts 2:Int)])/\og i W.1.size f (P.rs 2)/\Bl W i):=by intro W j;refine(T0 g h D P W (hP.below j) x).mono ?_;rintro e i ⟨f,u,rfl,C,o,y⟩;exact⟨f,rfl,w! C<|o.trans<|afW P,y⟩
  obtain⟨q,b⟩:=Ea<|P.facts 2;rw[<-l,<-a,<-b]at Y|-;clear hP x d l a b;simp only[gi,cP]at Y|-;go_enter func150,ntmps150;go_wp2_with (go_at_call 221;refine(Y.o _ cU).mono ?_;rintro e t ⟨f,rfl,s,r⟩;have c:=ſ<|M s r;clear s r;have E:=A<|aF c.A eO.2);exact Mn
 .have Y:J (∀W,Bl w W->Cl 222 #[gi g (ζ P.nd) h P.nv] W λe i=>∃f,e=o' (p' #[cP f<|ζ P.nd,G (P.facts 3:Int)])/\og i W.1.size f (P.rs 3)/\Bl W i):=by intro W j;refine(G9 g h P.nv D P W (hP.below j) x d).mono ?_;rintro e i ⟨f,u,rfl,C,o,y⟩;exact⟨f,rfl,w! C<|o.trans<|afY P,y⟩
  obtain⟨q,b⟩:=Ea<|P.facts 3;rw[<-l,<-a,<-b]at Y|-;clear hP x d l a b;simp only[gi,cP]at Y|-;go_enter func150,ntmps150;go_wp2_with (go_at_call 222;refine(Y.o _ cU).mono ?_;rintro e t ⟨f,rfl,s,r⟩;have c:=ſ<|M s r;clear s r;have E:=A<|aF c.A eO.2);exact Mn
 have Y:J (∀W,Bl w W->Cl 223 #[gi g (ζ P.nd) h P.nv] W λe i=>∃f,e=o' (p' #[cP f<|ζ P.nd,G (P.facts 4:Int)])/\og i W.1.size f (P.rs 4)/\Bl W i):=by intro W j;refine(T8 g h P.nv D P W (hP.below j) x d).mono ?_;rintro e i ⟨f,u,rfl,C,o,y⟩;exact⟨f,rfl,w! C<|o.trans<|afV P,y⟩
 obtain⟨q,b⟩:=Ea<|P.facts 4;rw[<-l,<-a,<-b]at Y|-;clear hP x d l a b;simp only[gi,cP]at Y|-;go_enter func150,ntmps150;go_wp2_with (go_at_call 223;refine(Y.o _ cU).mono ?_;rintro e t ⟨f,rfl,s,r⟩;have c:=ſ<|M s r;clear s r;have E:=A<|aF c.A eO.2);exact Mn
section
attribute [local go_sem] Oper.semAt_some
def FnS(P:Pm)(p:Int)(l:List NE):Prop:=ζ l=ζ P.nd/\∃s hs,V7 P p (P.rs p) s hs (0,0)/\ζ hs=ζ P.nd/\(∀t∈hs,bQ t)/\∀i e,l[i]?=C' e->e.fs=dj (cv hs i)/\e.rs=(dj<|cv hs i).map (kq s.2 i)
def Nc{X:t'}{q:Nat}{a:A'}{t:TypeId}(h:X.1[q]?=C' (j' #[a] t (0,0))):∀(j:Nat)(u:A'),[a][j]?=C' u->χ X (((O q 0):Addr).add j)=C' u:=by intro j u f;rw[fH,bW,(A h).1];simpa using f
def vW{W c:t'}{B e size n:Nat}{v:A'}{D:List A'}(d:ρ W B e size v n D)(b:ξ W c<|φ v):KeepsOthers W c:=by refine⟨b.size,λk o a T=>(b.block k (À a) λe=>?_).trans a⟩;obtain⟨c,f,h⟩:=eZ d k e.symm;rw[h]at a;cases a;cases T
structure WrS(P:Pm)(p:Int)(s:Nat×List (List Int))(hs:List BS)(N nb:Nat)(W8:t')(l:List NE)(i:Nat)(W:t'):Prop where
  len:ζ l=i
  fE:W.1[nb]?=C' (j' (θ<|jq<|l++replicate (N-i) Nh) 96 (0,0))
  own:∀e∈l,Av W W8.1.size e
  say:∀j e,l[j]?=C' e->e.fs=dj (cv hs j)/\e.rs=(dj<|cv hs j).map (kq s.2 j)
  kx:Kx (λk=>k=nb) W8 W
def WrS.OE{P:Pm}{p:Int}{s:Nat×List (List Int)}{y:List BS}{N m i:Nat}{a W d:t'}{l:List NE}{X:Nat->Prop}(h:WrS P p s y N m a l i W)(K:m<δ a.1)(b:Kx X W d)(g:∀k,X k->δ a.1<=k)(T:∀{k},X k->(W.1[k]?).any (·.isCells)=Q'):WrS P p s y N m a l i d:=by
 have c:¬X m:=λe=>by have:=g m e;omega
 refine⟨h.len,b.box h.fE c,λe o=>?_,h.say,⟨b.os.trans h.kx.os,b.tape.trans h.kx.tape,b.output.trans h.kx.output,br h.kx.size b.size,λk c j=>(b.keep k (ep c h.kx.size) λe=>L'<|g k e).trans<|h.kx.keep k c j⟩⟩
 have f:∀{v:A'} {n:Nat} {D:List A'},ρ W a.1.size 3 1 v n D->ρ d a.1.size 3 1 v n D:=fun {v n D} a=>by
  refine⟨a.1,?_⟩;rcases a.2 with a|⟨g,c,Y,C,i,N,d⟩
  .exact aI a
  refine aH ⟨g,c,Y,C,i,b.box N λF=>?_,d⟩;have:=T F;rw[N]at this;cases this
 exact⟨f (h.own e o).f,f (h.own e o).r⟩
def Ey(g cap pb:Nat)(nl:List NC)(P:Pm)(p:Int)(pa:u')(m pc:Nat)(w:t')(hP:PM w g cap nl P)(B:cF P)(hx:ζ P.nx=ζ P.nd)(C:∀n∈P.nd,nw<|jm n)(U:1<=p/\p<=4)(hT:kU w)(L:jQ w pb<|h' pa m pc)(hpb:pb<δ w.1):
  Cl 90 #[gi g (ζ P.nd) cap P.nv,G p,h' pa m pc] w λe w'=>∃nb l,e=o' (cw nb<|ζ P.nd)/\jX w.1.size w' nb (l.map uU)/\FnS P p l/\Below w.1.size w w':=by
 have o:=ME B hx U;have hm:=B.most;have Lg:=B.pos;have HS:J (∀W,Below w.1.size w W->Cl 150 #[gi g (ζ P.nd) cap P.nv,G p] W λe w'=>∃rb,e=o' (p' #[cP rb<|ζ P.nd,G (P.facts p:Int)])/\og w' W.1.size rb (P.rs p)/\Bl W w'):=λW hW=>BI g cap nl P p W (hP.below hW) B C U;have H0:=ſ<|M o<|M hT L;have hgl:=dh<|hT 0 aj;obtain⟨N,R⟩:=Ea<|ζ P.nd;obtain⟨nv,u⟩:∃nv,nv=P.nv:=⟨_,rfl⟩;obtain⟨fc,b⟩:=Ea<|P.facts p;rw[<-R,<-u,<-b]at HS;rw[<-R]at hm Lg|-;rw[<-u];have HN:=ſ R;obtain⟨i1,hi,D,F,E⟩:=cG Yx;have HJ:J (_/\_/\_/\_):=⟨hi,D,F,E⟩;obtain⟨i2,z,r,s,f⟩:=cG El;have L3:J (_/\_/\_/\_):=⟨z,r,s,f⟩;clear hP B hx C U hT L o R u b hi D F E z r s f;simp only[gi,cP]at HS|-;refine(gw (n:=6)).1 ?_;refine callsIn_of_wp_marks func90 rfl trivial ?_ rfl;simp only[ntmps90,kH,bR,de,Nat.reduceAdd,Nat.reduceSub,sF,sE,sD,sC,c!,dA];refine nE.2 ?_;go_upto_region 1 with(fail)
 refine oP (F:=Code.wp _ _ _ _) λW0 U=>?_;obtain⟨E,x2⟩:=A U.b;go_upto_region 2 with(go_at_call 150;refine(HS.o _ U.a).mono ?_;rintro e W1 ⟨rb,rfl,h1,h2⟩;have H1:=ſ<|M h1 h2;clear h1 h2 E x2)
 refine oP (F:=Code.wp _ _ _ _) λF R=>?_;have D:=aq H1.A R.a;obtain⟨E,x2⟩:=A<|aF D U.b;go_upto_region 3 with(at_make;refine eK _ rfl (.tmp 24) (.tmp 24) 263 rfl F.1.size 272 i1 _ 68 underlying263 HJ.a HJ.b HJ.c .i64 .i64 N N N rfl rfl rfl rfl (by rw[HJ.C];omega) (by unfold maxLen;omega) ak ?_;intro z f b;have HO:=ſ<|M f b;clear f b)
 have HM:J (z.1[δ F.1]?=C' (j' (θ<|sW<|replicate N<|replicate 68 0) 272 (0,0))/\Below F.1.size F z):=by have h1:=HO.a;rw[d! _ 68 (by simp[Value.cells]) N]at h1;refine⟨?_,(aP _ _).grown HO.A (aD _) (λq e=>by cases e)⟩;rw[(fB h1).1,<-UT];rfl
 clear HO E x2;refine oP (F:=Code.wp _ _ _ _) λW4 fy=>?_;go_upto_region 4 with(fail)
 refine oP (F:=Code.wp _ _ _ _) λC BC=>?_
 have l23:=À HM.a;have xz:=BC.a;have ys:=aq fy.a xz;have B:=aq HM.A ys;have GB:=fy.B;have f5:=BC.b;rw[GB]at f5|-;have hz5:δ z.1+1<δ C.1:=À f5;have hw2:δ w.1<δ F.1:=ep (À U.b) D.size;have ahA:=À R.b;have HC:J (ð (δ z.1+1) z.1.size F.1.size N (0,replicate N<|replicate 68 0) C):=⟨f5,aF xz fy.b,aF ys HM.a,ak,λr hr=>by rw[iM hr];simp⟩;have Wy:J (Cl 151 #[cP rb N,h' pa m pc,.func (.func 152) #[] #[n'<|C'<|O (δ z.1+1) 0,n'<|C'<|O z.1.size 0]] C λe w'=>∃s hs,e=o' (h' (C'<|O (δ C.1+1+1) 0) N N)/\w'.1[δ C.1+1+1]?=C' (j' (θ<|cI hs) 267 (0,0))/\ð (δ z.1+1) z.1.size F.1.size N s w'/\Kx (λk=>k=δ z.1+1\/k=δ z.1\/k=δ F.1) C w'/\V7 P p (P.rs p) s hs (0,0)/\ζ hs=N/\∀s∈hs,bQ s):=by
  have hI:=H0.a.ins;have Im:=snS H0.a;rw[<-HN.o]at hI Im;refine O9 (λk=>k=δ z.1+1\/k=δ z.1\/k=δ F.1) (ð (δ z.1+1) z.1.size F.1.size N) rb W0.1.size N 152 pb (P.rs p) _ pa m pc C Ñ (V7 P p<|P.rs p) _ (λW hW=>?_) hI Lg Im ⟨λk hk=>I,?_,?_,I,I,I,λxs w=>Tryz.call152 xs w,?_⟩ (H0.b.below<|aq U.a<|aq D B) (H0.B.keep λo u h=>aA h<|aq U.a<|aq D B) HC.o
  .refine og.below H1.a ((aq R.a B).trans<|hW.below (L' R.a.size) λk hk=>I)
  .rintro s W k o T (h|h|h) hk
   .subst h;rw[T.c]at hk;cases hk;rfl
   .subst h;rw[T.x]at hk;cases hk;rfl
   subst h;rw[T.r]at hk;cases hk;rfl
  .intro s W W' T h;exact⟨(h _<|aI rfl).trans T.c,(h _<|aH<|aI rfl).trans T.x,(h _<|aH<|aH rfl).trans T.r,T.len,T.each⟩
  intro s hs wt W x wg hS hx hb T hT;have Uo:=hS.low x hx;have u2:=fe hS.each x;have Hd:=yx hI (fe hS.each) x;refine Lm (δ z.1+1) z.1.size F.1.size N x s _ _ W T hT Uo hm u2 (gG u2 Hd) (λf hf=>?_) (by have:=wg.iI;rw[<-HN.o]at this;omega) I I I I;obtain⟨h1,h2⟩:=(fz (gG u2 Hd) f).1 hf;rw[gT,eS]at h2;have T:=H0.a.few;rcases h2 with h2|h2
  .have:=wg.low x f h1 h2;omega
  rw[w6 H0.a wg.low (by rw[<-HN.o];exact Uo) h1,aS]at h2;have:f<P.facts p:=by simpa using h2.1
  omega
 have hsb:=aF B R.b;obtain⟨E,x2⟩:=A hsb;simp only[cP]at Wy;go_upto_region 5 with(go_at_call 151;refine Wy.o.mono ?_;rintro e W6 ⟨s,hs,rfl,T,a2,b,Y,X,a6⟩;have L:=ſ<|M T<|M a2<|M b<|M Y<|M X a6;clear T a2 b Y X a6 E x2)
 go_upto_region 6 with(at_make;refine eK _ rfl (.tmp 31) (.tmp 31) 46 rfl W6.1.size 96 i2 _ 5 underlying46 L3.a L3.b L3.c .i64 .i64 N N N rfl rfl rfl rfl (by rw[L3.C];omega) (by unfold maxLen;omega) ak ?_;intro Y T b;have HO:=ſ<|M T b;clear T b)
 have X:J (Y.1[δ W6.1]?=C' (j' (θ<|jq<|replicate N Nh) 96 (0,0))/\Below W6.1.size W6 Y):=by have h1:=HO.a;rw[d! _ 5 (by simp[Value.cells]) N]at h1;refine⟨?_,(aP _ _).grown HO.A (aD _) (λq e=>by cases e)⟩;rw[(fB h1).1,<-YX];rfl
 clear HO;refine oP (F:=Code.wp _ _ _ _) λW8 T=>?_;have b:=aq X.A T.a;have we:=L.c;have l67:=À X.a;have l56:=we.size;have lhb:=À L.a;have h78:=T.B;have H8:J (Below w.1.size w W8/\W8.1[δ C.1+1+1]?=C' (j' (θ<|cI hs) 267 (0,0))/\ð (δ z.1+1) z.1.size F.1.size N s W8/\W8.1[δ W6.1]?=C' (j' (θ<|jq<|replicate N Nh) 96 (0,0))/\W8.1[δ Y.1]?=C' (j' #[h' (cA W6.1.size) N N] 46 (0,0))):=by refine⟨?_,aF b L.a,⟨aF b L.b.c,aF b L.b.x,aF b L.b.r,L.b.len,L.b.each⟩,aF T.a X.a,T.b⟩;have Aa:=aq U.a<|aq D B;exact(Aa.trans<|(we.below (B:=δ w.1) (L' Aa.size) λk hk=>I)).trans<|b.mono<|L' Aa.size
 have Iv:J (kU W8):=H0.b.below H8.a
 have bo:J (V7 P p (P.rs p) s hs (0,0)/\ζ hs=N/\(∀t∈hs,bQ t)/\∀i,∀f∈dj (cv hs i),f<68):=⟨L.d,L.e,L.E,λi f hf=>by
  obtain⟨h1,h2⟩:=(fz (fe L.E i) f).1 hf;have:=L.d.low i f h1 h2;have:=H0.a.few
  omega⟩
 have ahw:δ w.1<=δ C.1:=(aq U.a<|aq D B).size;have hw7:δ w.1<δ W6.1:=I;have l78:δ Y.1<δ W8.1:=I;have k1:δ z.1+1<δ W6.1:=I;clear U R fy BC HM X T H1 L Wy HC HS D B ys xz b hsb f5 we GB h78;generalize b:δ C.1+1+1=hb at *;generalize B:δ z.1+1=cb at *;generalize δ z.1=xb at *;generalize δ F.1=kb at *;generalize δ W6.1=nb at *;generalize δ Y.1=nx at *;have z:cb≠xb:=I;have z:cb≠kb:=I;have z:xb≠kb:=I;have z:xb<nb:=I;have z:kb<nb:=I;clear b B;go_wp2_with fail;generalize p' #[k'<|dB rb N,G fc]=q1;generalize k' (dB rb N)=q2;generalize k' (ei g N cap nv)=q3;generalize Value.func (.func 152) #[] (rQ cb xb)=q4;generalize n' (cA W1.1.size)=q5;generalize n' (cA w.1.size)=q6;generalize G fc=q7;generalize h' pa m pc=q8 at *;generalize G p=q9;generalize h' (C'<|O g 0) N cap=q10;generalize h' (C'<|O kb 0) N N=q11;refine(nE (n:=6)).1 ?_;refine wpIn_loop (λa' wr=>∃(i:Nat)(Ds:List Nat)(GA DO DD u36 C3 CR CI CE CC BY u0 ue s8 sr sq sf rp pd nf mz my mw mv mq mo mn mm ml mj mi mh u64 kv js iS ir hA gz gm gk gh:A'),(i<=N/\J (∃l,WrS P p s hs N nb W8 l i wr/\CO W8.1.size Ds wr))/\a'={tmps:=#[q3,q9,q8,q6,undef,undef,h' D' 0 0,q5,q7,n'<|C'<|O xb 0,n'<|C'<|O cb 0,h' (C'<|O hb 0) N N,n'<|C'<|O nx 0,GA,DO,DD,q1,q3,q9,q1,q2,q7,q6,q10,G N,q11,q2,q8,q4,h' (C'<|O hb 0) N N,h' (C'<|O hb 0) N N,G N,h' (C'<|O nb 0) N N,h' (C'<|O hb 0) N N,G N,G i,u36,C3,CR,CI,CE,CC,BY,u0,ue,s8,sr,sq,sf,rp,pd,nf,mz,my,mw,mv,mq,mo,mn,mm,ml,mj,mi,mh,u64,kv,js,iS,ir,hA,gz,gm,gk,gh],defers:=Ds.map Ā}) (λa' _=>N-(intOf<|a'.tmps.getD 35 undef).toNat) ?_ ?_
 .exact⟨0,[],_,_,_,_,_,_,_,_,_,_,_,_,_,_,_,_,_,_,_,_,_,_,_,_,_,_,_,_,_,_,_,_,_,_,_,_,_,_,_,_,_,⟨bq _,[],⟨rfl,H8.d,(λe h=>by cases h),(λj e h=>by simp at h),vx⟩,CO.nil _ _⟩,rfl⟩
 rintro a' wr ⟨i,Ds,GA,DO,DD,u36,C3,CR,CI,CE,CC,BY,u0,ue,s8,sr,sq,sf,rp,pd,nf,mz,my,mw,mv,mq,mo,mn,mm,ml,mj,mi,mh,u64,kv,js,iS,ir,hA,gz,gm,gk,gh,⟨hi,R⟩,rfl⟩;by_cases lG:i<N;rotate_left
 .have lF:¬(i:Int)<N:=I;have hie:i=N:=I;subst hie;obtain⟨l,B,b⟩:=R.o;obtain⟨E,x2⟩:=A (B.kx.box H8.D<|show ¬nx=nb by omega)
  gi_wp2
  go_wp2_with fail;refine nT (B:=δ W8.1) (λW=>WrS P p s hs i nb W8 l i W) ?_ ?_ Ds wr b B
  .intro X D h hD hX;have g:=grownBy_putObj' X D<|.deferred D';have hx:Kx (λk=>k=D) X (X.putObj D<|.deferred D'):=⟨g.os,g.tape,g.output,g.size,λk hk m=>g.block k hk λe=>m (by cases e;rfl)⟩;exact h.OE I hx (λk e=>I) (λh2=>by subst h2;rw[hX];rfl)
  intro X h;refine⟨h' (C'<|O nb 0) i i,by simp[results90,go_sem],nb,l,rfl,?_,?_,H8.a.trans<|h.kx.below (L' H8.a.size) λk e=>I⟩
  .have:=h.fE;rw[jx,x6,fQ]at this;exact PK this h.own (L' H8.a.size) I
  exact⟨h.len.trans HN.o,s,hs,bo.a,bo.b.trans HN.o,bo.c,h.say⟩
 have lF:(i:Int)<N:=I;obtain⟨l,B,b⟩:=R.o;have L:=B.len;obtain⟨c0,c1,_,_⟩:=iq (B.kx.box H8.b<|show ¬hb=nb by omega) (k:=i) (by rw[bo.b];exact lG);rw[show hs.getD i (0,0)=cv hs i from rfl]at c0 c1;have g:=B.kx.size;have GS:=fe bo.c i;have H68:=ſ<|bo.C i;obtain⟨t,U⟩:=Ea<|cv hs i;rw[<-U]at c0 c1 GS H68;have g:J (∀X,Cl 154 #[cn t] X λe w'=>e=o' (.func (.func 227) #[]<|bM X.1.size)/\w'=X.alloc (kK t.1 t.2)):=λX=>tZ t X;have HL:=ſ<|M B<|M b U;simp only[cn]at g;clear B b U R
 gi_upto_region 9 with(fail)
 refine å (F:=λV=>Code.wpIn _ _ _ _ _ _ V) λV B=>?_;obtain⟨E,x2⟩:=A B.c
 gi_wp2_with (refine⟨trivial,?_⟩;gi_at_call 154;refine(gw.2<|g.o _).mono ?_;rintro e F ⟨rfl,rfl⟩)
 refine oP (F:=λV=>Code.wpIn _ _ _ _ _ _ V) λU g=>?_;have m:=aq B.a g.a;have z:δ wr.1+1<δ V.1:=À B.c;have z:=m.size;have b:=aF g.a B.b;have z:=À b;have Ri:J (WrS P p s hs N nb W8 l i U/\CO W8.1.size Ds U):=⟨HL.a.OE (X:=λ_=>False) I (Kx.of m) (λ_ h=>h.elim) λh=>h.elim,HL.b.keeps<|dJ m⟩;have IM:=ſ b;have QT:=ſ (M (Ri.a.kx.box H8.D<|show ¬nx=nb by omega)<|M (Ri.a.kx.box H8.c.x<|show ¬xb=nb by omega)<|Ri.a.kx.box H8.c.r<|show ¬kb=nb by omega);have R:=Iv.o;have F:J (kU U):=Ri.a.kx.tab Iv.o I;obtain⟨i0,C,B,m,z⟩:=cG nW;have ah:J (_/\_/\_/\_):=⟨C,B,m,z⟩;clear b E x2 c0 c1 R C B m z
 refine wpIn_rangeFunc_ownF rfl I (gf:=227) (lb:=(bM V.1.size)) rfl trivial (λxs w=>Tryz.call227 xs w)
  (lJ 5 I t V.1.size (0+1) U GS (by rw[(A g.b).1];rfl) (by rw[(A g.b).1];rfl) F.o I I) belowK_t (belowK_b I) (aP _ _) (λ_=>rfl)
  (λpre W=>(∃cur,JF N nb i U l cur W/\(cur.fs=qB pre/\cur.rs=(qB pre).map (kq s.2 i)))/\CO W8.1.size Ds W)
  (λ_ _ _=>False)
  (OwnFrom.and (JF.Tf (p:=λ_ _=>True) (q:=λpre cur=>cur.fs=qB pre/\cur.rs=(qB pre).map (kq s.2 i)))<|Ee Ds λD hD=>À (Ri.A.at_ D hD).2)
  (λ_ _ _ _ _ hs _ _=>hs)
  ⟨⟨Nh,⟨by have:=Ri.a.fE;rwa[show N-i=(N-(i+1))+1 by omega,eW]at this,⟨cY _ _ _ _,cY _ _ _ _⟩,aI rfl,vx⟩,rfl,rfl⟩,Ri.A⟩
  (λx=>{tmps:=#[q3,q9,q8,q6,undef,undef,h' D' 0 0,q5,q7,n'<|C'<|O xb 0,n'<|C'<|O cb 0,h' (C'<|O hb 0) N N,n'<|C'<|O nx 0,n'<|cA wr.1.size,n'<|C'<|O (δ wr.1+1) 0,G x.1,q1,q3,q9,q1,q2,q7,q6,q10,G N,q11,q2,q8,q4,h' (C'<|O hb 0) N N,h' (C'<|O hb 0) N N,G N,h' (C'<|O nb 0) N N,h' (C'<|O hb 0) N N,G N,G i,i' P',G i,n'<|C'<|O hb<|i*2,k' #[Z t.1,Z t.2],k' #[Z t.1,Z t.2],.func (.func 227) #[]<|bM V.1.size,G x.1,u0,ue,s8,sr,sq,sf,rp,pd,nf,mz,my,mw,mv,mq,mo,mn,mm,ml,mj,mi,mh,u64,kv,js,iS,ir,hA,gz,gm,gk,gh],defers:=[]}) ?assign ?body ?done ?stop
 case assign=>
  intro l x W K hK
  gi_wp2
  exact hK
 case body=>
  rintro lp pre ⟨f,hf⟩ W ⟨⟨cur,b,an,bl⟩,cd⟩ g;have ahc:=H68.o f hf;have m:(f:Int)<68:=I;have z:ζ cur.fs<128:=by have:=nY t;rw[an];simp[qB];omega
  have g:ζ cur.rs=ζ cur.fs:=by rw[an,bl];simp
  have HCR:=ſ g;have ahe:ζ cur.rs<128:=I;clear g;have g:=b.kx.size;have HJ:=ſ<|M b<|M an<|M bl cd;have A9:J (∀W':t',W'.1[nb]?=C' (j' (θ<|jq<|l++cur::replicate (N-(i+1)) Nh) 96 (0,0))->χ W' (O nb<|i*5)=C' (bk cur.fa (ζ cur.fs) cur.fc)):=λW' h=>by rw[(A h).1,cz];have:=tw _ i cur 0 (at_len (r:=replicate (N-(i+1)) Nh) L) I;exact this
  clear b an bl cd
  gi_wp2
  refine á (l:=lp) (λW'=>W'.1[nx]?=C' (j' (kL nb N) 46 (0,0))/\W'.1[δ wr.1]?=C' (iN i)/\W'.1[nb]?=C' (j' (θ<|jq<|l++cur::replicate (N-(i+1)) Nh) 96 (0,0))) 10 (hQ:=by rintro⟨_,_,h⟩;exact h) (hS:=⟨HJ.a.kx.box QT.a<|show ¬nx=nb by omega,HJ.a.kx.box IM.o<|show ¬δ wr.1=nb by omega,HJ.a.fE⟩) (h:=λaE=>?_);refine tt 0 (cw nb N) (y:=λW' bm=>by have k1:=(A bm.1).1;clear aE bm;go_simp) (h:=?_);refine tt 1 (G i) (y:=λW' bm=>by have k1:=(A bm.2.1).1;clear aE bm;go_simp) (h:=?_);refine tt 2 (cw nb N) (y:=λW' bm=>by have k1:=(A bm.1).1;clear aE bm;go_simp) (h:=?_);refine tt 3 (G i) (y:=λW' bm=>by have k1:=(A bm.2.1).1;clear aE bm;go_simp) (h:=?_);refine tt 4 (Bu nb i) (h:=?_);refine tt 5 (Bu nb i) (h:=?_);refine tt 6 (bk cur.fa (ζ cur.fs) cur.fc) (y:=λW' bm=>by have k1:=A9.o _ bm.2.2;clear aE bm;go_simp) (h:=?_);refine tt 7 (G f) (h:=?_);refine rt 8 (h:=λK hK=>?_);go_simp;refine hK.out _ _ (λ_=>⟨aF aY aE.1,aF aY aE.2.1,aF aY aE.2.2⟩) ?_;clear hK K;refine pt ?_;refine NZ (F:=λV=>pX _ _ _ _ _ _ _ _ _ V) λT3 E=>?_;have ZM:=ſ<|bu HJ.a.own.f E.A;have R:δ U.1<=δ T3.1:=br g E.A.size;refine rt 9 (h:=λK hK=>?_);refine dS rfl (.tmp 49) (.tmp 51) 36 rfl U.1.size 3 i0 (G 0) 1 8 underlying36 ah.a ah.b ah.c ah.C rfl aj (bk cur.fa (ζ cur.fs) cur.fc) (ζ cur.fs) (cur.fs.map Q7) rfl ZM.o (O W.1.size 0) 1 1 [Q7 f] rfl rfl (Nc E.a) (by intro u hu;rw[eX.1 hu];rfl) (by unfold maxLen;omega) I R ?_;intro g W9 o9 g9 n9;obtain⟨a9,c9,rfl⟩:=aX o9;have zM:∀q,q<δ U.1->some q≠φ (h' cur.fa (ζ cur.fs) cur.fc):=λq hq=>HJ.a.low ZM.o hq;have g:∀{q o},q<δ U.1->W.1[q]?=C' o->W9.1[q]?=C' o:=fun {q o} hq h=>(g9.block q (ep hq R)<|zM q hq).trans<|aF E.A h;have H9:=ſ<|M (g I aE.1)<|M (g I aE.2.1)<|g I aE.2.2;refine hK.out _ _ (λ_=>H9.o) ?_;clear hK K;have AN:=ſ<|HJ.a.facts L E.A f g9 o9 n9 I;have AM:J (KeepsOthers W<|κ W9 (O nb<|i*5)<|h' a9 (ζ cur.fs+1) c9):=(dJ E.A).trans<|(vW ZM.o g9).trans<|KeepsOthers.setCell _ _ _;clear o9 g9 n9 zM g aE ZM E R;refine pt ?_;refine rt 10 (h:=λK hK=>?_);go_simp;refine hK.out _ _ (λh=>absurd h aj) ?_;clear hK K;refine pt ?_;refine rt 11 (h:=λK hK=>?_);go_simp;refine hK.out _ _ (λh=>absurd h aj) ?_;clear hK K;refine pt ?_;refine rt 12 (h:=λK hK=>?_);have k1:=A9.o _ H9.B;have k2:=(A H9.B).2<|i*5;go_simp;refine hK.out _ _ (λh=>absurd h aj) ?_;clear hK K k1 k2;refine pt ?_;refine dt (h:=?_);generalize κ W9 (O nb<|i*5) (h' a9 (ζ cur.fs+1) c9)=X at *;have GC:=AN.o.kx.size;obtain⟨vp,u3⟩:=Ea<|NE.mk a9 c9 (cur.fs++[f]) cur.ra cur.rc cur.rs;have ae:J (JF N nb i U l vp X):=by rw[u3];exact AN.o
  obtain⟨r,hr⟩:=Ea<|kq s.2 i f;have m:χ U (O kb<|i*68+f)=C' (G r):=by obtain⟨q,hq⟩:=La (l:=s.2) (i:=i) (by rw[H8.c.len];exact lG);rw[(A QT.B).1,cz,Dx _ i f q H8.c.each hq ahc,hr];unfold kq;rw[show s.2.getD i []=q by rw[cy,hq];rfl]
  have g:vp.ra=cur.ra/\vp.rc=cur.rc/\vp.rs=cur.rs/\vp.fs=cur.fs++[f]:=by rw[u3];exact⟨rfl,rfl,rfl,rfl⟩
  have AT:=ſ<|M g hr;have IN:J (∀W':t',W'.1[nb]?=C' (j' (θ<|jq<|l++vp::replicate (N-(i+1)) Nh) 96 (0,0))->χ W' (O nb<|i*5+1)=C' (bk vp.ra (ζ vp.rs) vp.rc)):=λW' h=>by rw[(A h).1,cz];have:=tw _ i vp 1 (at_len (r:=replicate (N-(i+1)) Nh) L) I;exact this
  have o:ζ vp.rs<128:=by rw[g.2.2.1];exact ahe
  have o:=ſ m;clear u3 g hr AN A9 m H9 HCR
  gi_wp2
  refine á (l:=lp) (λW'=>W'.1[nx]?=C' (j' (kL nb N) 46 (0,0))/\W'.1[δ wr.1]?=C' (iN i)/\W'.1[nb]?=C' (j' (θ<|jq<|l++vp::replicate (N-(i+1)) Nh) 96 (0,0))/\W'.1[xb]?=C' (j' (kL kb N) 263 (0,0))/\χ W' (O kb<|i*68+f)=C' (G r)) 15 (hQ:=by rintro⟨_,_,h⟩;exact h) (hS:=⟨ae.o.kx.box QT.a<|show ¬nx=nb by omega,ae.o.kx.box IM.o<|show ¬δ wr.1=nb by omega,ae.o.fE,ae.o.kx.box QT.b<|show ¬xb=nb by omega,ae.o.kx.cell o.o<|show ¬kb=nb by omega⟩) (h:=λaE=>?_);refine tt 0 (cw nb N) (y:=λW' bm=>by have k1:=(A bm.1).1;clear aE bm;go_simp) (h:=?_);refine tt 1 (G i) (y:=λW' bm=>by have k1:=(A bm.2.1).1;clear aE bm;go_simp) (h:=?_);refine tt 2 (cw nb N) (y:=λW' bm=>by have k1:=(A bm.1).1;clear aE bm;go_simp) (h:=?_);refine tt 3 (G i) (y:=λW' bm=>by have k1:=(A bm.2.1).1;clear aE bm;go_simp) (h:=?_);refine tt 4 (Bu nb i) (h:=?_);refine tt 5 (n'<|C'<|O nb<|i*5+1) (h:=?_);refine tt 6 (bk vp.ra (ζ vp.rs) vp.rc) (y:=λW' bm=>by have k1:=IN.o _ bm.2.2.1;clear aE bm;go_simp) (h:=?_);refine tt 7 (cw kb N) (y:=λW' bm=>by have k1:=(A bm.2.2.2.1).1;clear aE bm;go_simp) (h:=?_);refine tt 8 (G i) (y:=λW' bm=>by have k1:=(A bm.2.1).1;clear aE bm;go_simp) (h:=?_);refine tt 9 (G f) (h:=?_);refine tt 10 (n'<|C'<|O kb<|i*68) (h:=?_);refine tt 11 (n'<|C'<|O kb<|i*68+f) (h:=?_);refine tt 12 (G r) (y:=λW' bm=>by have k1:=bm.2.2.2.2;clear aE bm;go_simp) (h:=?_);refine rt 13 (h:=λK hK=>?_);go_simp;refine hK.out _ _ (λ_=>⟨aF aY aE.1,aF aY aE.2.1,aF aY aE.2.2.1,aF aY aE.2.2.2.1,aA aE.2.2.2.2 aY⟩) ?_;clear hK K;refine pt ?_;refine NZ (F:=λV=>pX _ _ _ _ _ _ _ _ _ V) λT3 E=>?_;have ZM:=ſ<|bu ae.o.own.r E.A;have R:δ U.1<=δ T3.1:=br GC E.A.size;refine rt 14 (h:=λK hK=>?_);refine dS rfl (.tmp 61) (.tmp 68) 36 rfl U.1.size 3 i0 (G 0) 1 8 underlying36 ah.a ah.b ah.c ah.C rfl aj (bk vp.ra (ζ vp.rs) vp.rc) (ζ vp.rs) (vp.rs.map G) rfl ZM.o (O X.1.size 0) 1 1 [G r] rfl rfl (Nc E.a) (by intro u hu;rw[eX.1 hu];rfl) (by unfold maxLen;omega) I R ?_;intro f Y o7 g7 n7;obtain⟨a7,c7,rfl⟩:=aX o7;have zM:∀q,q<δ U.1->some q≠φ (h' vp.ra (ζ vp.rs) vp.rc):=λq hq=>ae.o.low ZM.o hq;have f:∀q,q<δ U.1->Y.1[q]?=X.1[q]?:=λq hq=>(g7.block q (ep hq R)<|zM q hq).trans<|E.A.block q<|ep hq GC;have g:=ſ<|M ((f nx I).trans aE.1)<|M ((f wr.1.size I).trans aE.2.1)<|M ((f nb I).trans aE.2.2.1)<|M ((f xb I).trans aE.2.2.2.1)<|(bF<|f kb I).trans aE.2.2.2.2;refine hK.out _ _ (λ_=>g.o) ?_;clear hK K;have L3:=ſ<|ae.o.a! L E.A r g7 o7 n7 I;have AD:J (KeepsOthers X<|κ Y (O nb<|i*5+1)<|h' a7 (ζ vp.rs+1) c7):=(dJ E.A).trans<|(vW ZM.o g7).trans<|KeepsOthers.setCell _ _ _;clear o7 g7 n7 zM f aE ZM E R;refine pt ?_;refine rt 15 (h:=λK hK=>?_);go_simp;refine hK.out _ _ (λh=>absurd h aj) ?_;clear hK K;refine pt ?_;refine rt 16 (h:=λK hK=>?_);go_simp;refine hK.out _ _ (λh=>absurd h aj) ?_;clear hK K;refine pt ?_;refine rt 17 (h:=λK hK=>?_);have k1:=IN.o _ g.c;have k2:=(A g.c).2<|i*5+1;go_simp;refine hK.out _ _ (λh=>absurd h aj) ?_;clear hK K k1 k2;refine pt ?_;refine dt (h:=?_);generalize κ Y (O nb<|i*5+1) (h' a7 (ζ vp.rs+1) c7)=Y at *
  gi_wp2
  refine⟨AM.o.trans AD.o,?_,⟨_,L3.o,?_,?_⟩,HJ.C.keeps<|AM.o.trans AD.o⟩
  .exact⟨L3.o.kx.os.trans HJ.a.kx.os.symm,L3.o.kx.tape.trans HJ.a.kx.tape.symm,L3.o.kx.output.trans HJ.a.kx.output.symm,(AM.o.trans AD.o).size,λk hk=>(L3.o.kx.keep k I I).trans (HJ.a.kx.keep k I I).symm⟩
  .show vp.fs=_;rw[AT.a.2.2.2,HJ.b,nh]
  show vp.rs++[r]=_;rw[AT.a.2.2.1,HJ.c,nh,eR,AT.A];rfl
 case done=>
  rintro D z W hD hS ⟨⟨cur,b,an,bl⟩,cd⟩ hK;have f:qB z=dj t:=hS;rw[f]at an bl
  gi_wp2
  have e:((i:Int)+1)=((i+1:Nat):Int):=I;rw[e];refine⟨?_,?measure⟩;rotate_left
  .simp[intOf];omega
  refine⟨i+1,D::Ds,?_⟩
  (repeat apply Exists.intro)
  refine⟨⟨lG,l++[cur],⟨by simp[L],?_,?_,?_,?_⟩,cd.cons hK I λhm=>L'<|À (Ri.A.at_ D hm).2⟩,rfl⟩
  .have:=b.fE;rw[df,Ju];exact this
  .intro e f;rcases eC.1 f with f|f
   .exact(Ri.a.own e f).kx b.kx (λk h=>aI h) Ri.a.fE
   rw[eX.1 f];exact⟨bC b.own.f I,bC b.own.r I⟩
  .intro j e hj;rcases iL j (ζ l) with h|h
   .rw[iC h]at hj;exact Ri.a.say j e hj
   rw[fh h]at hj;obtain⟨h1,h2⟩:j-ζ l=0/\cur=e:=by have:=(aV.1 hj).1;simp at this;refine⟨I,?_⟩;rw[show j-ζ l=0 by omega]at hj;simpa using hj
   obtain rfl:j=i:=I;subst h2;rw[<-HL.B];exact⟨an,bl⟩
  exact Ri.a.kx.trans b.kx
 rintro D c pre W _ _ h _;exact h.elim
end
section
attribute [local go_sem] Oper.semAt_some
def G2{W:t'}{m B N:Nat}(h:W.1[m]?=C' (j' (θ<|eD<|replicate N ñ) 96 (0,0))):AG m B N (replicate N ñ) W:=
 ⟨h,ak,λe l=>by rw[iM l];exact⟨λh=>absurd rfl h,λ_=>rfl⟩,λi j e f l _ _ R _=>by rw[iM<|aK l]at R;exact absurd rfl R⟩
theorem ĳ{p:Prop}(h:p:=by
 have C:=b.o.1;rw[d! _ 5 (by simp[Value.cells]) N]at C;refine⟨?_,(aP _ _).grown b.o.2 (aD _) (λq e=>by cases e)⟩;rw[(fB C).1,<-YU]
 rfl):p:=h
def tN(g B pb:Nat)(D:List NC)(P:Pm)(pa:u')(pl pc:Nat)(w:t')(hP:PM w g B D P)(o:cF P)(T:mr P)(ho:kF P)(hx:ζ P.nx=ζ P.nd)(b:kU w)(q:jQ w pb<|h' pa pl pc)(j:pb<δ w.1):
  Cl 88 #[gi g (ζ P.nd) B P.nv,h' pa pl pc] w λe Y=>∃j s y,e=o' (cw j<|ζ P.nd)/\jX w.1.size Y j s.2/\mI P s y (0,0)/\Bl w Y:=by
 have hm:=o.most;have It:=o.nv;have HCo:J (∀W,Bl w W->Cl 139 #[gi g (ζ P.nd) B P.nv] W λe Y=>∃rb db,e=o' (KC.dw rb db<|ζ P.nd)/\KC.mR Y W.1.size rb P/\Y.1[db]?=C' (j' #[.iface 328<|k' #[]] 381 (0,0))/\Bl W Y):=λW hW=>rD g B P.nv D P W (hP.below hW) o;have j:=dh<|b 0 aj;have H0:=ſ<|M o<|M T<|M ho<|M hx<|M b q;have HSn:=ſ<|snC o T ho hx;have HRm:J (∀s y wt x,mI P s y wt->ζ (s.2.getD x qR).aG<=8/\s.1<100000):=λs y wt x h=>h.room o x;obtain⟨N,p⟩:=Ea<|ζ P.nd;obtain⟨nv,c⟩:∃nv,nv=P.nv:=⟨_,rfl⟩;have HN:=ſ p;have HNv:=ſ c;rw[<-p,<-c]at HCo|-;rw[<-p]at hm;rw[<-c]at It;obtain⟨u,l,k,m,f⟩:=cG El;have j:J (_/\_/\_/\_):=⟨l,k,m,f⟩;clear hP o T ho hx b q p c l k m f;simp only[gi,KC.dw]at HCo|-;go_enter func88,ntmps88;go_upto_region 1 with(fail)
 refine oP (F:=Code.wp _ _ _ _) λR U=>?_;obtain⟨x1,x2⟩:=A U.b;go_upto_region 2 with(at_make;refine eK _ rfl (.tmp 9) (.tmp 9) 46 rfl R.1.size 96 u _ 5 underlying46 j.a j.b j.c .i64 .i64 N N N rfl rfl rfl rfl (by rw[j.C];omega) (by unfold maxLen;omega) ak ?_;intro p o F;have b:=ſ<|M o F;clear o F)
 have r:J (p.1[δ R.1]?=C' (j' (θ<|eD<|replicate N ñ) 96 (0,0))/\Bl R p):=by exact ĳ
 clear b x1 x2;refine oP (F:=Code.wp _ _ _ _) λF j=>?_;go_upto_region 3 with(fail)
 refine oP (F:=Code.wp _ _ _ _) λW3 D=>?_
 have E:=D.a;have q:=aq j.a E;have Ad:=aq r.A q;have dd:=aq U.a Ad;have u:=U.B;have u:=À r.a;have u:=j.B;have F:=D.B;have F:=D.b;rw[u]at F|-;have u:J (CkC p.1.size (δ p.1+1) w.1.size R.1.size w.1.size N nv (eu g N B) (ý N) W3):=⟨F,aF E j.b,aF Ad U.b,_,G2<|aF q r.a,by rw[rO];rfl⟩;have Wy:J (∀T rb db,Bl W3 T->KC.mR T W3.1.size rb P->T.1[db]?=C' (j' #[.iface 328<|k' #[]] 381 (0,0))->Cl 138 #[KC.dw rb db N,h' pa pl pc,.func (.func 140) #[] #[n'<|cA p.1.size,n'<|C'<|O (δ p.1+1) 0,n'<|cA w.1.size]] T λe Y=>∃s y v,e=o' v/\CkC p.1.size (δ p.1+1) w.1.size R.1.size w.1.size N nv (eu g N B) s Y/\Ky (Wt p.1.size (δ p.1+1) w.1.size R.1.size w.1.size) T Y/\mI P s y (0,0)):=by
  intro T rb db j hRl Hi;have X:=u.o.keep (W':=T) λk o e _=>aF j e;have q:=j.size;have hT4:=H0.e.below<|aq dd j;have hp4:=H0.E.keep (w':=T) λo u h=>aA h<|aq dd j;have hbl:∀{k:Nat} {o:Obj},Wt p.1.size (δ p.1+1) w.1.size R.1.size w.1.size k o->δ w.1<=k:=fun {k o} h=>by rcases h with h|h|h|h|h<;>omega
  obtain⟨l,hL,_⟩:=X.l
  have GP:∀{k:Nat} {L:Array A'} {t:Nat},T.1[k]?=C' (cL L t)->t∈KC.Pf->¬Wt p.1.size (δ p.1+1) w.1.size R.1.size w.1.size k (cL L t):=fun {k L t} C b h3=>by
   rcases h3 with h|h|h|h|⟨⟨c,f,h⟩,_⟩
   .subst h;rw[X.c]at C;rw[<-(eU<|dW C).2.1]at b;revert b;decide
   .subst h;rw[X.x]at C;rw[<-(eU<|dW C).2.1]at b;revert b;decide
   .subst h;rw[hL.fE]at C;rw[<-(eU<|dW C).2.1]at b;revert b;decide
   .subst h;rw[X.p]at C;rw[<-(eU<|dW C).2.1]at b;revert b;decide
   rw[(eU h).2.1]at b;revert b;decide
  have hr:=KC.uB (Wt p.1.size (δ p.1+1) w.1.size R.1.size w.1.size) (CkC p.1.size (δ p.1+1) w.1.size R.1.size w.1.size N nv<|eu g N B) rb db W3.1.size 140 pb P #[n'<|cA p.1.size,n'<|C'<|O (δ p.1+1) 0,n'<|cA w.1.size] pa pl pc T (PI P.nv) (λ_ _ _ next=>next) (â P.nv) (mI P) (ý<|ζ P.nd) (λW hW=>hRl.ty λk L t C b=>hW.box C<|GP C b) Hi (GP Hi aj) H0.a H0.b H0.c H0.d HSn.o
   ⟨λk o h=>by rcases h with h|h|h|h|h;(· exact aI I);(· exact aI I);(· exact aI I);(· exact aI I);exact aH h.1,?_,λs W j h z=>h.keep z,λo h=>L'<|hbl h,λo h=>L'<|hbl h,I,λD w=>Tryz.call140 D w,?_⟩ ⟨D',rfl,fT _ _⟩ hT4 hp4 (by rw[<-HN.o];exact X)
  .rw[<-HN.o]at hr;refine hr.mono ?_;rintro e Y ⟨s,y,rfl,_,b,h3,j,_⟩;exact⟨s,y,_,rfl,b,h3,j⟩
  .rintro s W k o m h z;obtain⟨l,hL,_⟩:=m.l;rcases h with h|h|h|h|⟨⟨c,f,rfl⟩,_⟩
   .subst h;rw[m.c]at z;cases z;rfl
   .subst h;rw[m.x]at z;cases z;rfl
   .subst h;rw[hL.fE]at z;cases z;rfl
   .subst h;rw[m.p]at z;cases z;rfl
   rfl
  intro s y wt W x b u hx _ m _ z;obtain⟨r1,q⟩:=HRm.o s y wt x b;have:=Lr p.1.size (δ p.1+1) w.1.size R.1.size w.1.size N nv (eu g N B) s x (bK y x) (KC.j8 (bK y x)<|KC.bU P (bK y) x) W m (by rw[HN.o];exact u.low x hx) hm It r1 q<|L' z.size;rw[<-HNv.o];exact this
 have b:=aF Ad U.b;obtain⟨x1,x2⟩:=A b;simp only[KC.dw]at Wy;go_upto_region 4 with(first|(go_at_call 139;refine(HCo.o _ dd).mono ?_;rintro e T ⟨rb,db,rfl,c,g,b⟩;have B:=ſ<|M c<|M g b;clear c g b x1 x2)|(go_at_call 138;refine(Wy.o _ _ _ B.B B.a B.b).mono ?_;rintro e C ⟨s,y,v,rfl,c,g,b⟩;have f:=ſ<|M c<|M g b;clear c g b))
 obtain⟨x1,x2⟩:=A f.a.x;obtain⟨l,hL,b⟩:=f.a.l;go_wp2_with fail;refine aC (v:=h' (cA R.1.size) N N) (by simp[results88,go_sem];omega) rfl ⟨δ R.1,s,y,rfl,by rw[<-b];exact hL.fr (aD _)<|L' U.a.size,f.B,?_⟩;have z:Ky (Wt p.1.size (δ p.1+1) w.1.size R.1.size w.1.size) w C:=(Ky.of<|aq dd B.B).trans f.b
 exact⟨z.os,z.tape,z.output,z.size,λk Bb=>by
  cases ho:w.1[k]? with
  |none=>have:=Array.getElem?_eq_none_iff.1 ho;omega
  |some o=>exact z.keep k o ho (λh=>by rcases h with h|h|h|h|h<;>omega)⟩
end
section
variable {n t:Int}{R:List Int}
attribute [local go_sem] Oper.semAt_some
def Lp(n:Int)(ts:List Int):Int:=ts.foldl (λlo t=>if t<=n then max lo t else lo)<|-9223372036854775808
def QH(n:Int)(ts:List Int):Int:=ts.foldl (λhi t=>if n<=t then min hi t else hi) 9223372036854775807
def UW(h:R[k]?=C' t):Lp n (R.take<|k+1)=if t<=n then max (Lp n<|R.take k) t else Lp n (R.take k):=by have X:=(aV.1 h).1;rw[cX X,(aV.1 h).2];rw[Lp,uz];rfl
def Vt(h:R[k]?=C' t):QH n (R.take<|k+1)=if n<=t then min (QH n<|R.take k) t else QH n (R.take k):=by have X:=(aV.1 h).1;rw[cX X,(aV.1 h).2];rw[QH,uz];rfl
def aaW(h:p:=by
 rw[aB C]at d;go_wp2_with fail;go_roundw
 case rel=>exact⟨j+1,L,f',by rw[d.o],c.o⟩
 exact H'):p:=h
def aaV(h:p:=by
 rw[ax C]at d;go_wp2_with fail;go_roundw
 case rel=>exact⟨j+1,L,f',by rw[d.o],c.o⟩
 exact H'):p:=h
def Qp(n:Int)(b:u')(e:Nat)(R:List Int)(w:t')(h:b7 w b R)(S:∀t∈R,dK t)(X:ζ R<=maxLen)(K:dK n):
  Cl 217 #[G n,h' b (ζ R) e] w (Rb w<|G<|Lp n R):=by
 have s:=ſ<|M h S;obtain⟨m,d⟩:=Ea<|ζ R;rw[<-d]at X|-;have r:=ſ d;unfold maxLen at X;clear h S d;go_enter func217,ntmps217;go_wp2_with fail;go_loopw[5,10] (λb y wr=>∃(j:Nat),j<=m/\y=G j/\b=G (Lp n<|R.take j)/\J (Bl w wr)) (λ_ y _=>m-(intOf y).toNat)
 case atStart=>exact⟨0,bq _,rfl,rfl,aP _ _⟩
 obtain⟨j,f,rfl,rfl,c⟩:=hrel;by_cases L:j<m;rotate_left
 .have a:¬(j:Int)<m:=I;obtain rfl:j=m:=I;go_wp2_with fail;refine aC (v:=G<|Lp n R) ?_ rfl ⟨rfl,c.o⟩;rw[b!<|by rw[r.o];exact aD _];simp[results217,go_sem]
 have a:(j:Int)<m:=I;obtain⟨t,U⟩:=La (l:=R) (i:=j) (by rw[<-r.o];exact L);obtain⟨b,o,rfl,T⟩:=s.a j t U;have a:=aA T c.o;have d:=ſ<|UW (n:=n) U;clear T U;generalize Lp n (R.take j)=a at *;by_cases C:t<=n
 .exact aaW
 exact aaV
def Iy(n:Int)(b:u')(e:Nat)(R:List Int)(w:t')(h:b7 w b R)(S:∀t∈R,dK t)(X:ζ R<=maxLen)(K:dK n):
  Cl 218 #[G n,h' b (ζ R) e] w (Rb w<|G<|QH n R):=by
 have s:=ſ<|M h S;obtain⟨m,d⟩:=Ea<|ζ R;rw[<-d]at X|-;have r:=ſ d;unfold maxLen at X;clear h S d;go_enter func218,ntmps218;go_wp2_with fail;go_loopw[5,10] (λb y wr=>∃(j:Nat),j<=m/\y=G j/\b=G (QH n<|R.take j)/\J (Bl w wr)) (λ_ y _=>m-(intOf y).toNat)
 case atStart=>exact⟨0,bq _,rfl,rfl,aP _ _⟩
 obtain⟨j,f,rfl,rfl,c⟩:=hrel;by_cases L:j<m;rotate_left
 .have a:¬(j:Int)<m:=I;obtain rfl:j=m:=I;go_wp2_with fail;refine aC (v:=G<|QH n R) ?_ rfl ⟨rfl,c.o⟩;rw[b!<|by rw[r.o];exact aD _];simp[results218,go_sem]
 have a:(j:Int)<m:=I;obtain⟨t,U⟩:=La (l:=R) (i:=j) (by rw[<-r.o];exact L);obtain⟨b,o,rfl,T⟩:=s.a j t U;have a:=aA T c.o;have d:=ſ<|Vt (n:=n) U;clear T U;generalize QH n (R.take j)=a at *;by_cases C:n<=t
 .exact aaW
 exact aaV
def ì(l:List Nat)(x:Nat):Bool:=l.any λf=>decide (x<=f)
def Y8{W:t'}{P:Pm}{a:List (Nat×A')}{D:List (Nat×Nat)}(h:KB.IP W P a D):a.map (·.1)=D.map (·.1):=by
 refine dQ λj=>?_;rw[bH,bH];cases C:a[j]? with
 |none=>rw[b?<|by rw[<-h.1];exact rN.1 C];rfl
 |some e=>
  have f:=(aV.1 C).1;cases a:D[j]? with
  |none=>have:=rN.1 a;rw[h.1]at f;omega
  |some x=>simp only[gD,dq];exact(h.2 j e x C a).1
def K4(b k B x:Nat)(P:Pm)(w:t')(d:KB.mR w B b P)(i:cF P)(F:ζ P.nx=ζ P.nd)(c:x<ζ P.nd):
  Cl 146 #[KB.dw b k<|ζ P.nd,G x] w (Rb w<|i'<|ì ((P.ins x).map (·.1)) x):=by
 have p:=i.most;obtain⟨b,d⟩:=d;obtain⟨r,g⟩:=La (l:=b) (i:=x) (by rw[d.len];exact c);have a:=d.es x r g;have f:=lE x P.nx 0 λl X=>(i.nx l X).1;have k:ζ r.es<=200:=by
  have C:ζ (P.ins x)<=120:=by show(fJ x 0 P.nx).length<=120;omega
  rw[a.1];omega
 have T:=(d.sys.cell g (p7 (m:=17)<|by rw[d.st x r g];exact KB.MU _)).1;rw[<-Y8 a];have s:=ſ<|M d.sys g;have v:J (∀(j:Nat)(e:Nat×A'),r.es[j]?=C' e->e.1<ζ P.nd/\∃o,e.2=KB.yY o):=λj e h=>by obtain⟨y,B⟩:=La (l:=(P.ins x)) (i:=j) (by rw[<-a.1];exact(aV.1 h).1);obtain⟨C,o,b,_⟩:=a.2 j e y h B;refine⟨?_,o,b⟩;have:=mW x P.nx 0 y<|aK B;omega
 obtain⟨N,m⟩:=Ea<|ζ P.nd;rw[<-m]at p c v|-;have c:(x:Int)<N:=I;clear d i F a g f m;simp only[KB.dw];simp only[RR.ev]at T;go_enter func146,ntmps146;go_upto_region 1 with(fail)
 refine oP (F:=Code.wp _ _ _ _) λb U=>?_;obtain⟨E,g⟩:=A U.b;have a:=aA T U.a;go_wp2_with fail;clear E g T a;go_loopw[14] (λy wr=>∃j:Nat,j<=ζ r.es/\y=G j/\J (ì ((r.es.take j).map (·.1)) x=Q'/\Bl w wr)) (λy _=>ζ r.es-(intOf y).toNat)
 case atStart=>exact⟨0,bq _,rfl,rfl,U.a⟩
 obtain⟨j,b,rfl,d⟩:=hrel;by_cases L:j<ζ r.es;rotate_left
 .have b:¬(j:Int)<(ζ r.es:Int):=I;go_wp2_with fail;refine aC (v:=i' Q') (by simp[results146,go_sem]) rfl ⟨?_,d.A⟩;have C:=d.a;rw[b! I]at C;rw[C]
 have b:(j:Int)<(ζ r.es:Int):=I;obtain⟨⟨f,P⟩,h⟩:∃e,r.es[j]?=C' e:=⟨_,aQ L⟩;obtain⟨X,i,b,V⟩:=EE ((s.a.below d.A).row r<|aK s.A) h;obtain⟨g,o,a⟩:=v.o j _ h;simp only at a g b V;subst a;have m:J ((r.es.take<|j+1).map (·.1)=(r.es.take j).map (·.1)++[f]):=by show _=_;rw[cX L,(aV.1 h).2,eR];rfl
 have b:=ſ h;clear h;rw[i];by_cases a:x<=f
 .have D:(x:Int)<=f:=I;go_wp2_with fail;refine aC (v:=i' P') (by simp[results146,go_sem]) rfl ⟨?_,aq d.A aY⟩;congr 2;refine(De.2 ⟨f,bp.2 ⟨_,aK b.o,rfl⟩,J' a⟩).symm
 have D:¬(x:Int)<=f:=I;go_wp2_with fail;go_roundw
 case rel=>
  refine⟨j+1,L,f',?_,aq d.A aY⟩;rw[m.o];rw[ì,any_append,show List.any _ _=Q' from d.a];simpa using a
 exact H'
end
section
variable {c E:PE}{u:VV}
attribute [local go_sem] Oper.semAt_some
def XE(e:PE)(i:Nat)(x y:VV):(e.put i x).put i y=e.put i y:=by simp only[PE.put,PE.mk.injEq,oj];refine⟨?_,?_,?_,?_,?_,?_,?_,?_⟩<;>split<;>rfl
def ace(e:PE)(h:i<8):e.put i (e.at i)=e:=by rcases TR h with rfl|rfl|rfl|rfl|rfl|rfl|rfl|rfl<;>rfl
def KB.acb(e:PE)(h:i<8)(x:Int):(KB.aL e).toArray.setIfInBounds (1+i*2) (G x)=θ (KB.aL<|e.put i ⟨(e.at i).any,x,(e.at i).hi⟩):=by rcases TR h with rfl|rfl|rfl|rfl|rfl|rfl|rfl|rfl<;>rfl
def KB.acd(e:PE)(h:i<8)(x:Int):(KB.aL e).toArray.setIfInBounds (1+i*2+1) (G x)=θ (KB.aL<|e.put i ⟨(e.at i).any,(e.at i).lo,x⟩):=by rcases TR h with rfl|rfl|rfl|rfl|rfl|rfl|rfl|rfl<;>rfl
def ß(u v:VV)(ts:List Int):Int:=if v.lo<u.lo then Lp v.lo ts else v.lo
def WL(u v:VV)(ts:List Int):Int:=if u.hi<v.hi then QH v.hi ts else v.hi
def WK(u v:VV)(ts:List Int):VV:=⟨v.any,ß u v ts,WL u v ts⟩
def vG(old next:PE)(ts:List Int)(k:Nat):PE:=(range k).foldl (λs i=>s.put i<|WK (old.at i) (next.at i) ts) next
def sM(c next:PE)(R:List Int)(k:Nat):vG c next R (k+1)=(vG c next R k).put k (WK (c.at k) (next.at k) R):=by simp[vG,kI]
def Jz(c next:PE)(R:List Int):∀k,k<=8->∀j,(vG c next R k).at j=if j<k then WK (c.at j) (next.at j) R else next.at j
 |0,_,j=>by simp[vG]
 |k+1,a,j=>by
  rw[sM,PE.jO _ I,Jz c next R k I];by_cases h:j=k
  .subst h;simp
  rw[ax h];by_cases a:j<k
  .rw[aB a,aB I]
  rw[ax a,ax I]
def ZS(c next:PE)(R:List Int):∀k,(vG c next R k).r=next.r
 |0=>rfl
 |k+1=>by rw[sM];exact ZS c next R k
structure QP(w:t')(tb:Nat)(old E:PE)(u:VV)(W:t'):Prop where
  o:W.1[δ w.1]?=C' (j' (θ<|KB.aL old) KB.bN (0,0))
  n:W.1[δ w.1+1]?=C' (j' (θ<|KB.aL E) KB.bN (0,0))
  r:W.1[δ w.1+1+1]?=C' (j' (θ<|KB.qd) KB.bN (0,0))
  t:W.1[tb]?=C' (j' #[G u.lo,G u.hi] KB.iH (0,0))
  b:Bl w W
def QP.below{d:t'}(h:QP w a c E u W)(b:Bl W d):QP w a c E u d:=⟨aF b h.o,aF b h.n,aF b h.r,aF b h.t,aq h.b b⟩
def QP.set{i:Nat}(h:QP w a c E u W)(U:δ w.1+1<a)(o:Nat)(x:A')(b:PE)(l:(KB.aL E).toArray.setIfInBounds o x=θ (KB.aL b)):QP w a c b u (κ W (O (δ w.1+1) o) x):=by refine⟨(bh _ _ _ _ I').trans h.o,by rw[aw h.n,l],(bh _ _ _ _ I').trans h.r,(bh _ _ _ _ I').trans h.t,h.b.setCell (Nat.le_succ _) _⟩
def QP.drew(h:QP w a c E u W):QP w a c E u W.drew:=⟨h.o,h.n,h.r,h.t,h.b.drew⟩
def ZT {p:Prop} (h:p:=by
      refine st (λW'=>QP w tb old E1 (old.at i) W') 7 (hS:=HU.o.drew) (h:=λaE=>?_);refine tt 0 (n'<|C'<|O (δ w.1+1)<|1+i*2) (h:=?_);refine tt 1 (n'<|C'<|O (δ w.1+1)<|1+i*2) (h:=?_);refine tt 2 (n'<|C'<|O (δ w.1+1)<|1+i*2+1) (h:=?_);refine tt 3 (G (next.at i).hi) (y:=λW' bm=>by have k1:=(HQ.o _ _ bm).2.1;rw[ck]at k1;clear aE bm;go_simp) (h:=?_);refine tt 4 (n'<|C'<|O tb 1) (h:=?_);refine tt 5 (G (old.at i).hi) (y:=λW' bm=>by have k1:=(HQ.o _ _ bm).2.2.2;clear aE bm;go_simp) (h:=?_);by_cases z:(old.at i).hi<(next.at i).hi
      · refine tt 6 (i' true) (h:=?_)
        clear aE;refine dt (h:=?_);have k1:=(HQ.o _ _ HU.o.drew).2.1;rw[ck]at k1;have u4:dK (next.at i).hi:=by have:=(IS.o i).hi;simp only[aT,aS,bw]at this;exact this
        go_upto_region 9 with(go_at_call 218;refine(HCe.o _ HU.o.drew.b _ u4).mono ?_;rintro e D ⟨rfl,hb⟩;have HX:=ſ<|HU.o.drew.below hb;clear hb k1;obtain⟨_,k1,_⟩:=HQ.o _ _ HX.o;have k2:=(A HX.o.n).2<|1+i*2+1)
        have x:=ſ<|HX.o.set (i:=i) htb (1+i*2+1) (G<|QH (next.at i).hi ts) _<|KB.acd E1 lG _;generalize κ D (O (δ w.1+1)<|1+i*2+1) (G<|QH (next.at i).hi ts)=Y at x|-;clear k1 k2;go_wp2_with fail;go_roundw
        case rel=>
          refine⟨i+1,lG,f',x.o.o,?_,x.o.r,x.o.b⟩;rw[AS.o,WL,aB z];exact x.o.n
        simp[intOf];omega
      refine tt 6 (i' false) (h:=?_);clear aE;refine dt (h:=?_);go_wp2_with fail;go_roundw
      case rel=>
        refine⟨i+1,lG,f',HU.o.o,?_,HU.o.r,HU.o.drew.b⟩;rw[AS.o,WL,ax z];have:=ace E1 lG;have x:(⟨(E1.at i).any,(E1.at i).lo,(next.at i).hi⟩:VV)=E1.at i:=by rw[<-ck]
        rw[x,this];exact HU.o.n
      simp[intOf];omega):p:=h
def Ft(old next:PE)(q:u')(r:Nat)(ts:List Int)(w:t')(h:b7 w q ts)(hi:∀t∈ts,dK t)(X:ζ ts<=maxLen)(hb:∀i,dD<|b6<|next.at i):
  Cl 147 #[k'<|θ<|KB.aL old,k'<|θ<|KB.aL next,h' q (ζ ts) r] w λe j=>e=o' (k'<|θ<|KB.aL<|vG old next ts 8)/\Below w.1.size w j:=by
 have l:=ſ λW (j:Below w.1.size w W) n (K:dK n)=>Qp n q r ts W (h.below j) hi X K;have HCe:=ſ λW (j:Below w.1.size w W) n (K:dK n)=>Iy n q r ts W (h.below j) hi X K;have s:=ſ λi (h:i<8) W=>KB.S0 old h W;have IS:=ſ hb;clear h hi X hb;generalize ζ ts=tn at *;go_enter func147,ntmps147;go_upto_region 1 with fail
 refine ā (F:=Code.wp _ _ _ _) λV B=>?_;have hr:=KB.qtl B.b;have j:=ſ B.D;go_wp2_with (refine wpList_load_mid rfl KB.Xx (.tmp 10) rfl w.1.size 1 rfl (KB.aL old).tail _ hr KB.Xw rfl H ?_);clear hr;go_loopw[12] (λj wr=>∃i:Nat,i<=8/\j=G i/\J (wr.1[δ w.1]?=C' (j' (θ<|KB.aL old) KB.bN (0,0))/\wr.1[δ w.1+1]?=C' (j' (θ<|KB.aL<|vG old next ts i) KB.bN (0,0))/\wr.1[δ w.1+1+1]?=C' (j' (θ<|KB.qd) KB.bN (0,0))/\Below w.1.size w wr)) (λj _=>8-(intOf j).toNat)
 case atStart=>exact⟨0,I,rfl,B.b,B.c,B.d,B.a⟩
 obtain⟨i,j,rfl,m⟩:=hrel;by_cases lG:i<8;rotate_left
 .have o:¬(i:Int)<8:=I;obtain rfl:i=8:=I;have hr:=bf m.b;have U:=b5 (n:=17) m.c rfl;go_wp2_with (first|(refine wpList_load_mid rfl KB.bN (.tmp 4) rfl (δ w.1+1) 0 rfl (KB.aL<|vG old next ts 8) _ hr KB.fX rfl H ?_)|(refine wpList_store_mid rfl KB.bN (.tmp 6) (.tmp 52) rfl (δ w.1+1+1) 0 (θ<|KB.aL<|vG old next ts 8) rfl rfl U H (KB.bn _) ?_));have j:=cm (cs:=KB.qd) m.c (vs:=KB.aL<|vG old next ts 8) rfl;have C:=run_loadVar_mid (P:=Tryz.prog) (ψ wr (δ w.1+1+1) 0<|KB.aL<|vG old next ts 8) (δ w.1+1+1) 0 KB.bN (KB.aL<|vG old next ts 8) _ (bf j) KB.fX rfl H;refine aC (v:=k'<|θ<|KB.aL<|vG old next ts 8) (by simp[results,results147,C,Act.put,asAddr]) rfl ⟨rfl,cM I _ _ _ m.C⟩
 have o:(i:Int)<8:=I;have k:=s.o i lG;go_upto_region 4 with fail
 have X:J (QP w wr.1.size old (vG old next ts i) (old.at i)<|wr.alloc<|j' #[G (old.at i).lo,G (old.at i).hi] KB.iH):=⟨aF aY m.a,aF aY m.b,aF aY m.c,bj _ _,aq m.C aY⟩;generalize wr.alloc (j' #[G (old.at i).lo,G (old.at i).hi] KB.iH)=T at X|-;have htb:δ w.1+1<δ wr.1:=by have:=À m.c;omega
 clear k;generalize m:δ wr.1=tb at *;have f:(vG old next ts i).at i=next.at i:=by rw[Jz _ _ _ _ I,ax I]
 have HQ:J (∀W E,QP w tb old E (old.at i) W->χ W (O (δ w.1+1)<|1+i*2)=C' (G (E.at i).lo)/\χ W (O (δ w.1+1)<|1+i*2+1)=C' (G (E.at i).hi)/\χ W (O tb 0)=C' (G (old.at i).lo)/\χ W (O tb 1)=C' (G (old.at i).hi)):=λW E h=>⟨(KB.S1 h.n lG).1,(KB.S1 h.n lG).2,by rw[(A h.t).1];rfl,by rw[(A h.t).1];rfl⟩;go_upto_region 5 with fail
 refine st (λW'=>QP w tb old (vG old next ts i) (old.at i) W') 7 (hS:=X.o.drew) (h:=λaE=>?_);refine tt 0 (n'<|C'<|O (δ w.1+1)<|1+i*2) (h:=?_);refine tt 1 (n'<|C'<|O (δ w.1+1)<|1+i*2) (h:=?_);refine tt 2 (n'<|C'<|O (δ w.1+1)<|1+i*2) (h:=?_);refine tt 3 (G (next.at i).lo) (y:=λW' bm=>by have k1:=(HQ.o _ _ bm).1;rw[f]at k1;clear aE bm;go_simp) (h:=?_);refine tt 4 (lR tb) (h:=?_);refine tt 5 (G (old.at i).lo) (y:=λW' bm=>by have k1:=(HQ.o _ _ bm).2.2.1;clear aE bm;go_simp) (h:=?_);by_cases u:(next.at i).lo<(old.at i).lo;rotate_left
 .refine tt 6 (i' false) (h:=?_);clear aE;refine dt (h:=?_);go_upto_region 7 with fail
  obtain⟨E1,b⟩:=Ea<|vG old next ts i;have HU:=ſ X.o.drew;rw[<-b]at HU;have g:E1.at i=next.at i:=by rw[b];exact f
  have ck:(E1.at i).hi=(next.at i).hi:=by rw[g]
  have AS:J (vG old next ts (i+1)=E1.put i ⟨(E1.at i).any,(E1.at i).lo,WL (old.at i) (next.at i) ts⟩):=by show _=_;rw[sM,g,b,WK,ß,ax u]
  clear g b X;exact ZT
 refine tt 6 (i' true) (h:=?_);clear aE;refine dt (h:=?_);have k1:=(HQ.o _ _ X.o.drew).1;rw[f]at k1;have u4:dK (next.at i).lo:=by have:=(IS.o i).lo;simp only[aT,aS,bw]at this;exact this
 go_upto_region 7 with(go_at_call 217;refine(l.o _ X.o.drew.b _ u4).mono ?_;rintro e j ⟨rfl,hb⟩;have HX:=ſ<|X.o.drew.below hb;clear hb k1;obtain⟨k1,_,_⟩:=HQ.o _ _ HX.o;have k2:=(A HX.o.n).2<|1+i*2)
 have HU:=ſ<|HX.o.set (i:=i) htb (1+i*2) (G<|Lp (next.at i).lo ts) _<|KB.acb (vG old next ts i) lG _;generalize κ j (O (δ w.1+1)<|1+i*2) (G<|Lp (next.at i).lo ts)=U at HU|-;clear k1 k2;rw[f]at HU;obtain⟨E1,b⟩:=Ea<|(vG old next ts i).put i ⟨(next.at i).any,Lp (next.at i).lo ts,(next.at i).hi⟩;rw[<-b]at HU;have g:E1.at i=⟨(next.at i).any,Lp (next.at i).lo ts,(next.at i).hi⟩:=by rw[b,PE.jO _ lG,aB rfl]
 have ck:(E1.at i).hi=(next.at i).hi:=by rw[g]
 have AS:J (vG old next ts (i+1)=E1.put i ⟨(E1.at i).any,(E1.at i).lo,WL (old.at i) (next.at i) ts⟩):=by show _=_;rw[sM,g,b,XE,WK,ß,aB u]
 clear g b HX X;exact ZT
end
section
attribute [local go_sem] Oper.semAt_some
def SD(P:Pm)(ts:List Int)(x:Nat)(old next:PE):PE:=if old.r&&ì ((P.ins x).map (·.1)) x then vG old next ts 8 else next
abbrev Ő(rb db N:Nat):Obj:=j' #[h' (C'<|O rb 0) N N,.func (.func 275) #[]<|bM db,.func (.func 277) #[]<|bM db] 242 (0,0)
abbrev ő(pv:A')(ta:u')(tn tc:Nat)(nr:Int):Obj:=j' #[pv,h' ta tn tc,G nr] 38 (0,0)
def š{p:Prop}(h:p:=by
 have a:=bf HX.b;have ht:=b5 (n:=17) HX.c rfl;go_wp2_with (first|(refine wpList_load_mid rfl KB.bN (.tmp 7) rfl (δ w.1+1) 0 rfl (KB.aL next) _ a KB.fX rfl H ?_)|(refine wpList_store_mid rfl KB.bN (.tmp 8) (.tmp 21) rfl (δ w.1+1+1) 0 (θ<|KB.aL next) rfl rfl ht H (KB.bn _) ?_));have hq:=cm (cs:=KB.qd) HX.c (vs:=KB.aL next) rfl;have hL:=run_loadVar_mid (P:=Tryz.prog) (ψ X (δ w.1+1+1) 0<|KB.aL next) (δ w.1+1+1) 0 KB.bN (KB.aL next) _ (bf hq) KB.fX rfl H;refine aC (v:=k'<|θ<|KB.aL next) (by simp[results,results145,hL,Act.put,asAddr]) rfl ⟨?_,cM I _ _ _ HX.C⟩
 rw[HZ.o,ax<|by simp[hh]]):p:=h
def Eu(z s B x o j:Nat)(P:Pm)(t:A')(l:u')(D:Nat)(R:List Int)(f:Int)(b next:PE)(w:t')(C:w.1[o]?=C' (Ő z s<|ζ P.nd))(F:w.1[j]?=C' (ő t l (ζ R) D f))(u:KB.mR w B z P)(k:cF P)(E:ζ P.nx=ζ P.nd)(f:x<ζ P.nd)(h:b7 w l R)(hi:∀t∈R,dK t)(t:ζ R<=maxLen)(g:∀i,dD<|b6<|next.at i):
  Cl 145 #[G x,k'<|θ<|KB.aL b,k'<|θ<|KB.aL next,n'<|C'<|O o 0,n'<|C'<|O j 0] w (Rb w<|k'<|θ<|KB.aL<|SD P R x b next):=by
 have r:=ſ λW (j:Bl w W)=>Ft b next l D R W (h.below j) hi t g;have m:=ſ λW (j:Bl w W)=>K4 z s B x P W (u.below j) k E f;have HZ:J (SD P R x b next=if (b.r&&ì ((P.ins x).map (·.1)) x)=true then vG b next R 8 else next):=rfl;have q:=ſ<|M C F;clear h hi t g u k E C F;generalize vG b next R 8=k at *;generalize SD P R x b next=z at *;generalize ì ((P.ins x).map (·.1)) x=C at *
 generalize ζ R=tn at *;generalize ζ P.nd=N at *;simp only[KB.dw]at m;go_enter func145,ntmps145;go_upto_region 1 with fail
 refine ā (F:=Code.wp _ _ _ _) λV g=>?_;have T:χ V (O w.1.size 0)=C' (i' b.r):=by rw[(A g.b).1];rfl
 obtain⟨U,u⟩:=A<|aF g.a q.a;cases E:b.r with
 |false=>
  rw[E]at T HZ;have HX:=ſ<|M g.b<|M g.c<|M g.d g.a;have hh:(false&&C)=false:=rfl;generalize f:V=X at *;go_upto_region 3 with fail
  clear T U u;exact š
 |true=>
  rw[E]at T HZ;cases L:C with
  |false=>
   rw[L]at m HZ;go_upto_region 3 with(go_at_call 146;refine(m.o _ g.a).mono ?_;rintro e X ⟨rfl,l⟩;have HX:=ſ<|M (aF l g.b)<|M (aF l g.c)<|M (aF l g.d)<|M (aq g.a l)<|aF l<|aF g.a q.A;clear l T U u)
   have HX:=ſ<|M HX.a<|M HX.b<|M HX.c HX.d;have hh:(true&&false)=false:=rfl;exact š
  |true=>
   rw[L]at m HZ;go_upto_region 2 with(go_at_call 146;refine(m.o _ g.a).mono ?_;rintro e X ⟨rfl,l⟩;have HX:=ſ<|M (aF l g.b)<|M (aF l g.c)<|M (aF l g.d)<|M (aq g.a l)<|aF l<|aF g.a q.A;clear l T U u)
   obtain⟨j,g⟩:=A HX.D;have o:=bf HX.a;have f:=bf HX.b;go_wp2_with (first|(refine wpList_load_mid rfl KB.bN (.tmp 6) rfl w.1.size 0 rfl (KB.aL b) _ o KB.fX rfl H ?_)|(refine wpList_load_mid rfl KB.bN (.tmp 7) rfl (δ w.1+1) 0 rfl (KB.aL next) _ f KB.fX rfl H ?_)|(go_at_call 147;refine(r.o _ HX.d).mono ?_;rintro e Y ⟨rfl,l⟩;have b:=ſ<|M (aF l HX.c)<|aq HX.d l;clear l j g o f;have ht:=b5 (n:=17) b.a rfl)|(refine wpList_store_mid rfl KB.bN (.tmp 8) (.tmp 20) rfl (δ w.1+1+1) 0 (θ<|KB.aL k) rfl rfl ht H (KB.bn _) ?_));have hq:=cm (cs:=KB.qd) b.a (vs:=KB.aL k) rfl;have hL:=run_loadVar_mid (P:=Tryz.prog) (ψ Y (δ w.1+1+1) 0<|KB.aL k) (δ w.1+1+1) 0 KB.bN (KB.aL k) _ (bf hq) KB.fX rfl H;refine aC (v:=k'<|θ<|KB.aL k) (by simp[results,results145,hL,Act.put,asAddr]) rfl ⟨?_,cM I _ _ _ b.A⟩;rw[HZ.o];rfl
end
section
attribute [local go_sem] Oper.semAt_some
def Fa(P:Pm)(hs:List PE)(k:Nat):List PE:=(range k).foldl (λh i=>h.set i<|KB.bU P (bK h) i) hs
def zj(P:Pm)(y:List PE)(k:Nat):Fa P y (k+1)=(Fa P y k).set k (KB.bU P (bK<|Fa P y k) k):=by simp[Fa,kI]
def tv(P:Pm)(y:List PE):∀k,ζ (Fa P y k)=ζ y
 |0=>rfl
 |k+1=>by rw[zj,jn,tv P y k]
def UB{P:Pm}{y:List PE}{x:Nat}(c:cF P)(T:mr P)(a:ζ P.nx=ζ P.nd)(h:KB.nL P<|bK y)(F:x<ζ y):KB.nL P (bK<|y.set x<|KB.bU P (bK y) x):=λm=>by
 have b:=λm=>Bn<|h m;rw[qA F];split
 .exact⟨_,KB.fZ c T a b x⟩
 exact h m
open KB in
def GO(m f N c:Nat)(q:u')(d:List PE)(e:PE)(w:t')(V:w.1[f]?=C' (j' #[h' q N c] 244 (0,0)))(h:KB.gF w q d)(l:d[m]?=C' e)(d:m<N):
  Cl 219 (ya m f) w (Rb w<|k'<|θ<|KB.aL e):=by
 obtain⟨b,o,rfl,a⟩:=h m e l;have g:(m:Int)<N:=I;clear h l;go_enter func219,ntmps219;go_upto_region 1 with fail
 have B:J ((w.alloc<|j' iZ bN).1[δ w.1]?=C' (j' iZ bN (0,0))/\Bl w (w.alloc<|j' iZ bN)/\(w.alloc<|j' iZ bN).1[f]?=C' (j' #[h' (C'<|O b o) N c] Kc (0,0))/\(w.alloc<|j' iZ bN).rangeAt b (o+m*17) (aL e)):=⟨bj _ _,aY,aF aY V,fD a aY⟩;clear V a;generalize w.alloc (j' iZ bN)=V at B|-;obtain⟨W,k⟩:=A B.c;have a:=B.C;have U:=b5 (n:=17) B.a rfl;go_wp2_with (first|(refine wpList_load_mid rfl bN (.tmp 6) rfl b (o+m*17) rfl (aL e) _ a fX rfl H ?_)|(refine wpList_store_mid rfl bN (.tmp 3) (.tmp 7) rfl w.1.size 0 (θ<|aL e) rfl rfl U H (bn _) ?_));have a:=cm (cs:=qd) B.a (vs:=aL e) rfl;have C:=run_loadVar_mid (P:=Tryz.prog) (ψ V w.1.size 0<|aL e) w.1.size 0 bN (aL e) _ (bf a) fX rfl H;refine aC (v:=k'<|θ<|aL e) (by simp[results,results219,C,Act.put,asAddr]) rfl ⟨rfl,cM (aD _) _ _ _ B.b⟩
open KB in
def KN(Y s B b:Nat)(P:Pm)(u:List PE)(w:t')(E:KB.mR w B Y P)(C:w.1[s]?=C' (j' #[.iface 331<|k' #[]] 386 (0,0)))(g:cF P)(T:mr P)(o:kF P)(F:ζ P.nx=ζ P.nd)(X:ζ u=ζ P.nd)(L:KB.nL P<|bK u)(V:w.1[b]?=C' (j' (θ<|KB.aU u) KB.bN (0,0))):
  Cl 148 #[KB.dw Y s<|ζ P.nd,h' (C'<|O b 0) (ζ P.nd)<|ζ P.nd] w λe w'=>(∃v,e=o' v)/\w'.1[b]?=C' (j' (θ<|KB.aU<|Fa P u<|ζ P.nd) KB.bN (0,0))/\Kx (λk=>k=b) w w'/\KB.nL P (bK<|Fa P u<|ζ P.nd):=by
 have hm:=g.most;have z:=ſ<|M E<|M C<|M (M g<|M T<|M o F)<|M X<|M L V;have f:=À V
 have R:J (∀W x (f:List PE) (t:Nat),KB.mR W B Y P->d' W s #[.iface 331<|k' #[]] 386->KB.nL P (bK f)->ζ f=ζ P.nd->x<ζ P.nd->d' W b (θ<|KB.aU f) KB.bN->d' W t (kL b<|ζ P.nd) 244->Cl 216 #[KB.dw Y s<|ζ P.nd,G x,.func (.func 219) #[]<|bM t] W (Rb W<|k'<|θ<|KB.aL<|KB.bU P (bK f) x)):=λW x f t h1 h2 h3 h4 h5 h6 h7=>
  KB.mQ Y s B x 219 P (bM t) (bK f) W h1 h2 g T o F h5 h3 (λD w=>Tryz.call219 D w) λm hm W' hW=>by
   have l:f[m]?=C' (bK f m):=by rw[bK,cy,aQ<|by rw[h4];exact hm];rfl
   exact GO m t (ζ P.nd) (ζ P.nd) (C'<|O b 0) f (bK f m) W' (aF hW h7) (KB.j9<|aF hW h6) l hm
 obtain⟨N,r⟩:=Ea<|ζ P.nd;rw[<-r]at hm R|-;have HN:=ſ r;clear E C g T o F X L V r;simp only[KB.dw]at R|-;go_enter func148,ntmps148;go_upto_region 1 with fail
 refine å (F:=Code.wp _ _ _ _) λW0 U=>?_;have D:=U.C;have HZ:=ſ D;obtain⟨E,g⟩:=A U.c;clear D;go_wp2_with fail;clear E g;go_loopw[7] (λf wr=>∃j:Nat,j<=N/\f=G j/\J (wr.1[b]?=C' (j' (θ<|KB.aU<|Fa P u j) KB.bN (0,0))/\KB.nL P (bK<|Fa P u j)/\Kx (λk=>k=b) W0 wr)) (λf _=>N-(intOf f).toNat)
 case atStart=>exact⟨0,I,rfl,aF U.a z.E,z.e,vx⟩
 obtain⟨j,hj,rfl,g⟩:=hrel;have f:=HZ.o;by_cases r:j<N;rotate_left
 .have F:¬(j:Int)<N:=I;obtain rfl:j=N:=I;go_wp2_with fail
  go_end0
  exact⟨⟨_,rfl⟩,g.a,(Kx.of U.a).trans g.B,g.b⟩
 have F:(j:Int)<N:=I;have L:ζ (Fa P u j)=N:=by rw[tv,z.d,HN.o]
 have X:=g.B.box U.b I;have o:=g.B.box U.c I;have C:ú w wr KB.Pf:=λk f t h1 h2=>g.B.box (aF U.a h1) λe=>by subst e;rw[z.E]at h1;rw[<-(eU<|dW h1).2.1]at h2;revert h2;decide
 have f:=ſ<|R.o wr j (Fa P u j) (δ w.1+1) (z.a.ty C) (C _ _ _ z.b aj) g.b L r g.a o;have T:J (∀W,Bl wr W->Cl 216 #[k' #[h' (C'<|O Y 0) N N,.func (.func 275) #[]<|bM s,.func (.func 277) #[]<|bM s],G j,.func (.func 219) #[] #[n'<|C'<|O (δ w.1+1) 0]] W (Rb W<|k'<|θ<|KB.aL<|KB.bU P (bK<|Fa P u j) j)):=λW hW=>R.o W j (Fa P u j) (δ w.1+1) (KB.mR.below (z.a.ty C) hW) (aF hW<|C _ _ _ z.b aj) g.b L r (aF hW g.a)<|aF hW o;have HQ:=ſ λW' (h:Bl wr W')=>M (aF h X)<|aF h o;have HP:=ſ<|M L (UB z.c.1 z.c.2.1 z.c.2.2.2 g.b<|by rw[L];exact r);have E:=ſ<|zj P u j;clear f X o C L;generalize KB.bU P (bK<|Fa P u j) j=z at *;go_upto_region 4 with fail
 refine st (λW'=>Bl wr W') 7 (hS:=(aP _ _).drew) (h:=λaE=>?_);refine tt 0 (cw b N) (y:=λW' bm=>by have f:=(A (HQ.o _ bm).2).1;clear aE bm;go_simp) (h:=?_);refine tt 1 (G j) (h:=?_);refine tt 2 (k' #[h' (C'<|O Y 0) N N,.func (.func 275) #[]<|bM s,.func (.func 277) #[]<|bM s]) (y:=λW' bm=>by have f:=(A (HQ.o _ bm).1).1;clear aE bm;go_simp) (h:=?_);refine tt 3 (G j) (h:=?_);refine tt 4 (.func (.func 219) #[] #[n'<|C'<|O (δ w.1+1) 0]) (h:=?_);refine rt 5 (h:=λK hK=>?_);go_simp;refine bE (T.o _ aE) ?_;rintro e X ⟨rfl,l⟩;have m:J (Bl wr X):=aq aE l;clear l aE;refine hK.out _ _ (λ_=>m.o) ?_;clear hK K;refine pt ?_;have aE:=m.o;refine tt 6 (n'<|C'<|O b<|j*17) (h:=?_);clear aE;refine rt 7 (h:=λK hK=>?_);rw[aB H];refine wp_store_mid KB.bN (.tmp 16) (.tmp 15) rfl b (j*17) (θ<|KB.aL z) rfl rfl (KB.lu (aF m.o g.a)<|by rw[HP.a];exact r) H (KB.bn _) ?_;refine hK.out _ _ (λh=>absurd h aj) ?_;clear hK K;refine pt ?_;refine dt (h:=?_);have e:=ſ (M (KB.x8 z (aF m.o g.a) (k:=j)<|by rw[HP.a];exact r)<|show Kx (λk=>k=b) W0 (ψ X b (j*17)<|KB.aL z)from tD (S:=λk=>k=b) (aI rfl) (g.B.trans<|Kx.of m.o) _ _);show Exit.inBlock _ _ _ _<|ψ X b (j*17)<|KB.aL z;generalize ψ X b (j*17) (KB.aL z)=Y at e|-;go_wp2_with fail;go_roundw
 case rel=>exact⟨j+1,r,f',by rw[E.o];exact e.a,by rw[E.o];exact HP.A,e.A⟩
 exact H'
end
section
attribute [local go_sem] Oper.semAt_some
def ò(v:VV):Vl:=⟨3,v.lo,v.hi,Q',0,0⟩
def Wd(e:PE)(n:Nat):List Vl:=(range n).map λi=>ò<|e.at i
def abX(e:PE){n i:Nat}(h:i<n):(Wd e n)[i]?=C' (ò<|e.at i):=by simp[Wd,h]
def xe(e:PE)(n:Nat):ζ (Wd e n)=n:=by simp[Wd]
def kr(e:PE)(n:Nat):List Vl:=if e.r then Wd e n else[]
abbrev Ď(r:Bool)(v:A'):Obj:=j' #[h' D' 0 0,h' D' 0 0,i' r,G 0,v] 96 (0,0)
def ď(r:Bool)(a:u')(j c:Nat):(#[h' D' 0 0,h' D' 0 0,i' r,G 0,h' a j c]).all (·.oneCell')=P':=all_oneCell_toArray (cs:=[h' D' 0 0,h' D' 0 0,i' r,G 0,h' a j c]) (by
 intro u C;simp only[cO,g!,gC]at C
 rcases C with rfl|rfl|rfl|rfl|rfl<;>rfl)
def yQ(e:PE)(n:Nat)(w:t')(K:n<=8):
  Cl 149 #[k'<|θ<|KB.aL e,G n] w λr f=>∃a c,r=o' (k' #[h' D' 0 0,h' D' 0 0,i' e.r,G 0,h' a (ζ<|kr e n) c])/\ρ f w.1.size 73 6 (h' a (ζ<|kr e n) c) (ζ<|kr e n) (dR<|kr e n)/\Below w.1.size w f:=by
 obtain⟨N,S,D,P,b⟩:=cG zK;have u:J (_/\_/\_/\_):=⟨S,D,P,b⟩;clear S D P b;have f:(n:Int)<=8:=I;go_enter func149,ntmps149;go_upto_region 1 with fail
 refine å (F:=Code.wp _ _ _ _) λV B=>?_;have T:χ V (O w.1.size 0)=C' (i' e.r):=by rw[(A B.b).1];rfl
 have r:=ſ B.C;cases f:e.r with
 |false=>rw[f]at T;have U:=b5 (n:=5) B.c rfl;go_wp2_with (refine wpList_store_mid rfl 96 (.tmp 4) (.tmp 11) rfl (δ w.1+1) 0 lL rfl rfl U H (ď _ _ _ _) ?_);have t:=cm (cs:=[h' D' 0 0,h' D' 0 0,i' false,G 0,h' D' 0 0]) B.c (vs:=[h' D' 0 0,h' D' 0 0,i' false,G 0,h' D' 0 0]) rfl;have C:=run_loadVar_mid (P:=Tryz.prog) (ψ V (δ w.1+1) 0 [h' D' 0 0,h' D' 0 0,i' false,G 0,h' D' 0 0]) (δ w.1+1) 0 96 _ _ (bf t) underlying96 rfl H;refine aC (v:=k' lL) (by simp[results,results149,C,Act.put,asAddr]) rfl ⟨D',0,by simp[kr,f],by simp[kr,f];exact cY _ _ _ _,cM I _ _ _ B.a⟩
 |true=>
  rw[f]at T;have q:J (kr e n=Wd e n):=by unfold kr;rw[f];rfl
  go_upto_region 4 with fail
  refine oP (F:=Code.wp _ _ _ _) λp g=>?_;have f:=r.o;have P:=g.B;have K:=g.b;rw[f]at K P|-;clear T;have x:=ſ P;clear P f;go_wp2_with fail;go_loopw[17] (λy wr=>∃(j:Nat)(a:u')(c:Nat),j<=n/\y=G j/\J (wr.1[δ w.1+1+1]?=C' (Ď true (h' a j c))/\ρ wr p.1.size 73 6 (h' a j c) j (dR<|(Wd e n).take j)/\wr.1[δ w.1]?=C' (j' (θ<|KB.aL e) KB.bN (0,0))/\wr.1[δ w.1+1]?=C' (Ď false (h' D' 0 0))/\Below w.1.size w wr/\δ p.1<=δ wr.1)) (λy _=>n-(intOf y).toNat)
  case atStart=>exact⟨0,D',0,bq _,rfl,K,cY _ _ _ _,aF g.a B.b,aF g.a B.c,aq B.a g.a,aD _⟩
  obtain⟨j,a,c,f,rfl,b⟩:=hrel;have P:=x.o;by_cases o:j<n;rotate_left
  .have s:¬(j:Int)<n:=I;obtain rfl:j=n:=I;have f:=bf (L:=[h' D' 0 0,h' D' 0 0,i' true,G 0,h' a j c]) b.a;have U:=b5 (n:=5) b.d rfl;go_wp2_with (first|(refine wpList_load_mid rfl 96 (.tmp 5) rfl (δ w.1+1+1) 0 rfl [h' D' 0 0,h' D' 0 0,i' true,G 0,h' a j c] _ f underlying96 rfl H ?_)|(refine wpList_store_mid rfl 96 (.tmp 4) (.tmp 32) rfl (δ w.1+1) 0 #[h' D' 0 0,h' D' 0 0,i' true,G 0,h' a j c] rfl rfl U H (ď _ _ _ _) ?_));have t:=cm (cs:=[h' D' 0 0,h' D' 0 0,i' false,G 0,h' D' 0 0]) b.d (vs:=[h' D' 0 0,h' D' 0 0,i' true,G 0,h' a j c]) rfl;have C:=run_loadVar_mid (P:=Tryz.prog) (ψ wr (δ w.1+1) 0 [h' D' 0 0,h' D' 0 0,i' true,G 0,h' a j c]) (δ w.1+1) 0 96 _ _ (bf t) underlying96 rfl H;have L:ζ (kr e j)=j:=by rw[q.o,xe]
   refine aC (v:=k' #[h' D' 0 0,h' D' 0 0,i' true,G 0,h' a j c]) (by simp[results,results149,C,Act.put,asAddr]) rfl ⟨a,c,by rw[L],?_,cM I _ _ _ b.e⟩;rw[L,q.o];have C:=b.b;rw[b!<|by rw[xe];exact aD _]at C;refine⟨C.1,C.2.imp id λ⟨g,q,Y,r,h2,f,t⟩=>⟨g,q,Y,r,I,?_,t⟩⟩;rw[dC _ _ _ _ _ I];exact f
  have s:(j:Int)<n:=I;obtain⟨t,Y⟩:=KB.S1 b.c (i:=j) I;have v:=ſ<|yh<|abX e o;go_upto_region 7 with fail
  refine oP (F:=Code.wp _ _ _ _) λT X=>?_;clear t Y;obtain⟨E,D⟩:=A X.b;obtain⟨z,d⟩:=A<|aF X.a b.a;have f:=X.B;have m:=ſ f;have g:=b.E;clear f;go_wp2_with (at_builtin;refine iK _ rfl _ _ 71 rfl p.1.size 73 N (k' nF) 6 48 underlying71 u.a u.b u.c u.C rfl aj (h' a j c) j (dR<|(Wd e n).take j) rfl ((bu b.b X.a).alloc _) (O T.1.size 0) 1 1 (AA<|ò<|e.at j) rfl rfl (GL<|bj T _) (by intro u C;simp only[ò,AA,cO,g!,gC]at C;rcases C with rfl|rfl|rfl|rfl|rfl|rfl<;>rfl) (by simp only[maxLen];omega) I (by have:=m.o;simp;omega) ?_;intro a l k F _;obtain⟨i,h,rfl⟩:=aX k;have W:=ſ (M k<|show Below p.1.size T l from((aP _ _).alloc (by have:=m.o;omega) _).grown F (by have:=m.o;simp;omega) λq e=>((bu b.b X.a).lt q e).1);clear k F E D z d;have m:=(W.A.block (δ w.1+1+1) I).trans<|aF X.a b.a;obtain⟨z,d⟩:=A m)
  have a:J ((κ l (O (δ w.1+1+1) 4)<|h' i (j+1) h).1[δ w.1+1+1]?=C' (Ď true (h' i (j+1) h))/\ρ (κ l (O (δ w.1+1+1) 4)<|h' i (j+1) h) p.1.size 73 6 (h' i (j+1) h) (j+1) (dR<|(Wd e n).take<|j+1)/\(∀k,k≠δ w.1+1+1->(κ l (O (δ w.1+1+1) 4)<|h' i (j+1) h).1[k]?=l.1[k]?)/\Below w.1.size w (κ l (O (δ w.1+1+1) 4)<|h' i (j+1) h)/\δ (κ l (O (δ w.1+1+1) 4)<|h' i (j+1) h).1=δ l.1):=by
   refine⟨by rw[aw m];rfl,?_,λk c=>bh _ _ _ _ c,?_,by simp[World.setCell]⟩
   .rw[v.o];exact nO W.a m aj
   exact((aq b.e X.a).trans<|W.A.mono I).setCell (by show δ w.1<=δ w.1+1+1;omega) _
  generalize κ l (O (δ w.1+1+1) 4) (h' i (j+1) h)=Y at a|-;go_roundw
  case rel=>
   have Y:=W.A.size;have U:=X.a.size;refine⟨j+1,i,h,o,f',a.a,a.b,(a.c _ I).trans<|(W.A.block _ I).trans<|aF X.a b.c,(a.c _ I).trans<|(W.A.block _ I).trans<|aF X.a b.d,a.d,by rw[a.D];omega⟩
  simp[intOf];omega
end
def ke{α β:Type}{f:α->List β}{b:Nat}:∀(l:List α),(∀x∈l,ζ (f x)<=b)->ζ (l.flatMap f)<=ζ l*b
 |[],_=>ak
 |a::l,h=>by have B:=ke l λx F=>h x (by simp[F]);have D:=h a ak;rw[b9,aW,bR,qX];omega
def gX{n k:Nat}(h:n<128 ^ (k+1)):ζ (iI n)<=k+1:=by
 rcases LH (k+1) n h with h|h
 .exact h
 omega
def F4:∀(l:List Nat)(Y:Nat),(∀x∈l,Y<=x/\x<128)->l.Pairwise (·<·)->cR Y (l.map Int.ofNat)=P'
 |[],_,_,_=>rfl
 |a::l,Y,h,hp=>by have D:=h a ak;rw[pairwise_cons]at hp;have B:=F4 l (a+1) (λx F=>⟨hp.1 x F,(h x<|by simp[F]).2⟩) hp.2;have e:((a+1:Nat):Int)=Int.ofNat a+1:=ak;rw[e]at B;simp only[dX,cR,B,x4,aS,bw];exact⟨I',I'⟩
def zX:∀(l:List Nat)(Y:Nat),(∀x∈l,x<128)->∀d∈dm Y (l.map Int.ofNat),d<128
 |[],_,_=>λd Q=>by cases Q
 |a::l,Y,h=>λd Q=>by
  have D:=h a ak;have e:((a+1:Nat):Int)=Int.ofNat a+1:=ak;rw[dX]at Q;simp only[dm,cO]at Q;rcases Q with rfl|Q
  .simp;omega
  rw[<-e]at Q;exact zX l (a+1) (λx F=>h x<|by simp[F]) d Q
def wb:∀(l:List Int)(fl:Int),ζ (dm fl l)=ζ l
 |[],_=>rfl
 |a::l,fl=>by simp[dm,wb l]
def UQ(s:BS):(dj s).Pairwise (·<·):=by rw[vi];exact List.Pairwise.filter _ pairwise_lt_range
def YA{α:Type}[BEq α][LawfulBEq α]{l:List α}{x:α}(h:x∈l):l[l.idxOf x]?=C' x:=by have:=qW h;rw[aQ this,Bp this]
structure ZF(P:Pm)(p:Int)(c:Ct):Prop where
  ok:ku c=P'
  small:ζ (iF c)<=60000
  chk:gS P c=0
def Tv{P:Pm}{p:Int}{l:List NE}(v:Ar P p<|P.rs p)(U:1<=p/\p<=4)(h:FnS P p l):ZF P p ⟨p,1,l.map uU⟩:=by
 obtain⟨L,s,y,q,d,B,c⟩:=h;have w:=v.ins.most;have t:=v.few;have d:=q.iI;have m:∀x∈l.map uU,∃i,i<ζ P.nd/\x.facts=(dj<|cv y i).map Int.ofNat/\x.a! = (dj<|cv y i).map (kq s.2 i)/\x.reached=Q'/\x.rank=0/\x.aG=[]:=by intro x F;obtain⟨e,Q,rfl⟩:=bp.1 F;obtain⟨i,S⟩:=dN.1 Q;have:=c i e S;have d:=(aV.1 S).1;exact⟨i,I,by simp[uU,this.1],by simp[uU,this.2],rfl,rfl,rfl⟩
 have W:∀i,i<ζ P.nd->((⟨p,1,l.map uU⟩:Ct).at i).facts=(dj<|cv y i).map Int.ofNat/\((⟨p,1,l.map uU⟩:Ct).at i).a! = (dj<|cv y i).map (kq s.2 i):=by
  intro i S;obtain⟨e,Q⟩:=La (l:=l) (i:=i) I;have:=c i e Q;have V:(⟨p,1,l.map uU⟩:Ct).at i=uU e:=by simp[Ct.at,cy,Q]
  rw[V];exact⟨by simp[uU,this.1],by simp[uU,this.2]⟩
 have j:∀i f,f∈dj (cv y i)->f<128/\f<P.facts p/\bt (cv y i) f=P':=λi f Y=>by obtain⟨C,k⟩:=(fz (fe B i) f).1 Y;exact⟨C,q.low i f C k,k⟩
 have u:∀i f,i<ζ P.nd->f<128->((⟨p,1,l.map uU⟩:Ct).at i).lQ f=bt (cv y i) f:=λi f S Y=>by
  rw[Nd.lQ,(W i S).1];have:((f:Int)∈(dj<|cv y i).map Int.ofNat)↔bt (cv y i) f=P':=by
   rw[bp];constructor
   .rintro⟨a,ha,e⟩;obtain rfl:a=f:=Dg e;exact(j i a ha).2.2
   intro o;exact⟨f,(fz (fe B i) f).2 ⟨Y,o⟩,rfl⟩
  cases o:bt (cv y i) f with
  |true=>exact dM<|this.2 o
  |false=>exact di λV=>by rw[this.1 V]at o;cases o
 have z:∀i f,i<ζ P.nd->f∈dj (cv y i)->((⟨p,1,l.map uU⟩:Ct).at i).uJ f=kq s.2 i f:=λi f S Y=>by
  rw[Nd.uJ,(W i S).1,(W i S).2];have t:(Int.ofNat f)∈(dj<|cv y i).map Int.ofNat:=bp.2 ⟨f,Y,rfl⟩;have C:=YA t;rw[bH]at C;cases k:(dj<|cv y i)[((dj<|cv y i).map Int.ofNat).idxOf<|Int.ofNat f]? with
  |none=>rw[k]at C;cases C
  |some g=>rw[k]at C;obtain rfl:g=f:=Dg<|J' C;rw[cy,bH];show(Option.map (kq s.2 i)<|(dj<|cv y i)[((dj<|cv y i).map Int.ofNat).idxOf<|Int.ofNat g]?).getD 0=_;rw[k];rfl
 have K:∀i,ζ (dj<|cv y i)<=68:=λi=>by
  rw[vi];have:=Ez (p:=bt<|cv y i) (q:=λf=>decide (f<68)) (range 128) λf Y o=>by have:=q.low i f (cq.1 Y) o;simp;omega
  have k:ζ ((range 128).filter λf=>decide (f<68))=68:=aj;omega
 refine⟨?_,?_,?_⟩
 .simp only[ku,Á,aS,bw,bA,bZ];refine⟨⟨⟨I,?_⟩,I⟩,λx F=>?_⟩
  .simp;omega
  obtain⟨i,S,C,k,N,R,T⟩:=m x F;simp only[cB,aB U.2,e6,eF,C,k,N,R,T,aS,bA,bw,bZ,aB];refine⟨⟨⟨⟨rfl,trivial⟩,rfl⟩,F4 _ 0 (λf Y=>⟨bq _,(j i f Y).1⟩)<|UQ _⟩,trivial,λr E=>?_⟩;obtain⟨f,Y,rfl⟩:=bp.1 E;have:=j i f Y;obtain⟨a,b,_⟩:=q.rk i f S this.1 this.2.2;simp only[rk,aS,bw];omega
 .have o:∀x∈l.map uU,ζ (dv p 1 x)<=300:=λx F=>by
   obtain⟨i,S,C,k,N,R,T⟩:=m x F;have Y:=K i;simp only[dv,aB U.2,Æ,C,k,aW,bA];have c:ζ (iI<|ζ<|dj<|cv y i)<=1:=gX (k:=0) I
   have X:=ke (f:=cT) (b:=1) (dm 0<|(dj<|cv y i).map Int.ofNat) λd Q=>gX (k:=0) (by
    have:=zX (dj<|cv y i) 0 (λf Y=>(j i f Y).1) d Q
    simp;omega)
   have a3:=ke (f:=cT) (b:=2) ((dj<|cv y i).map<|kq s.2 i) λr E=>gX (k:=1) (by
    obtain⟨f,Y,rfl⟩:=bp.1 E;have:=j i f Y;obtain⟨a,b,_⟩:=q.rk i f S this.1 this.2.2
    simp;omega)
   rw[wb]at X;simp only[bA]at X a3;omega
  have:=ke (f:=dv p 1) (b:=300) (l.map uU) o;simp only[iF,oH,aW,bR,de,bA]at this|-;have:ζ (iI<|ζ l)<=1:=gX (k:=0) I;omega
 have D:nZ P ⟨p,1,l.map uU⟩=P':=by simp only[nZ,aS,bw,bA,bZ,aB U.2];refine⟨L,λx F=>?_⟩;obtain⟨i,S,C,k,N,R,T⟩:=m x F;rw[C,N];refine⟨λf Y=>?_,rfl⟩;obtain⟨g,hg,rfl⟩:=bp.1 Y;have:=(j i g hg).2.1;simp;omega
 have x:∀i f,i<ζ P.nd->f<128->qM ⟨p,1,l.map uU⟩ f (-1) i=bt (cv y i) f:=λi f S Y=>by rw[qM,u i f S Y];simp
 have a:∀i f r,ζ P.nd<=i->qM ⟨p,1,l.map uU⟩ f r i=Q':=λi f r S=>by
  have:(⟨p,1,l.map uU⟩:Ct).at i=tB:=by simp[Ct.at,cy,b?<|show ζ l<=i by omega]
  rw[qM,this];simp[Nd.lQ,tB]
 have c:∀i f,ζ P.nd<=i->bt (cv y i) f=Q':=λi f S=>by
  cases o:bt (cv y i) f with
  |false=>rfl
  |true=>have:=LI o;omega
 have b:JQ P ⟨p,1,l.map uU⟩=P':=by
  simp only[JQ,bZ,cq,eS,jY];intro f Y n K;have j:f<128:=I
  have e:qM ⟨p,1,l.map uU⟩ f (-1)=λm=>bt (cv y m) f:=funext λm=>by
   rcases iL m (ζ P.nd) with h|h
   .exact x m f h j
   rw[a m f _ h,c m f h]
  rw[e];have C:=q.snd n K<|ji n;have k:=(mS<|fe B n).1 C f j;rw[w6 v q.low K j,show decide (f<P.facts p)=P' by simpa using Y,eV]at k;cases E:P.rule p f n λm=>bt (cv y m) f with
  |false=>exact aI rfl
  |true=>exact aH<|k E
 have S:KQ P ⟨p,1,l.map uU⟩=P':=by
  simp only[KQ,bZ,cq,eS,jY];intro f Y n K;have j:f<128:=I;rw[x n f K j];cases o:bt (cv y n) f with
  |false=>exact aI rfl
  |true=>
   right;have h:=(fz (fe B n) f).2 ⟨j,o⟩;obtain⟨C,k,N⟩:=q.rk n f K j o;rw[z n f K h];refine uF (λm w=>?_) N;rw[aS]at w;have s:m<ζ P.nd:=by have:=LI w.1;omega
   rw[qM,u m f s j,w.1,z m f s<|(fz (fe B m) f).2 ⟨j,w.1⟩];simp only[eV,eS];exact aH w.2
 simp only[gS,D,b,S,aB U.2];simp
def yt{x:Int}(h:Zv x):ζ (AO x)<=10:=by obtain⟨C,a⟩:=h;refine gX (k:=9) ?_;unfold Fm;split<;>omega
def acw{P:Pm}{s:Nat×List Nd}{y:List PE}(b:cF P)(T:mr P)(i:mI P s y (0,0)):ZF P 5 (gJ s.2):=by
 have d:=b.most;have a:=i.iI;have a:=b.nv
 have L:∀x∈s.2,ζ x.aG<=8:=λx F=>by
  cases c:x.reached with
  |true=>rw[((i.zm x F).zJ c).1];exact a
  |false=>rw[((i.zm x F).out c).2];simp
 refine⟨?_,?_,?_⟩
 .simp only[ku,Á,aS,bw,bZ];refine⟨⟨ak,by rw[i.len];omega⟩,λx F=>?_⟩;have h:=i.zm x F;rw[cB,ax aj];cases c:x.reached with
  |false=>have a:=h.out c;simp[ky,c,a.1,a.2,h.fr.1,h.fr.2]
  |true=>
   have S:=h.zJ c;simp only[eM,rk,h.fr.1,h.fr.2,b8,aS,bw,bZ,isEmpty_nil,oj,eS];refine⟨⟨⟨L x F,S.2.1,I⟩,aI trivial⟩,λv R=>?_⟩;have R:=h.each v R;rw[eE,ax aj];rcases R.form with k|k|k
   .simp[k.2.1,k.1,R.hi,k.2.2.1,k.2.2.2]
   .have:v.rank<=100000:=I;simp[nR,k.2.1,k.1,R.hi,k.2.2.2.2,k.2.2.1,this]
   simp[k.2.1,k.1,R.hi,k.2.2.1,k.2.2.2.1,k.2.2.2.2]
 .have f:∀x∈s.2,ζ (dv 5 1 x)<=300:=λx F=>by
   have h:=i.zm x F;rw[dv,ax aj];split;rotate_left
   .simp
   rename_i c;have S:=h.zJ c;simp only[n!,b8,bR,aW];have N:ζ (cT x.rank)<=2:=gX (k:=1) I';have a:ζ (iI<|ζ x.aG)<=1:=gX (k:=0)<|L'<|L x F
   have b:=ke (f:=eY 5 1) (b:=14) x.aG λv R=>by
    have R:=h.each v R;have a:=yt R.lo;have o:=yt R.first;rw[eY,ax aj];split
    .simp;omega
    split;rotate_left
    .simp
    split;rotate_left
    .simp
    rename_i e
    have a:ζ (cT v.rank)<=2:=gX (k:=1) (by
     rcases R.form with k|k|k
     .rw[e]at k;cases k.2.1
     .simp;omega
     .rw[e]at k;cases k.2.1)
    simp;omega
   have:=L x F;omega
  have:=ke (f:=dv 5 1) (b:=300) s.2 f;simp only[iF,oH,aW,bR,de]at this|-;have a:ζ (iI<|ζ s.2)<=1:=gX (k:=0) (by rw[i.len];omega);rw[i.len]at this;omega
 have l:nZ P (gJ s.2)=P':=by
  simp only[nZ,aS,bw,bZ,eS,jY];refine⟨i.len,λx F=>?_⟩;rw[(i.zm x F).fr.1];refine⟨λf Y=>(by cases Y),?_⟩;cases c:x.reached with
  |false=>exact aI rfl
  |true=>exact aH ((i.zm x F).zJ c).1
 have B:mB P (gJ s.2)=P':=(Sv T<|tQ i.zm).2 λn K=>i.snd n K<|ji n;simp only[gS,l,B,i.lst];simp
section
variable {n:Int}{v:VV}
def UU{n:Int}(K:dK n):∀(R:List Int)(j:Int),dK j->j<=n->dK (R.foldl (λj t=>if t<=n then max j t else j) j)/\R.foldl (λj t=>if t<=n then max j t else j) j<=n
 |[],j,h,k=>⟨h,k⟩
 |t::R,j,h,k=>by
  rw[e8];obtain⟨C,a⟩:=h;obtain⟨N,d⟩:=K;by_cases U:t<=n
  .rw[aB U];exact UU ⟨N,d⟩ R _ ⟨I,I⟩ I
  rw[ax U];exact UU ⟨N,d⟩ R _ ⟨C,a⟩ k
def Vs{n:Int}(K:dK n):∀(R:List Int)(S:Int),dK S->n<=S->dK (R.foldl (λS t=>if n<=t then min S t else S) S)/\n<=R.foldl (λS t=>if n<=t then min S t else S) S
 |[],S,h,k=>⟨h,k⟩
 |t::R,S,h,k=>by
  rw[e8];obtain⟨C,a⟩:=h;obtain⟨N,d⟩:=K;by_cases U:n<=t
  .rw[aB U];exact Vs ⟨N,d⟩ R _ ⟨I,I⟩ I
  rw[ax U];exact Vs ⟨N,d⟩ R _ ⟨C,a⟩ k
def adt(K:dK n)(R:List Int):dK (Lp n R)/\Lp n R<=n:=UU K R _ ⟨aj,aj⟩ K.1
def adW(K:dK n)(R:List Int):dK (QH n R)/\n<=QH n R:=Vs K R _ ⟨aj,aj⟩ K.2
def Kw(h:okV 6 v):v.any=Q'/\v.lo<=v.hi/\dK v.lo/\dK v.hi:=by have:=h.form;rw[ax aj]at this;exact⟨this.1,this.2,h.bd.lo,h.bd.hi⟩
def acT{x y:VV}:gL 6 x y↔x.any=y.any/\y.lo<=x.lo/\x.hi<=y.hi:=by rw[gL,ax aj]
def RD{u:VV}(h:okV 6 v)(R:List Int):okV 6 (WK u v R)/\gL 6 v (WK u v R):=by
 obtain⟨C,c,b,d⟩:=Kw h;have N:dK (ß u v R)/\ß u v R<=v.lo:=by
  unfold ß;split
  .exact adt b R
  exact⟨b,cV _⟩
 have a:dK (WL u v R)/\v.hi<=WL u v R:=by
  unfold WL;split
  .exact adW d R
  exact⟨d,cV _⟩
 refine⟨⟨⟨N.1,a.1⟩,?_⟩,acT.2 ⟨rfl,N.2,a.2⟩⟩;rw[ax aj];exact⟨C,by show ß u v R<=WL u v R;omega⟩
def aeI{P:Pm}{c next:PE}{v:EV}(f:Q<=8)(h:PR Q next v)(g:dZ 6 Q v)(a:∃E,v=C' E)(b:∀i,Q<=i->c.at i=VV.z)(R:List Int)(x:Nat):∃z,PR Q (SD P R x c next) z/\dZ 6 Q z/\jk 6 v z:=by
 obtain⟨E,rfl⟩:=a;unfold SD;split;rotate_left
 .exact⟨C' E,h,g,c8 6 _⟩
 have W:∀i,(vG c next R 8).at i=if i<Q then WK (c.at i) (next.at i) R else VV.z:=λi=>by
  rcases iL i 8 with f|f;rotate_left
  .rw[LS _ f,ax I]
  rw[Jz _ _ _ _<|aD _,aB f];split
  .rfl
  rename_i S;have V:next.at i=VV.z:=by rw[h.2.2,cy,b?<|by rw[h.2.1];omega];rfl
  rw[b i I,V];rfl
 refine⟨C'<|(range Q).map λi=>WK (c.at i) (next.at i) R,⟨by rw[ZS];exact h.1,ak,λi=>?_⟩,λb e=>?_,λj a b k d=>?_⟩
 .rw[W,cy,bH];split
  .rename_i S;rw[jv S];rfl
  rename_i S;rw[b? I'];rfl
 .cases e;refine⟨ak,λu C=>?_⟩;obtain⟨i,S,rfl⟩:=bp.1 C;have S:=cq.1 S;rw[h.2.2,cy,aQ<|by rw[h.2.1];exact S];exact(RD ((g E rfl).2 _<|e9 _) R).1
 have f:j<Q:=by rw[<-h.2.1];exact(aV.1 k).1
 rw[bH,jv f]at d;simp at d;subst d;have e:next.at j=a:=by rw[h.2.2,cy,k];rfl
 rw[e];exact(RD ((g E rfl).2 _<|aK k) R).2
def gV(v:VV):Nat:=(v.lo+9223372036854775808).toNat+(9223372036854775807-v.hi).toNat
def gE(vs:List VV):Nat:=(vs.map gV).sum
def Ţ:∀(c d:List VV),ζ c=ζ d->(∀v∈c,okV 6 v)->(∀v∈d,okV 6 v)->jk 6 (C' c) (C' d)->gE d<=gE c/\(jk 6 (C' d) (C' c)\/gE d<gE c)
 |[],[],_,_,_,_=>⟨aD _,aI λj x y h _=>by simp at h⟩
 |[],z::d,X,_,_,_=>by simp at X
 |u::c,[],X,_,_,_=>by simp at X
 |u::c,z::d,X,C,f,h=>by
  have B:=Ţ c d (J' X) (λv R=>C v<|by simp[R]) (λv R=>f v<|by simp[R]) λj x y a b=>h (j+1) x y (J' a)<|J' b;have D:=acT.1<|h 0 u z rfl rfl;obtain⟨l,i,g,k⟩:=Kw<|C u ak;obtain⟨W,e,m,e⟩:=Kw<|f z ak;obtain⟨q,o⟩:=g;obtain⟨g,i⟩:=k;obtain⟨s,r⟩:=m;obtain⟨f,f⟩:=e;have V:gE (z::d)=gV z+gE d:=by simp[gE]
  have d:gE (u::c)=gV u+gE c:=by simp[gE]
  have c:gV z<=gV u:=by unfold gV;omega
  rw[V,d];refine⟨I,?_⟩;by_cases T:u.lo<=z.lo/\z.hi<=u.hi
  .rcases B.2 with k|k
   .refine aI λj x y a b=>?_;cases j with
    |zero=>simp at a b;subst a b;exact acT.2 ⟨by rw[W,l],T.1,T.2⟩
    |succ j=>exact k j x y (J' a)<|J' b
   exact aH I
  refine aH ?_;have:gV z<gV u:=by unfold gV;omega
  have:=B.1;omega
def gP(nv:Nat)(e:PE):Nat:=if e.r then gE ((range nv).map e.at) else 300000000000000000001
def Ĭ(nv:Nat)(hs:List PE):Nat:=(hs.map<|gP nv).sum
def DX{e:PE}{E:List VV}(h:PR Q e<|C' E):(range Q).map e.at=E:=by
 refine dQ λi=>?_;rw[bH];rcases iL i Q with S|S
 .rw[jv S,aQ<|by rw[h.2.1];exact S];simp only[gD,dq];rw[h.2.2,cy,aQ<|by rw[h.2.1];exact S];rfl
 rw[b?<|J' S,b?<|by rw[h.2.1];exact S];rfl
def N0:∀(E:List VV),(∀v∈E,okV 6 v)->gE E<=ζ E*36893488147419103230
 |[],_=>by simp[gE]
 |v::E,h=>by
  have B:=N0 E λu C=>h u (by simp[C]);obtain⟨a,R,⟨b,a⟩,⟨S,a⟩⟩:=Kw<|h v ak;have V:gE (v::E)=gV v+gE E:=by simp[gE]
  rw[V,bR];unfold gV;omega
end
section
variable {P:Pm}{y:List PE}
def XI{Q:Nat}{e:PE}{v:EV}(h:PR Q e v)(i:Nat)(S:Q<=i):e.at i=VV.z:=by
 cases v with
 |none=>rw[show e=PE.zero from h];exact L9 _ i
 |some E=>rw[h.2.2,cy,b?<|by rw[h.2.1];exact S];rfl
structure gu(P:Pm)(hs:List PE)(wt:BS):Prop where
  snd:∀i,i<ζ P.nd->bt wt i=Q'->KB.fq (KB.bU P (bK hs) i) (bK hs i)=P'
def O2{a b:Nat->PE}{n:Nat}(h:∀q∈P.ins n,a q.1=b q.1):KB.bU P a n=KB.bU P b n:=by unfold KB.bU;congr 1;exact eJ λq a=>by rw[h q a]
structure OpB(P:Pm)(ts:List Int)(hs:List PE)(x:Nat):Prop where
  good:∃v,PR P.nv (SD P ts x (bK hs x)<|KB.j8 (bK hs x)<|KB.bU P (bK hs) x) v/\dZ 6 P.nv v
  snd:KB.fq (KB.bU P (bK hs) x) (SD P ts x (bK hs x)<|KB.j8 (bK hs x)<|KB.bU P (bK hs) x)=P'
  less:gP P.nv (SD P ts x (bK hs x)<|KB.j8 (bK hs x)<|KB.bU P (bK hs) x)<gP P.nv (bK hs x)
  bin:∀i,dD<|b6<|(KB.j8 (bK hs x)<|KB.bU P (bK hs) x).at i
def XK(e:cF P)(T:mr P)(p:ζ P.nx=ζ P.nd)(u:List Int)(j:KB.nL P<|bK y)(q:KB.fq (KB.bU P (bK y) x) (bK y x)=Q'):OpB P u y x:=by
 have h:=λm=>Bn<|j m;have c:=KB.fZ e T p h x;have F:=h x;generalize Classical.choose (j x)=v at F;generalize P.say 6 x _=s at c;have Q:=λi=>(KB.cH c.1 c.2 i).1;have p:=λi=>(KB.cH F.1 F.2 i).1;rw[D0 e.nv c.1 F.1 Q p]at q;have f:=S9 e.nv F.1 c.1 p Q;have l:=pK F.2 c.2;cases s with
 |none=>simp[QL]at q
 |some E=>
  have r:∃h,A7 6 v (C' E)=C' h:=by cases v with|none=>exact⟨E,rfl⟩|some t=>exact⟨_,rfl⟩
  obtain⟨z,d,g,o⟩:=aeI (P:=P) e.nv f l r (XI F.1) u x;have R:=dT l c.2 (Nz F.2 c.2) o;have m:=λi=>(KB.cH d g i).1;refine⟨⟨z,d,g⟩,?_,?_,λi=>(KB.cH f l i).2⟩
  .rw[D0 e.nv c.1 d Q m];exact(jV c.2 g).2 R
  cases z with
  |none=>exact absurd R (by simp[jk])
  |some b=>
   have a:=g b rfl;unfold gP;rw[aB d.1,DX d];cases v with
   |none=>rw[show bK y x=PE.zero from F.1];have:=N0 b a.2;have W:=e.nv;rw[a.1]at this;show _<300000000000000000001;have:P.nv*36893488147419103230<=8*36893488147419103230:=Rn _ W;omega
   |some t=>
    rw[aB F.1.1,DX F.1];have e:=F.2 t rfl;have f:=dT l F.2 (Ue F.2 c.2) o;rcases(Ţ t b (by rw[e.1,a.1]) e.2 a.2 f).2 with k|k
    .have:=(jV c.2 F.2).2<|dT g c.2 R k;rw[this]at q;cases q
    exact k
def snB(h:cF P)(T:mr P)(b:ζ P.nx=ζ P.nd)(R:List Int):KB.SnE (σ:=Unit) P (λs _ _ _=>s) (λ_ x c next=>SD P R x c next) (Ĭ P.nv) (λ_ y c=>gu P y c) ():=by
 have j:=h.most;refine⟨⟨λi S a=>?_⟩,λ_ y c x g u F a=>⟨λi S B=>?_⟩,λ_ y c x g u F a=>⟨λi S B=>?_⟩,λ_ y c x g u F a=>(XK h T b R u.hd a).good,λ_ y c x g u F a=>?_⟩
 .rw[wm _ _ I I]at a;simp at a;omega
 .have d:=u.low x F;by_cases e:i=x
  .subst e;exact a
  exact ě
 .have d:=u.low x F;have f:x<ζ y:=by rw[u.len];exact d
  rw[gT,x5,oM (lZ I) I,Ab I I,J8 j b x i I]at B;have c:KB.bU P (bK<|y.set x<|SD P R x (bK y x)<|KB.j8 (bK y x)<|KB.bU P (bK y) x) i=KB.bU P (bK y) i:=O2 λq j=>by rw[qA f,ax];intro e;have d:=B.2;rw[show decide (i<ζ P.nd)=P' by simpa using S,eV]at d;exact gZ d<|bp.2 ⟨q,j,e.symm⟩
  rw[c,qA f];by_cases e:x=i
  .subst e;rw[aB rfl];exact(XK h T b R u.hd a).snd
  rw[ax e];refine g.snd i S ?_;have C:=B.1;simpa[show ¬i=x from λc=>e c.symm]using C
 refine yn PE.zero y x _ (by rw[u.len];exact u.low x F) ?_;exact(XK h T b R u.hd a).less
def wU(P:Pm)(hs:List PE):Prop:=∀i,i<ζ P.nd->KB.fq (KB.bU P (bK hs) i) (bK hs i)=P'
def JP(d:cF P)(T:mr P)(b:ζ P.nx=ζ P.nd){a:Nat->EV}(V:∀m,PR P.nv (bK y m) (a m)/\dZ 6 P.nv (a m)):wU P y↔∀n,n<ζ P.nd->jk 6 (P.say 6 n a) (a n):=by unfold wU;refine forall_congr' λn=>imp_congr Iff.rfl ?_;have c:=KB.fZ d T b V n;rw[D0 d.nv c.1 (V n).1 (λi=>(KB.cH c.1 c.2 i).1) λi=>(KB.cH (V n).1 (V n).2 i).1];exact jV c.2 (V n).2
def JO(i:cF P)(T:mr P)(b:ζ P.nx=ζ P.nd)(j:KB.nL P<|bK y)(X:ζ y=ζ P.nd)(F:x<ζ P.nd)(h:wU P y):wU P (y.set x<|KB.bU P (bK y) x):=by
 obtain⟨a,V⟩:∃a:Nat->EV,∀m,PR P.nv (bK y m) (a m)/\dZ 6 P.nv (a m):=⟨λm=>Classical.choose<|j m,λm=>Bn<|j m⟩;have g:x<ζ y:=by rw[X];exact F
 have c:=KB.fZ i T b V x;have C:=(JP i T b V).1 h
 have f:∀m,PR P.nv (bK (y.set x<|KB.bU P (bK y) x) m) (if x=m then P.say 6 x a else a m)/\dZ 6 P.nv (if x=m then P.say 6 x a else a m):=λm=>by
  rw[qA g];split
  .exact c
  exact V m
 have R:∀m,jk 6 (if x=m then P.say 6 x a else a m) (a m):=λm=>by
  split
  .rename_i e;subst e;exact C x F
  exact c8 6 _
 have d:=λn=>SB (aH rfl) T n (λm=>(f m).2) (λm=>(V m).2) R;refine(JP i T b f).2 λn K=>?_;by_cases e:x=n
 .subst e;rw[aB rfl];exact d x
 rw[ax e];exact dT (nH (aH rfl) T n λm=>(V m).2) (nH (aH rfl) T n λm=>(f m).2) (d n)<|C n K
def MA{P:Pm}(b:cF P)(T:mr P)(a:ζ P.nx=ζ P.nd){y:List PE}(X:ζ y=ζ P.nd):∀k,k<=ζ P.nd->KB.nL P (bK y)->wU P y->wU P (Fa P y k)/\KB.nL P (bK<|Fa P y k)
 |0,_,j,h=>⟨h,j⟩
 |k+1,c,j,h=>by obtain⟨C,c⟩:=MA b T a X k I j h;rw[zj];exact⟨JO b T a c (by rw[tv];exact X) I C,UB b T a c<|by rw[tv,X];omega⟩
end
def vK:∀(l:List Int)(Y m:Int),cR Y l=P'->(∀x∈l,x<m)->(ζ l:Int)+Y<=m\/l=[]
 |[],_,_,_,_=>aH rfl
 |f::r,Y,m,h,hm=>by
  left;simp[cR]at h;obtain⟨⟨C,a⟩,N⟩:=h;have Y:=hm f ak;rcases vK r (f+1) m N (λx F=>hm x<|by simp[F])with d|d
  .simp;omega
  subst d;simp;omega
def aef{α:Type}{l:List α}{f g:α->Bool}(h:∀x∈l,f x=g x):l.all f=l.all g:=by
 induction l with
 |nil=>rfl
 |cons a l B=>rw[qY,qY,h a ak,B λx F=>h x<|by simp[F]]
def Qs{P:Pm}(h:cF P)(p:Int):P.facts p<=68:=by
 have:=EH P.nd 0;have:=h.most;have:=h.nv;have:=sk P;unfold Pm.facts;split
 .omega
 split<;>omega
def Xa{w a:t'}{q:u'}{l:List BS}(h:lK w q l)(c:Bl w a):lK a q l:=λj s f=>by obtain⟨b,o,C,a,N⟩:=h j s f;exact⟨b,o,C,aA a c,aA N c⟩
def Mz{x:Nd}(h:∀f∈x.facts,0<=f/\f<68):bQ (rT x)/\∀f∈dj (rT x),f<68:=by
 have Y:∀g∈N2 x,g<68:=by intro g a;obtain⟨f,Y,rfl⟩:=bp.1 a;have:=h f Y;omega
 have S:bQ (rT x):=ie _ λg a=>by have:=Y g a;omega
 refine⟨S,λf d=>?_⟩;obtain⟨C,b⟩:=(fz S f).1 d;unfold rT at b;rw[lI _ _ C λg a=>by have:=Y g a;omega]at b;exact Y f<|J' b
def Ŷ(h:p:=by
 go_wp2_with (go_at_call 170;refine(P.o _ _ _ (aq b.a<|aq c.o (by first|exact L.o|exact below_drewN L.o _|exact L.o.drew))<|(b.C.below c.o).below (by first|exact L.o|exact below_drewN L.o _|exact L.o.drew)).mono ?_;rintro e C ⟨rfl,z⟩;have K:=ſ<|aq (aq b.a<|aq c.o (by first|exact L.o|exact below_drewN L.o _|exact L.o.drew)) z;clear z);go_ret
 exact⟨rfl,K.o⟩):p:=h
def ŷ(h:p:=by
 go_wp2_with fail;go_ret
 exact⟨rfl,aq b.a<|aq c.o (by first|exact L.o|exact below_drewN L.o _|exact L.o.drew)⟩):p:=h
def z8(g c N Q:Nat)(T:u')(r k:Nat)(p h iI:Int)(R:RS)(y:List BS)(o C x:Bool)(w:t')
  (u:∀W,Bl w W->Cl 150 #[gi g N c Q,G p] W λe f=>∃z,e=o' (p' #[cP z N,G iI])/\og f W.1.size z R/\Bl W f)
  (s:∀W,Bl w W->Cl 167 #[h' T k r,G iI] W (Rb W<|i' o))
  (b:o=P'->∀W,Bl w W->Cl 169 #[h' T k r] W λe f=>∃q,e=o' (cw q k)/\lK f (C'<|O q 0) y/\Bl W f)
  (a:o=P'->∀W B z q,og W B z R->lK W (C'<|O q 0) y->Cl 168 #[cP z N,h' (C'<|O q 0) k k] W (Rb W<|i' C))
  (v:o=P'->h=1->∀W B z,Bl w W->og W B z R->Cl 170 #[cP z N,h' T k r] W (Rb W<|i' x)):
  Cl 95 #[gi g N c Q,k'<|gO p h T k r] w (Rb w<|G<|if o=Q' then 6 else if C=Q' then 7 else if h=1/\x=Q' then 8 else 0):=by
 have j:=ſ u;have y:=ſ s;have X:=ſ b;have V:=ſ a;have d:=ſ v;clear u s b a v;obtain⟨s,b⟩:=Ea ((if o=Q' then 6 else if C=Q' then 7 else if h=1/\x=Q' then 8 else 0):Int);rw[<-b];have i:=ſ b;clear b;simp only[gi,cP]at j V d|-;go_enter func95,ntmps95;go_upto_region 1 with(fail)
 generalize u:(w.alloc<|j' (ei g N c Q) 86).alloc (j' (gO p h T k r) 51)=a;have U:J (Bl w a/\d' a w.1.size (ei g N c Q) 86/\d' a (δ w.1+1) (gO p h T k r) 51):=by subst u;exact⟨cU,eO.1,eO.2⟩
 clear u;have E:=A U.b;have b:=A U.B;go_upto_region 2 with(go_at_call 150;refine(j.o _ U.a).mono ?_;rintro e t ⟨z,rfl,c,l⟩;have g:=ſ<|M c l;clear c l E b)
 generalize u:t.alloc (j' #[h' (C'<|O z 0) N N,.func (.func 267) #[] #[],.func (.func 296) #[] #[]] 260)=F;have b:J (Bl w F/\d' F (δ w.1+1) (gO p h T k r) 51/\d' F t.1.size #[h' (C'<|O z 0) N N,.func (.func 267) #[] #[],.func (.func 296) #[] #[]] 260/\og F a.1.size z R):=by subst u;have c:=aq g.A<|cE t<|j' #[h' (C'<|O z 0) N N,.func (.func 267) #[] #[],.func (.func 296) #[] #[]] 260;exact⟨aq U.a c,aF c U.B,bj _ _,g.a.below aY⟩
 clear u;generalize δ t.1=g at b|-;generalize δ a.1=B at b;have S:J (∀W,Bl F W->χ W (O (δ w.1+1) 0)=C' (G p)/\χ W (O (δ w.1+1) 1)=C' (G h)/\χ W (O (δ w.1+1) 2)=C' (h' T k r)/\χ W (O g 0)=C' (h' (C'<|O z 0) N N)/\χ W (O g 1)=C' iP/\χ W (O g 2)=C' mM):=by intro W j;have R:=(A<|aF j b.b).1;have a:=(A<|aF j b.c).1;exact⟨R 0,R 1,R 2,a 0,a 1,a 2⟩
 have u:=S.o F<|aP _ _;cases o
 .obtain rfl:s=6:=by rw[i.o];rfl
  go_wp2_with (go_at_call 167;refine(y.o _ b.a).mono ?_;rintro e o ⟨rfl,Y⟩;have c:=ſ Y;clear Y);go_ret;exact⟨rfl,aq b.a c.o⟩
 have t:=ſ<|X.o rfl;have j:=ſ<|V.o rfl;have a:=ſ<|d.o rfl;go_upto_region 4 with(go_at_call 167;refine(y.o _ b.a).mono ?_;rintro e o ⟨rfl,Y⟩;have c:=ſ Y;clear Y u)
 have u:=S.o o c.o
 go_region_held3 (λf=>χ f (O (δ w.1+1) 0)=C' (G p)/\χ f (O (δ w.1+1) 1)=C' (G h)/\χ f (O (δ w.1+1) 2)=C' (h' T k r)/\χ f (O g 0)=C' (h' (C'<|O z 0) N N)/\χ f (O g 1)=C' iP/\χ f (O g 2)=C' mM) (go_keep) (first|(have _:=D;go_at_call 168;refine(j.o _ _ _ _ ((b.C.below c.o).below<|aq D.A<|by repeat(first|with_reducible exact aP _ _|with_reducible refine below_drewN ?_ _|with_reducible refine iJ ?_))<|Xa D.a<|by repeat(first|with_reducible exact aP _ _|with_reducible refine below_drewN ?_ _|with_reducible refine iJ ?_)).mono ?_;rintro e d ⟨rfl,X⟩;have p:Bl o d:=aq (aq D.A<|by repeat(first|with_reducible exact aP _ _|with_reducible refine below_drewN ?_ _|with_reducible refine iJ ?_)) X;have L:=ſ p;have o0:=S.o d<|aq c.o p;clear X p)|(go_at_call 169;refine(t.o _<|aq b.a<|aq c.o<|by repeat(first|with_reducible exact aP _ _|with_reducible refine below_drewN ?_ _|with_reducible refine iJ ?_)).mono ?_;rintro e f ⟨q,rfl,d,l⟩;have p:Bl o f:=aq (by repeat(first|with_reducible exact aP _ _|with_reducible refine below_drewN ?_ _|with_reducible refine iJ ?_)) l;have D:=ſ<|M d p;have P:=S.o f<|aq c.o p;clear l p d))
 all_goals
  cases C
  .obtain rfl:s=7:=by rw[i.o];rfl
   exact ŷ
  cases f:(h==1)
  .have d:=J' f;obtain rfl:s=0:=by rw[i.o];simp[d]
   clear d;exact ŷ
  have d:=J' f;have P:=ſ<|a.o d;have a:J (s=if x=Q' then 8 else 0):=by show _=_;rw[i.o];simp[d]
  clear d;cases x
  .obtain rfl:s=8:=by rw[a.o];rfl
   exact Ŷ
  obtain rfl:s=0:=by rw[a.o];rfl
  exact Ŷ
def Be(g q r:Nat)(T:u')(D:List NC)(P:Pm)(c:Ct)(w:t')(hP:PM w g q D P)(s:cF P)(F:ζ P.nx=ζ P.nd)(d:∀n∈P.nd,nw<|jm n)(h:bX w T c.nodes)(B:∀x∈c.nodes,jR x)(o:ku c=P')(z:ζ c.nodes=ζ P.nd)(U:1<=c.aM/\c.aM<=4)(a:c.cu=1\/c.cu=2)(b:kU w):
  Cl 95 #[gi g (ζ P.nd) q P.nv,k'<|gO c.aM c.cu T (ζ P.nd) r] w (Rb w<|G<|gS P c):=by
 have p:=s.most;have a:=Qs s c.aM;have p:=Xc o U.2;have X:=ME s F U;have i:c.nodes.all (L0 (P.facts c.aM:Int))=P'->∀x∈c.nodes,∀f∈x.facts,0<=f/\f<P.facts c.aM:=by intro l x F f Y;rw[Af p]at l;simp only[bZ,bw]at l;exact⟨sX _ 0 (p.cR x F) f Y,l x F f Y⟩
 have k:c.nodes.all (L0 (P.facts c.aM:Int))=P'->∀x∈c.nodes,ζ x.facts<=128:=by
  intro l x F;rcases vK x.facts 0 _ (p.cR x F) (λf Y=>(i l x F f Y).2)with C|C
  .omega
  simp[C]
 have t:c.nodes.all (L0 (P.facts c.aM:Int))=P'->∀x∈c.nodes,∀f∈x.facts,0<=f/\f<68:=by intro l x F f Y;have:=i l x F f Y;omega
 have o:=z8 g q (ζ P.nd) P.nv T r (ζ P.nd) c.aM c.cu (P.facts c.aM:Int) (P.rs c.aM) (c.nodes.map rT) (c.nodes.all<|L0 (P.facts c.aM:Int)) (FT (P.rs c.aM) (c.nodes.map rT)<|ζ P.nd) (AU (P.rs c.aM) c.nodes<|ζ P.nd) w
  (λW j=>BI g q D P c.aM W (hP.below j) s d U)
  (λW j=>by have:=EZ T r c.nodes (P.facts c.aM:Int) W (h.below j) B I;rwa[z]at this)
  (λl W j=>by have:=Sx T r c.nodes W (h.below j) (λx F f Y=>L'<|t l x F f Y) (k l) I;rwa[z]at this)
  (λl W B f q v u=>JN f B (ζ P.nd) (ζ P.nd) (C'<|O q 0) _ _ W v X.ins (by rw[bA,z]) u (by intro s y;obtain⟨x,F,rfl⟩:=bp.1 y;exact(Mz<|t l x F).1))
  (λl d W B f j v=>SP f B (ζ P.nd) r T _ c.nodes W v X.ins (h.below j) z (t l) (λx F=>⟨k l x F,(p.a! d x F).1⟩) (λx F=>Mz<|t l x F)<|b.below j)
 refine o.mono ?_;rintro e E ⟨rfl,l⟩;refine⟨?_,l⟩;congr 2;have Y:nZ P c=c.nodes.all (L0 (P.facts c.aM:Int)):=by rw[Af p];rw[nZ,aB U.2,dM z,eV];refine aef λx F=>?_;simp[(p.bare x F).1]
 rw[gS,Y,aB U.2];cases l:c.nodes.all (L0 (P.facts c.aM:Int))
 .rfl
 have u:Ý P c:=⟨a,z,i l⟩;simp only[Bool.true_eq_false,bB,Ss u X];split
 .rfl
 by_cases d:c.cu=1
 .rw[O8 ⟨u,d,p⟩ X];cases KQ P c<;>simp[d]
 have:c.cu=2:=I;simp[this]
