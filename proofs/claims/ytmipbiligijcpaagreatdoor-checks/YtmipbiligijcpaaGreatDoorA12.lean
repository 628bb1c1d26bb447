import Derived.Deep.CutRange
import Derived.Test.YtmipbiligijcpaaGreatDoorA07
namespace Go.Proofs.YtmipbiligijcpaaGreatDoor
set_option linter.all false
set_option maxHeartbeats 0
set_option maxRecDepth 99999
open Go.RowKit Go.Proofs Go.Maps Tryz List open List renaming length→ζ,toArray→θ open _root_.Array renaming size→δ open World renaming setCell→κ,ownsRow→ρ,cell?→χ,grownBy→ξ open Value renaming ownBlock→φ open Value renaming slice→i',bool→j',agg→l',string→m',pointer→o',tuple→t' open Obj renaming cells→k' open Ending renaming returned→p' open Option renaming some→B',none→C' open Bool renaming true→O',false→P'
variable {N g k n:Nat}{W w:u'}{o:Obj}{p:Prop}
def l6(v:VV):A':=l' #[j' v.any,G v.lo,G v.hi]
def V9{a z:Int}{b X:Bool}(h:a=z)(s:b=X):p' (t' #[G a,j' b])=p' (t' #[G z,j' X]):=by rw[h,s]
def L4(h:p:=by
 refine⟨V9 ?_ ?_,rfl⟩<;>first
  |rfl
  |(exfalso;simp only[aP,wrap64,bh,bq]at *;omega)
  |(simp only[aP,wrap64,bh,bq]at *;omega)):p:=h
def A?(a b:Int)(w:u')(c:aP a=O')(d:aP b=O'):
  Cl 250 #[G a,G b] w λe f=>e=p' (t' #[G (if aP (a+b) then a+b else 0),j' (aP (a+b))])/\f=w:=by
 have T:=hid c;have U:=hid d;clear c d;by_cases Y:aP (a+b)=O'
 ·have v:=hid Y;rw[Y];clear Y;go_enter func250,ntmps250;go_wp2
  all_goals
   go_ret2;have c:=T.o;have d:=U.o;have Y:=v.o;exact L4
 rw[je]at Y;have v:=hid Y;rw[Y];clear Y;go_enter func250,ntmps250;go_wp2
 all_goals
  go_ret2;have c:=T.o;have d:=U.o;have Y:¬(aP (a+b)=O'):=by rw[v.o];decide
  exact L4
def Bb(a b:Int)(w:u')(c:aP a=O')(d:aP b=O'):
  Cl 298 #[G a,G b] w λe f=>e=p' (t' #[G (if aP (a-b) then a-b else 0),j' (aP (a-b))])/\f=w:=by
 have T:=hid c;have U:=hid d;clear c d;by_cases Y:aP (a-b)=O'
 ·have v:=hid Y;rw[Y];clear Y;go_enter func298,ntmps298;go_wp2
  all_goals
   go_ret2;have c:=T.o;have d:=U.o;have Y:=v.o;exact L4
 rw[je]at Y;have v:=hid Y;rw[Y];clear Y;go_enter func298,ntmps298;go_wp2
 all_goals
  go_ret2;have c:=T.o;have d:=U.o;have Y:¬(aP (a-b)=O'):=by rw[v.o];decide
  exact L4
def Rq(h:p:=by
 (repeat first|exact aQ|refine jM ?_ (by first|omega|(simp;omega)) _|refine lz ?_ (by first|omega|(simp;omega)|(simp;done)) _)):p:=h
def Fw(a:VV)(j S:Int)(w:u'):
  Cl 297 #[l6 a,G j,G S] w (Rb w (l6 (cK a j S))):=by
 simp only[l6];go_enter func297,ntmps297;go_wp2
 all_goals
  rename_i C b;refine aC (v:=l6 (cK a j S)) (by simp[results297,go_sem,l6,cK,C,b,Int.not_lt.2 C,Int.not_lt.2 b]) rfl ⟨rfl,?_⟩;exact Rq
def vo(p:Int)(a b:VV)(w:u'):
  Cl 115 #[G p,l6 a,l6 b] w (Rb w (l6 (kh p a b))):=by
 simp only[l6];by_cases U:p=5
 ·subst U;go_enter func115,ntmps115;go_wp2
  all_goals
   refine aC (v:=l6 (kh 5 a b)) (by simp_all[results,results115,go_sem,l6,kh,VV.rZ,VV.gT]) rfl ⟨rfl,?_⟩;exact Rq
 have l:(p==5)=P':=by simp[U]
 go_enter func115,ntmps115;go_wp2
 all_goals
  refine aC (v:=l6 (kh p a b)) (by simp_all[results,results115,go_sem,l6,kh]<;>intros<;>omega) rfl ⟨rfl,?_⟩;exact Rq
section
variable {D:List Int} {f:Int}
def sS{c:Int}{b X:Bool}{P:Int->Prop}(h:b=X)(U:P c):∃a,p' (t' #[G c,j' b])=p' (t' #[G a,j' X])/\P a:=⟨c,by rw[h],U⟩
theorem Zx{p:Prop}(h:p:=by
 go_enter func253,ntmps253;go_wp2
 all_goals
  go_ret2
  exact⟨sS aj (λh=>absurd h aj),aQ⟩):p:=h
def nu(a b:Int)(w:u')(f:aP a=true)(d:aP b=true):
  Cl 253 #[G a,G b] w λe g=>(∃c,e=p' (t' #[G c,j' (aP (a*b))])/\(aP (a*b)=true->c=a*b))/\Bl w g:=by
 have T:J (aP a=true/\aP b=true):=⟨f,d⟩;clear f d;by_cases D:b=0
 ·subst D;go_enter func253,ntmps253;go_wp2
  all_goals
   go_ret2;exact⟨sS (by rw[Int.mul_zero];decide) (λ_=>by rw[Int.mul_zero]),aQ⟩
 by_cases f:a=0
 ·subst f;have c:(b==0)=false:=by simp[D]
  go_enter func253,ntmps253;go_wp2
  all_goals
   go_ret2;exact⟨sS (by rw[Int.zero_mul];decide) (λ_=>by rw[Int.zero_mul]),aQ⟩
 have c:(b==0)=false:=by simp[D]
 have d:(a==0)=false:=by simp[f]
 by_cases C:a=-9223372036854775808/\b=-1
 ·obtain⟨rfl,rfl⟩:=C;exact Zx
 by_cases c:b=-9223372036854775808/\a=-1
 ·obtain⟨rfl,rfl⟩:=c;exact Zx
 have R:(a==-9223372036854775808&&b==-1)=false:=by rw[kJ];simpa using C
 have F:(b==-9223372036854775808&&a==-1)=false:=by rw[kJ];simpa using c
 by_cases N:b=-1
 ·have l:aP (a*b)=true:=by have:=T.a;subst N;simp only[aP,bh,bq]at this⊢;omega
  have v:=hid l;have z:=hid N;have t:(b==-1)=true:=by simp[N]
  have i:(a==-9223372036854775808)=false:=by simp;exact λe=>C ⟨e,N⟩
  have d:(b==-9223372036854775808)=false:=by subst N;decide
  clear l C c N;go_enter func253,ntmps253;go_wp2
  all_goals
   go_ret2;exact⟨sS v.o.symm (λ_=>cy v.o),aQ⟩
 have t:(b==-1)=false:=by simp[N]
 have r:J ((wrap64 ((wrap64 (a*b)).tdiv b)==a)=aP (a*b)):=BD T.A D N;have q:(b==-9223372036854775808)=true->(a==-1)=false:=λe=>by simp at e⊢;exact λL=>c ⟨e,L⟩
 clear C c N;cases i:(a==-9223372036854775808)<;>cases d:(b==-9223372036854775808)
 all_goals
  try have y:=q d
  clear q;go_enter func253,ntmps253;go_wp2;go_quiet (fail);go_wp2;go_ret2;exact⟨sS r.o (λh=>cy h),below_drewN aQ _⟩
def DA(xs:List Int)(f:Int):Int:=if f∈xs then(xs.idxOf f:Int) else -1
def Xf{k:Nat}(a:D[k]?=B' f)(K:∀j,j<k->D[j]?≠B' f):DA D f=k:=by
 have d:=aT a;have L:=(bm.1 a).1;rw[DA,aB d];have C:=sj d;have b:D[D.idxOf f]?=B' f:=by rw[bR C,Ex C]
 have N:¬D.idxOf f<k:=λh=>K _ h b;have d:¬k<D.idxOf f:=λh=>by have z:=not_of_lt_findIdx (p:=(·==f)) (xs:=D) (i:=k) h;rw[bR L]at a;simp only[fD]at a;rw[a]at z;simp at z
 omega
def Xe(K:∀j,j<ζ D->D[j]?≠B' f):DA D f=-1:=by rw[DA,aA];intro d;obtain⟨j,f⟩:=oP.1 d;exact K j (bm.1 f).1 f
def sR(j:x')(r:Nat)(D:List Int)(f:Int)(w:u')(h:cE w j D)(X:ζ D*8<=140737488355328):
  Cl 105 #[i' j (ζ D) r,G f] w (Rb w (G (DA D f))):=by
 have s:=hid h;clear h;go_enter func105,ntmps105;go_wp2;go_loopw[5] (λi wr=>∃k:Nat,k<=ζ D/\i=G k/\J (Bl w wr/\∀j,j<k->D[j]?≠B' f)) (λi _=>ζ D-(intOf i).toNat)
 ·exact⟨0,bj,rfl,aQ,λj d=>I⟩
 obtain⟨k,a,rfl,c⟩:=hrel;by_cases L:k<ζ D;rotate_left
 ·have a:¬(k:Int)<(ζ D:Int):=I;go_wp2;go_ret;exact⟨by rw[Xe (λj d=>c.A j I)];rfl,c.a⟩
 have a:(k:Int)<(ζ D:Int):=I;obtain⟨x,F⟩:=La L;obtain⟨a,a,rfl,Q⟩:=(s.o.below c.a) k x F;have a:=hid F;clear F;by_cases Y:x=f
 ·subst Y;go_wp2;go_ret;exact⟨by rw[Xf a.o c.A];rfl,c.a⟩
 have b:(x==f)=P':=by simp[Y]
 go_wp2;go_roundw
 ·exact⟨k+1,I,f',c.a,λj d=>by
  by_cases e:j=k
  ·subst e;rw[a.o];simp[Y]
  ·exact c.A j I⟩
 exact G'
end
def acV(a:Int)(l:List Int):VV:=l.foldl (λx y=>kh 6 x (VV.one y)) (VV.one a)
structure ArS(w W:u')(b c d:Int)(x:VV):Prop where
  low:Bl w W
  out:W.1[δ w.1]?=B' (k' o4 138 (0,0))
  acc:W.1[δ w.1+1]?=B' (k' (cT x.any x.lo x.hi) 138 (0,0))
  row:W.1[δ w.1+1+1]?=B' (k' #[G b,G c,G d] 2 (0,0))
def mP{W:u'}{b:Nat}{t:TypeId}{F E g:A'}(h:W.1[b]?=B' (k' #[F,E,g] t (0,0)))(e a d:A'):
  (κ (κ (κ W (O b 0) e) (O b 1) a) (O b 2) d).1[b]?=B' (k' #[e,a,d] t (0,0)):=by
 exact aq (aq (aq h e) a) d
def ArS.put{w W t:u'}{b c d:Int}{x:VV}(h:ArS w W b c d x)(e:Bl W t)(y:VV):
  ArS w (κ (κ (κ t (O (δ w.1+1) 0) (j' y.any)) (O (δ w.1+1) 1) (G y.lo)) (O (δ w.1+1) 2) (G y.hi)) b c d y:=by
 have a:=(aY.1 h.out).1;have b:=(aY.1 h.acc).1;have P:=(aY.1 h.row).1;refine⟨?_,?_,?_,?_⟩
 ·exact(((H h.low e).setCell H' _).setCell H' _).setCell H' _
 ·rw[aJ H',aJ H',aJ H'];exact(e.block _ a).trans h.out
 ·exact mP ((e.block _ b).trans h.acc) _ _ _
 rw[aJ H',aJ H',aJ H'];exact(e.block _ P).trans h.row
def pj(a b c d:Int)(f:Bool)(w:u'):
  Cl 251 #[G a,G b,G c,G d,j' f] w (Rb w (l6 (zV a b c d f))):=by
 cases f
 ·go_enter func251,ntmps251;go_wp2;refine aC (v:=l6 (zV a b c d P')) (by simp[results251,go_sem,l6,zV,VV.all]) rfl ⟨rfl,?_⟩
  (repeat first|exact aQ|refine jM ?_ (by first|omega|(simp;omega)) _|refine lz ?_ (by first|omega|(simp;omega)|(simp;done)) _)
 go_enter func251,ntmps251;go_wp2;go_loopw[13] (λi wr=>∃k:Nat,k<=3/\i=G k/\J (ArS w wr b c d (acV a ([b,c,d].take k)))) (λi _=>3-(intOf i).toNat)
 ·
  refine⟨0,I,rfl,?_,?_,?_,?_⟩
  ·exact gB
  ·rw[bQ H'];exact(bL w _ _).1
  ·rw[bQ ak];exact(bL w _ _).2
  have:=cv ((w.alloc (k' o4 138)).alloc (k' #[j' P',G a,G a] 138)) (k' #[G b,G c,G d] 2);simpa using this
 obtain⟨k,f,rfl,g⟩:=hrel;obtain⟨x,F⟩:=Ea (acV a ([b,c,d].take k));rw[<-F]at g;have o:=hid F;clear F;have E:=M g.o.acc;have j:=M g.o.row;by_cases L:k<3;rotate_left
 ·have h:¬(k:Int)<3:=I;have U:k=3:=I;subst U;have f:=M g.o.out;go_wp2;have F:x=zV a b c d O':=o.o;refine aC (v:=l6 (zV a b c d O')) (by rw[<-F];simp[results251,go_sem,l6,f.1]) rfl ⟨rfl,?_⟩
  (repeat first|exact g.o.low|refine jM ?_ (by first|exact aF|omega|(simp;omega)) _)
 have h:(k:Int)<3:=I
 obtain⟨z,f,K⟩:∃z:Int,χ wr ⟨δ w.1+1+1,k,C'⟩=B' (G z)/\acV a ([b,c,d].take (k+1))=kh 6 (acV a ([b,c,d].take k)) (VV.one z):=by
  have:k=0\/k=1\/k=2:=I;rcases this with rfl|rfl|rfl
  ·exact⟨b,by rw[j.1];rfl,rfl⟩
  ·exact⟨c,by rw[j.1];rfl,rfl⟩
  exact⟨d,by rw[j.1];rfl,rfl⟩
 have p:=hid K;clear K j;go_wp2_with fail;obtain⟨y,B⟩:=Ea (kh 6 x (VV.one z));have N:J (∀W,Cl 115 #[G 6,l6 x,l6 (VV.one z)] W (Rb W (l6 y))):=by rw[B];exact λW=>vo 6 x (VV.one z) W
 have a:=hid B;clear B
 go_region_law (go_simp;refine D' (N.o _) λt l=>?_;have S:t.1[δ w.1+1]?=_:=(l.block _ (by simp;exact(aY.1 g.o.acc).1)).trans g.o.acc;have R:=M S;simp only[l6])
 all_goals
  go_wp2;go_roundw
  ·exact⟨k+1,I,f',by rw[p.o,<-o.o,<-a.o];exact g.o.put (H (by repeat(first|with_reducible exact aQ|with_reducible refine below_drewN ?_ _|with_reducible refine jh ?_)) l) y⟩
  exact G'
def Nf{x:Int}(h:-9223372036854775808<=x/\x<=9223372036854775807):aP x=O':=by rw[aP,ei h.1,ei h.2];rfl
def oL.fit{v:VV}(h:oL v):aP v.lo=O'/\aP v.hi=O':=⟨Nf h.lo,Nf h.hi⟩
def aav{K B:Bool}{Q p Y a:Int}(C:K=aP Y/\(K=O'->Q=Y))(b:B=aP a/\(B=O'->p=a)):zV Q p Q p (K&&B)=zV Y a Y a (aP Y&&aP a):=by
 obtain⟨V,N⟩:=C;obtain⟨u,k⟩:=b;rw[<-V,<-u];cases K
 ·rfl
 cases B
 ·rfl
 rw[N rfl,k rfl]
def JK(a b:VV)(w:u')(o:oL a)(l:oL b):
  Cl 252 #[l6 a,l6 b] w (Rb w (l6 (kP a b))):=by
 have j:=o.fit;have k:=l.fit;obtain⟨Q,K,q,i⟩:∃c f,J (∀W,Cl 298 #[G a.lo,G b.hi] W λe d=>e=p' (t' #[G c,j' f])/\d=W)/\J (f=aP (a.lo-b.hi)/\(f=true->c=a.lo-b.hi)):=⟨_,_,λW=>Bb a.lo b.hi W j.1 k.2,rfl,λh=>aB h⟩;obtain⟨p,B,u,g⟩:∃c f,J (∀W,Cl 298 #[G a.hi,G b.lo] W λe d=>e=p' (t' #[G c,j' f])/\d=W)/\J (f=aP (a.hi-b.lo)/\(f=true->c=a.hi-b.lo)):=⟨_,_,λW=>Bb a.hi b.lo W j.2 k.1,rfl,λh=>aB h⟩;clear j k o l;obtain⟨r,c⟩:=Ea (kP a b);have d:J (r=kP a b):=c;rw[<-c];clear c;simp only[l6];go_enter func252,ntmps252;go_wp2_with fail;refine(q.o _).mono ?_;rintro e t ⟨rfl,rfl⟩;go_wp2_with fail;refine(u.o _).mono ?_;rintro e t ⟨rfl,rfl⟩;go_wp2_with fail
 all_goals
  have l:zV Q p Q p (K&&B)=r:=by rw[d.o];exact aav i.o g.o
  refine(pj Q p Q p _ _).mono ?_;rintro e t ⟨rfl,Y⟩;have R:=M ((Y.block _ ak).trans (ND w _ _ _))
  first
   |rw[show zV Q p Q p B=r by rw[<-l];simp_all]
   |rw[show zV Q p Q p false=r by rw[<-l];simp_all]
  simp only[l6];go_wp2_with fail;refine aC (v:=l6 r) (by simp[results,results252,go_sem,l6,R.1]) rfl ⟨rfl,?_⟩
  (repeat first|exact(H (nS w _ _ _) Y)|refine jM ?_ (by first|exact aF|omega|(simp;omega)) _)
def dB(w:u')(ao:x')(vs:List VV):Prop:=∀j v,vs[j]?=B' v->∃b o,ao=B' (O b o)/\χ w (O b (o+j*3))=B' (j' v.any)/\χ w (O b (o+j*3+1))=B' (G v.lo)/\χ w (O b (o+j*3+2))=B' (G v.hi)
def fV(vs:List VV)(var c:Int):VV:=if 0<=var then vs.getD var.toNat ⟨P',0,0⟩ else VV.one c
def Zw{p:Prop}(h:p:=by
 (repeat first|exact aQ|refine jM ?_ (by first|omega|(simp;omega)) _|refine lz ?_ (by first|omega|(simp;omega)|(simp;done)) _)):p:=h
def V5(f:Bool)(z:x')(g:Nat)(E:List VV)(q c:Int)(a:z')(w:u')(h:dB w z E)(X:ζ E<=8)(R:q<ζ E):
  Cl 248 #[l' #[j' f,i' z (ζ E) g],l' #[G q,G c,m' a]] w (Rb w (l6 (fV E q c))):=by
 by_cases D:0<=q;rotate_left
 ·have l:fV E q c=VV.one c:=by simp[fV,D]
  rw[l];go_enter func248,ntmps248;go_wp2;refine aC (v:=l6 (VV.one c)) (by simp[results248,go_sem,l6,VV.one]) rfl ⟨rfl,?_⟩;exact Zw
 obtain⟨k,rfl⟩:∃k:Nat,q=k:=⟨q.toNat,I⟩;have b:k<ζ E:=I;have F:=bR b;obtain⟨b,o,rfl,T,Q,p⟩:=h k _ F;have l:fV E (k:Int) c=E[k]:=by simp[fV,getD,F]
 rw[l];obtain⟨x,d⟩:=Ea (E[k]);rw[<-d]at T Q p⊢;have e:=nS w (k' #[j' f,i' (B' (O b o)) (ζ E) g] 133) (k' #[G k,G c,m' a] 109) (k' o4 138);have t:=ax T e;have Y:=ax Q e;have a:=ax p e;clear d l F h T Q p e;go_enter func248,ntmps248;go_wp2;refine aC (v:=l6 x) (by simp[results248,go_sem,l6]) rfl ⟨rfl,?_⟩;exact Zw
section
variable {p:Int} {D z:List VV}
def dB.below{w b:u'}{q:x'}{E:List VV}(h:dB w q E)(a:Bl w b):dB b q E:=by intro j v f;obtain⟨b,o,e,T,Q,p⟩:=h j v f;exact⟨b,o,e,ax T a,ax Q a,ax p a⟩
def Q4{k:Nat}{x y:VV}(F:D[k]?=B' x)(B:z[k]?=B' y)(h:VV.rZ (kh p x y) y=P'):Ew p (B' D) (B' z)=P':=by show(zip D z).all _=P';rw[kJ];intro a;have d:(x,y)∈zip D z:=aT (u3.2 ⟨F,B⟩);have:=cF.1 a _ d;simp only at this;rw[h]at this;cases this
def XT(h:∀(j:Nat) x y,D[j]?=B' x->z[j]?=B' y->VV.rZ (kh p x y) y=O'):Ew p (B' D) (B' z)=O':=by show(zip D z).all _=O';rw[cF];intro q a;obtain⟨j,f⟩:=oP.1 a;have:=u3.1 f;exact h j _ _ this.1 this.2
theorem ON {p:Prop} (h:p:=by
 have s:J (dB w aa xs/\dB w ba ys):=⟨hx,hy⟩;have C:J (xs.length=n/\ys.length=n):=hl
 first|(have _:=tw;(have b:(List.zipWith (kh p) xs ys).length=n:=by rw[List.length_zipWith];have:=C.o;omega);obtain⟨zz,It⟩:=Ea (List.zipWith (kh p) xs ys);rw[<-It]at b⊢;have NM:=hid (A It b);clear hx hy hl It b;go_enter func73,ntmps73)|(clear hx hy hl;go_enter func72,ntmps72)
 go_wp2_with fail
 first
  | (
    have _:=tw;go_loopw[8] (λi wr=>∃(k:Nat) (oa:Option Addr) (r:Nat),k<=n/\i=G k/\J ((zz.take k).length=k)/\J (JnS w wr (.slice aa n ac) (.slice ba n bc) (zz.take k) oa r)) (λi _=>n-(intOf i).toNat)
    case atStart=>
      refine⟨0,none,0,bj,rfl,rfl,?_⟩
      refine⟨iw,U2.1,U2.2.1,U2.2.2.1,U2.2.2.2,cb,λ_=>rfl⟩)
  | (
    generalize b:(w.alloc (.cells (dI aa n ac) 133)).alloc (.cells (dI ba n bc) 133)=W0;have U:J (Bl w W0/\W0.heap[w.heap.size]?=some (.cells (dI aa n ac) 133 (0,0))/\W0.heap[w.heap.size+1]?=some (.cells (dI ba n bc) 133 (0,0))):=by subst b;exact⟨cG,(bL w _ _).1,(bL w _ _).2⟩
    clear b;go_loopw[7] (λi wr=>∃k:Nat,k<=n/\i=G k/\J (Bl W0 wr/\∀(j:Nat) x y,j<k->xs[j]?=some x->ys[j]?=some y->VV.rZ (kh p x y) y=true)) (λi _=>n-(intOf i).toNat)
    case atStart=>exact⟨0,bj,rfl,aQ,λj x y h=>by omega⟩)
 first|(have _:=tw;obtain⟨k,oa,r,o,rfl,d,HK⟩:=hrel;have E:=M HK.o.bx0;have y1:=M HK.o.bx1;have B:J (Bl w wr):=HK.o.low)|(obtain⟨k,o,rfl,HK⟩:=hrel;have E:=M ((HK.o.1.block _ (aY.1 U.o.2.1).1).trans U.o.2.1);have y1:=M ((HK.o.1.block _ (aY.1 U.o.2.2).1).trans U.o.2.2);have B:J (Bl w wr):=H U.o.1 HK.o.1)
 by_cases L:k<n;rotate_left
 ·have q :¬(k:Int)<(n:Int):=by omega
  first
   |(
      have _:=tw;have b:k=n:=by omega
      have K:J (zz.take k=zz):=by show _=_;rw[cH (by have:=NM.o.2;omega)]
      rw[K.o]at HK;have V:=M HK.o.bx2;have F:=M HK.o.bx3
      have X:=hid HK.o.bx2)
   |(skip)
  go_wp2_with fail
  first
   |(
      have _:=tw;have q0:(wr.setCell (O (w.heap.size+1+1) 0) (.bool false)).cell? (O (w.heap.size+1+1) 0)=some (.bool false):=by rw[(M (aq X.o _)).1];rfl
      have R:((wr.setCell (O (w.heap.size+1+1) 0) (.bool false)).setCell (O (w.heap.size+1+1) 1) (.slice oa zz.length r)).cell? (O (w.heap.size+1+1) 1)=some (.slice oa zz.length r):=by rw[(M (aq (aq X.o _) _)).1];rfl
      refine aC (v:=cu false oa zz.length r) (by simp[results,results73,go_sem,q0,R]) rfl (lu.mk ⟨rfl,rfl,?_,HK.o.nil⟩ ?_)
      ·have N:=QC HK.o.row;cases oa with
       |none=>intro j v hj;obtain⟨b,o,e,_⟩:=N j v hj;cases e
       |some b=>
        rcases HK.o.row.2 with⟨e,_⟩|⟨g,u,b,e,b,_⟩
        ·simp at e
        ·simp at e;obtain⟨rfl,rfl⟩:=e;exact N.heap (by rw[aJ (by show g≠w.heap.size+1+1;omega),aJ (by show g≠w.heap.size+1+1;omega)])
      ·exact(HK.o.low.setCell (by show _<=w.heap.size+1+1;omega) _).setCell (by show _<=w.heap.size+1+1;omega) _)
   |(
      go_ret;refine⟨aN (XT λj x y hx hy=>HK.o.2 j x y ?_ hx hy).symm,B.o⟩;have:=(bm.1 hx).1;have:=C.o
      omega)
 have q:(k:Int)<(n:Int):=by omega
 obtain⟨x,hx⟩:=La (l:=xs) (i:=k) (by have:=C.o;omega);obtain⟨y,hy⟩:=La (l:=ys) (i:=k) (by have:=C.o;omega);obtain⟨b1,l,rfl,T,Q,c2⟩:=(s.o.1.below B.o) k x hx;obtain⟨b2,f,rfl,d0,d1,d2⟩:=(s.o.2.below B.o) k y hy;have HX:=hid (A hx hy);clear hx hy;obtain⟨z,t⟩:=Ea (kh p x y);have g:J (∀W,Cl 115 #[G p,l6 x,l6 y] W (Rb W (l6 z))):=by rw[t];exact λW=>vo p x y W
 have c:=hid t;clear t;go_wp2_with fail
 first|(have _:=tw;go_cut [9] from 16 to 40 (λb q=>∃o:Nat,b=.pointer (some (O o 0))/\J (Bl wr q/\q.heap[o]?=some (.cells #[.bool z.any,G z.lo,G z.hi] 138 (0,0)))))|(go_cut [8] from 24 (λb q=>∃o:Nat,b=.pointer (some (O o 0))/\J (Bl wr q/\q.heap[o]?=some (.cells #[.bool z.any,G z.lo,G z.hi] 138 (0,0)))))
 case first=>
  first|(have _:=tw;(have b:w.heap.size+1<wr.heap.size:=by exact(aY.1 HK.o.bx1).1))|((have b:w.heap.size+1<wr.heap.size:=by have C:=(aY.1 U.o.2.2).1;have b:=HK.o.1.size;omega))
  have N:wr.cell? (O w.heap.size 1)=some (oY b1 l n ac):=by rw[E.1];rfl
  have a2:wr.cell? (O (w.heap.size+1) 1)=some (.slice (some (O b2 f)) n bc):=by rw[y1.1];rfl
  have B:=hid (A N (A a2 (A T (A Q (A c2 (A d0 (A d1 d2)))))));have b:=lP T;have P:=lP d0;have s:w.heap.size≠wr.heap.size:=by omega
  have b:wr.heap.size≠w.heap.size:=by omega
  have b:w.heap.size+1≠wr.heap.size:=by omega
  have b:wr.heap.size≠w.heap.size+1:=by omega
  have b:b1≠wr.heap.size:=by omega
  have b:wr.heap.size≠b1:=by omega
  have b:b2≠wr.heap.size:=by omega
  have b:wr.heap.size≠b2:=by omega
  clear E y1
  go_region_held3 (λw'=>w'.cell? (O w.heap.size 1)=some (oY b1 l n ac)/\w'.cell? (O (w.heap.size+1) 1)=some (.slice (some (O b2 f)) n bc)/\w'.cell? (O b1 (l+k*3))=some (.bool x.any)/\w'.cell? (O b1 (l+k*3+1))=some (G x.lo)/\w'.cell? (O b1 (l+k*3+2))=some (G x.hi)/\w'.cell? (O b2 (f+k*3))=some (.bool y.any)/\w'.cell? (O b2 (f+k*3+1))=some (G y.lo)/\w'.cell? (O b2 (f+k*3+2))=some (G y.hi)) (go_keep) ((go_at_call 115;refine(g.o _).mono ?_;rintro e t ⟨rfl,l⟩;have b:Bl wr t:=H ay l;have R:=ax B.o.1 b;have q2:=ax B.o.2.1 b;have i:=ax B.o.2.2.1 b;have g:=ax B.o.2.2.2.1 b;have g:=ax B.o.2.2.2.2.1 b;have g:=ax B.o.2.2.2.2.2.1 b;have g:=ax B.o.2.2.2.2.2.2.1 b;have g:=ax B.o.2.2.2.2.2.2.2 b;(first|(have It:t.heap[wr.heap.size]?=some (.cells o4 138 (0,0)):=((l.block wr.heap.size ak).trans (cv wr _));have W:=M It;have i:=hid It;clear It)|skip);have g:=b.size;have u:t.heap.size≠w.heap.size:=I;have v:t.heap.size≠w.heap.size+1:=I;have s:t.heap.size≠b1:=I;have q:t.heap.size≠b2:=I;have g:=u.symm;have u:=v.symm;have g:=s.symm;have g:=q.symm;have gb:=hid b;clear b l;simp only[l6]))
  all_goals
   go_wp2_with fail
   go_meet
   first
     |(exact⟨t.heap.size,rfl,gb.o.alloc gb.o.size _,cv t _⟩)
     |(exact⟨wr.heap.size,rfl,((gb.o.setCell aF _).setCell aF _).setCell aF _,mP i.o _ _ _⟩)
 obtain⟨o,rfl,Y⟩:=hcut
 rename World=>t
 first
  | (
    have _:=tw;have g:t.heap[w.heap.size+1+1+1]?=some (.cells #[.bool false,.slice oa k r] 133 (0,0)):=by have:=HK.o.bx3;rw[d.o]at this;exact(Y.o.1.block _ (aY.1 this).1).trans this
    have l:t.ownsRow (w.heap.size+4) 138 3 (.slice oa k r) k (dy (zz.take k)):=by
      have:=aZ HK.o.row Y.o.1;rw[d.o]at this
      exact this)
  |(skip)
 have F:=M Y.o.2
 first
  | (
    have _:=tw;have V:=M g;obtain⟨N,S,i,P,o⟩:=cQ Dx;have q:w.heap.size+4<=(t.alloc (.cells #[.bool z.any,G z.lo,G z.hi] 138)).heap.size:=by have:=(aY.1 g).1;simp;omega
    have b:∀(j:Nat) (u:Value),(dw z)[j]?=some u->(t.alloc (.cells #[.bool z.any,G z.lo,G z.hi] 138)).cell? (((O t.heap.size 0):Addr).add j)=some u:=by intro j u hj;rw[eX,bW,AL];simpa[dw]using hj
    have HI:=hid (A (A S (A i (A P o))) (A (l.alloc (.cells #[.bool z.any,G z.lo,G z.hi] 138)) (A b q)));have D:=hid g;clear S i P o l b q g E y1 T Q c2 d0 d1 d2;go_wp2_with (at_builtin;refine gu rfl _ _ 131 rfl (w.heap.size+4) 138 N _ 3 24 underlying131 HI.o.1.1 HI.o.1.2.1 HI.o.1.2.2.1 HI.o.1.2.2.2 rfl aj (.slice oa k r) k (dy (zz.take k)) rfl HI.o.2.1 (O t.heap.size 0) 1 1 (dw z) rfl rfl HI.o.2.2.1 (by intro u C;simp[dw]at C;rcases C with rfl|rfl|rfl<;>rfl) (by simp only[maxLen];omega) I HI.o.2.2.2 ?_;clear V F;intro b l S F _;obtain⟨a9,c9,rfl⟩:=aV S;have V:=M ((F.block (w.heap.size+1+1+1) (by have:=(aY.1 D.o).1;simp;omega) (by intro e;have:=(HI.o.2.1.lt _ e.symm).1;omega)).trans ((bQ (aY.1 D.o).1).trans D.o));have W:=hid (A S F);clear S F);have b:=HK.o.next (z:=z) (Y.o.1.alloc Y.o.1.size _) (by rw[d.o];exact W.o.2) (by rw[d.o];exact W.o.1);have g:zz.take (k+1)=zz.take k++[z]:=by rw[NM.o.1,c.o];exact Qs HX.o.1 HX.o.2
    rw[d.o,<-g]at b;clear g;go_roundw
    case rel=>
      refine⟨k+1,a9,c9,by omega,by go_num,?_,b⟩;show(zz.take (k+1)).length=k+1;rw[gC];have:=NM.o.2;omega
    case measure=>simp[intOf];omega)
  | (
    have a2:wr.cell? (O (w.heap.size+1) 1)=some (.slice (some (O b2 f)) n bc):=by rw[y1.1];rfl
    have u:=ax a2 Y.o.1;have q0:=ax d0 Y.o.1;have R:=ax d1 Y.o.1;have q2:=ax d2 Y.o.1;clear E y1 a2 T Q c2 d0 d1 d2;have K:J (Bl W0 t):=H HK.o.1 Y.o.1;cases d:VV.rZ z y
    · have S:=hid d
      clear d;have f:z.any≠y.any∨(z.any=y.any/\z.lo≠y.lo)∨(z.any=y.any/\z.lo=y.lo/\z.hi≠y.hi):=by
       have:=S.o;simp only[VV.rZ]at this;by_cases V:z.any=y.any
       ·by_cases u:z.lo=y.lo
        ·by_cases g:z.hi=y.hi
         ·simp[V,u,g]at this
         ·exact aK (aK ⟨V,u,g⟩)
        ·exact aK (aI ⟨V,u⟩)
       ·exact aI V
      have b:J (Ew p (some xs) (some ys)=false):=Q4 HX.o.1 HX.o.2 (by rw[<-c.o];exact S.o);rcases f with V|⟨V,u⟩|⟨V,u,g⟩
      all_goals
       go_wp2_with fail;go_quiet (fail);go_wp2_with fail;go_ret;exact⟨aN b.o.symm,below_drewN (H U.o.1 K.o) _⟩
    · have E:z=y:=(VV.tL z y).1 d
      have S:=hid d;have b:=hid E;clear d;subst E;go_wp2_with fail;go_quiet (fail);go_wp2_with fail;go_roundw
      case rel=>exact⟨k+1,by omega,by go_num,below_drewN K.o _,λj T Q hj E F=>by
       by_cases e:j=k
       ·subst e;rw[HX.o.1]at E;rw[HX.o.2]at F;cases E;cases F;rw[<-c.o];exact S.o
       ·exact HK.o.2 j T Q I E F⟩
      case measure=>simp[intOf];omega)):p:=h
def OI(p:Int)(aa ba:x')(ac bc:Nat)(xs ys:List VV)(w:u')(hx:dB w aa xs)(hy:dB w ba ys)(n:Nat)(hl:ζ xs=n/\ζ ys=n)(a:n<=8):
  Cl 72 #[G p,l' (dI aa n ac),l' (dI ba n bc)] w (Rb w (j' (Ew p (B' xs) (B' ys)))):=by
 exact ON
def Zv{p:Prop}(h:p:=by
 go_enter func72,ntmps72;go_wp2;go_ret
 exact⟨rfl,cG⟩):p:=h
def FF(p:Int)(z a:A')(b:Bool)(w:u'):
  Cl 72 #[G p,l' #[j' O',z],l' #[j' b,a]] w (Rb w (j' O')):=by
 exact Zv
def FE(p:Int)(z a:A')(w:u'):
  Cl 72 #[G p,l' #[j' P',z],l' #[j' O',a]] w (Rb w (j' P')):=by
 exact Zv
end
def QR{p:Prop}(h:p:=by
 go_enter func56,ntmps56;go_wp2
 all_goals
  go_ret2;have V:=s.o
  refine⟨fW ?_ ?_,rfl⟩<;>simp_all[jT,vV,Wm.tZ,Wm.wC,LS]):p:=h
def Jb(c:z')(a b:Int)(w:u')(h:Wm.wC c.1.1=O'):
  Cl 56 #[m' c,G a,G b] w λe d=>e=p' (t' #[G (jT (Wm.tZ c.1.1) a b),j' (vV (Wm.tZ c.1.1) b)])/\d=w:=by
 rw[<-dp]at h⊢;have U:a.tdiv (-1)=-a:=by rw[Cw,LA]
 have X:=hid U;have s:=hid h;clear U h;by_cases a:b=0
 ·subst a;exact QR
 have D:(b==0)=P':=by simp[a]
 by_cases d:b=-1
 ·subst d;go_enter func56,ntmps56;go_wp2
  all_goals
   go_ret2;have V:=s.o;have U:=X.o;refine⟨fW ?_ ?_,rfl⟩<;>simp_all[jT,vV,Wm.tZ,Wm.wC,LS]
 have C:(b==-1)=P':=by simp[d]
 exact QR
def Sa(c:z')(a b:Int)(w:u')(h:Wm.xA c.1.1=O'):
  Cl 55 #[m' c,G a,G b] w λe d=>e=p' (j' (ru (Wm.uw c.1.1) a b))/\d=w:=by
 rw[<-dp]at h⊢;have s:=hid h;clear h;go_enter func55,ntmps55;go_wp2
 all_goals
  go_ret;have V:=s.o;refine⟨aN ?_,rfl⟩<;>simp_all[ru,Wm.uw,Wm.xA]
 ·exact S9 a b
 omega
section
variable {E:List VV} {b:u'} {a:x'} {c:Nat} {d:Bool} {e:EV}
def Dx:(Tryz.prog.info? 138).map (λi=>(i.zero,i.size,i.bytes))=B' (B' (l' o4),3,24):=au
def dw(v:VV):List A':=[j' v.any,G v.lo,G v.hi]
def dy(vs:List VV):List A':=vs.flatMap dw
def pU:∀(E:List VV),ζ (dy E)=ζ E*3
 |[]=>rfl
 |v::r=>by have:=pU r;simp only[dy,cN,bF,cC]at this⊢;simp[dw]at this⊢;omega
def xq:∀(E:List VV) (j:Nat) (v:VV),E[j]?=B' v->∀i x,(dw v)[i]?=B' x->(dy E)[j*3+i]?=B' x
 |[],j,v,h,i,x,hx=>by simp at h
 |a::r,0,v,h,i,x,hx=>by simp at h;subst h;have S:=(bm.1 hx).1;simp only[dy,cN,e?,bW];rw[jN S];exact hx
 |a::r,j+1,v,h,i,x,hx=>by have:=xq r j v (I' h) i x hx;simp only[dy,cN]at this⊢;rw[ek (by simp[dw];omega),<-this];congr 1;simp[dw];omega
def AW:∀(E:List VV) (j:Nat) (x:A'),(dy E)[j]?=B' x->∃v i,E[j / 3]?=B' v/\(dw v)[j % 3]?=B' x/\i=j % 3
 |[],j,x,h=>by simp[dy]at h
 |a::r,j,x,h=>by
  by_cases f:j<3
  ·refine⟨a,j % 3,by rw[CA f];rfl,?_,rfl⟩;rw[nk f];simp only[dy,cN]at h;rw[jN (by simp[dw];omega)]at h;exact h
  simp only[dy,cN]at h;rw[ek (by simp[dw];omega)]at h;obtain⟨v,i,C,a,N⟩:=AW r (j-3) x (by simpa[dy,dw]using h);refine⟨v,j % 3,?_,?_,rfl⟩
  ·rw[show j / 3=(j-3) / 3+1 by omega];simpa using C
  rw[show j % 3=(j-3) % 3 by omega];exact a
def N0:∀u∈dy E,u.oneCell'=O':=by intro u C;simp[dy,dw]at C;obtain⟨v,_,h⟩:=C;rcases h with rfl|rfl|rfl<;>rfl
def Wy{a:Addr}(h:dB w (B' a) E):∀(j:Nat) (u:A'),(dy E)[j]?=B' u->χ w (a.add j)=B' u:=by
 intro j u f;obtain⟨v,i,C,h2,_⟩:=AW E j u f;obtain⟨b,o,e,T,Q,p⟩:=h _ v C;cases e;rw[eX];have a:o+j=o+j / 3*3+j % 3:=I;rw[a];have N:j % 3<3:=AJ _ I;generalize j % 3=m at h2 N⊢
 match m,N,h2 with
 |0,_,h2=>simp[dw]at h2;subst h2;exact T
 |1,_,h2=>simp[dw]at h2;subst h2;exact Q
 |2,_,h2=>simp[dw]at h2;subst h2;exact p
def QC{B:Nat}(h:ρ w B 138 3 (i' a n c) (ζ E) (dy E)):dB w a E:=by
 intro j v f;have r:=(bm.1 f).1;rcases h.2 with⟨_,e⟩|⟨g,a,Y,R,_⟩
 ·omega
 simp at R;obtain⟨rfl,rfl,rfl⟩:=R;have T:=h.cells (g:=g) rfl;have X:∀i x,(dw v)[i]?=B' x->χ w (O g (0+(j*3+i)))=B' x:=by intro i x F;have:=T _ _ (xq E j v f i x F);rwa[eX]at this
 refine⟨g,0,rfl,?_,?_,?_⟩
 ·simpa using X 0 _ rfl
 ·simpa[e9]using X 1 _ rfl
 simpa[e9]using X 2 _ rfl
def VE{b:Array Oper}{q:List Oper}{o:Oper}{a:Act}{Q:Exit->Act->u'->Prop}(V:o.guard=C')(s x:Operand)
  (j:o.op=.call {callee:=.builtin .append,args:=#[s,x],argTypes:=#[131,131]})
  (B:Nat) (k:a.eval s=i' C' 0 0)
  (c:x') (f:Nat) (m:List VV) (F:a.eval x=i' c (ζ m) f) (W:c=C'->f=0) (d:dB w c m)
  (L:ζ m*24<=140737488355328) (v:B<=δ w.1)
  (h:∀z g e,ρ e B 138 3 (i' z (ζ m) g) (ζ m) (dy m)->ξ w e C'->(z=C'->g=0)->wpList Tryz.prog b Q q (a.put o.dst (i' z (ζ m) g)) e):
  wpList Tryz.prog b Q (o::q) a w:=by
 obtain⟨N,S,D,P,a⟩:=cQ Dx;cases c with
 |none=>
  have T:=W rfl;subst T;have i:m=[]:=by
   cases m with
   |nil=>rfl
   |cons y r=>obtain⟨b,o,e,_⟩:=d 0 y rfl;cases e
  subst i;refine wpList_append_own_none V s x 131 j B 138 N 3 underlying131 S (i' C' 0 0) 0 [] k cb F ?_;exact h C' 0 w cb (Cz _ _) (λ_=>rfl)
 |some b=>
  refine Qm w V s x 131 j B 138 N _ 3 24 underlying131 S D P a rfl aj (i' C' 0 0) 0 [] k cb b (ζ m) f (dy m) F (pU m) (Wy d) N0 (by simp only[maxLen];omega) I v ?_;intro R F f k j;rw[bW,ej]at f;obtain⟨a,p,rfl⟩:=aV f;refine h a p F f k (λe=>?_);subst e;rcases f.2 with⟨R,_⟩|⟨g,u,Y,R,_⟩
  ·simp at R;exact R.2
  simp at R
def Sq{W:u'}{Y:Array A'}{t:TypeId}{k:Nat}{x:VV}(h:W.1[g]?=B' (c7 Y t))(U:Y.toList.take (ζ E*3)=dy E)(b:k<ζ E):
  dB (κ (κ (κ W (O g (k*3)) (j' x.any)) (O g (k*3+1)) (G x.lo)) (O g (k*3+2)) (G x.hi)) (B' (O g 0)) (E.set k x):=by
 have a:=(M (aq (o:=k*3+2) (aq (o:=k*3+1) (aq (o:=k*3) h (j' x.any)) (G x.lo)) (G x.hi))).1;have c:ζ E*3<=Y.size:=by have:=dZ length U;rw[pU,gC]at this;simp at this;omega
 intro j v f;have r:=(bm.1 f).1;rw[de]at r;refine⟨g,0,rfl,?_⟩;rw[fG]at f;by_cases e:k=j
 ·subst e;rw[aB rfl,aB b]at f;cases f;refine⟨?_,?_,?_⟩
  all_goals
   rw[a];simp only[bW,Array.getElem?_setIfInBounds,Array.size_setIfInBounds]
   repeat(first|rw[aB (by first|trivial|omega)]|rw[aA I])
 rw[aA e]at f;have X:∀i y,(dw v)[i]?=B' y->i<3->Y[j*3+i]?=B' y:=by intro i y B S;have C:=xq E j v f i y B;rw[<-U,u4,aB I]at C;simpa using C
 refine⟨?_,?_,?_⟩
 all_goals
  rw[a];simp only[bW,Array.getElem?_setIfInBounds,Array.size_setIfInBounds]
  repeat(rw[aA I])
 ·exact X 0 _ rfl I
 ·exact X 1 _ rfl I
 exact X 2 _ rfl I
def dB.heap{a:World}{o:Nat}(h:dB w (some (O g o)) E)(V:a.heap[g]?=w.heap[g]?):dB a (some (O g o)) E:=by intro j v f;obtain⟨b,q,e,T,Q,p⟩:=h j v f;cases e;exact⟨g,o,rfl,(cw V).trans T,(cw V).trans Q,(cw V).trans p⟩
def dK(w:u')(nb:Bool)(a:x')(n c:Nat)(e:EV):Prop:=match e with|none=>nb=O'|some vs=>nb=P'/\n=ζ vs/\dB w a vs/\(a=C'->c=0)
def dK.below(h:dK w d a n c e)(f:Bl w b):dK b d a n c e:=by
 cases e with
 |none=>exact h
 |some E=>exact⟨h.1,h.2.1,h.2.2.1.below f,h.2.2.2⟩
abbrev cu(nb:Bool)(a:x')(n c:Nat):A':=l' #[j' nb,i' a n c]
def lu(w:u')(ev:EV)(e:Ending)(w':u'):Prop:=∃nb a n c,e=p' (cu nb a n c)/\dK w' nb a n c ev/\Bl w w'
def lu.mk(h:dK b d a n c e)(f:Bl w b):lu w e (p' (cu d a n c)) b:=⟨d,a,n,c,rfl,h,f⟩
def R7(c:Bool)(z:Option Addr)(b:Nat)(E:List VV)(k:Nat)(x:VV)(w:World)(h:dB w z E)(W:z=none->b=0)(X:ζ E<=8)(y:k<ζ E):
  Cl 247 #[cu c z (ζ E) b,G k,l6 x] w (lu w (some (E.set k x))):=by
 have s:=hid (A h W);clear h W;simp only[l6,cu];go_enter func247,ntmps247;go_upto_region 2 with(fail)
 generalize j:((((w.alloc (.cells #[.bool c,.slice z (ζ E) b] 133)).alloc (.cells (cT x.any x.lo x.hi) 138)).alloc (.cells vP 133)).alloc (.cells vP 133))=a;have U:J (Below w.heap.size w a/\a.heap[δ w.heap]?=some (.cells #[.bool c,.slice z (ζ E) b] 133 (0,0))/\a.heap[δ w.heap+1]?=some (.cells (cT x.any x.lo x.hi) 138 (0,0))/\a.heap[δ w.heap+1+1]?=some kN/\a.heap[δ w.heap+1+1+1]?=some kN):=by subst j;exact⟨iw,U2⟩
 clear j;obtain⟨j,h⟩:=M U.b;obtain⟨X,d⟩:=M U.D;go_upto_region 3 with(at_builtin;refine VE rfl _ _ rfl a.heap.size rfl z b E rfl s.A (s.a.below U.a) I aF ?_;clear j h X d;intro c p F f b r;obtain⟨j,h⟩:=M ((b.block _ (aY.1 U.D).1 ak).trans U.D);have u:=hid (A f (A b r));clear f b r)
 obtain⟨g,Y,b,v,t,V⟩:∃g Y,c=some ⟨g,0,none⟩/\δ a.heap<=g/\F.heap[g]?=some (.cells Y 138 (0,0))/\Y.toList.take (ζ E*3)=dy E:=by
  rcases u.a.2 with⟨_,e⟩|⟨g,a,Y,e,C,a,_,_,_,N⟩
  ·omega
  simp at e;exact⟨g,Y,e.1,C,a,N⟩
 subst b;have D:=(aY.1 U.D).1;have i:=(aY.1 U.c).1;have P:=(aY.1 U.d).1;have a:=(u.b.block _ i ak).trans U.c;have o:=(u.b.block _ P ak).trans U.d;have b:=(u.b.block _ D ak).trans U.D;have l:Below w.heap.size w F:=U.a.grown u.b U.a.size (λq e=>by cases e);have L:δ w.heap<=g:=by have:=U.a.size;omega
 have c:g≠δ w.heap+1+1+1:=I;have f:g≠δ w.heap+1+1:=I;have s:g≠δ w.heap+1:=I;have q:ζ E*3<=Y.size:=by have:=dZ length V;rw[pU,gC]at this;simp at this;omega
 have B:J (Below w.heap.size w (κ F (O (δ w.heap+1+1+1) 1) (iF g (ζ E) p))/\(κ F (O (δ w.heap+1+1+1) 1) (iF g (ζ E) p)).heap[δ w.heap+1+1+1]?=some (.cells #[.bool false,.slice (some (O g 0)) (ζ E) p] 133 (0,0))/\(κ F (O (δ w.heap+1+1+1) 1) (iF g (ζ E) p)).heap[δ w.heap+1]?=some (.cells (cT x.any x.lo x.hi) 138 (0,0))/\(κ F (O (δ w.heap+1+1+1) 1) (iF g (ζ E) p)).heap[δ w.heap+1+1]?=some kN/\(κ F (O (δ w.heap+1+1+1) 1) (iF g (ζ E) p)).heap[g]?=some (.cells Y 138 (0,0))):=by
  refine⟨l.setCell (by show _<=δ w.heap+1+1+1;omega) _,aq b _,?_,?_,?_⟩
  ·rw[aJ (by show δ w.heap+1≠δ w.heap+1+1+1;omega)];exact a
  ·rw[aJ (by show δ w.heap+1+1≠δ w.heap+1+1+1;omega)];exact o
  rw[aJ c];exact t
 clear j h a o b l t i P D;generalize κ F (O (δ w.heap+1+1+1) 1) (iF g (ζ E) p)=a at B;obtain⟨j,h⟩:=M B.b;obtain⟨X,d⟩:=M B.c;obtain⟨W,l⟩:=M B.D;have T:∃u,χ a (O g (k*3))=some u:=⟨_,(W _).trans (oQ I)⟩;have Q:∃u,χ a (O g (k*3+1))=some u:=⟨_,(W _).trans (oQ I)⟩;have b:∃u,χ a (O g (k*3+2))=some u:=⟨_,(W _).trans (oQ I)⟩;obtain⟨i,T⟩:=T;obtain⟨R,Q⟩:=Q;obtain⟨i,b⟩:=b;clear W;have K:(k:Int)<(ζ E:Int):=I;go_upto_region 4 with(fail)
 have S:J (Below w.heap.size w (κ (κ (κ a (O g (k*3)) (.bool x.any)) (O g (k*3+1)) (G x.lo)) (O g (k*3+2)) (G x.hi))/\(κ (κ (κ a (O g (k*3)) (.bool x.any)) (O g (k*3+1)) (G x.lo)) (O g (k*3+2)) (G x.hi)).heap[δ w.heap+1+1+1]?=some (.cells #[.bool false,.slice (some (O g 0)) (ζ E) p] 133 (0,0))/\(κ (κ (κ a (O g (k*3)) (.bool x.any)) (O g (k*3+1)) (G x.lo)) (O g (k*3+2)) (G x.hi)).heap[δ w.heap+1+1]?=some kN/\dB (κ (κ (κ a (O g (k*3)) (.bool x.any)) (O g (k*3+1)) (G x.lo)) (O g (k*3+2)) (G x.hi)) (some (O g 0)) (E.set k x)):=by
  refine⟨((B.a.setCell (by show _<=g;omega) _).setCell (by show _<=g;omega) _).setCell (by show _<=g;omega) _,?_,?_,Sq B.D V y⟩
  ·rw[aJ (gG c),aJ (gG c),aJ (gG c)];exact B.b
  rw[aJ (gG f),aJ (gG f),aJ (gG f)];exact B.d
 clear j h X d l T Q b;generalize(κ (κ (κ a (O g (k*3)) (.bool x.any)) (O g (k*3+1)) (G x.lo)) (O g (k*3+2)) (G x.hi))=y at S;obtain⟨j,h⟩:=M S.b;obtain⟨X,d⟩:=M S.c;go_wp2_with fail;have r:χ (κ y (O (δ w.heap+1+1) 0) (.bool false)) (O (δ w.heap+1+1) 0)=some (.bool false):=by rw[(M (aq S.c _)).1];rfl
 have R:χ (κ (κ y (O (δ w.heap+1+1) 0) (.bool false)) (O (δ w.heap+1+1) 1) (iF g (ζ E) p)) (O (δ w.heap+1+1) 1)=some (iF g (ζ E) p):=by rw[(M (aq (aq S.c _) _)).1];rfl
 refine aC (v:=cu false (some (O g 0)) (ζ E) p) (by simp[results,results247,go_sem,r,R]) rfl (lu.mk ⟨rfl,ak,?_,λe=>by cases e⟩ ?_)
 ·exact S.C.heap (by rw[aJ f,aJ f])
 (repeat first|exact S.a|refine jM ?_ (by first|omega|(simp;omega)) _)
end
abbrev DK:=z'×z'×z'×Int×Int
def mr(m:RN):Option DK:=if (m.does.toList==[61])&&(m.ops==2)&&!(decide (m.a.var<0)&&decide (m.b.var<0)) then B' (m.a.word,m.sign,m.b.word,m.a.var,m.b.var) else C'
def e6(d:DK):List A':=[m' d.1,m' d.2.1,m' d.2.2.1,G d.2.2.2.1,G d.2.2.2.2]
def dk0:DK:=(emp,emp,emp,0,0)
def dkV(d:Option DK):A':=l' (θ (e6 (d.getD dk0)))
def Ro(h:p:=by
 subst e;go_enter func183,ntmps183;go_wp2
 refine aC (v:=t' #[dkV C',j' P']) (by simp[results183,go_sem,dkV,e6,dk0,emp]) rfl ⟨rfl,cG⟩):p:=h
def Zs(h:p:=by
 subst e;go_enter func183,ntmps183;go_wp2
 refine aC (v:=t' #[dkV (B' (y,i,c,f,D)),j' O']) (by simp[results183,go_sem,dkV,e6]) rfl ⟨rfl,cG⟩):p:=h
def Ow(P:A')(m:RN)(w:u'):
  Cl 183 #[l' (aH P m)] w (Rb w (t' #[dkV (mr m),j' (mr m).isSome])):=by
 obtain⟨d,Q⟩:=Ea (mr m);rw[<-Q];have B:=hid Q;clear Q;obtain⟨a,S,a,h,x,j,i,g⟩:=m;obtain⟨f,b,y⟩:=h;obtain⟨D,X,c⟩:=x;simp only[aH];cases C:(S.toList==[61])
 ·have e:d=C':=by rw[B.o];simp[mr,C]
  exact Ro
 cases b:(j !=2);rotate_left
 ·have a:(j==2)=P':=by simpa[bne]using b
  have e:d=C':=by rw[B.o];simp only[mr,C,a];rfl
  exact Ro
 have a:(j==2)=O':=by simpa[bne]using b
 cases N:decide (f<0)
 ·have e:d=B' (y,i,c,f,D):=by rw[B.o];simp only[mr,C,a,N];rfl
  exact Zs
 cases b:decide (D<0)
 ·have e:d=B' (y,i,c,f,D):=by rw[B.o];simp only[mr,C,a,N,b];rfl
  exact Zs
 have e:d=C':=by rw[B.o];simp only[mr,C,a,N,b];rfl
 exact Ro
section
variable {a:Nat} {u y:A'} {D:List RC} {d:List A'}
def Jj(h:p:=by
 go_enter func70,ntmps70;go_wp2;go_ret
 exact⟨rfl,rfl⟩):p:=h
def O!(N:Nat)(T z c:x')(n r t x a q:Nat)(w:u')(b:w.1[N]?=B' (k' #[i' T n r,i' z t x,i' c a q] 107 (0,0)))(h:n=0\/60<n\/8<t):
  Cl 70 (di N) w λe a=>e=p' (j' P')/\a=w:=by
 have L:=M b;by_cases D:n=0
 ·subst D;exact Jj
 have o:((n:Int)==0)=P':=by rw[b?];omega
 by_cases C:60<n
 ·have V:decide (60<(n:Int))=O':=by rw[bq];omega
  exact Jj
 have V:decide (60<(n:Int))=P':=by rw[cR];omega
 have u:decide (8<(t:Int))=O':=by rw[bq];omega
 exact Jj
def pM{a b:Bool}(h:a=O')(k:b=O'):(a&&b)=O':=by rw[h,k];rfl
def U5(cl:List RC)(k:Nat)(n:RN)(m:Nat):Prop:=(!n.bu.toList.isEmpty&&iW cl k n.bu m)=P'
def RF.drewN{a:Option Nat}{u:u'}(h:RF N a u w)(n:Nat):RF N a u (w.drewN n):=⟨h.os,h.tape,h.output,h.size,h.block⟩
def RF.then{a:Option Nat}{u v:u'}(h:RF N a u v)(k:Bl v w):RF N a u w:=h.trans (aI rfl) (RF.aX k)
structure NQ(w:u')(pb g cap:Nat)(vv:A')(cl:List RC)(k:Nat)(xv:A')(qV:List A')(W:u'):Prop where
  box:W.1[pb]?=B' (k' #[i' (B' (O g 0)) (ζ cl) cap,vv,xv] 107 (0,0))
  rf:RF pb C' w W
  row:mX W g cap cl
  next:ρ W w.1.size 36 1 xv (ζ qV) qV
  len:ζ qV=k
  edges:∀j ev c,qV[j]?=B' ev->cl[j]?=B' c->ρ W w.1.size 3 1 ev (ζ (vS cl j c.n)) ((vS cl j c.n).map G)
def NQ.below{b:u'}(h:NQ w N g a u D k y d W)(e:Bl W b):NQ w N g a u D k y d b:=
 ⟨(e.block N (aY.1 h.box).1).trans h.box,RF.then h.rf e,h.row.of_block (e.block g h.row.lt),gA h.next e,h.len,λj d c a b=>gA (h.edges j d c a b) e⟩
def NQ.Tf{c:u'}(h:NQ w N g a u D k y d W)(U:N<δ w.1)(b:ξ (W.alloc o) c (φ y)):c.1[N]?=B' (k' #[i' (B' (O g 0)) (ζ D) a,u,y] 107 (0,0)):=
 (((jO W o _).trans b).block N (aY.1 h.box).1 (BF (λk a=>(h.next.lt k a).1) U)).trans h.box
def NQ.step{e:u'}{E r:A'}{c:RC}(h:NQ w N g a u D k y d W)(T:D[k]?=B' c)(U:N<δ w.1)(f:g<δ w.1/\g≠N/\δ w.1<=δ W.1)(X:ρ W w.1.size 3 1 r (ζ (vS D k c.n)) ((vS D k c.n).map G))(b:ξ (W.alloc o) e (φ y))(p:ρ e w.1.size 36 1 E (ζ (d++[r])) (d++[r])):NQ w N g a u D (k+1) E (d++[r]) (κ e (O N 2) E):=by
 have c:=(jO W o _).trans b;have s:∀q,q<δ w.1->some q≠φ y:=λq i=>BF (λk a=>(h.next.lt k a).1) i;have v:=(c.block N I (s N U)).trans h.box;have a:=(c.block g I (s g f.1))
 have b:∀{g:A'} {j:List Int},ρ W w.1.size 3 1 g (ζ j) (j.map G)->ρ (κ e (O N 2) E) w.1.size 3 1 g (ζ j) (j.map G):=λl=>
  (l.kept c (fj l h.next aj)).kept (bX e N 2 E) (eo l U)
 refine⟨?_,?_,?_,?_,by rw[bF,h.len];rfl,?_⟩
 ·rw[lT v];rfl
 ·refine⟨c.os.trans h.rf.os,c.tape.trans h.rf.tape,c.output.trans h.rf.output,by have:=c.size;simp[World.setCell];have:=f.2.2;omega,λq i C j=>?_⟩;refine(aJ C).trans ((c.block q (J' f.2.2) (s q i)).trans (h.rf.block q i C j))
 ·exact h.row.of_block ((aJ f.2.1).trans a)
 ·exact p.kept (bX e N 2 E) (eo p U)
 intro j g a f K;by_cases e:j<ζ d
 ·rw[jN e]at f;exact b (h.edges j g a f K)
 have p:j=ζ d:=by have:=(bm.1 f).1;simp at this;omega
 subst p;rw[ek aF]at f;simp at f;subst f;rw[h.len]at K⊢;rw[T]at K;cases K;exact b X
def Dk{m:RN}(C:(!m.bu.toList.isEmpty&&iW D k m.bu (ζ D))=P')(a:(!m.bB.toList.isEmpty&&(eP D m (ζ D)).isEmpty)=P')(N:(j3 m&&decide (k+1=ζ D))=P'):(match B' (⟨m,C',0,0⟩:RC)with|some c=>!rG D k c.n|none=>O')=O':=by show(!rG D k m)=O';rw[rG,C,a,N];rfl
def QU(h:p:=by
 clear GU;cases U:(c.n.does.toList==[103,111,116,111])with
 |true=>
  have P1:J (vS D k c.n=L):=by show _=_;unfold vS;rw[f.o,show j3 c.n=P' by unfold j3;simp[U]];simp
  have Ly:J (mK D (k+1)=O'):=by show _=_;rw[mK,HR.o,T];exact pM rfl (Dk K.o (by rw[f.o];exact NT.o) (by unfold j3;simp[U]))
  go_wp2_with (first|(at_builtin;refine gu rfl (.tmp 114) (.tmp 116) 25 rfl w.1.size 36 i2 (i' C' 0 0) 1 24 underlying25 Hi.a Hi.b Hi.c Hi.C rfl aj _ _ _ rfl (HX.o.alloc _) (O wr.1.size 0) 1 1 [i' la (ζ L) lc] rfl rfl pN (by intro u C;simp at C;subst C;rfl) NO NP H' ?_;intro v6 W6 Q l Z5;obtain⟨IS,IN,rfl⟩:=aV Q;have E:=Yd.o.Tf S.a l;have NV:=M E));refine⟨⟨k+1,IS,ζ qV+1,IN,qV++[i' la (ζ L) lc],I,f',Ly,?_,?_⟩,by simp[intOf];omega⟩
  ·exact((Yd.o).step T S.a ⟨S.b.1,S.b.2.1,I⟩ (by rw[P1.o];exact a! o I) l (by rw[bF];exact Q)).box
  exact(Yd.o).step T S.a ⟨S.b.1,S.b.2.1,I⟩ (by rw[P1.o];exact a! o I) l (by rw[bF];exact Q)
 |false=>
  cases Iw:(c.n.does.toList==[114,101,116,117,114,110])with
  |true=>
   have P1:J (vS D k c.n=L):=by show _=_;unfold vS;rw[f.o,show j3 c.n=P' by unfold j3;simp[U,Iw]];simp
   have Ly:J (mK D (k+1)=O'):=by show _=_;rw[mK,HR.o,T];exact pM rfl (Dk K.o (by rw[f.o];exact NT.o) (by unfold j3;simp[U,Iw]))
   go_wp2_with (first|(at_builtin;refine gu rfl (.tmp 114) (.tmp 116) 25 rfl w.1.size 36 i2 (i' C' 0 0) 1 24 underlying25 Hi.a Hi.b Hi.c Hi.C rfl aj _ _ _ rfl (HX.o.alloc _) (O wr.1.size 0) 1 1 [i' la (ζ L) lc] rfl rfl pN (by intro u C;simp at C;subst C;rfl) NO NP H' ?_;intro v6 W6 Q l Z5;obtain⟨IS,IN,rfl⟩:=aV Q;have E:=Yd.o.Tf S.a l;have NV:=M E));refine⟨⟨k+1,IS,ζ qV+1,IN,qV++[i' la (ζ L) lc],I,f',Ly,?_,?_⟩,by simp[intOf];omega⟩
   ·exact((Yd.o).step T S.a ⟨S.b.1,S.b.2.1,I⟩ (by rw[P1.o];exact a! o I) l (by rw[bF];exact Q)).box
   exact(Yd.o).step T S.a ⟨S.b.1,S.b.2.1,I⟩ (by rw[P1.o];exact a! o I) l (by rw[bF];exact Q)
  |false=>
   by_cases Z6:k+1=ζ D
   ·have HB:J (P8 D=P'):=by refine sO T ?_;unfold rG;rw[show j3 c.n=O' by unfold j3;simp[U,Iw]];simp[Z6]
    have PC:((k:Int)==(ζ D:Int)-1)=O':=by rw[bT];omega
    go_wp2;go_ret;exact⟨aN HB.o.symm,(by rw[HB.o];exact λh=>by cases h),RF.then Lo P⟩
   have PC:((k:Int)==(ζ D:Int)-1)=P':=by rw[b?];omega
   have P1:J (vS D k c.n=L++[(k:Int)+1]):=by show _=_;unfold vS;rw[f.o,show j3 c.n=O' by unfold j3;simp[U,Iw]];simp
   have Ly:J (mK D (k+1)=O'):=by show _=_;rw[mK,HR.o,T];exact pM rfl (Dk K.o (by rw[f.o];exact NT.o) (by simp[Z6]))
   go_wp2_with (first
    |(at_builtin;refine gu rfl (.tmp 105) (.tmp 108) 36 rfl t.1.size 3 X (G 0) 1 8 underlying36 HI.a HI.b HI.c HI.C rfl aj _ _ _ rfl (o.alloc _) (O wr.1.size 0) 1 1 [G ((k:Int)+1)] rfl rfl pN (by intro u C;simp at C;subst C;rfl) (by unfold maxLen;omega) I (by have:=P.size;simp;omega) ?_;intro v4 W4 tG W Q3;obtain⟨Of,NX,rfl⟩:=aV tG;have M! : Bl t W4:=(P.alloc P.size _).grown W (by have:=P.size;simp;omega) (λq hq=>(o.lt q hq).1);have P2:J (NQ w N g cap (i' z vl x) D k (i' xa xl xc) qV W4):=NL.o.below M!;have Su:J (ρ W4 w.1.size 36 1 (i' xa xl xc) (ζ qV) qV):=P2.o.next;have hw4:δ w.1<=δ W4.1:=P2.o.rf.size;have x41:=M P2.o.box)
    |(at_builtin;refine gu rfl (.tmp 114) (.tmp 116) 25 rfl w.1.size 36 i2 (i' C' 0 0) 1 24 underlying25 Hi.a Hi.b Hi.c Hi.C rfl aj _ _ _ rfl (Su.o.alloc _) (O W4.1.size 0) 1 1 [i' Of (ζ L+1) NX] rfl rfl pN (by intro u C;simp at C;subst C;rfl) NO NP H' ?_;intro v6 W6 Q l Z5;obtain⟨IS,IN,rfl⟩:=aV Q;have E:=P2.o.Tf S.a l;have NV:=M E))
   refine⟨⟨k+1,IS,ζ qV+1,IN,qV++[i' Of (ζ L+1) NX],I,f',Ly,?_,?_⟩,by simp[intOf];omega⟩
   ·exact((P2.o).step T S.a ⟨S.b.1,S.b.2.1,I⟩ (by rw[P1.o,bF,eW];exact a! tG I) l (by rw[bF];exact Q)).box
   exact(P2.o).step T S.a ⟨S.b.1,S.b.2.1,I⟩ (by rw[P1.o,bF,eW];exact a! tG I) l (by rw[bF];exact Q)):p:=h
def Jk(h:p:=by
 clear No vX B;go_wp2_with fail;cases hg:c.n.bB.toList.isEmpty with
 |true=>
  have HE:J (eP D c.n (m+1)=eP D c.n m):=by show _=_;rw[p.a,hg];rfl
  clear p;go_quiet (fail);go_wp2_with fail;go_quiet (fail);go_wp2_with fail;go_roundw
  case rel=>
   refine⟨m+1,I,f',NU,?_,below_drewN P _⟩;rw[HE.o];exact own_drewN o _
  simp[intOf];omega
 |false=>
  cases V:(d.n.bu.toList==c.n.bB.toList)with
  |false=>
   have HE:J (eP D c.n (m+1)=eP D c.n m):=by show _=_;rw[p.a,hg,V];rfl
   clear p;go_quiet (fail);go_wp2_with fail;go_quiet (fail);go_wp2_with fail;go_roundw
   case rel=>
    refine⟨m+1,I,f',NU,?_,below_drewN P _⟩;rw[HE.o];exact own_drewN o _
   simp[intOf];omega
  |true=>
   have HE:J (eP D c.n (m+1)=eP D c.n m++[(m:Int)]):=by show _=_;rw[p.a,hg,V];rfl
   have hhl:=GL D c.n m;clear p;go_quiet (fail);revert nq;intro R;go_wp2_with fail;go_quiet (fail)
   try simp only[World.drewN_drewN]
   have TE:=own_drewN o (R+nq);have TM:=below_drewN P (R+nq);generalize wr.drewN (R+nq)=F at TE TM⊢;go_wp2_with (at_builtin;refine gu rfl (.tmp 81) (.tmp 83) 36 rfl t.heap.size 3 X (G 0) 1 8 underlying36 HI.a HI.b HI.c HI.C rfl aj _ _ _ rfl (TE.alloc _) (O F.heap.size 0) 1 1 [G m] rfl rfl pN (by intro u C;simp at C;subst C;rfl) (by unfold maxLen;omega) I (by have:=TM.size;simp;omega) ?_;intro v4 W4 tG W Q3)
   all_goals
    go_roundw
    case rel=>
     refine⟨m+1,I,f',NU,?_,(TM.alloc TM.size _).grown W (by have:=TM.size;simp;omega) (λq hq=>(TE.lt q hq).1)⟩;rw[HE.o,bF,eW];exact tG
    simp[intOf];omega):p:=h
def Kw(N g cap vl x:Nat)(z:x')(D:List RC)(w:u')(d:w.1[N]?=B' (k' #[i' (B' (O g 0)) (ζ D) cap,i' z vl x,i' C' 0 0] 107 (0,0)))(j:mX w g cap D)(v:0<ζ D)(v:ζ D<=60)(v:vl<=8):
  Cl 70 (di N) w λe v=>e=p' (j' (P8 D))/\(P8 D=O'->∃y qV,NQ w N g cap (i' z vl x) D (ζ D) y qV v)/\RF N C' w v:=by
 have L:=M d;obtain⟨X,S,a,P,b⟩:=cQ nQ;have HI:J (Tryz.prog.info? 3=B' X/\X.zero=B' (G 0)/\X.size=1/\X.bytes=8):=⟨S,a,P,b⟩;clear S a P b;obtain⟨i2,S,a,P,b⟩:=cQ ab6;have Hi:J (Tryz.prog.info? 36=B' i2/\i2.zero=B' (i' C' 0 0)/\i2.size=1/\i2.bytes=24):=⟨S,a,P,b⟩;clear S a P b;have v:((ζ D:Int)==0)=P':=by rw[b?];omega
 have e1:decide (60<(ζ D:Int))=P':=by rw[cR];omega
 have e2:decide (8<(vl:Int))=P':=by rw[cR];omega
 go_enter func70,ntmps70;go_wp2;have S:J (N<δ w.1/\(g<δ w.1/\g≠N/\True)/\True):=⟨(aY.1 d).1,⟨j.lt,?_,trivial⟩,trivial⟩;rotate_left
 ·rintro rfl;obtain⟨v,T,_⟩:=j;rw[d]at T;simp at T
 go_loopw[4] (λi wr=>∃(k:Nat) (xa:x') (xl xc:Nat) (qV:List A'),k<=ζ D/\i=G k/\J (mK D k=O')/\wr.1[N]?=B' (k' #[i' (B' (O g 0)) (ζ D) cap,i' z vl x,i' xa xl xc] 107 (0,0))/\J (NQ w N g cap (i' z vl x) D k (i' xa xl xc) qV wr)) (λi _=>ζ D-(intOf i).toNat)
 ·
  refine⟨0,C',0,0,[],I,rfl,rfl,d,⟨d,RF.refl _ _ _,j,cb,rfl,λj j c h=>by simp at h⟩⟩
 clear L d;obtain⟨k,xa,xl,xc,qV,j,rfl,HR,r,s⟩:=hrel;have Y:=s.o.rf;have L:=M r;by_cases b:k<ζ D;rotate_left
 ·obtain rfl:k=ζ D:=I;go_wp2;go_ret;exact⟨aN HR.o.symm,λ_=>⟨_,qV,s.o⟩,Y⟩
 obtain⟨c,T⟩:=La b;have d:=s.o.row.all k c T;have b:(k:Int)<(ζ D:Int):=I;have b:=s.o.row.lt;have j:N<δ wr.1:=(aY.1 r).1;go_wp2;have On:=cv wr (sA c.wa c.wl c.wc c.n.bu c.n.does c.n.target c.n.a.var c.n.a.c c.n.a.word c.n.b.var c.n.b.c c.n.b.word c.n.ops c.n.sign c.n.bB);have OF:=fK r (sA c.wa c.wl c.wc c.n.bu c.n.does c.n.target c.n.a.var c.n.a.c c.n.a.word c.n.b.var c.n.b.c c.n.b.word c.n.ops c.n.sign c.n.bB);have a:=s.o.row.of_block (qq wr (sA c.wa c.wl c.wc c.n.bu c.n.does c.n.target c.n.a.var c.n.a.c c.n.a.word c.n.b.var c.n.b.c c.n.b.word c.n.ops c.n.sign c.n.bB) g b);have Lo:=RF.snoc Y (sA c.wa c.wl c.wc c.n.bu c.n.does c.n.target c.n.a.var c.n.a.c c.n.a.word c.n.b.var c.n.b.c c.n.b.word c.n.ops c.n.sign c.n.bB);have j:δ (wr.alloc (sA c.wa c.wl c.wc c.n.bu c.n.does c.n.target c.n.a.var c.n.a.c c.n.a.word c.n.b.var c.n.b.c c.n.b.word c.n.ops c.n.sign c.n.bB)).1=δ wr.1+1:=ak;have b:ξ wr (wr.alloc (sA c.wa c.wl c.wc c.n.bu c.n.does c.n.target c.n.a.var c.n.a.c c.n.a.word c.n.b.var c.n.b.c c.n.b.word c.n.ops c.n.sign c.n.bB)) C':=zJ;have NL:J (NQ w N g cap (i' z vl x) D k (i' xa xl xc) qV (wr.alloc (sA c.wa c.wl c.wc c.n.bu c.n.does c.n.target c.n.a.var c.n.a.c c.n.a.word c.n.b.var c.n.b.c c.n.b.word c.n.ops c.n.sign c.n.bB))):=s.o.below (aQ.alloc aF _);have r:δ w.1<=δ wr.1:=Y.size;generalize wr.alloc (sA c.wa c.wl c.wc c.n.bu c.n.does c.n.target c.n.a.var c.n.a.c c.n.a.word c.n.b.var c.n.b.c c.n.b.word c.n.ops c.n.sign c.n.bB)=t at On OF a Lo j b NL⊢;clear d L;go_loopw[5,7] (λv i wi=>∃m:Nat,m<=ζ D/\i=G m/\J (U5 D k c.n m)/\ρ wi t.1.size 3 1 v (ζ (eP D c.n m)) ((eP D c.n m).map G)/\Bl t wi) (λ_ i _=>ζ D-(intOf i).toNat)
 ·
  have e:eP D c.n 0=[]:=by unfold eP iQ;split<;>rfl
  refine⟨0,I,rfl,by show(_&&_)=P';simp[iW],?_,aQ⟩;rw[e];exact cb
 obtain⟨m,b,rfl,B,o,P⟩:=hrel;rename_i wi;have b:=(P.block _ I).trans On;have e:=(P.block N I).trans OF;have Q2:=a.of_block (P.block g I);have a:=M b;have a:=M e;by_cases O3:m<ζ D;rotate_left
 ·obtain rfl:m=ζ D:=I;obtain⟨la,lc,rfl⟩:=aV o;obtain⟨L,l⟩:∃L,eP D c.n (ζ D)=L:=⟨_,rfl⟩;have a:ζ L<=60:=by have:=GL D c.n (ζ D);rw[l]at this;omega
  rw[l]at o;have f:J (eP D c.n (ζ D)=L):=l;rw[l];clear l;have K:J (U5 D k c.n (ζ D)):=B;clear B;have Yd:J (NQ w N g cap (i' z vl x) D k (i' xa xl xc) qV wr):=NL.o.below P;have HX:J (ρ wr w.1.size 36 1 (i' xa xl xc) (ζ qV) qV):=Yd.o.next;have b:ζ qV=k:=Yd.o.len;have a:δ w.1<=δ wr.1:=Yd.o.rf.size;have NO:ζ qV+1<=maxLen:=by unfold maxLen;omega
  have NP:(ζ qV+1)*24<=140737488355328:=I;clear b;by_cases GU:(!c.n.bB.toList.isEmpty&&L.isEmpty)=O'
  ·have HB:J (P8 D=P'):=by refine sO T ?_;unfold rG;rw[f.o,GU];simp
   simp only[bh,gW,h!]at GU;obtain⟨hg,rfl⟩:=GU;go_wp2;go_ret;exact⟨aN HB.o.symm,(by rw[HB.o];exact λh=>by cases h),RF.then Lo P⟩
  rw[je]at GU;have NT:J ((!c.n.bB.toList.isEmpty&&L.isEmpty)=P'):=GU;cases hg:c.n.bB.toList.isEmpty with
  |true=>exact QU
  |false=>
   have a:((ζ L:Int)==0)=P':=by
    rw[hg]at GU;cases L with
    |nil=>simp at GU
    |cons a b=>rw[b?];simp;omega
   exact QU
 obtain⟨d,Q⟩:=La O3;have Y:=(Q2.all m d Q).2.1;have g:(m:Int)<(ζ D:Int):=I;have p:=(show J (_/\_)from⟨KY D c.n m d Q,Ub D k c.n.bu m d Q⟩);have a:((m:Int)==(k:Int))=!decide (m≠k):=by rw[cj];simp;omega
 have No:J (((m:Int)==(k:Int))=!decide (m≠k)):=a;clear a;by_cases vX:(!c.n.bu.toList.isEmpty&&(decide (m≠k)&&(d.n.bu.toList==c.n.bu.toList)))=O'
 ·have HB:J (P8 D=P'):=by
   refine sO T ?_;have e1:iW D k c.n.bu (m+1)=O':=by rw[p.A];simp only[bh]at vX;rw[vX.2.1,vX.2.2];simp
   have e2:=Uc e1 (ζ D) I;unfold rG;simp only[bh]at vX;rw[e2,vX.1];simp
  simp only[bh]at vX;obtain⟨hl,a,Q1⟩:=vX;rw[gW]at hl;have IT:((m:Int)==(k:Int))=P':=by rw[No.o,a];rfl
  have OK:((m:Int) !=(k:Int))=O':=by simp only[bne,IT];rfl
  clear No a p;go_wp2;go_quiet (fail);go_wp2;go_ret;exact⟨aN HB.o.symm,(by rw[HB.o];exact λh=>by cases h),(RF.then Lo P).drewN _⟩
 rw[je]at vX;have NU:J (U5 D k c.n (m+1)):=by show(_&&_)=P';have a:(!c.n.bu.toList.isEmpty&&iW D k c.n.bu m)=P':=B.o;rw[p.A,Bool.and_or_distrib_left,a,vX];rfl
 cases hl:c.n.bu.toList.isEmpty with
 |true=>exact Jk
 |false=>
  cases IT:((m:Int)==(k:Int))with
  |true=>
   have OK:((m:Int) !=(k:Int))=P':=by simp only[bne,IT];rfl
   exact Jk
  |false=>
   have OK:((m:Int) !=(k:Int))=O':=by simp only[bne,IT];rfl
   have Q1:(d.n.bu.toList==c.n.bu.toList)=P':=by
    have e1:decide (m≠k)=O':=by have:=No.o;rw[IT]at this;simpa using this.symm
    rw[hl,e1]at vX;simpa using vX
   exact Jk
end
section
variable {D:List RC} {a:List PN} {m:RN} {n:SN}
structure U3(c:RC)(p:PN):Prop where
  bu:c.n.bu=p.bu
  n:tV {c.n with bu:=emp} p.n
  wd:p.n.aG=1->∃w0 w1,p.ws=[w0,w1,c.n.a.word,c.n.sign,c.n.b.word]
structure AG(cl:List RC)(pl:List PN):Prop where
  len:ζ cl=ζ pl
  each:∀(j:Nat) (c:RC) (p:PN),cl[j]?=B' c->pl[j]?=B' p->U3 c p
def il(cl:List RC)(j:Nat):bE:=(k6 cl j).1.1
def tQ(a b:z'):(a.toList==b.toList)=decide (a.1.1=b.1.1):=by rw[dp,dp,cj];simp
def j5(a:z'):a.toList.isEmpty=decide (a.1.1=[]):=by rw[dp,cj];simp
def DM(D:List RC)(i:Nat)(l:z'):∀n,iW D i l n=O'↔∃k,k<n/\k≠i/\il D k=l.1.1
 |0=>by simp[iW]
 |n+1=>by
  rw[iW,gX,DM D i l n,tQ];simp only[bh,bq];constructor
  ·rintro(⟨k,C,a,N⟩|⟨C,a⟩)
   ·exact⟨k,I,a,N⟩
   exact⟨n,I,C,a⟩
  rintro⟨k,C,a,N⟩;by_cases e:k=n
  ·subst e;exact aK ⟨a,N⟩
  exact aI ⟨k,I,a,N⟩
def yY(D:List RC)(g:z'):∀n,(∀k,k<n->il D k≠g.1.1)->iQ D g n=[]
 |0,_=>rfl
 |n+1,h=>by rw[iQ,yY D g n (λk a=>h k I),tQ,show decide ((k6 D n).1.1=g.1.1)=P' from cV (h n I)];rfl
def Lz(cl:List RC)(n:Nat):Prop:=∀i j,i<j->j<n->il cl i≠[]->il cl i≠il cl j
def GK(D:List RC)(g:z')(c:g.1.1≠[]):∀n,Lz D n->∀k,k<n->il D k=g.1.1->iQ D g n=[(k:Int)]
 |0,_,k,a,_=>I
 |n+1,Q,k,a,he=>by
  rw[iQ,tQ];by_cases e:k=n
  ·subst e;rw[yY D g k (λj f e=>Q j k f I (by rw[e];exact c) (by rw[e,he]))];have:decide ((k6 D k).1.1=g.1.1)=O':=ei he;rw[this];rfl
  rw[GK D g c n (λi j a b=>Q i j a I) k I he];have z:(k6 D n).1.1≠g.1.1:=by intro u;exact Q k n I I (by rw[he];exact c) (by rw[he];exact u.symm)
  rw[cV z];rfl
def dD(cl:List RC):Nat->List (bE×Nat)
 |0=>[]
 |k+1=>dD cl k++(if il cl k=[] then[] else[(il cl k,k)])
def qb(D:List RC)(x:bE):∀n,x∈iq (dD D n)↔∃k,k<n/\il D k≠[]/\il D k=x
 |0=>by simp[dD,iq]
 |n+1=>by
  have B:=qb D x n;unfold iq at B⊢;rw[dD,eW,eE,B];constructor
  ·rintro(⟨k,C,a⟩|h)
   ·exact⟨k,I,a⟩
   split at h
   ·simp at h
   rename_i z;simp at h;exact⟨n,I,z,h.symm⟩
  rintro⟨k,C,a,N⟩;by_cases e:k=n
  ·subst e;rw[aA a];exact aK (by simp[N])
  exact aI ⟨k,I,a,N⟩
def uv(S:List (bE×Nat))(p:bE×Nat)(v:bE):nn (S++[p]) v=if p.1=v then(p.2:Int) else nn S v:=by
 unfold nn;rw[reverse_append];simp only[reverse_cons,reverse_nil,ej,singleton_append,find?_cons];by_cases e:p.1=v
 ·simp[e]
 have:(p.1==v)=P':=by simpa using e
 rw[this,aA e]
def AX(D:List RC)(x:bE)(F:x≠[]):∀n,Lz D n->∀k,k<n->il D k=x->nn (dD D n) x=k
 |0,_,k,a,_=>I
 |n+1,Q,k,a,he=>by
  rw[dD];by_cases e:k=n
  ·subst e;rw[aA (by rw[he];exact F),uv,aB he]
  have z:il D n≠x:=by intro u;exact Q k n I I (by rw[he];exact F) (by rw[he];exact u.symm)
  have B:=AX D x F n (λi j a b=>Q i j a I) k I he;split
  ·rw[gO];exact B
  rw[uv,aA z];exact B
def QF(D:List RC)(x:bE):∀n,0<n->nn (dD D n) x<(n:Int)
 |0,h=>I
 |n+1,_=>by
  have a:nn (dD D n) x<(n:Int)+1:=by
   rcases Cy n with e|e
   ·subst e;simp[dD,nn]
   have:=QF D x n e;omega
  rw[dD];split
  ·rw[gO];exact_mod_cast a
  rw[uv];split
  ·simp only;omega
  exact_mod_cast a
def MY(h:AG D a){k:Nat}(b:k<ζ D):(a.map PN.bu)[k]?=B' (k6 D k):=by have T:=bR b;have U:=bR (l:=a) (i:=k) (J' h.len);rw[cg,U,pD T,(h.each k _ _ T U).bu];rfl
def p8{D:List RC}{a:List PN}(h:AG D a):∀k,k<=ζ D->Lz D k->ly 0 [] ((a.map PN.bu).take k)=B' (dD D k)
 |0,_,_=>by simp[ly,dD]
 |k+1,a,hd=>by
  rw[yo (p8 h k I (λi j a b=>hd i j a I)) (MY h I),j5];by_cases e:il D k=[]
  ·rw[show decide ((k6 D k).1.1=[])=O' from ei e];simp[dD,e]
  rw[show decide ((k6 D k).1.1=[])=P' from cV e];have K:(k6 D k).1.1∉iq (dD D k):=by rw[qb];rintro⟨j,C,a,N⟩;exact hd j k C I a N
  simp only[bO,bU,K];simp[dD,e];rfl
def yp{D:List RC}{b:List PN}(h:AG D b):∀k,k<=ζ D->∀S,ly 0 [] ((b.map PN.bu).take k)=B' S->Lz D k
 |0,_,_,_=>λi j _ f=>I
 |k+1,a,S,hp=>by
  have a:=MY h (k:=k) I;cases d:ly 0 [] ((b.map PN.bu).take k)with
  |none=>have:=FV (WM:=(b.map PN.bu).take (k+1)) (k:=k) (by rw[LH,nX I];exact d);rw[this]at hp;cases hp
  |some c=>
   have Q:=yp h k I c d;have l:=p8 h k I Q;rw[yo l a,j5]at hp;intro i j t f z;by_cases e:j=k;rotate_left
   ·exact Q i j t I z
   subst e;intro u;have b:il D j≠[]:=by rw[<-u];exact z
   rw[show decide ((k6 D j).1.1=[])=P' from cV b]at hp;have B:(k6 D j).1.1∈iq (dD D j):=(qb D _ j).2 ⟨i,t,z,u⟩;simp only[bO,bU,B,c!]at hp;cases hp
def Mg(D:List RC):P8 D=O'↔∀i c,D[i]?=B' c->rG D i c.n=P':=by
 constructor
 ·intro h i c T;cases a:rG D i c.n with
  |false=>rfl
  |true=>rw[sO T a]at h;cases h
 intro h;have:∀k,k<=ζ D->mK D k=O':=by
  intro k;induction k with
  |zero=>intro _;rfl
  |succ k B=>intro a;rw[mK,B I,bR (by omega:k<ζ D)];simp[h k _ (bR (by omega:k<ζ D))]
 exact this _ aF
def y?(h:tV {m with bu:=emp} n):j3 m=!(n.aG==5||n.aG==6):=by have Q:=h.does;have a:=h.aG;rw[j3,Q,dp];obtain⟨k,Q⟩:∃k:Int,n.aG=k:=⟨_,rfl⟩;rw[Q]at a⊢;have:k=0\/k=1\/k=2\/k=3\/k=4\/k=5\/k=6:=I;rcases this with rfl|rfl|rfl|rfl|rfl|rfl|rfl<;>decide
def uT(h:tV {m with bu:=emp} n):(!m.bB.toList.isEmpty)=jumps n.aG:=by
 have a:=h.bB;rw[j5,a];unfold jumps;by_cases a:n.aG=4\/n.aG=5
 ·have K:=h.gnm a
  have:n.bB.1.1≠[]:=by
   intro e;have:n.bB.size=0:=by have:=Wm.bS n.bB;rw[e]at this;exact this.symm
   rw[Wm.wG _ this]at K;cases K
  simp[this,a]
 have:=h.gno (λe=>a (aI e)) (λe=>a (aK e));rw[this];have d:(n.aG==4)=P':=by simpa using λe=>a (aI e)
 have l:(n.aG==5)=P':=by simpa using λe=>a (aK e)
 rw[d,l];rfl
def Na(h:tV {m with bu:=emp} n)(f:jumps n.aG=O'):m.bB.1.1≠[]:=by have:=uT h;rw[f,j5]at this;simpa using this
def vE{cl:List RC}(z:m.bB.1.1≠[]):(eP cl m (ζ cl)).isEmpty=O'↔∀k,k<ζ cl->il cl k≠m.bB.1.1:=by
 have l:eP cl m (ζ cl)=iQ cl m.bB (ζ cl):=by rw[eP,j5,cV z];rfl
 rw[l,h!];constructor;rotate_left
 ·intro h;exact yY cl m.bB _ h
 intro h k a e;have X:∀n,k<n->(k:Int)∈iQ cl m.bB n:=by
  intro n;induction n with
  |zero=>intro h;omega
  |succ n B=>
   intro K;rw[iQ,eE];by_cases u:k=n
   ·subst u;rw[tQ,show decide ((k6 cl k).1.1=m.bB.1.1)=O' from ei e];exact aK ak
   exact aI (B I)
 have:=X (ζ cl) a;rw[h]at this;simp at this
def Gf{b:List PN}(h:AG D b)(o:0<ζ D):dX (b.map PN.nc)=P8 D:=by
 have X:=h.len;rw[dX,wH];by_cases Q:Lz D (ζ D);rotate_left
 ·have r:ly 0 [] (b.map PN.bu)=C':=by
   cases U:ly 0 [] (b.map PN.bu)with
   |none=>rfl
   |some S=>exfalso;refine Q (yp h (ζ D) aF S ?_);rw[cH H'];exact U
  rw[r];simp only;unfold Lz at Q;simp only[Classical.not_forall,Classical.not_not]at Q;obtain⟨i,j,t,f,z,l⟩:=Q;obtain⟨c,T⟩:=La (l:=D) (i:=i) I;symm;refine sO T ?_;have v:il D i=c.n.bu.1.1:=by rw[il,pD T]
  have B:iW D i c.n.bu (ζ D)=O':=(DM D i c.n.bu _).2 ⟨j,f,I,by rw[<-v];exact l.symm⟩;rw[rG,B,j5,cV (by rw[<-v];exact z)];rfl
 have U:=p8 h (ζ D) aF Q;rw[cH H']at U;rw[U];simp only;have t:∀(i:Nat) (c:RC),D[i]?=B' c->(!c.n.bu.toList.isEmpty&&iW D i c.n.bu (ζ D))=P':=by
  intro i c T;rw[Bool.and_eq_false_iff];by_cases e:c.n.bu.1.1=[]
  ·left;rw[j5,ei e];rfl
  right;cases B:iW D i c.n.bu (ζ D) with
  |false=>rfl
  |true=>
   obtain⟨k,C,r,N⟩:=(DM D i c.n.bu _).1 B;have B:=(bm.1 T).1;have v:il D i=c.n.bu.1.1:=by rw[il,pD T]
   rcases Nat.lt_or_gt_of_ne r with L|E
   ·exact absurd (N.trans v.symm) (Q k i L B (by rw[N];exact e))
   exact absurd (v.trans N.symm) (Q i k E C (by rw[v];exact e))
 have s:∀(i:Nat) (c:RC) (p:PN),D[i]?=B' c->b[i]?=B' p->((!c.n.bB.toList.isEmpty&&(eP D c.n (ζ D)).isEmpty)=P'↔(!jumps p.n.aG||decide (p.n.bB.1.1∈iq (dD D (ζ D))))=O'):=by
  intro i c p T y;have d:=(h.each i c p T y).n;have g:c.n.bB=p.n.bB:=d.bB;rw[uT d];cases f:jumps p.n.aG with
  |false=>simp
  |true=>
   have z:=Na d f;simp only[dW,Bool.not_true,iE,bq];rw[qb,<-g,<-je,vE z];constructor
   ·intro F
    false_or_by_contra
    rename_i a;exact F (λk f e=>a ⟨k,f,by rw[e];exact z,e⟩)
   rintro⟨k,f,_,e⟩ F;exact F k f e
 obtain⟨c,T⟩:=La (l:=D) (i:=ζ D-1) I;obtain⟨p,y⟩:=La (l:=b) (i:=ζ D-1) I;have a:rR (dD D (ζ D)) (b.map PN.nc)=!j3 c.n:=by
  unfold rR;have g:(b.map PN.nc).getLast?=B' p.nc:=by rw[Cn,b!,cg,<-X,y];rfl
  rw[g];simp only[b!];have d:=(h.each _ c p T y).n;rw[y? d,ug];have R:=QF D p.n.bB.1.1 (ζ D) o;unfold jb G8;show(!(if p.n.aG==4 then _ else if p.n.aG==5 then _ else if p.n.aG==6 then _ else _:List Int).contains _)=_;have o:=d.aG;have S:(((ζ b-1:Nat):Int)+1)=(ζ b:Int):=I;by_cases w:p.n.aG=4
  ·simp[w,S]
  by_cases P:p.n.aG=5
  ·have:¬((ζ b:Int)=nn (dD D (ζ D)) p.nc.n.bB.1.1):=by intro e;have u:nn (dD D (ζ D)) p.nc.n.bB.1.1<(ζ D:Int):=R;omega
   simp[P,this]
  by_cases K:p.n.aG=6
  ·simp[K]
  have j:(p.n.aG==4)=P':=I' w;have l:(p.n.aG==5)=P':=I' P;have g:(p.n.aG==6)=P':=I' K;rw[j,l,g];simp[S]
 rw[a,cj,Mg,bh];constructor
 ·rintro⟨C,r⟩ i d a;obtain⟨q,f⟩:=La (l:=b) (i:=i) (J' ((bm.1 a).1));rw[rG,t i d a,(s i d q a f).2 ?_];rotate_left
  ·have:=cF.1 C q.nc (AK (aT f));exact this
  by_cases e:i+1=ζ D
  ·have:i=ζ D-1:=I;subst this;rw[T]at a;cases a;have:j3 c.n=P':=I' r;rw[this];rfl
  simp[e]
 intro F;constructor;rotate_left
 ·have:=F _ c T;unfold rG at this;simp only[q8]at this;have r:=this.2;rw[show decide (ζ D-1+1=ζ D)=O' from ei I,rh]at r;rw[r];rfl
 rw[lI,cF];intro x b;obtain⟨q,c,rfl⟩:=cZ.1 b;obtain⟨i,B,rfl⟩:=w? c;have f:=bR B;obtain⟨d,a⟩:=La (l:=D) (i:=i) I;refine(s i d _ a f).1 ?_;have:=F i d a;unfold rG at this;simp only[q8]at this;exact this.1.2
def Wa(h:AG D a)(b:0<ζ D)(b:P8 D=O'){S:List (bE×Nat)}(U:ly 0 [] (a.map PN.bu)=B' S)(i:Nat)(c:RC)(p:PN)(T:D[i]?=B' c)(y:a[i]?=B' p):vS D i c.n=jb S p.nc i:=by
 have X:=h.len;have Q:Lz D (ζ D):=yp h (ζ D) aF S (by rw[cH H'];exact U);have W:=p8 h (ζ D) aF Q;rw[cH H',U]at W;cases W;have e:=(Mg D).1 b i c T;unfold rG at e;simp only[q8]at e;have hrel:=(h.each i c p T y).n;have i:=hrel.bB;have d:=uT hrel;rw[vS,y? hrel];unfold jb G8;show _=(if p.n.aG==4 then _ else if p.n.aG==5 then _ else if p.n.aG==6 then _ else _:List Int);cases f:jumps p.n.aG with
 |false=>
  have a:c.n.bB.toList.isEmpty=O':=by rw[f]at d;simpa using d
  have K:eP D c.n (ζ D)=[]:=by rw[eP,a];rfl
  unfold jumps at f;rw[q8]at f;rw[K,f.1,f.2];cases p.n.aG==6<;>rfl
 |true=>
  have z:=Na hrel f;have a:c.n.bB.toList.isEmpty=P':=by rw[j5,cV z]
  have b:∃k,k<ζ D/\il D k=c.n.bB.1.1:=by
   have g:=e.1.2;rw[a]at g;simp only[Bool.not_false,dW]at g
   false_or_by_contra
   rename_i d;have:=(vE (cl:=D) z).2 (λk h e=>d ⟨k,h,e⟩);rw[this]at g;cases g
  obtain⟨k,h,l⟩:=b;have V:eP D c.n (ζ D)=[(k:Int)]:=by rw[eP,a];exact GK D c.n.bB z _ Q k h l
  have R:nn (dD D (ζ D)) p.nc.n.bB.1.1=k:=by show nn (dD D (ζ D)) p.n.bB.1.1=k;rw[<-i];exact AX D _ z _ Q k h l
  rw[V,R];unfold jumps at f;have g:=I' f;rcases g with e|e
  ·simp[e]
  simp[e]
end
section
variable {D:List RC} {a:List PN} {c:RC} {p:PN}
def tX(s:z')(k fr:Nat)(rest:List z'):Prop:=
 if k<=s.size then rest.map (·.data.toList)=Wm.zS (Wm.sub s.1.1 fr k) (s.1.1.drop k) else rest=[]
def KO(s:z'):tX s 0 0 (MV s):=by rw[tX,aB bj,Wm.sub_self,AO];exact Wm.yI s
def Tq(s:z')(k b:Nat)(q:List z')(a:k<s.size)(Y:b<=k)(c:((s[k].toNat:Int)==10)=P')(h:tX s k b q):tX s (k+1) b q:=by
 unfold tX at h⊢;rw[aB I]at h;rw[aB I,h,drop_cons s k a,Wm.sE s.1.1 b k (k+1) Y I,sub_one s k a];have:s[k]≠10:=by intro e;rw[e]at c;exact absurd c aj
 rw[Wm.zS];simp[this]
def Tp(s:z')(k b:Nat)(q:List z')(a:k<=s.size)(Y:b<=k)(d:∀h:k<s.size,((s[k].toNat:Int)==10)=O')(h:tX s k b q):∃r,q=s.extract b k::r/\tX s (k+1) (k+1) r:=by
 have c:=Wm.bS s;unfold tX at h;rw[aB a]at h;by_cases L:k<s.size
 ·have a:s[k]=10:=by have:=d L;rw[bT]at this;exact oS (by have e:(10:UInt8).toNat=10:=rfl;omega)
  rw[drop_cons s k L,Wm.zS]at h;simp only[a,c!]at h
  match q,h with
  |x::r,h=>
   simp only[u?,nh]at h;refine⟨r,?_,?_⟩
   ·rw[data_inj (a:=x) (b:=s.extract b k) (by rw[j4];exact h.1)]
   rw[tX,aB I,Wm.sub_self];exact h.2
 obtain rfl:k=s.size:=I;rw[show s.1.1.drop s.size=[] from qE I,Wm.zS]at h
 match q,h with
 |x::r,h=>
  simp only[u?,nh,map_eq_nil_iff]at h;refine⟨r,?_,?_⟩
  ·rw[data_inj (a:=x) (b:=s.extract b s.size) (by rw[j4];exact h.1)]
  rw[tX,aA I];exact h.2
def Jy(u:z')(r:List z')(h:0<u.size):kQ (u::r)=((u[0].toNat:Int)==35):=by
 unfold kQ;simp only;rw[Wm.fm u h];simp only;rw[cj,bT,bT];constructor
 ·intro e;rw[e];rfl
 intro e;exact oS (by have u:(35:UInt8).toNat=35:=rfl;omega)
def Pf(s:z')(h:0<s.size):s.1.1=(s.extract 0 (s.size-1)).1.1++[s[s.size-1]]:=by rw[j4];have k:=Wm.bS s;have e:=Wm.ux s (s.size-1) I;rw[show s.size-1+1=s.size by omega,cH I]at e;simp only[Wm.sub,AO,ri];exact e
def Ur(s:z')(h:0<s.size):r8 s=((s[s.size-1].toNat:Int)==58):=by
 rw[r8,Lib.hasSuffix,cj,bT,isSuffixOf_iff_suffix,Pf s h];constructor
 ·rintro⟨t,U⟩;have:=(append_inj' U rfl).2;simp only[nh,and_true]at this;rw[<-this];rfl
 intro a;have:s[s.size-1]=58:=oS (by have u:(58:UInt8).toNat=58:=rfl;omega);rw[this];exact⟨_,rfl⟩
def S!(s:z')(h:0<s.size)(T:r8 s=O'):jA s=s.extract 0 (s.size-1):=by have k:=Wm.bS s;apply data_inj;rw[j4];show Lib.trimSuffix s.1.1 [58]=_;rw[Lib.trimSuffix,aB (show Lib.hasSuffix s.1.1 [58]=O' from T)];simp[Wm.sub]
structure PZ(w:u')(c:RC)(p:PN):Prop where
  rel:U3 c p
  ws:∃g off,c.wa=B' (O g off)/\Ws w g off p.ws
  wl:c.wl=ζ p.ws
structure lp(w:u')(cl:List RC)(pl:List PN):Prop where
  len:ζ cl=ζ pl
  each:∀(j:Nat) (c:RC) (p:PN),cl[j]?=B' c->pl[j]?=B' p->PZ w c p
def lp.rel(h:lp w D a):AG D a:=⟨h.len,λj c p a b=>(h.each j c p a b).rel⟩
def PZ.mono{a:u'}(h:PZ w c p)(B:∀g t R,Ws w g t R->Ws a g t R):PZ a c p:=by obtain⟨g,t,C,a⟩:=h.ws;exact⟨h.rel,⟨g,t,C,B _ _ _ a⟩,h.wl⟩
def lp.mono{a:u'}{b:List PN}(h:lp w D b)(B:∀g t R,Ws w g t R->Ws a g t R):lp a D b:=
 ⟨h.len,λj c p a b=>(h.each j c p a b).mono B⟩
def lp.snoc(h:lp w D a)(T:PZ w c p):lp w (D++[c]) (a++[p]):=by exact afC
end
section
variable {c:u'} {s u:z'} {B e size t:Nat} {Q v:A'} {E a:List bE} {b:Option Nat} {V:List PN} {D:List RC} {r R rw:List z'} {q:List (List z')} {m:RN}
def Fc(s:z')(w:u')(h:decide (3000<(s.size:Int))=O'):
  Cl 38 #[m' s] w λe a=>e=p' (t' #[o' C',G 1])/\a=w:=by
 go_enter func38,ntmps38;go_wp2;go_ret2;exact⟨rfl,rfl⟩
def U4(w:u')(r:Pr)(e:Ending)(w':u'):Prop:=
 Bl w w' /\
 match r with
 | .inl false=>e=p' (t' #[o' C',G 1])
 | .inl true=>e=p' (t' #[o' C',G 2])
 | .inr (pl,vs)=>∃pb g cap va vc xv cl qV ps,e=p' (t' #[o' (B' (O pb 0)),G 0])/\δ w.1<=pb/\w'.1[pb]?=B' (k' #[i' (B' (O g 0)) (ζ pl) cap,i' va (ζ vs) vc,xv] 107 (0,0))/\δ w.1<=g/\mX w' g cap cl/\lp w' cl pl/\ly 0 [] (pl.map PN.bu)=B' ps/\ρ w' w.1.size 36 1 xv (ζ qV) qV/\ζ qV=ζ pl/\(∀(j:Nat) (ev:A') (p:PN),qV[j]?=B' ev->pl[j]?=B' p->ρ w' w.1.size 3 1 ev (ζ (jb ps p.nc j)) ((jb ps p.nc j).map G))
structure PS(w:u')(s:z')(k:Nat)(nv:A')(vs:List bE)(vb:Option Nat)(acc:List PN)(cl:List RC)(W:u'):Prop where
  rp:Rp W w.1.size (δ w.1+1) nv (i' C' 0 0) vs vb
  row:ρ W (δ w.1+1) 111 13 nv (ζ cl) (sJ cl)
  z6:lp W cl acc
  far:∀c∈cl,∀a,c.wa=B' a->some a.block≠vb
  low:Bl w W
  Jf:ζ vs<=3*k
  Uu:ζ cl<=k
def PS.below(h:PS w s k Q E b V D W)(a:Bl W c):PS w s k Q E b V D c:=
 ⟨h.rp.below a,gA h.row a,h.z6.mono (sB a),h.far,h.low.trans (a.mono h.low.size),h.Jf,h.Uu⟩
def PS.next{a:Option Nat}(h:PS w s k Q E a V D W):PS w s (k+1) Q E a V D W:=
 ⟨h.rp,h.row,h.z6,h.far,h.low,J' h.Jf,J' h.Uu⟩
def G1(h:ρ w B 9 1 v (ζ (u::r)) ((u::r).map m')):∃a b,v=i' (B' (O a 0)) (ζ r+1) b/\B<=a/\ζ r+1<=b/\b<=maxLen/\Ws w a 0 (u::r):=by
 rcases h.2 with⟨_,D⟩|⟨g,b,Y,R,a,c,T,d,_,U⟩
 ·simp at D
 exact⟨g,b,R,a,T,d,Y,c,I' U⟩
def BI(h:r8 u=P'):jU E (u::r)=(emp,0,ix E (u::r)):=by simp[jU,h]
structure pQ(vs:List bE)(ws rw:List z')(bu:z')(k:Nat):Prop where
  no:gw vs rw=C'->(jU vs ws).2.2.2.1=P'
  yes:∀m Ih,gw vs rw=B' (m,Ih)->(jU vs ws).1=bu/\ws.drop (jU vs ws).2.1=rw/\(jU vs ws).2.2.2.1=O'/\(jU vs ws).2.2.2.2=Ih/\tV m (jU vs ws).2.2.1
def Ky(h:r8 u=P'):pQ E (u::r) (u::r) emp 0:=by
 have y:=E8 E (u::r);rw[show pQ E (u::r) (u::r) emp 0↔pQ E (u::r) (u::r) emp 0 from Iff.rfl];refine⟨λe=>?_,λm d e=>?_⟩
 ·rw[BI h];exact y.no e
 rw[BI h];obtain⟨a,b,c⟩:=y.yes m d e;exact⟨rfl,rfl,a,b,c⟩
def Gi(h:r8 u=O')(K:Wm.nm (jA u)=P'):(jU E (u::r)).2.2.2.1=P':=by simp[jU,h,K,gJ]
def Gh(h:r8 u=O')(K:Wm.nm (jA u)=O'):pQ E (u::r) r (jA u) 1:=by
 have hs:=E8 E r
 match r,hs with
 |[],_=>refine⟨λ_=>by simp[jU,h,K,gJ],λm d e=>by simp[gw]at e⟩
 |x::r,hs=>
  have X:jU E (u::x::r)=(jA u,1,ix E (x::r)):=by simp[jU,h,K]
  refine⟨λe=>?_,λm d e=>?_⟩
  ·rw[X];exact hs.no e
  rw[X];obtain⟨a,b,c⟩:=hs.yes m d e;exact⟨rfl,rfl,a,b,c⟩
def xX(h:kQ R=P')(a:(jU E R).2.2.2.1=P'):og E V (R::q)=C':=by rw[og,h,a];rfl
def Sw(vs:List bE)(ws:List z'):PN:=⟨(jU vs ws).1,ws.drop (jU vs ws).2.1,(jU vs ws).2.2.1⟩
def Ms{b:z'}(h:kQ R=P')(X:pQ E R rw b k)(b:gw E rw=B' (m,a)):og E V (R::q)=og a (V++[Sw E R]) q:=by obtain⟨_,_,N,d,_⟩:=X.yes m a b;rw[og,h,N,d];rfl
def Fe(h:bY s=O'):(sL E s).word=s:=by
 unfold sL;split
 ·rfl
 split
 ·rfl
 rename_i C a;unfold bY at h;simp_all
def Od(h:gw E rw=B' (m,a))(a:m.ops=2)(Q:m.does=⟨#[61]⟩):∃u b,rw=[u,b,m.a.word,m.sign,m.b.word]:=by
 unfold gw at h;split at h
 ·split at h<;>cases h
  simp at a
 ·repeat' (split at h)
  all_goals(cases h)
  all_goals(simp at a)
 ·repeat' (split at h)
  all_goals(cases h)
  all_goals(simp at a)
 ·rename_i u b W i Y;split at h;rotate_left
  ·cases h
  split at h
  ·rename_i C;cases h;simp only[bh]at C;exact⟨u,b,by rw[Fe C.1.1,Fe C.1.2]⟩
  cases h
 ·rename_i u b W i Y p;split at h;rotate_left
  ·cases h
  rename_i D;split at h
  ·cases h;simp only at Q;rw[Q]at D;simp at D
  cases h
 cases h
def Mn{bu:z'}{wa:x'}{wl wc:Nat}(X:pQ E R rw bu k)(d:gw E rw=B' (m,a)):U3 ⟨{m with bu:=bu},wa,wl,wc⟩ (Sw E R)/\(Sw E R).ws=rw:=by
 obtain⟨C,c,_,_,l⟩:=X.yes m a d;refine⟨⟨C.symm,?_,λb=>?_⟩,c⟩;rotate_left
 ·have a:(jU E R).2.2.1.aG=1:=b;have V:m.ops=2:=by rw[l.ops,a];rfl
  have f:m.does=⟨#[61]⟩:=by rw[l.does,a];rfl
  obtain⟨u,b,e⟩:=Od d V f;exact⟨u,b,c.trans e⟩
 have:({({m with bu:=bu}:RN)with bu:=emp}:RN)=m:=by have:=l.bu;cases m;simp at this⊢;exact this.symm
 show tV {({m with bu:=bu}:RN)with bu:=emp} _;rw[this];exact l
def Re{a:Option Nat}{D:List A'}(h:ρ W B e size v n D)(d:RF N a W c)(C:φ v=C'\/φ v≠B' N)(b:φ v=C'\/φ v≠a):ρ c B e size v n D:=by
 have L:=h.lt;refine⟨h.1,?_⟩;rcases h.2 with a|⟨g,c,Y,V,Q,p,f⟩
 ·exact aI a
 subst V;refine aK ⟨g,c,Y,rfl,Q,(d.block g (L g rfl).2 ?_ ?_).trans p,f⟩
 ·rcases C with C|C
  ·cases C
  intro e;exact C (by rw[e];rfl)
 rcases b with b|b
 ·cases b
 exact b
def lp.ZC{b:u'}{d:List PN}(h:lp w D d)(B:∀c∈D,∀a,c.wa=B' a->∀t R,Ws w a.block t R->Ws b a.block t R):lp b D d:=by refine⟨h.len,λj c p a b=>?_⟩;have d:=h.each j c p a b;obtain⟨g,t,C,b⟩:=d.ws;exact⟨d.rel,⟨g,t,C,B c (aT a) _ C _ _ b⟩,d.wl⟩
def lp.lt{b:List PN}(h:lp w D b):∀c∈D,∀a,c.wa=B' a->a.block<δ w.1:=by intro c T a a;obtain⟨j,f⟩:=xh T;have r:=(bm.1 f).1;obtain⟨p,U⟩:=La (l:=b) (i:=j) (J' h.len);obtain⟨g,t,C,b⟩:=(h.each j c p f U).ws;rw[C]at a;cases a;exact b.lt
def NW{D:List A'}(h:Ws W g t R)(b:ρ W B e size v n D)(l:9≠e):some g≠φ v:=by intro R;obtain⟨Q,K,a⟩:=eI b g R.symm;obtain⟨Y,T,_⟩:=h;rw[T]at a;simp at a;exact l a.2.1
def NY{L:Array A'}{f:Nat×Nat}(h:Ws W g t R)(a:W.1[N]?=B' (k' L e f))(l:9≠e):g≠N:=by rintro rfl;obtain⟨Y,T,_⟩:=h;rw[T]at a;simp at a;exact l a.2.1
def afA{p:Prop}(h:p:=by
 refine⟨Y.os.trans h.low.os,Y.tape.trans h.low.tape,Y.output.trans h.low.output,bD h.low.size Y.size,λq a=>?_⟩;have C:=h.low.size;refine(Y.block q I I ?_).trans (h.low.block q a);intro e;have:=(h.rp.Ei q e.symm).1
 omega):p:=h
def PS.call{b:u'}{c X:Option Nat}(h:PS w s k Q E c V D W)(hP:Rp b w.1.size (δ w.1+1) Q (i' C' 0 0) a X)(Y:RF w.1.size c W b)(K:gn W c X)(R:ζ a<=3*(k+1)):PS w s (k+1) Q a X V D b:=by
 obtain⟨u,a,a,z⟩:=h.rp.box;have d:=h.rp.lt;refine⟨hP,?_,?_,?_,?_,R,J' h.Uu⟩
 ·exact Re h.row Y (eo h.row I) (by rw[<-z];exact fj h.row a aj)
 ·exact h.z6.ZC (λc T a b t R j=>j.rf h.rp (h.far c T a b) Y)
 ·exact λc T a b=>K.ne (h.z6.lt c T a b) (h.far c T a b)
 exact afA
def PS.add{C:u'}{S:A'}{d:Option Nat}{c:RC}{p:PN}(h:PS w s k Q E d V D W)(b:ξ W C (φ Q))(e:ρ C (δ w.1+1) 111 13 S (ζ (D++[c])) (sJ (D++[c])))(T:PZ W c p)(f:∀a,c.wa=B' a->some a.block≠d)(X:ζ D<k):PS w s k S E d (V++[p]) (D++[c]) (κ C (O w.1.size 0) S):=by
 obtain⟨u,p,o,z⟩:=h.rp.box;have l:d' C w.1.size #[Q,u,i' C' 0 0] 107:=(b.block _ h.rp.lt (BF (λk i=>(h.row.lt k i).1) I)).trans p;have c:=bX C w.1.size 0 S
 have d:∀g t R,Ws W g t R->Ws (κ C (O w.1.size 0) S) g t R:=λg t R j=>
  j.of_block ((aJ (NY j p aj)).trans (b.block g j.lt (NW j h.row aj)))
 refine⟨⟨⟨u,?_,?_,z⟩,h.rp.nodup⟩,?_,?_,?_,?_,h.Jf,H'⟩
 ·rw[lT l];rfl
 ·exact(o.kept b (fj o h.row aj)).kept c (eo o I)
 ·exact e.kept c (eo e I)
 ·exact(h.z6.snoc T).mono d
 ·intro d K a c;rcases eE.1 K with C|C
  ·exact h.far d C a c
  simp at C;subst C;exact f a c
 have C:=h.low.size;refine⟨b.os.trans h.low.os,b.tape.trans h.low.tape,b.output.trans h.low.output,by have:=b.size;simp[World.setCell];omega,λq a=>?_⟩;refine(aJ H').trans ((b.block q I (BF (λk i=>(h.row.lt k i).1) I)).trans (h.low.block q a))
def Fi(P:A')(h:P.oneCell'=O')(n:RN):∀u∈(aH P n).toList,u.oneCell'=O':=by
 intro u C;simp only[aH,dr,mem_nil_iff,jf]at C;rcases C with rfl|rfl|rfl|rfl|rfl|rfl|rfl|rfl|rfl|rfl|rfl|rfl|rfl
 ·exact h
 all_goals rfl
def Ce{a:Option Nat}(P:A')(n:RN)(C:P.oneCell'=O')(h:PS w s k Q E a V D W):
  ρ ((W.alloc (k' (aH P n) 111)).alloc (k' (aH P n) 111)) (δ w.1+1) 111 13 Q (ζ D) (sJ D) /\
  (∀(j:Nat) (u:A'),(aH P n).toList[j]?=B' u->χ ((W.alloc (k' (aH P n) 111)).alloc (k' (aH P n) 111)) (((O (δ W.1+1) 0):Addr).add j)=B' u) /\
  (∀u∈(aH P n).toList,u.oneCell'=O') /\
  δ w.1+1<=δ ((W.alloc (k' (aH P n) 111)).alloc (k' (aH P n) 111)).1:=
 ⟨(h.row.alloc _).alloc _,vA W _ _ _,Fi P C n,by have:=h.rp.lt;simp;omega⟩
def PS.kept{a f:Obj}(h:PS w s k Q E b V D W)(b:ξ ((W.alloc a).alloc f) c (φ Q)):∃u,c.1[δ w.1]?=B' (k' #[Q,u,i' C' 0 0] 107 (0,0)):=by obtain⟨u,c,_,_⟩:=h.rp.box;exact⟨u,((((jO W a _).trans (jO _ f _)).trans b).block _ h.rp.lt (BF (λk a=>(h.row.lt k a).1) I)).trans c⟩
def ET{P:Program}{ops:Array Oper}{o:Oper}{a:Act}{K:Act->u'->Prop}{Q:Exit->Act->u'->Prop}{E:Prop}
  (q:o.guard=C') (s x:Operand) (t:TypeId) (p:o.op=Op.call {callee:=Callee.builtin Builtin.append,args:=#[s,x],argTypes:=#[t,t]})
  (k:Nat) (e:TypeId) (i:TypeInfo) (z:A') (size bytes:Nat) (C:P.underlying t=B' (.slice e)) (U:P.info? e=B' i) (N:i.zero=B' z) (W:i.size=size) (l:i.bytes=bytes) (h6:z.cells.size=size) (V:0<size)
  (v:A') (n:Nat) (f:List A') (y:a.eval s=v) (D:ρ w k e size v n f)
  (L:Addr) (m c:Nat) (b:List A') (F:a.eval x=i' (B' L) m c) (hn:ζ b=m*size) (T:∀j u,b[j]?=B' u->χ w (L.add j)=B' u) (R:∀u∈b,u.oneCell'=O')
  (u:n+m<=maxLen) (Y:(n+m)*bytes<=140737488355328) (hB:k<=δ w.1)
  (X:∀g j,ρ j k e size g (n+m) (f++b)->ξ w j (φ v)->K (a.put o.dst g) j):
  if Region.wanted o (yielded ops a.tmps)=O' then Oper.wp P o a w K Q else E:=by
 have B:Region.wanted o (yielded ops a.tmps)=O':=by simp[Region.wanted,q]
 rw[aB B];obtain⟨g,j,r,r1,q,_⟩:=Qr (P:=P) (w:=w) k t o.type e i z size bytes C U N W l h6 V v n f D L m c b hn T R u Y hB;obtain⟨U,T,rfl⟩:=aV D;simp[Oper.wp,execOp,p,resolve,invoke,builtin,y,F,r,Result.andThen];exact X g j r1 q
def E!(h:ρ w B 111 13 v (ζ D) (sJ D))(a:0<ζ D):∃g a,v=i' (B' (O g 0)) (ζ D) a/\B<=g/\mX w g a D:=by
 rcases h.2 with⟨_,e⟩|⟨g,a,Y,R,b,c,T,_,y,U⟩
 ·omega
 exact⟨g,a,R,b,Y,c,y,U,T⟩
def RF.MI{a:u'}(h:RF N C' W a):RF N b W a:=⟨h.os,h.tape,h.output,h.size,λk a C _=>h.block k a C ak⟩
def SA{a:u'}{u x:Nat}{z:x'}{y:A'}{d:List A'}(h:PS w s k (iF g (ζ D) u) E b V D W)(b:δ w.1+1<=g)(k:0<ζ D)(o:P8 D=O')(C:NQ W w.1.size g u (i' z (ζ E) x) D (ζ D) y d a)(Y:RF w.1.size C' W a)(i:Bl w a):U4 w (Pr.ok V E) (p' (t' #[o' (dO w.1.size),G 0])) a:=by
 have hrel:=h.z6.rel;have L:=h.z6.len;have b:=(Gf hrel k).trans o;obtain⟨S,B⟩:∃S,ly 0 [] (V.map PN.bu)=B' S:=by
  unfold dX at b;rw[wH]at b;cases e:ly 0 [] (V.map PN.bu)with
  |none=>rw[e]at b;simp at b
  |some S=>exact⟨S,rfl⟩
 have b:=h.low.size;refine⟨i,δ w.1,g,u,z,x,y,D,d,S,rfl,aF,?_,I,C.row,?_,B,a! C.next b,C.len.trans L,?_⟩
 ·rw[C.box,L]
 ·exact h.z6.ZC (λc T a d t R j=>j.rf h.rp (h.far c T a d) Y.MI)
 intro j a p f U;have r:=(bm.1 U).1;have T:=bR (l:=D) (i:=j) I;have l:=C.edges j a _ f T;rw[Wa hrel k o B j _ p T U]at l;exact a! l b
def MB(y:s.size<=3000)(h:og [] [] (BH s)=B' (V,E))(U:hU V E=P'):kW s=Pr.prg:=by rw[kW,aA I,h];simp only[U];rfl
def Wp(y:s.size<=3000)(h:og [] [] (BH s)=B' (V,E))(U:hU V E=O'):kW s=Pr.ok V E:=by rw[kW,aA I,h];simp only[U];rfl
end
def xp(l:List VV)(x:VV):dy (l++[x])=dy l++dw x:=by simp[dy]
def Qs{p:Int}{D z:List VV}{k:Nat}{x y:VV}(F:D[k]?=B' x)(B:z[k]?=B' y):(zipWith (kh p) D z).take (k+1)=(zipWith (kh p) D z).take k++[kh p x y]:=by
 have h:(zipWith (kh p) D z)[k]?=B' (kh p x y):=by rw[I9,F,B]
 have X:=(bm.1 h).1;rw[cX X,(bm.1 h).2]
structure JnS(w wr:u')(av bv:A')(zs:List VV)(oa:x')(oc:Nat):Prop where
  low:Bl w wr
  bx0:wr.1[δ w.1]?=B' (k' #[j' P',av] 133 (0,0))
  bx1:wr.1[δ w.1+1]?=B' (k' #[j' P',bv] 133 (0,0))
  bx2:wr.1[δ w.1+1+1]?=B' kN
  bx3:wr.1[δ w.1+1+1+1]?=B' (k' (dI oa (ζ zs) oc) 133 (0,0))
  row:ρ wr (δ w.1+4) 138 3 (aO oa (ζ zs) oc) (ζ zs) (dy zs)
  nil:oa=C'->oc=0
def JnS.next{w wr X c:u'}{f D:A'}{b:List VV}{j e:x'}{r a:Nat}{z:VV}(h:JnS w wr f D b j r)(d:Bl wr X)(F:ξ X c (φ (i' j (ζ b) r)))
  (k:ρ c (δ w.1+4) 138 3 (i' e (ζ b+1) a) (ζ b+1) (dy b++dw z)):
  JnS w (κ c (O (δ w.1+1+1+1) 1) (i' e (ζ b+1) a)) f D (b++[z]) e a:=by
 have l:∀q,φ (i' j (ζ b) r)=B' q->δ w.1+4<=q:=λq e=>(h.row.lt q e).1;have a:∀q o,q<δ w.1+4->wr.1[q]?=B' o->c.1[q]?=B' o:=by intro q o b b;have f:=(aY.1 b).1;have C:=(d.block q f).trans b;refine(F.block q (aY.1 C).1 ?_).trans C;intro e;have:=l q e.symm;omega
 have y0:Bl w c:=(H h.low d).grown F (H h.low d).size (λq e=>J' (l q e));refine⟨y0.setCell H' _,?_,?_,?_,?_,?_,?_⟩
 ·rw[aJ H'];exact a _ _ I h.bx0
 ·rw[aJ H'];exact a _ _ I h.bx1
 ·rw[aJ H'];exact a _ _ I h.bx2
 ·rw[bF,fF];exact aq (a _ _ I h.bx3) _
 ·rw[bF,fF,xp];refine⟨k.1,?_⟩;rcases k.2 with e|⟨g,a,Y,e,C,b,N⟩
  ·exact aI e
  refine aK ⟨g,a,Y,e,C,?_,N⟩;rw[aJ H'];exact b
 intro e;subst e;rcases k.2 with⟨R,_⟩|⟨g,u,Y,R,_⟩
 ·simp at R
 simp at R
theorem Sd(p:Int)(aa ba:Option Addr)(ac bc:Nat)(xs ys:List VV)(w:World)(hx:dB w aa xs)(hy:dB w ba ys)(n:Nat)(hl:xs.length=n/\ys.length=n)(a:n<=8):
  Cl 73 #[G p,.agg (dI aa n ac),.agg (dI ba n bc)] w (lu w (some (List.zipWith (kh p) xs ys))):=by
 have tw:=True.intro;exact ON
def JP(p:Int)(P l:x')(f b a X:Nat)(c:Bool)(d:EV)(w:u')(h:dK w c l a X d):
  Cl 73 #[G p,cu O' P f b,cu c l a X] w (lu w d):=by
 go_enter func73,ntmps73;go_wp2;refine aC (v:=cu c l a X) (by simp[results73,go_sem]) rfl (lu.mk (h.below ?_) ?_)
 all_goals(repeat first|exact aQ|refine jM ?_ (by first|omega|(simp;omega)) _|refine lz ?_ (by first|omega|(simp;omega)|(simp;done)) _)
def Fm(p:Int)(P l:x')(f b a X:Nat)(c:EV)(w:u')(h:dK w P' P f b c):
  Cl 73 #[G p,cu P' P f b,cu O' l a X] w (lu w c):=by
 go_enter func73,ntmps73;go_wp2;refine aC (v:=cu P' P f b) (by simp[results73,go_sem]) rfl (lu.mk (h.below ?_) ?_)
 all_goals(repeat first|exact aQ|refine jM ?_ (by first|omega|(simp;omega)) _|refine lz ?_ (by first|omega|(simp;omega)|(simp;done)) _)
def Vy(nv:Nat)(e:EV):Prop:=match e with|none=>True|some vs=>ζ vs=nv
def Oo(p:Int)(Q:Nat)(T c:Bool)(P l:x')(f b a X:Nat)(x y:EV)(w:u')(F:dK w T P f b x)(B:dK w c l a X y)(W:Q<=8)(v:Vy Q x)(ny:Vy Q y):
  Cl 73 #[G p,cu T P f b,cu c l a X] w (lu w (Iu p x y)):=by
 match x,y,F,B,v,ny with
 |none,y,F,B,_,_=>obtain rfl:T=O':=F;exact JP p P l f b a X c y w B
 |some D,none,F,B,_,_=>obtain rfl:c=O':=B;obtain⟨rfl,c⟩:=F;exact Fm p P l f b a X _ w ⟨rfl,c⟩
 |some D,some z,F,B,v,ny=>obtain⟨rfl,rfl,c,_⟩:=F;obtain⟨rfl,rfl,d,_⟩:=B;have V:ζ D=Q:=v;have u:ζ z=Q:=ny;rw[V,u];exact Sd p P l b X D z w c d Q ⟨V,u⟩ W
def J7(p:Int)(Q:Nat)(T c:Bool)(P l:x')(f b a X:Nat)(x y:EV)(w:u')(F:dK w T P f b x)(B:dK w c l a X y)(W:Q<=8)(v:Vy Q x)(ny:Vy Q y):
  Cl 72 #[G p,cu T P f b,cu c l a X] w (Rb w (j' (Ew p x y))):=by
 match x,y,F,B,v,ny with
 |none,y,F,B,_,_=>obtain rfl:T=O':=F;exact FF p _ _ c w
 |some D,none,F,B,_,_=>obtain rfl:c=O':=B;obtain⟨rfl,a⟩:=F;exact FE p _ _ w
 |some D,some z,F,B,v,ny=>obtain⟨rfl,rfl,a,_⟩:=F;obtain⟨rfl,rfl,d,_⟩:=B;have V:ζ D=Q:=v;have u:ζ z=Q:=ny;rw[V,u];exact OI p P l b X D z w a d Q ⟨V,u⟩ W
section
variable {X:u'}
def jY(h:n=δ X.1):(X.alloc o).1[n]?=B' o:=by subst h;exact cv X o
def lH{b:Obj}(h:X.1[n]?=B' o)(K:n<δ X.1):(X.alloc b).1[n]?=B' o:=(qq X b n K).trans h
def dB.put{w:u'}{j e:x'}{c:List VV}{q a s:Nat}{d:Bool}{L b:A'}{t:TypeId}(h:dB w j c)(i:w.1[q]?=B' (k' #[j' d,i' e a s] t (0,0))):dB (κ (κ w (O q 0) L) (O q 1) b) j c:=by
 intro j v f;obtain⟨g,o,e,T,c1,p⟩:=h j v f;have a:g≠q:=by
  rintro rfl;obtain⟨E,_⟩:=M i;rw[E]at T c1;generalize o+j*3=i at T c1
  match i,T,c1 with
  |0,_,c1=>simp at c1
  |1,T,_=>simp at T
  |i+2,T,_=>simp at T
 have V:(κ (κ w (O q 0) L) (O q 1) b).1[g]?=w.1[g]?:=by rw[aJ a,aJ a]
 exact⟨g,o,e,(cw V).trans T,(cw V).trans c1,(cw V).trans p⟩
def eU(n:Nat)(z:x')(x:Nat)(E:List VV)(k:Nat)(f:Bool)(j S:Int)(w:u')(h:dB w z E)(W:z=C'->x=0)(K:ζ E=n)(X:ζ E<=8)(c:k<ζ E):
  Cl 247 #[l' #[j' P',i' z n x],G k,l' #[j' f,G j,G S]] w λe a=>∃b r,e=p' (l' #[j' P',i' b n r])/\dB a b (E.set k ⟨f,j,S⟩)/\(b=C'->r=0)/\Bl w a:=by
 subst K;refine(R7 P' z x E k ⟨f,j,S⟩ w h W X c).mono ?_;rintro e a ⟨a,a,n,c,rfl,⟨rfl,i,R,T⟩,b⟩;rw[de]at i;subst i;exact⟨a,c,rfl,R,T,b⟩
def abg(f:Bool)(j S l h:Int)(w:u'):
  Cl 297 #[l' #[j' f,G j,G S],G l,G h] w λe a=>∃z:VV,e=p' (l' #[j' z.any,G z.lo,G z.hi])/\J (z=cK ⟨f,j,S⟩ l h)/\Bl w a:=
 (Fw ⟨f,j,S⟩ l h w).mono λe a V=>⟨_,V.1,rfl,V.2⟩
end
section
variable {a:EV} {P:A'} {m:RN} {z:x'} {F x:Nat}
structure KB(w W:u')(wv:A')(m:RN)(va:x')(vn vc:Nat):Prop where
  low:Bl w W
  b0:W.1[δ w.1]?=B' (k' (aH wv m) 111 (0,0))
  b1:W.1[δ w.1+1]?=B' (k' (dI va vn vc) 133 (0,0))
  b2:W.1[δ w.1+1+1]?=B' kN
def KB.below{a:u'}(h:KB w W P m z F x)(b:Bl W a):KB w a P m z F x:=by have k:∀{q:Nat} {o:Obj},W.1[q]?=B' o->a.1[q]?=B' o:=λe=>(b.block _ (aY.1 e).1).trans e;exact⟨H h.low b,k h.b0,k h.b1,k h.b2⟩
def KB.start(w:u')(P:A')(m:RN)(z:x')(F x:Nat):KB w (((w.alloc (k' (aH P m) 111)).alloc (k' #[j' P',i' z F x] 133)).alloc (k' vP 133)) P m z F x:=by
 refine⟨gB,?_,?_,?_⟩
 ·exact lH (lH (jY rfl) ak) H'
 ·exact lH (jY ak) ak
 exact jY ak
def KB.done{j:x'}{r:Nat}{c:List VV}(h:KB w W P m z F x)(R:dB W j c)(K:j=C'->r=0)(X:ζ c=F)(l:a=B' c):
  lu w a (p' (cu P' j F r)) (κ (κ W (O (δ w.1+1+1) 0) (j' P')) (O (δ w.1+1+1) 1) (i' j F r)):=by
 subst l;exact lu.mk ⟨rfl,X.symm,R.put h.b2,K⟩ ((h.low.setCell H' _).setCell H' _)
def KB.no(h:KB w W P m z F x)(l:a=C'):
  lu w a (p' (cu O' C' 0 0)) (κ (κ W (O (δ w.1+1+1) 0) (j' O')) (O (δ w.1+1+1) 1) (i' C' 0 0)):=by
 subst l;exact lu.mk (show dK _ O' C' 0 0 C' from rfl) ((h.low.setCell H' _).setCell H' _)
def KB.q(h:KB w W P m z F x)(L a:A'):χ (κ W (O (δ w.1+1+1) 0) L) (O (δ w.1+1+1) 0)=B' L/\χ (κ (κ W (O (δ w.1+1+1) 0) L) (O (δ w.1+1+1) 1) a) (O (δ w.1+1+1) 1)=B' a:=
 ⟨by rw[(M (aq h.b2 _)).1];rfl,by rw[(M (aq (aq h.b2 _) _)).1];rfl⟩
def sM(b:x')(x n:Nat)(E:List VV)(q c:Int)(a:z')(w:u')(h:dB w b E)(K:ζ E=n)(X:ζ E<=8)(R:q<ζ E):
  Cl 248 #[l' (dI b n x),l' #[G q,G c,m' a]] w λe d=>∃z:VV,e=p' (l' #[j' z.any,G z.lo,G z.hi])/\J (z=fV E q c)/\Bl w d:=by
 subst K;exact(V5 P' b x E q c a w h X R).mono λe d V=>⟨_,V.1,rfl,V.2⟩
def C8(b:A')(m:RN)(k:Int)(t:Nat)(z:x')(x:Nat)(E:List VV)(w:u')(R:dB w z E)(W:z=C'->x=0)(X:ζ E<=8)(j:m.does=⟨vd⟩)(U:m.target=t)(e:t<ζ E):
  Cl 181 #[l' (aH b m),G k,cu P' z (ζ E) x] w (lu w (B' (E.set t VV.gT))):=by
 have k:=hid (KB.start w b m z (ζ E) x);have B:=hid (A R W);clear R W;obtain⟨b,b,b,⟨f,b,y⟩,⟨D,b,c⟩,ops,b,g⟩:=m;simp only at j U;subst j;subst U;simp only[aH,cu]at k⊢;obtain⟨b,L⟩:=Ea (B' (E.set t VV.gT));rw[<-L];have c:=hid L;clear L;go_enter func181,ntmps181;go_upto_region 2 with(fail)
 generalize((w.alloc _).alloc _).alloc _=b at k⊢;obtain⟨s,b⟩:=M k.o.b0;simp only[aH]at s;obtain⟨V,u⟩:=M k.o.b1;obtain⟨r1,q⟩:=M k.o.b2;go_wp2_with (go_at_call 247;refine(eU (ζ E) z x E t O' 0 0 _ (B.a.below k.o.low) B.A rfl X e).mono ?_;clear s b V u r1 q;rintro e o ⟨j,r,rfl,v,b,Y⟩;have p:=hid (A (k.o.below Y) (A v b));obtain⟨r1,q⟩:=M p.a.b2;clear v b Y);obtain⟨b,R⟩:=p.a.q (j' P') (i' j (ζ E) r);refine aC (v:=cu P' j (ζ E) r) (by simp[results181,go_sem,b,R]) rfl (p.a.done p.b p.B (by rw[de]) c.o)
structure KA(w W:u')(wv:A')(m:RN)(va:x')(vn vc:Nat)(q:Nat)(z:VV):Prop where
  kb:KB w W wv m va vn vc
  bx:W.1[q]?=B' (k' #[j' z.any,G z.lo,G z.hi] 138 (0,0))
  low:δ w.1+1+1<q
def KA.below{c:u'}{a:x'}{F x q:Nat}{z:VV}(h:KA w W P m a F x q z)(b:Bl W c):KA w c P m a F x q z:=
 ⟨h.kb.below b,(b.block _ (aY.1 h.bx).1).trans h.bx,h.low⟩
def KB.box{a:x'}(h:KB w W P m a F x)(z:VV):KA w (W.alloc (k' #[j' z.any,G z.lo,G z.hi] 138)) P m a F x W.1.size z:=
 ⟨h.below bf,bV,(aY.1 h.b2).1⟩
def Fy(b:A')(m:RN)(k:Int)(t:Nat)(j:x')(x:Nat)(E:List VV)(w:u')(R:dB w j E)(W:j=C'->x=0)(X:ζ E<=8)(l:m.does=⟨#[61]⟩)(p:m.ops=1)(U:m.target=t)(o:t<ζ E)(e:m.a.var<ζ E):
  Cl 181 #[l' (aH b m),G k,cu P' j (ζ E) x] w (lu w (B' (E.set t (fV E m.a.var m.a.c)))):=by
 have k:=hid (KB.start w b m j (ζ E) x);have B:=hid (A R W);clear R W;obtain⟨b,b,b,⟨f,b,y⟩,⟨D,c,c⟩,ops,c,g⟩:=m;simp only at l U p e⊢;subst l;subst U;subst p;simp only[aH,cu]at k⊢;obtain⟨c,L⟩:=Ea (B' (E.set t (fV E f b)));rw[<-L];have D:=hid L;clear L;go_enter func181,ntmps181;go_upto_region 3 with(fail)
 generalize((w.alloc _).alloc _).alloc _=c at k⊢;obtain⟨s,g⟩:=M k.o.b0;obtain⟨V,u⟩:=M k.o.b1;simp only[aH]at s;go_upto_region 4 with(go_at_call 248;refine(sM j x (ζ E) E f b y _ (B.a.below k.o.low) rfl X e).mono ?_;clear s g V u;rintro e b ⟨z,rfl,c,l⟩;have R:=hid (k.o.below l);clear l)
 have T:=hid (R.o.box z);generalize δ b.1=C at T⊢;generalize b.alloc _=F at T⊢;obtain⟨s,g⟩:=M T.o.kb.b0;obtain⟨V,u⟩:=M T.o.kb.b1;obtain⟨r1,q⟩:=M T.o.kb.b2;obtain⟨N,b⟩:=M T.o.bx;simp only[aH]at s;go_wp2_with (go_at_call 247;refine(eU (ζ E) j x E t z.any z.lo z.hi _ (B.a.below T.o.kb.low) B.A rfl X o).mono ?_;clear s g V u r1 q N b;rintro e o ⟨j,r,rfl,v,b,Y⟩;have p:=hid (A (T.o.kb.below Y) (A v b));obtain⟨r1,q⟩:=M p.a.b2;clear v b Y);obtain⟨b,R⟩:=p.a.q (j' P') (i' j (ζ E) r);refine aC (v:=cu P' j (ζ E) r) (by simp[results181,go_sem,b,R]) rfl (p.a.done p.b p.B (by rw[de]) (by rw[D.o,<-c.o]))
end
def UF(so:Bool)(k:Int)(vs:List VV)(a b:VV):EV:=if a.any||b.any||(so==(k==0)) then B' vs else C'
def OR {p:Prop} (h:p:=by
 have o:=hid (KB.start w wv m va (ζ vs) vc);have B:=hid (A hv qx);clear hv qx;obtain⟨b,b,b,⟨f,b,y⟩,⟨D,X,c⟩,ops,j,g⟩:=m
 first|(have _:=pF;simp only at hd ho BV Eu hs ht⊢)|(simp only at hd ho BV Eu hs⊢)
 subst hd;subst ho
 first|(have _:=pF;subst ht)|skip
 simp only[aH,cu]at o⊢
 first|(have _:=pF;obtain⟨r,L⟩:∃r,r=PL (j.toList==[47]) (jT (Wm.tZ j.1.1) (fV vs f b).lo (fV vs D X).lo) t vs (fV vs f b) (fV vs D X):=⟨_,rfl⟩)|(obtain⟨r,L⟩:∃r,r=UF (ru (Wm.uw j.1.1) (fV vs f b).lo (fV vs D X).lo) k vs (fV vs f b) (fV vs D X):=⟨_,rfl⟩)
 rw[<-L];have HE:=hid L;clear L;go_enter func181,ntmps181;go_upto_region 3 with(fail)
 generalize((w.alloc _).alloc _).alloc _=e at o⊢;obtain⟨L,x⟩:=M o.o.b0;obtain⟨V,u⟩:=M o.o.b1;simp only[aH]at L;go_upto_region 4 with(go_at_call 248;refine(sM va vc (ζ vs) vs f b y _ (B.a.below o.o.low) rfl hl BV).mono ?_;clear L x V u;rintro e b ⟨za,rfl,f,l⟩;have R:=hid (o.o.below l);clear l)
 have T:=hid (R.o.box za);clear o R;generalize δ b.1=C at T⊢;generalize b.alloc _=F at T⊢;obtain⟨L,x⟩:=M T.o.kb.b0;obtain⟨V,u⟩:=M T.o.kb.b1;simp only[aH]at L;go_upto_region 7 with(go_at_call 248;refine(sM va vc (ζ vs) vs D X c _ (B.a.below T.o.kb.low) rfl hl Eu).mono ?_;clear L x V u;rintro e o ⟨E,rfl,l,Y⟩;have b:=hid (T.o.below Y);clear Y)
 have U:=hid (A (b.o.kb.box E) (b.o.below (cz _ (k' (cT E.any E.lo E.hi) 138))));clear T b;generalize δ o.1=b at U⊢;generalize o.alloc _=b at U⊢;obtain⟨L,x⟩:=M U.a.kb.b0;obtain⟨V,u⟩:=M U.a.kb.b1;obtain⟨r1,q⟩:=M U.a.kb.b2;obtain⟨N,Y⟩:=M U.A.bx;obtain⟨X,o⟩:=M U.a.bx;simp only[aH]at L;obtain⟨q0,R⟩:=U.a.kb.q (j' O') (i' C' 0 0);obtain⟨F,q3⟩:=U.a.kb.q (j' P') (aO va (ζ vs) vc)
 first
  | (
    have _:=pF;obtain⟨c,T⟩:=Ea (jT (Wm.tZ j.1.1) za.lo E.lo);have O0:J (∀W,Cl 56 #[m' j,G za.lo,G E.lo] W λe s=>e=p' (t' #[G c,j' (vV (Wm.tZ j.1.1) E.lo)])/\s=W):=by rw[T];exact λW=>Jb j za.lo E.lo W hs
    have v:J (r=PL (j.toList==[47]) c t vs za E):=by show _=_;rw[HE.o,T,f.o,l.o]
    clear T HE)
  | (
    obtain⟨g,b⟩:=Ea (ru (Wm.uw j.1.1) za.lo E.lo);have y:J (∀W,Cl 55 #[m' j,G za.lo,G E.lo] W λe s=>e=p' (j' g)/\s=W):=by rw[b];exact λW=>Sa j za.lo E.lo W hs
    have v:J (r=UF g k vs za E):=by show _=_;rw[HE.o,b,f.o,l.o]
    clear b;go_upto_region 9 with(go_at_call 55;refine F' (y.o _) ?_)
    clear HE)
 have HE:=v;clear v
 first|(have _:=pF;cases T:(j.toList==[47]))|(cases s:za.any)
 ·first |(have _:=pF;cases s:za.any)|(cases f:E.any)
  rotate_left
  ·first|(have _:=pF;go_wp2_with (go_at_call 247;refine(eU (ζ vs) va vc vs t O' 0 0 _ (B.a.below U.a.kb.low) B.A rfl hl yW).mono ?_;clear L x V u r1 q N Y X o;rintro e C ⟨j,r,rfl,b,v,z⟩;have y:=hid (A (U.a.kb.below z) (A b v));obtain⟨r1,q⟩:=M y.a.b2;clear b v z);obtain⟨D,l⟩:=y.a.q (j' P') (i' j (ζ vs) r);refine aC (v:=cu P' j (ζ vs) r) (by simp[results181,go_sem,D,l]) rfl (y.a.done y.b y.B (by rw[de]) (by rw[HE.o];simp[PL,s,T,VV.gT])))|(go_wp2_with fail;refine aC (v:=cu P' va (ζ vs) vc) (by simp[results181,go_sem,F,q3]) rfl (U.a.kb.done (B.a.below U.a.kb.low) B.A rfl (by rw[HE.o];simp[UF,s,f])))
  first|(have _:=pF;cases f:E.any)|(cases W:(k==0))
  ·first
     | (
       have _:=pF;go_upto_region 17 with(go_at_call 56;refine F' (O0.o _) ?_)
       go_wp2_with (go_at_call 247;refine(eU (ζ vs) va vc vs t P' c c _ (B.a.below U.a.kb.low) B.A rfl hl yW).mono ?_;clear L x V u r1 q N Y X o;rintro e C ⟨j,r,rfl,b,v,z⟩;have y:=hid (A (U.a.kb.below z) (A b v));obtain⟨r1,q⟩:=M y.a.b2;clear b v z);obtain⟨D,l⟩:=y.a.q (j' P') (i' j (ζ vs) r)
       refine aC (v:=cu P' j (ζ vs) r) (by simp[results181,go_sem,D,l]) rfl (y.a.done y.b y.B (by rw[de]) (by rw[HE.o];simp[PL,s,f,T,VV.one])))
     | (
       cases g
       ·go_wp2;refine aC (v:=cu P' va (ζ vs) vc) (by simp[results181,go_sem,F,q3]) rfl (U.a.kb.done (B.a.below U.a.kb.low) B.A rfl (by rw[HE.o];simp[UF,s,f,W]))
       ·go_wp2
        refine aC (v:=cu O' C' 0 0) (by simp[results181,go_sem,q0,R]) rfl (U.a.kb.no (by rw[HE.o];simp[UF,s,f,W])))
  first
   |(
      have _:=pF;go_wp2_with (go_at_call 247;refine(eU (ζ vs) va vc vs t O' 0 0 _ (B.a.below U.a.kb.low) B.A rfl hl yW).mono ?_;clear L x V u r1 q N Y X o;rintro e C ⟨j,r,rfl,b,v,z⟩;have y:=hid (A (U.a.kb.below z) (A b v));obtain⟨r1,q⟩:=M y.a.b2;clear b v z);obtain⟨D,l⟩:=y.a.q (j' P') (i' j (ζ vs) r)
      refine aC (v:=cu P' j (ζ vs) r) (by simp[results181,go_sem,D,l]) rfl (y.a.done y.b y.B (by rw[de]) (by rw[HE.o];simp[PL,s,f,T,VV.gT])))
   |(
      cases g
      ·go_wp2;refine aC (v:=cu O' C' 0 0) (by simp[results181,go_sem,q0,R]) rfl (U.a.kb.no (by rw[HE.o];simp[UF,s,f,W]))
      ·go_wp2
       refine aC (v:=cu P' va (ζ vs) vc) (by simp[results181,go_sem,F,q3]) rfl (U.a.kb.done (B.a.below U.a.kb.low) B.A rfl (by rw[HE.o];simp[UF,s,f,W])))
 first
  | (
    have _:=pF;cases f:E.any
    · cases g:(E.lo==0)
      ·cases s:za.any
       ·go_upto_region 17 with(go_at_call 56;refine F' (O0.o _) ?_)
        go_wp2_with (go_at_call 247;refine(eU (ζ vs) va vc vs t P' c c _ (B.a.below U.a.kb.low) B.A rfl hl yW).mono ?_;clear L x V u r1 q N Y X o;rintro e C ⟨j,r,rfl,b,v,z⟩;have y:=hid (A (U.a.kb.below z) (A b v));obtain⟨r1,q⟩:=M y.a.b2;clear b v z);obtain⟨D,l⟩:=y.a.q (j' P') (i' j (ζ vs) r);refine aC (v:=cu P' j (ζ vs) r) (by simp[results181,go_sem,D,l]) rfl (y.a.done y.b y.B (by rw[de]) (by rw[HE.o];simp[PL,s,f,T,g,VV.one]))
       ·go_wp2_with (go_at_call 247;refine(eU (ζ vs) va vc vs t O' 0 0 _ (B.a.below U.a.kb.low) B.A rfl hl yW).mono ?_;clear L x V u r1 q N Y X o;rintro e C ⟨j,r,rfl,b,v,z⟩;have y:=hid (A (U.a.kb.below z) (A b v));obtain⟨r1,q⟩:=M y.a.b2;clear b v z);obtain⟨D,l⟩:=y.a.q (j' P') (i' j (ζ vs) r);refine aC (v:=cu P' j (ζ vs) r) (by simp[results181,go_sem,D,l]) rfl (y.a.done y.b y.B (by rw[de]) (by rw[HE.o];simp[PL,s,f,T,g,VV.gT]))
      ·go_wp2;refine aC (v:=cu O' C' 0 0) (by simp[results181,go_sem,q0,R]) rfl (U.a.kb.no (by rw[HE.o];simp[PL,f,T,g]))
    · cases s:za.any
      ·go_wp2_with (go_at_call 247;refine(eU (ζ vs) va vc vs t O' 0 0 _ (B.a.below U.a.kb.low) B.A rfl hl yW).mono ?_;clear L x V u r1 q N Y X o;rintro e C ⟨j,r,rfl,b,v,z⟩;have y:=hid (A (U.a.kb.below z) (A b v));obtain⟨r1,q⟩:=M y.a.b2;clear b v z);obtain⟨D,l⟩:=y.a.q (j' P') (i' j (ζ vs) r);refine aC (v:=cu P' j (ζ vs) r) (by simp[results181,go_sem,D,l]) rfl (y.a.done y.b y.B (by rw[de]) (by rw[HE.o];simp[PL,s,f,T,VV.gT]))
      ·go_wp2_with (go_at_call 247;refine(eU (ζ vs) va vc vs t O' 0 0 _ (B.a.below U.a.kb.low) B.A rfl hl yW).mono ?_;clear L x V u r1 q N Y X o;rintro e C ⟨j,r,rfl,b,v,z⟩;have y:=hid (A (U.a.kb.below z) (A b v));obtain⟨r1,q⟩:=M y.a.b2;clear b v z);obtain⟨D,l⟩:=y.a.q (j' P') (i' j (ζ vs) r)
       refine aC (v:=cu P' j (ζ vs) r) (by simp[results181,go_sem,D,l]) rfl (y.a.done y.b y.B (by rw[de]) (by rw[HE.o];simp[PL,s,f,T,VV.gT])))
  | (
    go_wp2
    refine aC (v:=cu P' va (ζ vs) vc) (by simp[results181,go_sem,F,q3]) rfl (U.a.kb.done (B.a.below U.a.kb.low) B.A rfl (by rw[HE.o];simp[UF,s])))):p:=h
def OB(wv:A')(m:RN)(k:Int)(va:x')(vc:Nat)(vs:List VV)(w:u')(hv:dB w va vs)(qx:va=C'->vc=0)(hl:ζ vs<=8)(hd:m.does=⟨#[105,102]⟩)(ho:m.ops=2)(hs:Wm.xA m.sign.1.1=O')(BV:m.a.var<ζ vs)(Eu:m.b.var<ζ vs):
  Cl 181 #[l' (aH wv m),G k,cu P' va (ζ vs) vc] w (lu w (UF (ru (Wm.uw m.sign.1.1) (fV vs m.a.var m.a.c).lo (fV vs m.b.var m.b.c).lo) k vs (fV vs m.a.var m.a.c) (fV vs m.b.var m.b.c))):=by
 exact OR
def PL(dv:Bool)(c:Int)(t:Nat)(vs:List VV)(a b:VV):EV:=if dv&&!b.any&&(b.lo==0) then C' else if a.any||b.any then B' (vs.set t VV.gT) else B' (vs.set t (VV.one c))
def OA(wv:A')(m:RN)(k:Int)(t:Nat)(va:x')(vc:Nat)(vs:List VV)(w:u')(hv:dB w va vs)(qx:va=C'->vc=0)(hl:ζ vs<=8)(hd:m.does=⟨#[61]⟩)(ho:m.ops=2)(ht:m.target=t)(yW:t<ζ vs)(hs:Wm.wC m.sign.1.1=O')(BV:m.a.var<ζ vs)(Eu:m.b.var<ζ vs):
  Cl 181 #[l' (aH wv m),G k,cu P' va (ζ vs) vc] w (lu w (PL (m.sign.toList==[47]) (jT (Wm.tZ m.sign.1.1) (fV vs m.a.var m.a.c).lo (fV vs m.b.var m.b.c).lo) t vs (fV vs m.a.var m.a.c) (fV vs m.b.var m.b.c))):=by
 have pF:=True.intro;exact OR
