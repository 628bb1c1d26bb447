import Derived.Test.YtmipbiligijcpaaGreatDoorA03
namespace Go.Proofs.YtmipbiligijcpaaGreatDoor
set_option linter.all false
set_option maxHeartbeats 0
set_option maxRecDepth 99999
open Go.RowKit Go.Proofs Go.Maps Tryz List open List renaming length->ζ,toArray->θ open _root_.Array renaming size->δ open World renaming setCell->κ,ownsRow->ρ,cell?->χ,grownBy->ξ open Value renaming ownBlock->φ open Value renaming slice->g',bool->h',agg->j',pointer->m',tuple->o' open Obj renaming cells->i' open Ending renaming returned->n' open Option renaming some->z',none->A' open Bool renaming true->N',false->O'
variable {D:List Int}{w:p'}{x:Int}
abbrev RS:=List<|BS×List (Nat×Ef)
def Jw(R:RS):List (List y'×List (Nat×y')):=R.map λr=>(fV r.1,r.2.map λe=>(e.1,vH e.2))
structure Lf(R:RS)(N:Nat):Prop where
  len:ζ R=N
  most:N<=60
  each:∀r∈R,b! r.1/\ζ r.2<=200/\∀e∈r.2,Ew e.2/\e.1<N
def vg(w:p')(B rb:Nat)(R:RS):Prop:=∃rl,Sys w B rb 2 393 404 rl/\rl.map (λr=>(r.st,r.es))=Jw R
def vg.below{w a:p'}{B b:Nat}{R:RS}(h:vg w B b R)(d:Bl w a):vg a B b R:=by obtain⟨c,C,a⟩:=h;exact⟨c,C.below d,a⟩
def lx(R:RS)(held:Nat->BS)(n:Nat):BS:=match R[n]? with|some r=>Z7 r.1 r.2 held|none=>(0,0)
def cT(hs:List BS)(n:Nat):BS:=hs.getD n (0,0)
def iR{y:List BS}(h:∀s∈y,b! s)(n:Nat):b! (cT y n):=by
 unfold cT;cases e:y[n]? with
 |none=>rw[getD,e];exact⟨aj,aj⟩
 |some s=>rw[getD,e];exact h s<|aO e
def Js{R:RS}{N:Nat}(h:Lf R N){b:Nat->BS}(V:∀n,b!<|b n)(n:Nat):b! (lx R b n):=by
 unfold lx;cases e:R[n]? with
 |none=>exact(show b! (0,0)from⟨aj,aj⟩)
 |some r=>
  refine Rc _ λs y=>?_;have:=h.each r<|aO e;rcases cM.1 y with rfl|y
  .exact this.1
  obtain⟨x,F,rfl⟩:=bG.1 y;exact SF (this.2.2 x F).1<|V x.1
def Oh(h B N n u:Nat)(R:RS)(a:Array y')(b:Nat->BS)(w:p')(v:vg w B h R)(i:Lf R N)(K:n<N)(d:∀m,b!<|b m)(E:∀D w,(callFunc u D).run Tryz.prog w=.ok (.enter u D) w)
  (V:∀m,m<N->∀W,Bl w W->Cl u (#[G m]++a) W (Rb W<|cW<|b m)):
  Cl 226 #[du h N,G n,.func (.func u) #[] a] w (Rb w<|cW<|lx R b n):=by
 obtain⟨c,C,f⟩:=v;have X:ζ c=N:=by have:=cZ length f;simp[Jw]at this;rw[this,i.len]
 obtain⟨r,k⟩:=La (l:=c) (i:=n) I;obtain⟨q,g⟩:=La (l:=R) (i:=n) (by rw[i.len];exact K);have j:=cZ (λl=>l[n]?) f;simp only[Jw,a!,k,g,gK,dU,eR]at j;have f:=i.each q<|aO g;have e:lx R b n=Z7 q.1 q.2 b:=by rw[lx,g]
 rw[e];exact Og h B N n u c r q.1 q.2 a b w C X i.most k j.1 f.1 j.2 (λe l=>⟨(f.2.2 e l).1,d e.1⟩) f.2.1 E λe l W j=>V e.1 (f.2.2 e l).2 W j
section
variable {a b:Int}
structure VV where
  any:Bool
  lo:Int
  hi:Int
def VV.p5(a b:VV):Bool:=a.any==b.any&&a.lo==b.lo&&a.hi==b.hi
def VV.fX(a b:VV):VV.p5 a b=N'↔a=b:=by obtain⟨N,c,c⟩:=a;obtain⟨a,o,x⟩:=b;simp[VV.p5,and_assoc]
def VV.dT:VV:=⟨N',0,0⟩
def VV.one(c:Int):VV:=⟨O',c,c⟩
def VV.all:VV:=⟨O',-9223372036854775808,9223372036854775807⟩
abbrev EV:=Option<|List VV
structure nY(v:VV):Prop where
  lo:-2^63<=v.lo/\v.lo<=9223372036854775807
  hi:-2^63<=v.hi/\v.hi<=9223372036854775807
def aN(x:Int):Bool:=decide (-9223372036854775808<=x)&&decide (x<=9223372036854775807)
def g!(p:Int)(a b:VV):VV:=if p=5 then(if VV.p5 a b then a else VV.dT) else⟨a.any,if b.lo<a.lo then b.lo else a.lo,if b.hi>a.hi then b.hi else a.hi⟩
def qD(p:Int):EV->EV->EV
 |none,b=>b
 |some a,none=>z' a
 |some a,some b=>z'<|zipWith (g! p) a b
def t?(p:Int):EV->EV->Bool
 |none,_=>N'
 |some _,none=>O'
 |some a,some b=>(zip a b).all λx=>VV.p5 (g! p x.1 x.2) x.2
def cA(a:VV)(lo hi:Int):VV:=⟨a.any,if lo>a.lo then lo else a.lo,if hi<a.hi then hi else a.hi⟩
def vd(a b c d:Int)(f:Bool):VV:=if f then g! 6 (g! 6 (g! 6 (VV.one a)<|VV.one b)<|VV.one c) (VV.one d) else VV.all
def ve(a b:VV):VV:=vd (a.lo+b.lo) (a.hi+b.hi) (a.lo+b.lo) (a.hi+b.hi)<|aN (a.lo+b.lo)&&aN (a.hi+b.hi)
def ke(a b:VV):VV:=vd (a.lo-b.hi) (a.hi-b.lo) (a.lo-b.hi) (a.hi-b.lo)<|aN (a.lo-b.hi)&&aN (a.hi-b.lo)
def uK(a b:VV):VV:=vd (a.lo*b.lo) (a.lo*b.hi) (a.hi*b.lo) (a.hi*b.hi)<|aN (a.lo*b.lo)&&aN (a.lo*b.hi)&&aN (a.hi*b.lo)&&aN (a.hi*b.hi)
def hC(a b:VV):Option VV:=
 if b.lo≠b.hi then z' VV.all
 else if b.lo=0 then A'
 else if b.lo=-1 then z' (ke ⟨O',0,0⟩ a)
 else if 0<b.lo then z' ⟨O',a.lo.tdiv b.lo,a.hi.tdiv b.lo⟩
 else z' ⟨O',a.hi.tdiv b.lo,a.lo.tdiv b.lo⟩
def cu(h:aN x=N'):wrap64 x=x:=by unfold aN at h;simp only[aY,bM]at h;unfold wrap64;omega
def I9(x:Int):∃k:Int,wrap64 x=x+k*18446744073709551616:=by unfold wrap64;exact⟨-((x+2^63) / 18446744073709551616),I⟩
def wrap64_in(x:Int):aN (wrap64 x)=N':=by simp only[aN,wrap64,aY,bM];omega
def SV(e:aN b=N')(D:b≠0):((wrap64<|a*b).tdiv b==a)=aN (a*b):=by
 by_cases Y:aN (a*b)=N'
 .rw[Y,cu Y,Int.mul_tdiv_cancel _ D];simp
 rw[jl]at Y;rw[Y,dB];intro l;obtain⟨k,c⟩:=I9<|a*b;have d:k≠0:=by rintro rfl;have:=wrap64_in<|a*b;rw[c]at this;simp at this;rw[this]at Y;cases Y
 have d:=Int.tmod_add_mul_tdiv (wrap64<|a*b) b;rw[l,c]at d;have c:(a*b+k*18446744073709551616).tmod b=k*18446744073709551616:=by have:=Ls b a;omega
 have C:((a*b+k*18446744073709551616).tmod b).natAbs<b.natAbs:=by rw[Int.natAbs_tmod];exact AU _ I
 rw[c]at C;unfold aN at e;simp only[aY,bM]at e;omega
def Da(F:aN x=N')(D:b≠0)(C:b≠-1):aN (x.tdiv b)=N':=by
 unfold aN at F|-;simp only[aY,bM]at F|-;by_cases a:b=1
 .subst a;rw[Lr];exact F
 have a:(x.tdiv b).natAbs<=x.natAbs / 2:=by rw[Int.natAbs_tdiv];exact Nat.div_le_div_left I I
 omega
def BF(c:aN b=N')(D:b≠0)(C:b≠-1):(wrap64 ((wrap64<|a*b).tdiv b)==a)=aN (a*b):=by rw[cu<|Da (wrap64_in _) D C];exact SV c D
end
def Bld(w:p')(B b:Nat)(l:u'):Prop:=
 B<=b/\∃p v,(p=m' A'\/p=m' (z'<|O b 0))/\w.1[b]?=z' (i' #[p,v] 159 (0,0))/\ρ w B 5 1 v (ζ l) (Lib.byteCells l)/\φ v≠z' b
def Fq{σ α:Type}(step:σ->u'->Option ((α×σ)×u')):Nat->σ->u'->Option ((List α×σ)×u')
 |0,st,l=>z' (([],st),l)
 | n+1,st,l=>match step st l with
  |some ((x,st'),r)=>match Fq step n st' r with
   |some ((xs,st2),q)=>z' ((x::xs,st2),q)
   |none=>A'
  |none=>A'
section
variable {W:p'}{q:Option Nat}
def TV(h:ξ w W q)(o:Obj):ξ w (W.alloc o) q:=h.trans<|j6 W o q
def GY(lo:Int)(n:Nat):Int:=wrap64<|IntKind.u64.wrap<|IntKind.u64.wrap lo+(n:Int)
def PH{a:p'}(h:ξ w a q){b o:Nat}(c:δ w.1<=b)(v:y'):ξ w (κ a (O b o) v) q:=
 ⟨h.os,h.tape,h.output,by simpa[World.setCell]using h.size,λk a c=>(aJ G').trans<|h.block k a c⟩
def agu(l:u'):Option (Vl×u'):=match abk l with
 |some (lo,r)=>match rc r with
  |some (n,q)=>z' (⟨3,lo,GY lo n,O',0,0⟩,q)
  |none=>A'
 |none=>A'
def j4{k a:Nat}{L:Array y'}{t:TypeId}(h:w.1[k]?=z' (cU L t))(g:ξ w W<|z' a)(z:k≠a):W.1[k]?=z' (cU L t):=(g.block k (bq.1 h).1<|H' z).trans h
end
def ym{Y:Int}{o:List Int}{k:Nat}{f:Int}(h:o[k]?=z' f):dI Y (o.drop k)=(decide (Y<=f)&&decide (f<=100000)&&dI (f+1) (o.drop<|k+1)):=by have X:=aX.1 h;rw[mX X.1,X.2];rfl
def afY{F:p'->Prop}{w:p'}{a b c:Obj}(h:∀V,J (Bl w V/\V.1[δ w.1]?=z' a/\V.1[δ w.1+1]?=z' b)->F V):F (((w.alloc a).alloc b).alloc c):=h _ ⟨eD,(bR G').trans (bE w _ _).1,(bR ak).trans (bE w _ _).2⟩
def Ej(a:t')(q:Nat)(o:List Int)(w:p')(h:bK w a o)(c:dI 0 o=N')(X:ζ o*8<=140737488355328):
  Cl 263 #[g' a (ζ o) q] w (Rb w<|h' N'):=by
 have s:=hid<|Aa h c;clear h c;go_enter func263,ntmps263;go_wp2_with fail;go_loopw[3,8] (λY i wr=>wr=w/\∃(k:Nat)(f:Int),k<=ζ o/\i=G k/\Y=G f/\0<=f/\J (dI f (o.drop k)=N')) (λ_ i _=>ζ o-(intOf i).toNat)
 case atStart=>exact⟨rfl,0,0,bm,rfl,rfl,I,s.A⟩
 obtain⟨rfl,k,Y,d,rfl,rfl,D,c⟩:=hrel;by_cases L:k<ζ o;rotate_left
 .have a:¬(k:Int)<(ζ o:Int):=I;go_wp2_with fail;go_ret;exact⟨rfl,aQ⟩
 have a:(k:Int)<(ζ o:Int):=I;obtain⟨x,F⟩:=La L;obtain⟨a,a,rfl,Q⟩:=s.a k x F;have C:=c.o;rw[ym F]at C;simp only[aY,bM]at C;obtain⟨⟨C,a⟩,N⟩:=C;have a:=hid N;clear F N c;go_wp2_with fail;exact⟨⟨by trivial,k+1,x+1,I,e',e',I,a.o⟩,by simp[intOf];omega⟩
def Ei(p:Int)(l:t')(rc:Nat)(y:List Int)(w:p')(h:bK w l y)(a:∀x∈y,rk x=N')(X:ζ y*8<=140737488355328):
  Cl 264 #[j' #[G p,G 1],g' l (ζ y) rc,G<|ζ y] w (Rb w<|h' N'):=by
 have s:=hid<|Aa h a;clear h a;go_enter func264,ntmps264;go_wp2_with (go_at_call 203;refine v?.mono ?_;rintro e a ⟨rfl,rfl⟩);have U:=hid<|u! w (i' #[G p,G 1] 166)<|i' #[G p,G 1] 166;go_loopw[21] (λi wr=>∃k:Nat,k<=ζ y/\i=G k/\J (Bl w wr)) (λi _=>ζ y-(intOf i).toNat)
 case atStart=>exact⟨0,bm,rfl,U⟩
 clear U;obtain⟨k,a,rfl,U⟩:=hrel;by_cases L:k<ζ y;rotate_left
 .have a:¬(k:Int)<(ζ y:Int):=I;go_wp2_with fail;go_ret;exact⟨rfl,U.o⟩
 have a:(k:Int)<(ζ y:Int):=I;obtain⟨x,F⟩:=La L;obtain⟨a,a,rfl,Q⟩:=(s.a.below U.o) k x F;have C:=s.A x<|aO F;simp[rk]at C;obtain⟨C,a⟩:=C;clear F;go_wp2_with fail;exact⟨⟨k+1,I,e',U⟩,by simp[intOf];omega⟩
def Pu(p:Int)(d l z:t')(q rc x:Nat)(n:Nd)(w:p')(h:tP w d l z q rc x n)(K:lA n)(f:gH 1 n=N'):
  Cl 200 #[j' #[G p,G 1],j' #[g' d (ζ n.facts) q,g' l (ζ n.bf) rc,h' n.aF,G n.rank,g' z (ζ n.aM) x]] w (Rb w<|h' N'):=by
 have C:=K.rsz;obtain⟨o,y,b,i,E⟩:=n;simp[gH,iL]at f;obtain⟨⟨⟨⟨rfl,rfl⟩,rfl⟩,g⟩,c,a⟩:=f;simp only at C c|-;have Y:=hid (Aa (λW j=>Ej d q o W (h.facts.below j) g I) λW j=>Ei p l rc y W (h.bf.below j) a C);rw[c]at Y|-;clear h K C c g a;go_enter func200,ntmps200
 go_wp2_with (first
  |(go_at_call 263;refine(Y.a _ dH).mono ?_;rintro e t ⟨rfl,l⟩;have E:=A ((l.block _ G').trans (bE w _ _).1);have a:=A ((l.block _ ak).trans (bE w _ _).2);have r:=hid<|aq dH l;clear l)
  |(go_at_call 264;refine(Y.A _ r.o).mono ?_;rintro e F ⟨rfl,X⟩))
 go_ret;exact⟨rfl,aq r.o X⟩
def Ks(a l z:t')(q rc x:Nat)(w:p'):
  Cl 201 #[j' #[g' a 0 q,g' l 0 rc,h' O',G 0,g' z 0 x]] w (Rb w<|h' N'):=by
 go_enter func201,ntmps201;go_wp2;go_ret;exact⟨rfl,bA⟩
def acJ{p:Prop}(h:p:=by
 exact⟨⟨k+1,I,e',aq (aq f.o bA) X⟩,by simp[intOf];omega⟩):p:=h
def Pv(p g:Int)(a l z:t')(q rc x:Nat)(d:Int)(P:List Vl)(w:p')(h:mA w z P)(i:jR p g ⟨[],[],N',d,P⟩=N'):
  Cl 202 #[j' #[G p,G g],j' #[g' a 0 q,g' l 0 rc,h' N',G d,g' z (ζ P) x]] w (Rb w<|h' N'):=by
 simp[jR,rk]at i;obtain⟨⟨⟨R,c,q⟩,f⟩,o⟩:=i;have s:=hid<|Aa h o;have a:(ζ P:Int)<=8:=I;have a:(decide (g=1)=N')\/(decide (g=1)=O'/\d=0):=by simp;omega
 clear h o f;rcases a with C|⟨C,rfl⟩
 all_goals
  go_enter func202,ntmps202;go_wp2_with (go_at_call 203;refine v?.mono ?_;rw[C];rintro e a ⟨rfl,rfl⟩);refine afY (F:=Code.wp _ _ _ _) λt U=>?_;clear C;go_loopw[44] (λi wr=>∃k:Nat,k<=ζ P/\i=G k/\J (Bl t wr)) (λi _=>ζ P-(intOf i).toNat)
  case atStart=>exact⟨0,bm,rfl,aQ⟩
  obtain⟨k,a,rfl,f⟩:=hrel;have E:=A<|aG f.o U.b;have a:=A<|aG f.o U.B;have j:=hid<|aq U.a f.o;have u:=eh (blt U.B) f.o.size;have V:δ w.1<δ wr.1:=I;by_cases L:k<ζ P
  .have h:(k:Int)<(ζ P:Int):=I;obtain⟨v,o⟩:=La L;obtain⟨a,a,rfl,T,Q,n,r,B,y⟩:=(s.a.below j.o) k v o;have a:=s.A v<|aO o;clear o;go_wp2_with (go_at_call 265;refine(Pt p g _ v _).mono ?_;rw[a];rintro e F ⟨rfl,X⟩);exact acJ
  have h:¬(k:Int)<(ζ P:Int):=I;go_wp2_with fail;go_ret;exact⟨rfl,j.o⟩
def Ko(p g:Int)(i:p<=4->g=1)(a f z:t')(q rc x:Nat)(n:Nd)(w:p')(h:tP w a f z q rc x n)(K:lA n)(d:cY p g n=N'):
  Cl 132 #[j' #[G p,G g],j' #[g' a (ζ n.facts) q,g' f (ζ n.bf) rc,h' n.aF,G n.rank,g' z (ζ n.aM) x]] w (Rb w<|h' N'):=by
 by_cases D:p<=4
 .obtain rfl:=i D;have U:decide (p<=4)=N':=H' D;rw[cY,aD D]at d;have Y:=hid λW j=>Pu p a f z q rc x n W (h.below j) K d;clear h K d D i;go_enter func132,ntmps132
  go_wp2_with (first
   |(go_at_call 134;refine Cg.mono ?_;rw[U];rintro e s ⟨rfl,rfl⟩)
   |(go_at_call 200;refine(Y.o _ eD).mono ?_;rintro e t ⟨rfl,l⟩))
  go_ret;exact⟨rfl,aq eD l⟩
 have U:decide (p<=4)=O':=H' D;rw[cY,aA D]at d;have r:=h.aM;obtain⟨o,y,b,k,E⟩:=n;cases b with
 |true=>
  rw[aD rfl]at d;have c:=d;simp[jR]at c;obtain⟨⟨⟨⟨⟨rfl,rfl⟩,-⟩,-⟩,-⟩,-⟩:=c;have Y:=hid λW j=>Pv p g a f z q rc x k E W (r.below j) d;clear h K d D i r;simp only[eY];go_enter func132,ntmps132
  go_wp2_with (first
   |(go_at_call 134;refine Cg.mono ?_;rw[U];rintro e s ⟨rfl,rfl⟩)
   |(go_at_call 202;refine(Y.o _ eD).mono ?_;rintro e t ⟨rfl,l⟩))
  go_ret;exact⟨rfl,aq eD l⟩
 |false=>
  simp[l!]at d;obtain⟨⟨⟨rfl,rfl⟩,rfl⟩,rfl⟩:=d;clear h K D i r;simp only[eY];go_enter func132,ntmps132
  go_wp2_with (first
   |(go_at_call 134;refine Cg.mono ?_;rw[U];rintro e s ⟨rfl,rfl⟩)
   |(go_at_call 201;refine(Ks _ _ _ _ _ _ _).mono ?_;rintro e t ⟨rfl,l⟩))
  go_ret;exact⟨rfl,aq eD l⟩
def Kr(T:t')(r:Nat)(p g:Int)(v:List Nd)(w:p')(f:cw w T v)(d:∀n∈v,lA n)(a:qi ⟨p,g,v⟩=N')(c:p<=4->g=1):
  Cl 84 #[j' #[G p,G g,g' T (ζ v) r]] w (Rb w<|h' N'):=by
 simp only[qi,aY,bM,bV]at a;obtain⟨⟨u,h⟩,o⟩:=a;have K:¬(60<(ζ v:Int)):=I;have s:=hid (Aa f λn K a l z q rc x W j=>Ko p g c a l z q rc x n W j (d n K)<|o n K);clear f d o c;go_enter func84,ntmps84;go_wp2_with (go_at_call 131;refine(GI _ _ _).mono ?_;rw[u];rintro e h ⟨rfl,rfl⟩);refine afY (F:=Code.wp _ _ _ _) λt U=>?_;clear u;go_loopw[23] (λi wr=>∃k:Nat,k<=ζ v/\i=G k/\J (Bl t wr)) (λi _=>ζ v-(intOf i).toNat)
 case atStart=>exact⟨0,bm,rfl,aQ⟩
 obtain⟨k,u,rfl,f⟩:=hrel;have h:=A<|aG f.o U.B;have o:=hid<|aq U.a f.o;have u:=eh (blt U.B) f.o.size;by_cases L:k<ζ v
 .have d:(k:Int)<(ζ v:Int):=I;obtain⟨n,C⟩:=La L;obtain⟨h,h,a,l,z,q,rc,x,rfl,D,Q,y,B,P,c⟩:=(s.a.below o.o) k n C;have B:=hid<|s.A n (aO C) a l z q rc x _<|c.below<|cf _<|i' #[g' a (ζ n.facts) q,g' l (ζ n.bf) rc,h' n.aF,G n.rank,g' z (ζ n.aM) x] 96;clear C c;go_wp2_with (go_at_call 132;refine B.o.mono ?_;rintro e F ⟨rfl,X⟩);exact acJ
 have d:¬(k:Int)<(ζ v:Int):=I;go_wp2_with fail;go_ret;exact⟨rfl,o.o⟩
def aaJ(h:ga x):N3 x<18446744073709551616:=by obtain⟨C,a⟩:=h;unfold N3;split<;>omega
def yg(h:ga x):ζ (yh x)<=10:=fP<|aaJ h
def QI{j S:Int}(a:j<=S)(X:ga j)(V:ga S):IntKind.u64.wrap (IntKind.u64.wrap S-IntKind.u64.wrap j)=(((S-j).toNat:Nat):Int):=by
 obtain⟨m,i⟩:=X;obtain⟨q,r⟩:=V;have e:∀n:Int,IntKind.u64.wrap n=n % 18446744073709551616:=λn=>by simp[IntKind.wrap,IntKind.bits,IntKind.signed]
 rw[e,e,e];omega
def K3(B b:Nat)(l:u')(v:Vl)(w:p')(h:Wr w B b l)(R:Le v)(a:v.lo<=v.hi)(L:ζ l+100<=140737488355328):
  Cl 204 #[m'<|z'<|O b 0,j'<|nJ v.aH v.lo v.hi v.bY v.first v.rank] w λe c=>e=n' (o' #[])/\eE w c B b (l++(yh v.lo++fJ (v.hi-v.lo).toNat)):=by
 obtain⟨x,j,S,bY,first,f⟩:=v;obtain⟨_,X,V,_,_⟩:=R;simp only at a X V|-;have Q:(S-j).toNat<18446744073709551616:=by obtain⟨N,c⟩:=X;obtain⟨c,o⟩:=V;omega
 have C:=QI a X V;generalize(S-j).toNat=d at Q C|-;have a:=hid<|Aa h<|Aa (yg X)<|Aa (fP Q) X;clear h X V;go_enter func204,ntmps204
 go_wp2_with (first
  |(go_at_call 266;refine(rC B b l j _ (a.a.alloc _) a.C (by have:=a.b;simp only[bg];omega)).mono ?_;rintro e t ⟨rfl,C⟩;obtain⟨E,g⟩:=A<|C.box (a.a.alloc _) (cF w _) aj aj;have c:=hid C;clear C)
  |(go_at_call 133;refine(uZ B b (l++yh j) d _ c.o.wr Q (by have:=a.b;have:=a.c;simp only[bg];omega)).mono ?_;rintro e F ⟨rfl,(u:J _)⟩))
 go_end0
 refine⟨rfl,?_⟩;have:=(((a.a.wrote).alloc<|i' #[G x,G j,G S,h' bY,G first,G f] 73).trans c.o).trans u.o;rwa[fK]at this
def Jf(B b:Nat)(l:u')(p g r:Int)(v:Vl)(w:p')(h:Wr w B b l)(R:Le v)(o:gG p g r v=N')(U:p≠6)(a:0<=r)(L:ζ l+100<=140737488355328):
  Cl 205 #[m'<|z'<|O b 0,j' #[G p,G g],j'<|nJ v.aH v.lo v.hi v.bY v.first v.rank] w λe a=>e=n' (o' #[])/\eE w a B b (l++fD p g v):=by
 obtain⟨x,j,S,bY,first,d⟩:=v;obtain⟨_,X,_,Y,a⟩:=R;simp only at X Y a|-;have a:=((h.wrote.alloc<|qw p g).alloc<|i' #[G x,G j,G S,h' bY,G first,G d] 73);have f:=hid<|Aa a<|Aa (yg X)<|Aa (yg Y)<|Aa X Y;clear h X Y a;have y:(x=1/\bY=O')\/(x=2/\(bY=O'\/(bY=N'/\g=1/\0<=d/\d<=100000))):=by
  unfold gG at o;rw[aA U]at o;cases bY with
  |true=>simp[nw]at o|-;omega
  |false=>simp at o|-;omega
 rcases y with⟨rfl,rfl⟩|⟨rfl,y⟩
 .have s:J (fD p g ⟨1,j,S,O',first,d⟩=1::yh j):=by show _=_;simp[fD,U]
  clear o;go_enter func205,ntmps205
  go_wp2_with (first
   |(go_at_call 85;refine(gB B b l 1 _ f.a.wr I).mono ?_;rintro e t ⟨rfl,C⟩;have E:=A<|C.box f.a.wr (bE w _ _).1 aj aj;have z:=A<|C.box f.a.wr (bE w _ _).2 aj aj;have c:=hid C;clear C)
   |(go_at_call 266;refine(rC B b (l++[1]) j _ c.o.wr f.d (by have:=f.b;simp only[bg,e4];omega)).mono ?_;rintro e F ⟨rfl,i⟩;have u:=hid i;clear i))
  (try simp only[Exit.inBlock,Exit.then]);refine aE (CA rfl _ _ _) rfl ?_
  refine⟨rfl,?_⟩;rw[s.o];have:=(f.a.trans c.o).trans u.o;rwa[fK]at this
 cases D:decide (g=1)with
 |false=>
  have v:=H' D;have s:J (fD p g ⟨2,j,S,bY,first,d⟩=[2]):=by show _=_;simp[fD,U,v]
  clear o y v;go_enter func205,ntmps205
  go_wp2_with (first
   |(go_at_call 85;refine(gB B b l 2 _ f.a.wr I).mono ?_;rintro e t ⟨rfl,C⟩;have E:=A<|C.box f.a.wr (bE w _ _).1 aj aj;have z:=A<|C.box f.a.wr (bE w _ _).2 aj aj;have c:=hid C;clear C)
   |(go_at_call 203;refine v?.mono ?_;rw[D];rintro e N ⟨rfl,rfl⟩))
  (try simp only[Exit.inBlock,Exit.then]);refine aE (CA rfl _ _ _) rfl ?_
  refine⟨rfl,?_⟩;rw[s.o];exact(f.a.trans c.o).alloc _
 |true=>
  have v:=H' D;cases bY with
  |false=>
   have s:J (fD p g ⟨2,j,S,O',first,d⟩=[2]++[if O'=N' then 1 else 0]):=by show _=_;simp[fD,U,v]
   clear o y v;go_enter func205,ntmps205
   go_wp2_with (first
    |(go_at_call 85;refine(gB B b l 2 _ f.a.wr I).mono ?_;rintro e t ⟨rfl,C⟩;have m:=C.box f.a.wr (bE w _ _).1 aj aj;have k:=C.box f.a.wr (bE w _ _).2 aj aj;have E:=A m;have z:=A k;have V:=(bq.1 m).1;have K:=(bq.1 k).1;have c:=hid<|Aa C<|Aa m k;clear C m k)
    |(go_at_call 203;refine v?.mono ?_;rw[D];rintro e N ⟨rfl,rfl⟩)
    |(go_at_call 136;refine(tw B b (l++[2]) O' _ (c.a.wr.alloc _)<|by simp only[bg,e4];omega).mono ?_;rintro e F ⟨rfl,i⟩;have W:=A<|i.box (c.a.wr.alloc _) ((bR K).trans c.B) aj aj;have u:=hid i;clear i E z))
   go_end0
   refine⟨rfl,?_⟩;rw[s.o];have:=((f.a.trans c.a).alloc<|qw p g).trans u.o;rwa[fK]at this
  |true=>
   have q:0<=d/\d<=100000:=by rcases y with h|h;cases h;exact h.2.2
   have s:J (fD p g ⟨2,j,S,N',first,d⟩=[2]++[if N'=N' then 1 else 0]++yh first++dS d/\ζ (dS d)<=10):=by refine⟨by simp[fD,U,v],fP I⟩
   clear o y v;go_enter func205,ntmps205
   go_wp2_with (first
    |(go_at_call 85;refine(gB B b l 2 _ f.a.wr I).mono ?_;rintro e t ⟨rfl,C⟩;have m:=C.box f.a.wr (bE w _ _).1 aj aj;have k:=C.box f.a.wr (bE w _ _).2 aj aj;have E:=A m;have z:=A k;have V:=(bq.1 m).1;have K:=(bq.1 k).1;have c:=hid<|Aa C<|Aa m k;clear C m k)
    |(go_at_call 203;refine v?.mono ?_;rw[D];rintro e N ⟨rfl,rfl⟩)
    |(go_at_call 136;refine(tw B b (l++[2]) N' _ (c.a.wr.alloc _)<|by simp only[bg,e4];omega).mono ?_;rintro e F ⟨rfl,i⟩;have k:=i.box (c.a.wr.alloc _) ((bR K).trans c.B) aj aj;have W:=A k;have u:=hid<|Aa i k;clear i k E z)
    |(go_at_call 266;refine(rC B b (l++[2]++[if N'=N' then 1 else 0]) first _ u.a.wr f.D (by have:=f.c;simp only[bg,e4];omega)).mono ?_;rintro e o ⟨rfl,N⟩;have R:=A<|N.box u.a.wr u.A aj aj;have z:=hid N;clear N W)
    |(go_at_call 86;refine(ik B b (l++[2]++[if N'=N' then 1 else 0]++yh first) d _ z.o.wr q.1 I (by have:=f.c;have:=s.A;simp only[bg,e4];omega)).mono ?_;rintro e a ⟨rfl,(B:J _)⟩))
   go_end0
   refine⟨rfl,?_⟩;rw[s.a];have:=((((f.a.trans c.a).alloc<|qw p g).trans u.a).trans z.o).trans B.o;simpa only[fK]using this
def agX(w w':p')(v:y')(l:u'):Prop:=ρ w' w.1.size 5 1 v (ζ l) (Lib.byteCells l)/\Bl w w'
def Di(w:p')(B:Nat)(l:u')(v:B<=δ w.1)(X:ζ l<=maxLen):ρ (w.alloc<|i' (θ<|Lib.byteCells l) 5) B 5 1 (cG w.1.size<|ζ l) (ζ l) (Lib.byteCells l):=by refine⟨by simp[Lib.byteCells],aR ⟨δ w.1,ζ l,_,rfl,v,cF w _,aK,X,by simp[Lib.byteCells],?_⟩⟩;rw[c!<|by simp[Lib.byteCells]]
def Sv{w:p'}{B:Nat}{v:y'}{l:u'}(h:ρ w B 5 1 v (ζ l)<|Lib.byteCells l)(D:l≠[]):∃g a,v=g' (z'<|O g 0) (ζ l) a/\B<=g/\∀j u,(Lib.byteCells l)[j]?=z' u->χ w (((O g 0):Addr).add j)=z' u:=by
 rcases h.2 with⟨_,e⟩|⟨g,a,Y,R,b,_⟩
 .exact absurd (fT.1 e) D
 subst R;exact⟨g,a,rfl,b,h.cells (g:=g) rfl⟩
def P5{l:u'}:∀u∈Lib.byteCells l,u.oneCell'=N':=by intro u C;simp[Lib.byteCells]at C;obtain⟨a,_,rfl⟩:=C;rfl
def KZ(n:Nat):fJ n≠[]:=by
 by_cases h:n<128
 .rw[en h];simp
 rw[lQ h];simp
def Av(a b:u'):Lib.byteCells a++Lib.byteCells b=Lib.byteCells (a++b):=by simp[Lib.byteCells]
def Ca{n:Nat}(h:n<256):Lib.byteCells [UInt8.ofNat n]=[.int .u8 (n:Int)]:=by simp only[Lib.byteCells,fA,map_nil];rw[<-tH h]
def JO:∀(m n:Nat),n<=m->n<18446744073709551616->∀(w:p'),Cl 175 #[Z n] w λe a=>∃v,e=n' v/\agX w a v (fJ n):=by
 intro m;induction m with
 |zero=>intro n K r w;obtain rfl:n=0:=I;go_enter func175,ntmps175;go_wp2_with fail;go_ret;refine⟨_,rfl,?_,bA⟩;rw[en I];exact Di w _ [UInt8.ofNat 0] aK (by simp[maxLen])
 |succ m B=>
  intro n K r w;by_cases y:n<128
  .have a:(n:Int)<128:=I;go_enter func175,ntmps175;go_wp2_with fail;go_ret;refine⟨_,rfl,?_,bA⟩;rw[en y];have:=Di w w.1.size [UInt8.ofNat n] aK (by simp[maxLen]);rw[Ca<|show n<256 by omega]at this|-;exact this
  have a:¬(n:Int)<128:=I;obtain⟨q,a,j⟩:∃q:Nat,q=n / 128/\(n:Int) / 128=(q:Int):=⟨n / 128,rfl,I⟩;obtain⟨c,T,C⟩:∃c:Nat,c=n % 128+128/\(n:Int) % 128+128=(c:Int):=⟨n % 128+128,rfl,I⟩;have h:c<256:=I;have b:=fP r;have z:fJ n=[UInt8.ofNat c]++fJ q:=by rw[lQ y,T,a];rfl
  have u:1+ζ (fJ q)<=10:=by rw[z]at b;simp at b;omega
  have j:=hid<|Aa (B q I I)<|Aa z<|Ca h;have i:q<n:=I;clear B z b a T;obtain⟨N,S,D,P,a⟩:=cI infoByte;have U:=hid<|Aa S<|Aa D<|Aa P a;clear S D P a;go_enter func175,ntmps175;go_wp2_with fail;refine(j.a _).mono ?_;rintro e t ⟨v,rfl,o,a⟩;have C:=Di w w.1.size [UInt8.ofNat c] aK (by simp[maxLen]);rw[j.B]at C;have e:=aZ C a;obtain⟨g,b,rfl,d,Y⟩:=Sv o<|KZ q;have V:=hid<|Aa e<|Aa Y a;clear C e o Y a;go_wp2_with (at_builtin;refine fz rfl _ _ 157 rfl w.1.size 5 N (.int .u8 0) 1 1 underlying157 U.a U.b U.c U.C rfl aj _ _ _ rfl V.a (O g 0) (ζ<|fJ q) b (Lib.byteCells<|fJ q) rfl (by simp[Lib.byteCells]) V.b P5 (by simp[maxLen];omega) (by simp;omega) (by have:=V.B.size;simp at this;omega) ?_;intro R F f k _;obtain⟨a,p,rfl⟩:=aV f);go_ret;refine⟨_,rfl,?_,?_⟩
  .rw[j.b,bg,<-Av,j.B];exact f
  have Q:=aq (cf w<|i' #[.int .u8 (c:Int)] 5) V.B;exact Q.grown k Q.size λk a=>(V.a.lt k a).1
def BE{a:Addr}(h:bK w (z' a) D):∀(j:Nat)(u:y'),(D.map G)[j]?=z' u->χ w (a.add j)=z' u:=by intro j u f;simp only[a!,I5]at f;obtain⟨x,F,rfl⟩:=f;obtain⟨b,o,e,T⟩:=h j x F;cases e;rw[dY];exact T
def GM:∀u∈D.map G,u.oneCell'=N':=by intro u C;simp at C;obtain⟨a,_,rfl⟩:=C;rfl
def aaM{b:Array Oper}{q:List Oper}{o:Oper}{a:Act}{Q:Exit->Act->p'->Prop}(V:o.guard=A')(s x:Operand)
  (k:o.op=.call {callee:=.builtin .append,args:=#[s,x],argTypes:=#[36,36]})
  (B:Nat) (v:y') (l:List Int) (t:a.eval s=v) (f:ρ w B 3 1 v (ζ l)<|l.map G)
  (c:t') (g:Nat) (m:List Int) (F:a.eval x=g' c (ζ m) g) (W:c=A'->g=0) (d:bK w c m)
  (L:(ζ l+ζ m)*8<=140737488355328) (u:B<=δ w.1)
  (h:∀z i e,ρ e B 3 1 (g' z (ζ l+ζ m) i) (ζ<|l++m) ((l++m).map G)->ξ w e (φ v)->wpList Tryz.prog b Q q (a.put o.dst<|g' z (ζ l+ζ m) i) e):
  wpList Tryz.prog b Q (o::q) a w:=by
 obtain⟨N,S,D,P,j⟩:=cI lJ;cases c with
 |none=>
  have T:=W rfl;subst T;have i:m=[]:=by
   cases m with
   |nil=>rfl
   |cons y r=>obtain⟨b,o,e,_⟩:=d 0 y rfl;cases e
  subst i;obtain⟨a,p,rfl⟩:=aV f;refine wpList_append_own_none V s x 36 k B 3 N 1 underlying36 S (bk a (ζ l) p) (ζ l) (l.map G) t f F ?_;exact h a p w (H' f)<|QB _ _
 |some b=>refine Lp w V s x 36 k B 3 N (G 0) 1 8 underlying36 S D P j rfl aj v (ζ l) (l.map G) t f b (ζ m) g (m.map G) F ak (BE d) GM (by simp only[maxLen];omega) I u ?_;intro R F f k _;obtain⟨a,p,rfl⟩:=aV f;exact h a p F (by rw[bg,fq];exact f) k
def afU{p:Prop}(h:p:=by
 intro j x f;have r:=(aX.1 f).1;rcases h.2 with⟨_,e⟩|⟨g,a,Y,R,_⟩
 .omega
 simp at R;obtain⟨rfl,rfl,rfl⟩:=R;have:=h.cells (g:=g) rfl j (G x) (by simp[f]);rw[dY]at this
 exact⟨g,0,rfl,this⟩):p:=h
def GL{B:Nat}{a:t'}{c n:Nat}(h:ρ w B 3 1 (g' a n c) (ζ D)<|D.map G):bK w a D:=by exact afU
def WR(x:Int)(w:p'):Cl 26 #[G x] w λe a=>e=n' (G x)/\a=w:=by go_enter func26,ntmps26;go_wp2;go_ret;exact⟨rfl,rfl⟩
def ni(c g:t')(h j:Nat)(D:List Int)(w:p')(C:bK w c D)(a:bK w g D)(X:ζ D*8<=140737488355328):
  Cl 36 #[g' c (ζ D) h,g' g (ζ D) j] w (Rb w<|h' N'):=by
 have s:J (bK w c D/\bK w g D):=⟨C,a⟩;clear C a;have b:((ζ D:Int) !=(ζ D:Int))=O':=ak;go_enter func36,ntmps36;go_wp2_with fail;go_loopw[5] (λi wr=>∃k:Nat,k<=ζ D/\i=G k/\J (Bl w wr)) (λi _=>ζ D-(intOf i).toNat)
 case atStart=>exact⟨0,bm,rfl,aQ⟩
 obtain⟨k,a,rfl,b⟩:=hrel;by_cases L:k<ζ D;rotate_left
 .have a:¬(k:Int)<(ζ D:Int):=I;go_wp2_with fail;go_ret;exact⟨rfl,b.o⟩
 have a:(k:Int)<(ζ D:Int):=I;obtain⟨x,F⟩:=La L;obtain⟨a,a,rfl,Q⟩:=(s.a.below b.o) k x F;obtain⟨o,f,rfl,p⟩:=(s.A.below b.o) k x F;have d:(x !=x)=O':=ak;clear F;go_wp2_with fail;go_quiet (fail);go_wp2_with fail;go_roundw
 case rel=>exact⟨k+1,I,e',below_drewN b.o _⟩
 exact F'
def CQ(q y h E a d:t')(N r l g S R:Nat)(n:Nd)(w:p')(C:tP w q y h N r l n)(b:tP w E a d g S R n)(K:lA n):
  Cl 57 #[j' #[g' q (ζ n.facts) N,g' y (ζ n.bf) r,h' n.aF,G n.rank,g' h (ζ n.aM) l],j'<|vp E (ζ n.facts) g a (ζ n.bf) S n.aF n.rank d (ζ n.aM) R] w (Rb w<|h' N'):=by
 have s:=hid<|Aa C<|Aa b K;have f:=K.vsz;clear C b K;have b:(n.aF !=n.aF)=O':=ak;have P:(n.rank !=n.rank)=O':=ak;have D:((ζ n.aM:Int) !=(ζ n.aM:Int))=O':=ak;go_enter func57,ntmps57
 go_upto_region 3 with(first
  |(go_at_call 36;have _:=c;refine(ni y a r S n.bf _ (s.a.bf.below<|aq dH c.o) (s.b.bf.below<|aq dH c.o) s.B.rsz).mono ?_;clear p f;rintro e F ⟨rfl,o⟩;have p:=A (((aq c.o o).block _ G').trans (bE w _ _).1);have f:=A (((aq c.o o).block _ ak).trans (bE w _ _).2);have u:=hid<|aq c.o o;clear o)
  |(go_at_call 36;refine(ni q E N g n.facts _ (s.a.facts.below dH) (s.b.facts.below dH) s.B.fsz).mono ?_;rintro e t ⟨rfl,e⟩;have p:=A ((e.block _ G').trans (bE w _ _).1);have f:=A ((e.block _ ak).trans (bE w _ _).2);have c:=hid e;clear e))
 go_wp2_with fail;clear p f;generalize j:(w.alloc<|i' #[g' q (ζ n.facts) N,g' y (ζ n.bf) r,h' n.aF,G n.rank,g' h (ζ n.aM) l] 96).alloc (i' (vp E (ζ n.facts) g a (ζ n.bf) S n.aF n.rank d (ζ n.aM) R) 96)=b at u;have U:J (Bl w b/\b' b w.1.size #[g' q (ζ n.facts) N,g' y (ζ n.bf) r,h' n.aF,G n.rank,g' h (ζ n.aM) l] 96/\b' b (δ w.1+1) (vp E (ζ n.facts) g a (ζ n.bf) S n.aF n.rank d (ζ n.aM) R) 96):=by subst j;exact⟨dH,(bE w _ _).1,(bE w _ _).2⟩
 clear j;go_loopw[7] (λi wr=>∃k:Nat,k<=ζ n.aM/\i=G k/\J (Bl b wr)) (λi _=>ζ n.aM-(intOf i).toNat)
 case atStart=>exact⟨0,bm,rfl,u⟩
 obtain⟨k,a,rfl,d⟩:=hrel;have p:=A ((d.o.block _ (bq.1 U.b).1).trans U.b);have f:=A ((d.o.block _ (bq.1 U.B).1).trans U.B);have b:=hid<|aq U.a d.o;by_cases L:k<ζ n.aM;rotate_left
 .have a:¬(k:Int)<(ζ n.aM:Int):=I;go_wp2_with fail;go_ret;exact⟨rfl,b.o⟩
 have a:(k:Int)<(ζ n.aM:Int):=I;obtain⟨v,F⟩:=La L;obtain⟨e,a,rfl,T,Q,p,a,P,a⟩:=(s.a.aM.below b.o) k v F;obtain⟨o,f,rfl,t,Y,a,a,a,B⟩:=(s.b.aM.below b.o) k v F;clear F;go_wp2_with fail;go_quiet (fail);go_wp2_with fail;go_roundw
 case rel=>exact⟨k+1,I,e',below_drewN d.o _⟩
 exact F'
def Ts:(Tryz.prog.info? 96).map (λi=>(i.zero,i.size,i.bytes))=z' (z'<|j' r?,5,88):=M
def Tp:(Tryz.prog.info? 73).map (λi=>(i.zero,i.size,i.bytes))=z' (z'<|j' nL,6,48):=M
def jq(v:Vl):List y':=[G v.aH,G v.lo,G v.hi,h' v.bY,G v.first,G v.rank]
def kd(vs:List Vl):List y':=vs.flatMap jq
def LO:∀(E:List Vl)(j:Nat)(v:Vl),E[j]?=z' v->∀i x,(jq v)[i]?=z' x->(kd E)[j*6+i]?=z' x
 |[],j,v,h,i,x,hx=>by simp at h
 |a::r,0,v,h,i,x,hx=>by simp at h;subst h;have S:=(aX.1 hx).1;simp only[kd,bW,e6,bH];rw[gI S];exact hx
 |a::r,j+1,v,h,i,x,hx=>by have:=LO r j v (H' h) i x hx;simp only[kd,bW]at this|-;rw[eB<|by simp[jq];omega,<-this];congr 1;simp[jq];omega
def EU{B:Nat}{a:t'}{c n:Nat}{E:List Vl}(h:ρ w B 73 6 (g' a n c) (ζ E)<|kd E):mA w a E:=by
 intro j v f;have r:=(aX.1 f).1;rcases h.2 with⟨_,e⟩|⟨g,a,Y,R,_⟩
 .omega
 simp at R;obtain⟨rfl,rfl,rfl⟩:=R;have T:=h.cells (g:=g) rfl;have X:∀i x,(jq v)[i]?=z' x->χ w (O g<|0+(j*6+i))=z' x:=by intro i x F;have:=T _ _<|LO E j v f i x F;rwa[dY]at this
 refine⟨g,0,rfl,?_,?_,?_,?_,?_,?_⟩
 .simpa using X 0 _ rfl
 .simpa[iH]using X 1 _ rfl
 .simpa[iH]using X 2 _ rfl
 .simpa[iH]using X 3 _ rfl
 .simpa[iH]using X 4 _ rfl
 simpa[iH]using X 5 _ rfl
def aaL{e:Array Oper}{q:List Oper}{o:Oper}{a:Act}{Q:Exit->Act->p'->Prop}(V:o.guard=A')(s x:Operand)
  (i:o.op=.call {callee:=.builtin .append,args:=#[s,x],argTypes:=#[36,36]})
  (B:Nat) (y:a.eval s=g' A' 0 0)
  (c:t') (b:Nat) (m:List Int) (F:a.eval x=g' c (ζ m) b) (W:c=A'->b=0) (d:bK w c m)
  (L:ζ m*8<=140737488355328) (v:B<=δ w.1)
  (h:∀z g f,ρ f B 3 1 (g' z (ζ m) g) (ζ m) (m.map G)->ξ w f A'->(z=A'->g=0)->wpList Tryz.prog e Q q (a.put o.dst<|g' z (ζ m) g) f):
  wpList Tryz.prog e Q (o::q) a w:=by
 refine aaM V s x i B (g' A' 0 0) [] y dj c b m F W d (H' L) v ?_;intro a p W f k;simp only[eY,bH,gg]at f|-;refine h a p W f k λe=>?_;subst e;rcases f.2 with⟨R,_⟩|⟨g,u,Y,R,_⟩
 .simp at R;exact R.2
 simp at R
section
variable {b:p'}{B n:Nat}
structure N5 where
  fa:t'
  fc:Nat
  ra:t'
  rc:Nat
  va:t'
  vc:Nat
  n:Nd
def k?(c:N5):List y':=[g' c.fa (ζ c.n.facts) c.fc,g' c.ra (ζ c.n.bf) c.rc,h' c.n.aF,G c.n.rank,g' c.va (ζ c.n.aM) c.vc]
def rD(cl:List N5):List y':=cl.flatMap k?
structure j5(w:p')(B:Nat)(c:N5):Prop where
  f:ρ w B 3 1 (bk c.fa (ζ c.n.facts) c.fc) (ζ c.n.facts) (c.n.facts.map G)
  r:ρ w B 3 1 (bk c.ra (ζ c.n.bf) c.rc) (ζ c.n.bf) (c.n.bf.map G)
  v:ρ w B 73 6 (bk c.va (ζ c.n.aM) c.vc) (ζ c.n.aM) (kd c.n.aM)
  fn:c.fa=A'->c.fc=0
  rn:c.ra=A'->c.rc=0
  vn:c.va=A'->c.vc=0
def j5.at{c:N5}(h:j5 w B c):tP w c.fa c.ra c.va c.fc c.rc c.vc c.n:=⟨GL h.f,GL h.r,EU h.v,h.fn,h.rn,h.vn⟩
def rh{e size:Nat}{v:y'}{D:List y'}{q:Option Nat}(h:ρ w B e size v n D)(l:∀k,q=z' k->∃Y f,w.1[k]?=z' (i' Y 96 f))(c:e≠96):φ v=A'\/φ v≠q:=by
 cases R:φ v with
 |none=>exact aP rfl
 |some k=>refine aR λo=>?_;obtain⟨Q,K,a⟩:=eK h k R;obtain⟨p,B,b⟩:=l k o.symm;rw[a]at b;simp at b;exact c b.2.1
def j5.kept{c:N5}{row:Option Nat}(h:j5 w B c)(a:ξ w b row)(l:∀k,row=z' k->∃Y f,w.1[k]?=z' (i' Y 96 f)):j5 b B c:=
 ⟨h.f.kept a<|rh h.f l aj,h.r.kept a<|rh h.r l aj,h.v.kept a<|rh h.v l aj,h.fn,h.rn,h.vn⟩
def j5.below{c:N5}(h:j5 w B c)(a:Bl w b):j5 b B c:=
 ⟨aZ h.f a,aZ h.r a,aZ h.v a,h.fn,h.rn,h.vn⟩
def j5.mono{f:Nat}{c:N5}(h:j5 w B c)(a:f<=B):j5 w f c:=⟨c8 h.f a,c8 h.r a,c8 h.v a,h.fn,h.rn,h.vn⟩
def MK:∀(D:List N5)(j:Nat)(c:N5),D[j]?=z' c->∀i x,(k? c)[i]?=z' x->(rD D)[j*5+i]?=z' x
 |[],j,c,h,i,x,hx=>by simp at h
 |a::r,0,c,h,i,x,hx=>by simp at h;subst h;have S:=(aX.1 hx).1;simp only[rD,bW,e6,bH];rw[gI S];exact hx
 |a::r,j+1,c,h,i,x,hx=>by have:=MK r j c (H' h) i x hx;simp only[rD,bW]at this|-;rw[eB<|by simp[k?];omega,<-this];congr 1;simp[k?];omega
def uH{p:Nat}{a:t'}{k:Nat}{D:List N5}(h:ρ w B 96 5 (g' a n k) (ζ D)<|rD D)(b:∀c∈D,j5 w p c):cw w a (D.map N5.n):=by
 intro j v f;simp only[a!,I5]at f;obtain⟨c,T,rfl⟩:=f;have r:=(aX.1 T).1;rcases h.2 with⟨_,e⟩|⟨g,a,Y,R,_⟩
 .omega
 simp at R;obtain⟨rfl,rfl,rfl⟩:=R;have a:=h.cells (g:=g) rfl;have X:∀i x,(k? c)[i]?=z' x->χ w (O g<|0+(j*5+i))=z' x:=by intro i x F;have:=a _ _<|MK D j c T i x F;rwa[dY]at this
 refine⟨g,0,c.fa,c.ra,c.va,c.fc,c.rc,c.vc,rfl,?_,?_,?_,?_,?_,(b c<|aO T).at⟩
 .simpa using X 0 _ rfl
 .simpa[iH]using X 1 _ rfl
 .simpa[iH]using X 2 _ rfl
 .simpa[iH]using X 3 _ rfl
 simpa[iH]using X 4 _ rfl
def Pj{wr W:p'}{a o:Nat}{c:Array y'}(h:Bl wr W)(r:W.1[a]?=z' (i' c 96 (0,0)))(d:δ wr.1<=a)(f:ξ W b A')(v:y'):
  Bl wr (κ b (O a o) v)/\(κ b (O a o) v).1[a]?=z' (i' (c.setIfInBounds o v) 96 (0,0))/\(∀(B e size:Nat)(u:y')(n:Nat)(D:List y'),e≠96->ρ b B e size u n D->ρ (κ b (O a o) v) B e size u n D)/\(∀(B e size:Nat)(u:y')(n:Nat)(D:List y'),e≠96->ρ W B e size u n D->ρ (κ b (O a o) v) B e size u n D):=by
 have L:=(bq.1 r).1;have C:b' b a c 96:=(f.block a L ak).trans r;have g:∀(B e size:Nat)(u:y')(n:Nat)(D:List y'),e≠96->ρ b B e size u n D->ρ (κ b (O a o) v) B e size u n D:=by intro B e size u n D l c;exact c.kept (cQ b a o v)<|rh c (λk b=>by cases b;exact⟨_,_,C⟩) l
 refine⟨((h.grown f h.size (λk b=>by cases b))).setCell (p:=(O a o)) d _,H C v,g,λB e size u n D l c=>g B e size u n D l<|c.kept f (by cases φ u<;>simp)⟩
end
section
variable {g p r:Int}{n:Nd}{v:Vl}
def B9:∀(o:List Int)(Y:Int),0<=Y->dI Y o=N'->∀x∈eU Y o,0<=x/\x<=100000
 |[],_,_,_,x,hx=>by simp[eU]at hx
 |f::r,Y,D,h,x,hx=>by
  simp[dI]at h;obtain⟨⟨C,a⟩,N⟩:=h;simp[eU]at hx;rcases hx with rfl|hx
  .omega
  exact B9 r (f+1) I N x hx
def p?{x:Int}(h:x<=100000):ζ (dS x)<=10:=fP I
def rM:∀(o:List Int)(Y:Int),ζ (eU Y o)=ζ o
 |[],_=>rfl
 |_::r,_=>by simp[eU,rM r]
def oQ(h:gH g n=N'):dI 0 n.facts=N'/\iL g n.bf (ζ n.facts)=N':=by unfold gH at h;simp only[aY]at h;exact⟨h.1.2,h.2⟩
def Bq(h:gH g n=N'):∀r∈n.bf,0<=r/\r<=100000:=by
 intro r b;have a:=(oQ h).2;unfold iL at a;split at a
 .simp only[aY,bV]at a;have:=a.2 r b;simp[rk]at this;omega
 rw[og]at a;rw[a]at b;cases b
def Bp(h:gH g n=N'):ζ n.bf<=ζ n.facts:=by
 have a:=(oQ h).2;unfold iL at a;split at a
 .simp only[aY,bM]at a;omega
 rw[og]at a;rw[a];simp
def lF(h:gH g n=N'):dI 0 n.facts=N':=by exact(oQ h).1
def V!(h:gH g n=N'):ζ (setB n)<=2100000:=by have C:=pL<|lF h;have a:=Bp h;have N:=tv dS 10 (eU 0 n.facts) λx F=>p? (B9 _ 0 I (lF h) x F).2;have d:=tv dS 10 n.bf λx F=>p? (Bq h x F).2;have l:=@fP (ζ n.facts) I;rw[rM]at N;simp only[setB,bg];omega
def kQ{α:Type}(f:α->u')(l:List α)(k:Nat)(x:α)(h:l[k]?=z' x):(l.drop k).flatMap f=f x++(l.drop<|k+1).flatMap f:=by have X:=aX.1 h;rw[mX X.1,X.2];simp
def vT{Y:Int}{o:List Int}{k:Nat}{f:Int}(h:o[k]?=z' f):eU Y (o.drop k)=(f-Y)::eU (f+1) (o.drop<|k+1):=by have X:=aX.1 h;rw[mX X.1,X.2];rfl
def V8(B b:Nat)(l:u')(g:Int)(a u z:t')(K rc N:Nat)(n:Nd)(w:p')(h:Wr w B b l)(Y:∀W,Below B w W->bK W a n.facts)(c:∀W,Below B w W->bK W u n.bf)(o:gH g n=N')(f:ζ l+3000000<=140737488355328):
  Cl 135 #[m'<|z'<|O b 0,j' #[g' a (ζ n.facts) K,g' u (ζ n.bf) rc,h' n.aF,G n.rank,g' z (ζ n.aM) N]] w λe f=>e=n' (o' #[])/\eE w f B b (l++setB n):=by
 have f:=V! o;have j:=pL<|lF o;have f:=Bp o;have v:J ((∀W,Below B w W->bK W a n.facts)/\(∀W,Below B w W->bK W u n.bf)):=⟨Y,c⟩;have V:J (dI 0 n.facts=N'/\∀r∈n.bf,0<=r/\r<=100000):=⟨lF o,Bq o⟩;have d:=hid<|h.wrote.alloc<|i' #[g' a (ζ n.facts) K,g' u (ζ n.bf) rc,h' n.aF,G n.rank,g' z (ζ n.aM) N] 96;have X:J (ζ (l++setB n)<=140737488355328):=by show _<=_;simp only[bg];omega
 clear h Y c o;go_enter func135,ntmps135;go_wp2_with (go_at_call 86;refine(ik B b l (ζ n.facts) _ d.o.wr I I (by have:=@fP (ζ n.facts) I;simp only[bg,dS,Int.toNat_natCast];omega)).mono ?_;rintro e t ⟨rfl,C⟩;have f:=C.box d.o.wr (cF w _) aj aj;have E:=A f;have c:=hid<|Aa C f;clear C f);clear E;go_loopw[4,17] (λY i wr=>∃(k:Nat)(f:Int)(q:u'),k<=ζ n.facts/\i=G k/\Y=G f/\0<=f/\f<=100001/\J (dI f (n.facts.drop k)=N')/\J (q++((eU f<|n.facts.drop k).flatMap dS++n.bf.flatMap dS)=l++setB n)/\J (eE w wr B b q/\wr.1[δ w.1]?=z' (i' #[g' a (ζ n.facts) K,g' u (ζ n.bf) rc,h' n.aF,G n.rank,g' z (ζ n.aM) N] 96 (0,0)))) (λ_ i _=>ζ n.facts-(intOf i).toNat)
 case atStart=>
  refine⟨0,0,l++dS (ζ n.facts),bm,rfl,rfl,I,I,V.a,?_,d.o.trans c.a,c.A⟩;show _=_;simp[setB,dS]
 clear d c;obtain⟨k,Y,q,T,rfl,rfl,P,hf1,d,S,o⟩:=hrel;have E:=A o.A;by_cases L:k<ζ n.facts
 .have p:(k:Int)<(ζ n.facts:Int):=I;obtain⟨x,F⟩:=La L;obtain⟨R,U,rfl,Q⟩:=v.a wr o.a.below k x F;have u:=d.o;rw[ym F]at u;simp only[aY,bM]at u;obtain⟨⟨c,D⟩,a⟩:=u;have h:ζ (q++dS (x-Y))<=140737488355328:=by have C:=cZ length S.o;have s:=X.o;rw[vT F]at C;simp only[bW,bg]at C s|-;omega
  have m:J (n.facts[k]?=z' x/\dI (x+1) (n.facts.drop<|k+1)=N'/\ζ (q++dS (x-Y))<=140737488355328):=⟨F,a,h⟩;clear F a h;go_wp2_with (go_at_call 86;refine(ik B b q (x-Y) _ o.a.wr I I m.B).mono ?_;rintro e W2 ⟨rfl,s⟩;have y:=hid s;clear s);refine⟨⟨k+1,x+1,q++dS (x-Y),I,e',e',I,I,m.b,?_,o.a.trans y.o,y.o.box o.a.wr o.A aj aj⟩,by simp[intOf];omega⟩;show _=_;rw[<-S.o,vT m.a];simp
 obtain rfl:k=ζ n.facts:=I;have p:¬(ζ n.facts:Int)<(ζ n.facts:Int):=I;have h:=S.o;rw[Cz]at h;simp only[eU,xF,gg]at h;have P:=hid h;clear h S d;go_wp2_with fail;clear E;go_loopw[32] (λi a=>∃(k:Nat)(q:u'),k<=ζ n.bf/\i=G k/\J (q++(n.bf.drop k).flatMap dS=l++setB n)/\J (eE w a B b q)) (λi _=>ζ n.bf-(intOf i).toNat)
 case atStart=>exact⟨0,q,bm,rfl,H' P,o.a⟩
 clear o P;obtain⟨k,q,T,rfl,S,o⟩:=hrel;by_cases L:k<ζ n.bf;rotate_left
 .obtain rfl:k=ζ n.bf:=I;have p:¬(ζ n.bf:Int)<(ζ n.bf:Int):=I;have h:=S.o;rw[Cz]at h;simp only[xF,iE]at h;go_wp2_with fail
  go_end0
  exact⟨rfl,by rw[<-h];exact o.o⟩
 have p:(k:Int)<(ζ n.bf:Int):=I;obtain⟨x,F⟩:=La L;obtain⟨R,U,rfl,Q⟩:=v.A _ o.o.below k x F;obtain⟨c,D⟩:=V.A x<|aO F;have h:ζ (q++dS x)<=140737488355328:=by have C:=cZ length S.o;have s:=X.o;rw[kQ dS n.bf k x F]at C;simp only[bg]at C s|-;omega
 have m:J (n.bf[k]?=z' x/\ζ (q++dS x)<=140737488355328):=⟨F,h⟩;clear F h;go_wp2_with (go_at_call 86;refine(ik B b q x _ o.o.wr I I m.A).mono ?_;rintro e W2 ⟨rfl,s⟩;have y:=hid s;clear s);refine⟨⟨k+1,q++dS x,I,e',?_,o.o.trans y.o⟩,by simp[intOf];omega⟩;show _=_;rw[<-S.o,kQ dS n.bf k x m.a];simp
def vJ(h:jR p g n=N'):ζ n.aM<=8/\0<=n.rank/\n.rank<=100000/\∀v∈n.aM,gG p g n.rank v=N':=by unfold jR at h;simp only[aY,bM,bV,rk]at h;exact⟨h.1.1.1.2,h.1.1.2.1,h.1.1.2.2,h.2⟩
def VW(h:gG p g r v=N')(R:Le v):ζ (fD p g v)<=40:=by
 have C:=yg R.lo;have b:=yg R.first;unfold fD;split
 .have Q:(v.hi-v.lo).toNat<18446744073709551616:=by obtain⟨N,a⟩:=R.lo;obtain⟨b,o⟩:=R.hi;omega
  have:=fP Q;simp only[bg];omega
 split
 .simp only[bU];omega
 split
 .split
  .have b:ζ (dS v.rank)<=10:=fP (by obtain⟨N,a⟩:=R.rank;omega);simp only[bU,bg];omega
  simp
 simp
def X8(h:jR p g n=N')(K:lA n):ζ (rL p g n)<=400:=by obtain⟨C,a,N,d⟩:=vJ h;have l:=tv (fD p g) 40 n.aM λv R=>VW (d v R)<|K.aM v R;have c:=@fP (ζ n.aM) I;have V:=p? N;unfold rL;split<;>simp only[bg,eY]<;>omega
def O4(h:gG 6 g r v=N'):v.lo<=v.hi:=by unfold gG at h;simp at h;exact h.2
def ZB{p:Prop}(h:p:=by
 obtain⟨k,q,hk,rfl,S,j⟩:=hrel;have E:=A j.A;have V:=(bq.1 j.A).1;by_cases L:k<ζ n.aM;rotate_left
 .obtain rfl:k=ζ n.aM:=I;have y:¬(ζ n.aM:Int)<(ζ n.aM:Int):=I;have o:=S.o;rw[Cz]at o;simp only[xF,iE]at o;go_wp2_with fail
  go_end0
  exact⟨rfl,by rw[<-o];exact j.a⟩
 have y:(k:Int)<(ζ n.aM:Int):=I;obtain⟨v,F⟩:=La L;obtain⟨b1,o1,rfl,T,Q,c2,c3,P,c5⟩:=HF.a wr j.a.below k v F;have d:=HF.A v<|aO F;have o:ζ q+100<=140737488355328:=by have C:=cZ length S.o;have h:=X.o;simp only[bg]at C h|-;omega
 have m:=hid<|Aa F<|Aa d<|j.a.alloc<|i' (nJ v.aH v.lo v.hi v.bY v.first v.rank) 73;clear F d;by_cases R:p=6
 .subst R;go_wp2_with (go_at_call 204;refine(K3 B b q v _ m.B.wr m.b.2 (O4 m.b.1) o).mono ?_;rintro e W2 ⟨rfl,h⟩;have u:=hid h;clear h);refine⟨⟨k+1,q++(yh v.lo++fJ (v.hi-v.lo).toNat),I,e',?_,m.B.trans u.o,u.o.box m.B.wr ((bR V).trans j.A) aj aj⟩,by simp[intOf];omega⟩;show _=_;rw[<-S.o,kQ (fD 6 g) n.aM k v m.a];simp[fD]
 go_wp2_with (go_at_call 205;refine(Jf B b q p g n.rank v _ m.B.wr m.b.2 m.b.1 R D o).mono ?_;rintro e W2 ⟨rfl,h⟩;have u:=hid h;clear h);refine⟨⟨k+1,q++fD p g v,I,e',?_,m.B.trans u.o,u.o.box m.B.wr ((bR V).trans j.A) aj aj⟩,by simp[intOf];omega⟩;show _=_;rw[<-S.o,kQ (fD p g) n.aM k v m.a]
 simp):p:=h
def wF(B b:Nat)(l:u')(p g:Int)(a U z:t')(fc rc x:Nat)(n:Nd)(w:p')(h:Wr w B b l)(R:∀W,Below B w W->mA W z n.aM)(K:lA n)(o:jR p g n=N')(hlen:ζ l+3000000<=140737488355328):
  Cl 137 #[m'<|z'<|O b 0,j' #[G p,G g],j' #[g' a (ζ n.facts) fc,g' U (ζ n.bf) rc,h' n.aF,G n.rank,g' z (ζ n.aM) x]] w λe w'=>e=n' (o' #[])/\eE w w' B b (l++rL p g n):=by
 have Ip:=X8 o K;obtain⟨h8,D,hr2,u⟩:=vJ o;have HF:J ((∀W,Below B w W->mA W z n.aM)/\(∀v∈n.aM,gG p g n.rank v=N'/\Le v)):=⟨R,λv d=>⟨u v d,K.aM v d⟩⟩;have f:=hid ((h.wrote.alloc<|qw p g).alloc<|i' #[g' a (ζ n.facts) fc,g' U (ζ n.bf) rc,h' n.aF,G n.rank,g' z (ζ n.aM) x] 96);have X:J (ζ (l++rL p g n)<=ζ l+400):=by show _<=_;simp only[bg];omega
 have Y:J (ζ (dS n.rank)<=10/\ζ (dS<|ζ n.aM)<=10):=⟨p? hr2,p? I⟩;clear h R K o u;cases K:decide (g=1)with
 |true=>
  have HE:J (rL p g n=dS n.rank++(dS (ζ n.aM)++n.aM.flatMap (fD p g))):=by show _=_;have hg:=H' K;simp[rL,hg,dS]
  go_enter func137,ntmps137;have z1:δ ((w.alloc<|qw p g).alloc<|i' #[g' a (ζ n.facts) fc,g' U (ζ n.bf) rc,h' n.aF,G n.rank,g' z (ζ n.aM) x] 96).1=δ w.1+2:=ak
  go_wp2_with (first
   |(go_at_call 203;refine v?.mono ?_;rw[K];rintro e w1 ⟨rfl,rfl⟩)
   |(go_at_call 86;refine(ik B b (l++dS n.rank) (ζ n.aM) _ c.a.wr I I (by have:=Y.a;have:=Y.A;simp only[bg];omega)).mono ?_;clear E N;rintro e W2 ⟨rfl,h⟩;have r:=h.box c.a.wr (c.b) aj aj;have s:=h.box c.a.wr (c.B) aj aj;have E:=A r;have N:=A s;have u:=hid<|Aa h<|Aa r s;clear h r s)
   |(go_at_call 86;refine(ik B b l n.rank _ (f.o.wr.alloc _) D I (by have:=Y.a;simp only[bg];omega)).mono ?_;rintro e t ⟨rfl,C⟩;have r:=C.box (f.o.wr.alloc _) ((bR G').trans (bE w _ _).1) aj aj;have s:=C.box (f.o.wr.alloc _) ((bR ak).trans (bE w _ _).2) aj aj;have E:=A r;have N:=A s;have c:=hid<|Aa C<|Aa r s;clear C r s))
  clear z1;clear E N K;go_loopw[22] (λi wr=>∃(k:Nat)(q:u'),k<=ζ n.aM/\i=G k/\J (q++(n.aM.drop k).flatMap (fD p g)=l++rL p g n)/\J (eE w wr B b q/\wr.1[δ w.1]?=z' (i' #[G p,G g] 166 (0,0)))) (λi _=>ζ n.aM-(intOf i).toNat)
  case atStart=>
   refine⟨0,l++dS n.rank++dS (ζ n.aM),bm,rfl,?_,((f.o.alloc _).trans c.a).trans u.a,u.b⟩;show _=_;rw[HE.o];simp
  clear f c u;exact ZB
 |false=>
  have HE:J (rL p g n=dS (ζ n.aM)++n.aM.flatMap (fD p g)):=by show _=_;have hg:=H' K;simp[rL,hg,dS]
  go_enter func137,ntmps137;have z1:δ ((w.alloc<|qw p g).alloc<|i' #[g' a (ζ n.facts) fc,g' U (ζ n.bf) rc,h' n.aF,G n.rank,g' z (ζ n.aM) x] 96).1=δ w.1+2:=ak
  go_wp2_with (first
   |(go_at_call 203;refine v?.mono ?_;rw[K];rintro e w1 ⟨rfl,rfl⟩)
   |(go_at_call 86;refine(ik B b l (ζ n.aM) _ (f.o.wr.alloc _) I I (by have:=Y.A;simp only[bg];omega)).mono ?_;rintro e t ⟨rfl,C⟩;have r:=C.box (f.o.wr.alloc _) ((bR G').trans (bE w _ _).1) aj aj;have s:=C.box (f.o.wr.alloc _) ((bR ak).trans (bE w _ _).2) aj aj;have E:=A r;have N:=A s;have c:=hid<|Aa C<|Aa r s;clear C r s))
  clear z1;clear E N K;go_loopw[22] (λi wr=>∃(k:Nat)(q:u'),k<=ζ n.aM/\i=G k/\J (q++(n.aM.drop k).flatMap (fD p g)=l++rL p g n)/\J (eE w wr B b q/\wr.1[δ w.1]?=z' (i' #[G p,G g] 166 (0,0)))) (λi _=>ζ n.aM-(intOf i).toNat)
  case atStart=>
   refine⟨0,l++dS (ζ n.aM),bm,rfl,?_,(f.o.alloc _).trans c.a,c.b⟩;show _=_;rw[HE.o];simp
  clear f c;exact ZB
end
section
variable {p:Prop}
def l4(v:VV):y':=j'<|cD v.any v.lo v.hi
def Wk{a z:Int}{b X:Bool}(h:a=z)(s:b=X):n' (o' #[G a,h' b])=n' (o' #[G z,h' X]):=by rw[h,s]
def LX(h:p:=by
 refine⟨Wk ?_ ?_,rfl⟩<;>first
  |rfl
  |(exfalso;simp only[aN,wrap64,aY,bM]at *;omega)
  |(simp only[aN,wrap64,aY,bM]at *;omega)):p:=h
def Bf(a b:Int)(w:p')(c:aN a=N')(d:aN b=N'):
  Cl 250 #[G a,G b] w λe f=>e=n' (o' #[G<|if aN (a+b) then a+b else 0,h'<|aN<|a+b])/\f=w:=by
 have T:=hid c;have U:=hid d;clear c d;by_cases Y:aN (a+b)=N'
 .have v:=hid Y;rw[Y];clear Y;go_enter func250,ntmps250;go_wp2
  all_goals
   go_ret2;have c:=T.o;have d:=U.o;have Y:=v.o;exact LX
 rw[jl]at Y;have v:=hid Y;rw[Y];clear Y;go_enter func250,ntmps250;go_wp2
 all_goals
  go_ret2;have c:=T.o;have d:=U.o;have Y:¬(aN (a+b)=N'):=by rw[v.o];decide
  exact LX
def Bh(a b:Int)(w:p')(c:aN a=N')(d:aN b=N'):
  Cl 298 #[G a,G b] w λe f=>e=n' (o' #[G<|if aN (a-b) then a-b else 0,h'<|aN<|a-b])/\f=w:=by
 have T:=hid c;have U:=hid d;clear c d;by_cases Y:aN (a-b)=N'
 .have v:=hid Y;rw[Y];clear Y;go_enter func298,ntmps298;go_wp2
  all_goals
   go_ret2;have c:=T.o;have d:=U.o;have Y:=v.o;exact LX
 rw[jl]at Y;have v:=hid Y;rw[Y];clear Y;go_enter func298,ntmps298;go_wp2
 all_goals
  go_ret2;have c:=T.o;have d:=U.o;have Y:¬(aN (a-b)=N'):=by rw[v.o];decide
  exact LX
def Rn(h:p:=by
 (repeat first|exact aQ|refine jI ?_ (by first|omega|(simp;omega)) _|refine lB ?_ (by first|omega|(simp;omega)|(simp;done)) _)):p:=h
def FI(a:VV)(j S:Int)(w:p'):
  Cl 297 #[l4 a,G j,G S] w (Rb w<|l4<|cA a j S):=by
 simp only[l4];go_enter func297,ntmps297;go_wp2
 all_goals
  rename_i C b;refine aE (v:=l4<|cA a j S) (by simp[results297,go_sem,l4,cA,C,b,Int.not_lt.2 C,Int.not_lt.2 b]) rfl ⟨rfl,?_⟩;exact Rn
def vz(p:Int)(a b:VV)(w:p'):
  Cl 115 #[G p,l4 a,l4 b] w (Rb w<|l4<|g! p a b):=by
 simp only[l4];by_cases U:p=5
 .subst U;go_enter func115,ntmps115;go_wp2
  all_goals
   refine aE (v:=l4<|g! 5 a b) (by simp_all[results,results115,go_sem,l4,g!,VV.p5,VV.dT]) rfl ⟨rfl,?_⟩;exact Rn
 have l:(p==5)=O':=by simp[U]
 go_enter func115,ntmps115;go_wp2
 all_goals
  refine aE (v:=l4<|g! p a b) (by simp_all[results,results115,go_sem,l4,g!]<;>intros<;>omega) rfl ⟨rfl,?_⟩;exact Rn
end
section
variable {f:Int}
def sI{c:Int}{b X:Bool}{P:Int->Prop}(h:b=X)(U:P c):∃a,n' (o' #[G c,h' b])=n' (o' #[G a,h' X])/\P a:=⟨c,by rw[h],U⟩
def Z4{p:Prop}(h:p:=by
 go_enter func253,ntmps253;go_wp2
 all_goals
  go_ret2
  exact⟨sI aj λh=>absurd h aj,aQ⟩):p:=h
def nj(a b:Int)(w:p')(f:aN a=N')(d:aN b=N'):
  Cl 253 #[G a,G b] w λe g=>(∃c,e=n' (o' #[G c,h'<|aN<|a*b])/\(aN (a*b)=N'->c=a*b))/\Bl w g:=by
 have T:J (aN a=N'/\aN b=N'):=⟨f,d⟩;clear f d;by_cases D:b=0
 .subst D;go_enter func253,ntmps253;go_wp2
  all_goals
   go_ret2;exact⟨sI (by rw[Int.mul_zero];decide) λ_=>by rw[Int.mul_zero],aQ⟩
 by_cases f:a=0
 .subst f;have c:(b==0)=O':=by simp[D]
  go_enter func253,ntmps253;go_wp2
  all_goals
   go_ret2;exact⟨sI (by rw[Int.zero_mul];decide) λ_=>by rw[Int.zero_mul],aQ⟩
 have c:(b==0)=O':=by simp[D]
 have d:(a==0)=O':=by simp[f]
 by_cases C:a=-9223372036854775808/\b=-1
 .obtain⟨rfl,rfl⟩:=C;exact Z4
 by_cases c:b=-9223372036854775808/\a=-1
 .obtain⟨rfl,rfl⟩:=c;exact Z4
 have R:(a==-9223372036854775808&&b==-1)=O':=by rw[rZ];simpa using C
 have F:(b==-9223372036854775808&&a==-1)=O':=by rw[rZ];simpa using c
 by_cases N:b=-1
 .have l:aN (a*b)=N':=by have:=T.a;subst N;simp only[aN,aY,bM]at this|-;omega
  have v:=hid l;have z:=hid N;have t:(b==-1)=N':=by simp[N]
  have i:(a==-9223372036854775808)=O':=by simp;exact λe=>C ⟨e,N⟩
  have d:(b==-9223372036854775808)=O':=by subst N;decide
  clear l C c N;go_enter func253,ntmps253;go_wp2
  all_goals
   go_ret2;exact⟨sI v.o.symm λ_=>cu v.o,aQ⟩
 have t:(b==-1)=O':=by simp[N]
 have r:J ((wrap64 ((wrap64<|a*b).tdiv b)==a)=aN (a*b)):=BF T.A D N;have q:(b==-9223372036854775808)=N'->(a==-1)=O':=λe=>by simp at e|-;exact λL=>c ⟨e,L⟩
 clear C c N;cases i:(a==-9223372036854775808)<;>cases d:(b==-9223372036854775808)
 all_goals
  try have y:=q d
  clear q;go_enter func253,ntmps253;go_wp2;go_quiet (fail);go_wp2;go_ret2;exact⟨sI r.o λh=>cu h,below_drewN aQ _⟩
def DH(xs:List Int)(f:Int):Int:=if f∈xs then(xs.idxOf f:Int) else -1
def XL{k:Nat}(a:D[k]?=z' f)(K:∀j,j<k->D[j]?≠z' f):DH D f=k:=by
 have d:=aO a;have L:=(aX.1 a).1;rw[DH,aD d];have C:=qu d;have b:D[D.idxOf f]?=z' f:=by rw[bj C,AQ C]
 have N:¬D.idxOf f<k:=λh=>K _ h b;have d:¬k<D.idxOf f:=λh=>by have z:=not_of_lt_findIdx (p:=(·==f)) (xs:=D) (i:=k) h;rw[bj L]at a;simp only[dU]at a;rw[a]at z;simp at z
 omega
def XK(K:∀j,j<ζ D->D[j]?≠z' f):DH D f=-1:=by rw[DH,aA];intro d;obtain⟨j,f⟩:=gF.1 d;exact K j (aX.1 f).1 f
def sH(j:t')(r:Nat)(D:List Int)(f:Int)(w:p')(h:bK w j D)(X:ζ D*8<=140737488355328):
  Cl 105 #[g' j (ζ D) r,G f] w (Rb w<|G<|DH D f):=by
 have s:=hid h;clear h;go_enter func105,ntmps105;go_wp2_with fail;go_loopw[5] (λi wr=>∃k:Nat,k<=ζ D/\i=G k/\J (Bl w wr/\∀j,j<k->D[j]?≠z' f)) (λi _=>ζ D-(intOf i).toNat)
 case atStart=>exact⟨0,bm,rfl,aQ,λj d=>I⟩
 obtain⟨k,a,rfl,c⟩:=hrel;by_cases L:k<ζ D;rotate_left
 .have a:¬(k:Int)<(ζ D:Int):=I;go_wp2_with fail;go_ret;exact⟨by rw[XK λj d=>c.A j I];rfl,c.a⟩
 have a:(k:Int)<(ζ D:Int):=I;obtain⟨x,F⟩:=La L;obtain⟨a,a,rfl,Q⟩:=(s.o.below c.a) k x F;have a:=hid F;clear F;by_cases Y:x=f
 .subst Y;go_wp2_with fail;go_ret;exact⟨by rw[XL a.o c.A];rfl,c.a⟩
 have b:(x==f)=O':=by simp[Y]
 go_wp2_with fail;go_roundw
 case rel=>exact⟨k+1,I,e',c.a,λj d=>by
  by_cases e:j=k
  .subst e;rw[a.o];simp[Y]
  .exact c.A j I⟩
 exact F'
end
def acV(a:Int)(l:List Int):VV:=l.foldl (λx y=>g! 6 x<|VV.one y)<|VV.one a
structure ArS(w W:p')(b c d:Int)(x:VV):Prop where
  low:Bl w W
  out:W.1[δ w.1]?=z' (i' oo 138 (0,0))
  acc:W.1[δ w.1+1]?=z' (i' (cD x.any x.lo x.hi) 138 (0,0))
  row:W.1[δ w.1+1+1]?=z' (i' #[G b,G c,G d] 2 (0,0))
def mP{W:p'}{b:Nat}{t:TypeId}{F E g:y'}(h:W.1[b]?=z' (i' #[F,E,g] t (0,0)))(e a d:y'):
  (κ (κ (κ W (O b 0) e) (O b 1) a) (O b 2) d).1[b]?=z' (i' #[e,a,d] t (0,0)):=by
 exact H (H (H h e) a) d
def ArS.put{w W t:p'}{b c d:Int}{x:VV}(h:ArS w W b c d x)(e:Bl W t)(y:VV):
  ArS w (κ (κ (κ t (O (δ w.1+1) 0)<|h' y.any) (O (δ w.1+1) 1)<|G y.lo) (O (δ w.1+1) 2)<|G y.hi) b c d y:=by
 have a:=(bq.1 h.out).1;have b:=(bq.1 h.acc).1;have P:=(bq.1 h.row).1;refine⟨?_,?_,?_,?_⟩
 .exact(((aq h.low e).setCell G' _).setCell G' _).setCell G' _
 .rw[aJ G',aJ G',aJ G'];exact(e.block _ a).trans h.out
 .exact mP ((e.block _ b).trans h.acc) _ _ _
 rw[aJ G',aJ G',aJ G'];exact(e.block _ P).trans h.row
def oK(a b c d:Int)(f:Bool)(w:p'):
  Cl 251 #[G a,G b,G c,G d,h' f] w (Rb w<|l4<|vd a b c d f):=by
 cases f
 .go_enter func251,ntmps251;go_wp2;refine aE (v:=l4<|vd a b c d O') (by simp[results251,go_sem,l4,vd,VV.all]) rfl ⟨rfl,?_⟩
  (repeat first|exact aQ|refine jI ?_ (by first|omega|(simp;omega)) _|refine lB ?_ (by first|omega|(simp;omega)|(simp;done)) _)
 go_enter func251,ntmps251;go_wp2_with fail;go_loopw[13] (λi wr=>∃k:Nat,k<=3/\i=G k/\J (ArS w wr b c d<|acV a ([b,c,d].take k))) (λi _=>3-(intOf i).toNat)
 case atStart=>
  refine⟨0,I,rfl,?_,?_,?_,?_⟩
  .exact eD
  .rw[bR G'];exact(bE w _ _).1
  .rw[bR ak];exact(bE w _ _).2
  have:=cF ((w.alloc<|i' oo 138).alloc<|i' #[h' O',G a,G a] 138)<|i' #[G b,G c,G d] 2;simpa using this
 obtain⟨k,f,rfl,g⟩:=hrel;obtain⟨x,F⟩:=Ea<|acV a ([b,c,d].take k);rw[<-F]at g;have o:=hid F;clear F;have E:=A g.o.acc;have j:=A g.o.row;by_cases L:k<3;rotate_left
 .have h:¬(k:Int)<3:=I;have U:k=3:=I;subst U;have f:=A g.o.out;go_wp2_with fail;have F:x=vd a b c d N':=o.o;refine aE (v:=l4<|vd a b c d N') (by rw[<-F];simp[results251,go_sem,l4,f.1]) rfl ⟨rfl,?_⟩
  (repeat first|exact g.o.low|refine jI ?_ (by first|exact aK|omega|(simp;omega)) _)
 have h:(k:Int)<3:=I
 obtain⟨z,f,K⟩:∃z:Int,χ wr ⟨δ w.1+1+1,k,A'⟩=z' (G z)/\acV a ([b,c,d].take<|k+1)=g! 6 (acV a ([b,c,d].take k)) (VV.one z):=by
  have:k=0\/k=1\/k=2:=I;rcases this with rfl|rfl|rfl
  .exact⟨b,by rw[j.1];rfl,rfl⟩
  .exact⟨c,by rw[j.1];rfl,rfl⟩
  exact⟨d,by rw[j.1];rfl,rfl⟩
 have p:=hid K;clear K j;go_wp2_with fail;obtain⟨y,B⟩:=Ea<|g! 6 x<|VV.one z;have N:J (∀W,Cl 115 #[G 6,l4 x,l4<|VV.one z] W<|Rb W<|l4 y):=by rw[B];exact λW=>vz 6 x (VV.one z) W
 have a:=hid B;clear B
 go_region_law (go_simp;refine(N.o _).mono ?_;rintro e t ⟨rfl,l⟩;have S:t.1[δ w.1+1]?=_:=(l.block _<|by simp;exact(bq.1 g.o.acc).1).trans g.o.acc;have R:=A S;simp only[l4])
 all_goals
  go_wp2_with fail;go_roundw
  case rel=>exact⟨k+1,I,e',by rw[p.o,<-o.o,<-a.o];exact g.o.put (aq (by repeat(first|with_reducible exact aQ|with_reducible refine below_drewN ?_ _|with_reducible refine xD ?_)) l) y⟩
  exact F'
def Nb{x:Int}(h:-9223372036854775808<=x/\x<=9223372036854775807):aN x=N':=by rw[aN,eC h.1,eC h.2];rfl
def nY.fit{v:VV}(h:nY v):aN v.lo=N'/\aN v.hi=N':=⟨Nb h.lo,Nb h.hi⟩
def aaC{K B:Bool}{Q p Y a:Int}(C:K=aN Y/\(K=N'->Q=Y))(b:B=aN a/\(B=N'->p=a)):vd Q p Q p (K&&B)=vd Y a Y a (aN Y&&aN a):=by
 obtain⟨V,N⟩:=C;obtain⟨u,k⟩:=b;rw[<-V,<-u];cases K
 .rfl
 cases B
 .rfl
 rw[N rfl,k rfl]
def JC(a b:VV)(w:p')(o:nY a)(l:nY b):
  Cl 252 #[l4 a,l4 b] w (Rb w<|l4<|ke a b):=by
 have j:=o.fit;have k:=l.fit;obtain⟨Q,K,q,i⟩:∃c f,J (∀W,Cl 298 #[G a.lo,G b.hi] W λe d=>e=n' (o' #[G c,h' f])/\d=W)/\J (f=aN (a.lo-b.hi)/\(f=true->c=a.lo-b.hi)):=⟨_,_,λW=>Bh a.lo b.hi W j.1 k.2,rfl,λh=>aD h⟩;obtain⟨p,B,u,g⟩:∃c f,J (∀W,Cl 298 #[G a.hi,G b.lo] W λe d=>e=n' (o' #[G c,h' f])/\d=W)/\J (f=aN (a.hi-b.lo)/\(f=true->c=a.hi-b.lo)):=⟨_,_,λW=>Bh a.hi b.lo W j.2 k.1,rfl,λh=>aD h⟩;clear j k o l;obtain⟨r,c⟩:=Ea<|ke a b;have d:J (r=ke a b):=c;rw[<-c];clear c;simp only[l4];go_enter func252,ntmps252;go_wp2_with fail;refine(q.o _).mono ?_;rintro e t ⟨rfl,rfl⟩;go_wp2_with fail;refine(u.o _).mono ?_;rintro e t ⟨rfl,rfl⟩;go_wp2_with fail
 all_goals
  have l:vd Q p Q p (K&&B)=r:=by rw[d.o];exact aaC i.o g.o
  refine(oK Q p Q p _ _).mono ?_;rintro e t ⟨rfl,Y⟩;have R:=A ((Y.block _ ak).trans<|NJ w _ _ _)
  first
   |rw[show vd Q p Q p B=r by rw[<-l];simp_all]
   |rw[show vd Q p Q p false=r by rw[<-l];simp_all]
  simp only[l4];go_wp2_with fail;refine aE (v:=l4 r) (by simp[results,results252,go_sem,l4,R.1]) rfl ⟨rfl,?_⟩
  (repeat first|exact(aq (mx w _ _ _) Y)|refine jI ?_ (by first|exact aK|omega|(simp;omega)) _)
end Go.Proofs.YtmipbiligijcpaaGreatDoor
