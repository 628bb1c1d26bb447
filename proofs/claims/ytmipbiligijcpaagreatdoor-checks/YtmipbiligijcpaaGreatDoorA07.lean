import Derived.Test.YtmipbiligijcpaaGreatDoorA04
import Derived.Test.YtmipbiligijcpaaGreatDoorA03
namespace Go.Proofs.YtmipbiligijcpaaGreatDoor
set_option linter.all false
set_option maxRecDepth 99999
set_option maxHeartbeats 0
open Go.RowKit Go.Proofs Go.Maps Tryz List open List renaming length→ζ,toArray→θ open _root_.Array renaming size→δ open World renaming setCell→κ,ownsRow→ρ,cell?→χ,grownBy→ξ open Value renaming ownBlock→φ open Value renaming slice→i',bool→j',agg→l',string→m',pointer→o',tuple→t' open Obj renaming cells→k' open Ending renaming returned→p' open Option renaming some→B',none→C' open Bool renaming true→O',false→P'
variable {N g:Nat}{a:Option Nat}{p:Prop}{w:u'}
section
variable {α β K:Type}
structure Two{α β:Type}(R:α->β->Prop)(l:List α)(m:List β):Prop where
  len:ζ l=ζ m
  each:∀(j:Nat) a b,l[j]?=B' a->m[j]?=B' b->R a b
def Two.nil{R:α->β->Prop}:Two R [] []:=⟨rfl,λj a b h=>by simp at h⟩
def Two.snoc{R:α->β->Prop}{l:List α}{m:List β}{x:α}{y:β}(h:Two R l m)(c:R x y):Two R (l++[x]) (m++[y]):=by
 refine⟨by simp[h.len],λj a b d e=>?_⟩;have X:=h.len;by_cases f:j<ζ l
 ·rw[jN f]at d;rw[jN I]at e;exact h.each j a b d e
 have C:=(bm.1 d).1;simp at C;obtain rfl:j=ζ l:=I;rw[ek I]at d;rw[X,ek I]at e;simp at d e;rw[<-d,<-e];exact c
def Two.tail{R:α->β->Prop}{l:List α}{m:List β}{x:α}{y:β}(h:Two R (x::l) (y::m)):R x y/\Two R l m:=
 ⟨h.each 0 x y rfl rfl,by have:=h.len;simpa using this,λj a b c d=>h.each (j+1) a b (I' c) (I' d)⟩
def Two.mem{R:α->β->Prop}{l:List α}{m:List β}(h:Two R l m)(v:∀a b c o,R a b->R c o->(a=c↔b=o)){x:α}{y:β}(c:R x y):x∈l↔y∈m:=by
 constructor
 ·intro F;obtain⟨j,f⟩:=xh F;obtain⟨b,d⟩:=La (l:=m) (i:=j) (by have:=(bm.1 f).1;have:=h.len;omega);have:=(v _ _ _ _ (h.each j x b f d) c).1 rfl;rw[<-this];exact aT d
 intro B;obtain⟨j,f⟩:=xh B;obtain⟨a,b⟩:=La (l:=l) (i:=j) (by have:=(bm.1 f).1;have:=h.len;omega);have:=(v _ _ _ _ (h.each j a y b f) c).2 rfl;rw[<-this];exact aT b
def agy(R:α->β->Prop)(a:Option α)(b:Option β):Prop:=match a,b with|none,none=>True|some x,some y=>R x y|_,_=>False
def Ni{K d:Type}[DecidableEq K][DecidableEq d]{R:K->d->Prop}(e:∀a b c o,R a b->R c o->(a=c↔b=o)):
  ∀(a:List (Option K)) (c:List (Option d)) (u:List K) (v:List d),Two (agy R) a c->Two R u v->Two R (a.foldl eF u) (c.foldl eF v)
 |[],[],u,v,_,UP=>UP
 |[],_::_,u,v,h,_=>by have:=h.len;simp at this
 |_::_,[],u,v,h,_=>by have:=h.len;simp at this
 |k::a,j::c,u,v,h,UP=>by
  obtain⟨h1,b⟩:=h.tail;rw[iC,iC];refine Ni e a c _ _ b ?_
  match k,j,h1 with
  |none,none,_=>exact UP
  |some x,some y,h1=>
   have d:=UP.mem e (x:=x) (y:=y) h1;show Two R (if x∈u then u else u++[x]) (if y∈v then v else v++[y]);by_cases F:x∈u
   ·rw[aB F,aB (d.1 F)];exact UP
   rw[aA F,aA (λe=>F (d.2 e))];exact UP.snoc h1
def DG[DecidableEq K]{u:List K}(h:u.Nodup)(o:Option K):(eF u o).Nodup:=by
 unfold eF;split
 ·exact h
 split
 ·exact h
 rw[uu];exact⟨h,ak,by rintro a a b a rfl;simp at a;subst a;contradiction⟩
def tK{K:Type}[DecidableEq K]:∀(R:List (Option K)) (u:List K),u.Nodup->(R.foldl eF u).Nodup
 |[],u,h=>h
 |k::R,u,h=>tK R _ (DG h k)
def K2[DecidableEq K](u:List K)(o:Option K):u <+: eF u o:=by
 unfold eF;split
 ·exact fE
 split
 ·exact fE
 exact I8 _ _
def zf{K:Type}[DecidableEq K]:∀(R:List (Option K)) (u:List K),u <+: R.foldl eF u
 |[],u=>fE
 |k::R,u=>(K2 u k).trans (zf R _)
def zg{K:Type}[DecidableEq K]:∀(R:List (Option K)) (u:List K) (x:K),B' x∈R->x∈R.foldl eF u
 |[],u,x,h=>by cases h
 |k::R,u,x,h=>by
  rw[iC];rcases dr.1 h with rfl|h
  ·refine(zf R _).subset ?_;show x∈(if x∈u then u else u++[x]);split
   ·assumption
   simp
  exact zg R _ x h
def vI{K:Type}[DecidableEq K]:∀(R:List (Option K)) (u:List K) (x:K),x∈R.foldl eF u->x∈u\/B' x∈R
 |[],u,x,h=>aI h
 |k::R,u,x,h=>by
  rw[iC]at h;rcases vI R _ x h with h|h;rotate_left
  ·exact aK (by simp[h])
  unfold eF at h;split at h
  ·exact aI h
  split at h
  ·exact aI h
  rcases eE.1 h with h|h
  ·exact aI h
  simp at h;subst h;exact aK ak
def K3[DecidableEq K](u:List K)(o:Option K):ζ (eF u o)<=ζ u+1:=by
 unfold eF;split
 ·omega
 split
 ·omega
 simp
def zh{K:Type}[DecidableEq K]:∀(R:List (Option K)) (u:List K),ζ (R.foldl eF u)<=ζ u+ζ R
 |[],u=>ak
 |k::R,u=>by have C:=K3 u k;have a:=zh R (eF u k);rw[iC,cC];omega
def Nj[DecidableEq K](R:List (Option K)):ζ (ze R)<=ζ R:=by have:=zh R [];simpa[ze]using this
def Py[DecidableEq K](R:List (Option K)):(ze R).Nodup:=tK R [] xg
def Xv[DecidableEq K](R:List (Option K))(x:K):x∈ze R↔B' x∈R:=
 ⟨λh=>by rcases vI R [] x h with h|h;(· cases h);exact h,λh=>zg R [] x h⟩
end
section
variable {c:Ct} {n:Nat}
def aaQ(P:Pm)(p:Int)(th:Nat->Nat->Bool):Prop:=∀f n,f<P.facts p->n<ζ P.nd->P.rule p f n (th f)=O'->th f n=O'
def RM(P:Pm)(c:Ct):Jt P c=O'↔aaQ P c.aE λf=>sg c f (-1):=by
 simp only[Jt,aaQ,cF,eQ,gX,gW];constructor
 ·intro h f n Y K a;rcases h f Y n K with h|h
  ·rw[a]at h;cases h
  exact h
 intro h f Y n K;cases a:P.rule c.aE f n (sg c f (-1))with
 |false=>exact aI rfl
 |true=>exact aK (h f n Y K a)
def S1(P:Pm)(c:Ct):Dp P c=O'↔∀f n,f<P.facts c.aE->n<ζ P.nd->sg c f (-1) n=O'->P.rule c.aE f n (sg c f ((c.at n).nz f))=O':=by
 simp only[Dp,cF,eQ,gX,gW];constructor
 ·intro h f n Y K a;rcases h f Y n K with h|h
  ·rw[a]at h;cases h
  exact h
 intro h f Y n K;cases a:sg c f (-1) n with
 |false=>exact aI rfl
 |true=>exact aK (h f n Y K a)
def zt(K:n<ζ c.nodes):c.at n∈c.nodes:=by rw[Ct.at,getD,bR K];exact lX K
def zr(K:¬n<ζ c.nodes):c.at n=uK:=by rw[Ct.at,getD,dA I];rfl
structure X6(c:Ct):Prop where
  p:c.aE<=4
  cU:∀x∈c.nodes,cU 0 x.facts=O'
  bare:∀x∈c.nodes,x.aD=P'/\x.vals=[]
  aW:c.grade=1->∀x∈c.nodes,ζ x.aW=ζ x.facts/\∀r∈x.aW,0<=r/\r<=100000
def VU(h:jz c=O')(U:c.aE<=4):X6 c:=by
 unfold jz at h;simp only[bh,cF]at h;have k:∀x∈c.nodes,dV c.grade x=O':=λx F=>by have:=h.2 x F;unfold bA at this;rwa[aB U]at this
 unfold dV at k;simp only[bh,gW,h!,bq]at k;refine⟨U,λx F=>(k x F).1.2,λx F=>⟨(k x F).1.1.1.1,(k x F).1.1.2⟩,λa x F=>?_⟩;have:=(k x F).2;unfold eD at this;rw[aB a]at this;simp only[bh,bq,cF]at this;refine⟨this.1,λr a=>?_⟩;have:=this.2 r a;unfold rk at this;simpa using this
def V7(h:X6 c)(a:c.grade=1){f:Nat}:0<=(c.at n).nz f:=by
 unfold Nd.nz;cases e:(c.at n).aW[(c.at n).facts.idxOf (f:Int)]? with
 |none=>rw[getD,e];exact uh 0
 |some r=>
  rw[getD,e];by_cases K:n<ζ c.nodes
  ·exact((h.aW a _ (zt K)).2 r (aT e)).1
  rw[zr K]at e;simp[uK]at e
def sQ:∀(l:List Int) (Y:Int),cU Y l=O'->∀x∈l,Y<=x
 |[],_,_,x,h=>by cases h
 |a::l,Y,h,x,hx=>by
  simp only[cU,bh,bq]at h;rcases dr.1 hx with rfl|hx
  ·exact h.1.1
  have:=sQ l (a+1) h.2 x hx;omega
structure afZ(c:Ct)(nv:Nat):Prop where
  p:c.aE=5
  ok:∀x∈c.nodes,x.aD=O'->ζ x.vals=nv/\0<=x.rank/\∀v∈x.vals,(v.aG=1/\v.bJ=P')\/(v.aG=2/\v.bJ=O'/\x.rank<v.rank/\v.lo=0)\/(v.aG=2/\v.bJ=P'/\v.lo=0)
  bd:∀x∈c.nodes,∀v∈x.vals,(-2^63<=v.lo/\v.lo<=9223372036854775807)/\(-2^63<=v.first/\v.first<=9223372036854775807)
  hi:∀x∈c.nodes,∀v∈x.vals,v.hi=0
  bare:∀x∈c.nodes,x.facts=[]/\(x.aD=P'->x.vals=[])
def VG{v:Vl}{r:Int}(h:(-9223372036854775808<=v.lo/\v.lo<=9223372036854775807)/\(-9223372036854775808<=v.first/\v.first<=9223372036854775807))(N:v.aG≠3):okV 5 (eZ r v):=by
 rw[eZ,aA N];split
 ·exact tg _ h.1
 split
 ·exact tg _ h.2
 exact Dh
def nR{Q:Nat}(h:afZ c Q)(r:Int)(n:Nat):kf 5 Q (jL c r n):=by
 unfold jL oO;split
 ·exact gl _ _
 rename_i K;intro E e;cases e;by_cases X:n<ζ c.nodes
 ·have C:=zt X;have b:(c.at n).aD=O':=by cases V:(c.at n).aD;(· exact absurd (aI V) K);rfl
  have a:=h.ok _ C b;refine⟨by simp[a.1],λv R=>?_⟩;obtain⟨u,b,rfl⟩:=cZ.1 R;exact VG (h.bd _ C u b) (by rcases a.2.2 u b with k|k|k<;>omega)
 rw[zr X]at K;exact absurd (aI rfl) K
end
section
variable {σ α:Type}
def bp{σ α:Type}(step:σ->y'->Option ((α×σ)×y')):Nat->σ->y'->Option ((List α×σ)×y')
 |0,st,l=>B' (([],st),l)
 | n+1,st,l=>match step st l with
  |some ((x,N4),r)=>match bp step n N4 r with
   |some ((xs,N3),q)=>B' ((x::xs,N3),q)
   |none=>C'
  |none=>C'
def gZ{σ α:Type}(step:σ->y'->Option ((α×σ)×y')):∀(n:Nat) (st:σ) (l:y'),bp step (n+1) st l=match bp step n st l with
  |some ((D,o),r)=>(match step o r with|some ((x,d),q)=>B' ((D++[x],d),q)|none=>C')
  |none=>C'
 |0,st,l=>by
  simp only[bp];cases step st l with
  |none=>rfl
  |some p=>obtain⟨⟨x,o⟩,r⟩:=p;rfl
 |n+1,st,l=>by
  rw[bp];cases y:step st l with
  |none=>simp[bp,y]
  |some p=>
   obtain⟨⟨x,o⟩,r⟩:=p;simp only;rw[gZ step n o r];simp only[bp,y];cases bp step n o r with
   |none=>rfl
   |some b=>
    obtain⟨⟨D,d⟩,q⟩:=b;simp only;cases step d q with
    |none=>rfl
    |some s=>have y:=s;rfl
def dG{σ α:Type}(step:σ->y'->Option ((α×σ)×y')):∀(n:Nat) (st:σ) (l:y') (D:List α) (o:σ) (r:y'),bp step n st l=B' ((D,o),r)->ζ D=n
 |0,st,l,D,o,r,h=>by simp[bp]at h;rw[h.1.1];rfl
 |n+1,st,l,D,o,r,h=>by
  rw[bp]at h;cases y:step st l with
  |none=>rw[y]at h;simp at h
  |some p=>
   obtain⟨⟨x,f⟩,q⟩:=p;rw[y]at h;simp only at h;cases b:bp step n f q with
   |none=>rw[b]at h;simp at h
   |some c=>obtain⟨⟨z,d⟩,F⟩:=c;rw[b]at h;simp at h;rw[<-h.1.1];have:=dG step n f q z d F b;simp[this]
def rC (step:σ->y'->Option ((α×σ)×y')) {n k:Nat} {st:σ} {l:y'} (h:bp step k st l=C') (b:k<=n):bp step n st l=C':=by
  induction n with
  | zero => obtain rfl:k=0:=I
            exact h
  |succ n B=>
    by_cases l:k=n+1
    · subst l;exact h
    rw[gZ,B I]
def T5(D:List Int)(n k:Nat)(x:Int)(a:ζ D=k)(K:k<n):(((D++replicate (n-k) 0).map G).set k (G x))=((D++[x])++replicate (n-(k+1)) 0).map G:=by rw[<-map_set];congr 1;rw[sk _ _ I,a,kH,show n-k=(n-(k+1))+1 by omega,gF,dN];simp
def P0(W':u')(rb:Nat)(s:z')(res:Option ((α×σ)×y'))(val:α->A')(z:A'->Prop)(Inv:u'->σ->Prop)(hZ:u'->Prop)(e:Ending):Prop:=
 (∃x st s',res=B' ((x,st),s'.1.1)/\s'.size<=s.size/\e=p' (val x)/\dq W' rb s' P'/\Inv W' st)\/(res=C'/\∃v s',z v/\e=p' v/\s'.size<=s.size/\dq W' rb s' O'/\hZ W')
def NR(w W':u')(rb n:Nat)(s:z')(bad:Bool)(step:σ->y'->Option ((Int×σ)×y'))(st:σ)(Inv:u'->σ->Prop)(hZ:u'->Prop)(e:Ending):Prop:=
  ((∃xs N4 s' la lc,et bad (bp step n st) s=B' ((xs,N4),s'.1.1)/\s'.size<=s.size/\e=p' (i' la n lc)/\(la=C'->lc=0)/\ρ W' w.1.size 3 1 (i' la n lc) n (xs.map G)/\dq W' rb s' P'/\Inv W' N4)\/
   ((bad=O'\/et bad (bp step n st) s=C')/\e=p' (i' C' 0 0)/\∃s',s'.size<=s.size/\dq W' rb s' O'/\hZ W'))
def aaC{p:Prop}(h:p:=by
 have L:rb<δ w.1:=(aY.1 h).1;have HH:=hid (A KZ (A hinv (A mO (A h hi))));have HB:=hid (A M8 hIB);clear KZ hinv mO h hi M8 hIB;by_cases h0:n=0
 ·subst h0
  first|(have _:=vD;go_enter func292,ntmps292)|(go_enter func289,ntmps289)
  go_wp2_with fail;go_ret;refine⟨?_,Fr.refl _ _⟩;cases bad with
  |false=>exact aI ⟨[],st,s,C',0,rfl,aF,rfl,λ_=>rfl,cb,HH.d,HH.D⟩
  |true=>exact aK ⟨aI rfl,rfl,s,aF,HH.d,HB.A _ _ HH.D⟩
 first|(have _:=vD;obtain⟨i1,hi,D,d,f⟩:=cQ KQ)|(obtain⟨i1,hi,D,d,f⟩:=cQ nQ)
 have HI:=hid (A hi (A D (A d f)));clear hi D d f;have V:((n:Int)==0)=P':=by rw[b?];omega
 first
  | (
    have _:=vD;go_enter func292,ntmps292;go_wp2_with (at_make;refine j8 _ rfl (.tmp 11) (.tmp 11) 71 rfl w.1.size 73 i1 (l' jn) 6 underlying71 HI.a HI.b HI.c .i64 .i64 n n n rfl rfl rfl rfl (by rw[HI.C];omega) (by unfold maxLen;omega) ak ?_;intro t V d;have g:=hid (A V d);clear V d)
    have r:J (ρ t w.1.size 73 6 (dU w.1.size n) n (fh (([]:List Vl)++replicate (n-0) EF))/\dq t rb s bad/\Inv t st/\Fr (λj=>j≠rb/\¬Own j) w t):=by
      obtain⟨C,N⟩:=g.o;rw[O9]at C
      refine⟨by simpa using C,HH.d.grown N ak,HH.b w t st HH.D (λj f=>N.block j (HH.c j f) ak),Fr.dj N (λk _ _=>ak)⟩)
  | (
    go_enter func289,ntmps289;go_wp2_with (at_make;refine j8 _ rfl (.tmp 11) (.tmp 11) 36 rfl w.1.size 3 i1 (G 0) 1 underlying36 HI.a HI.b HI.c .i64 .i64 n n n rfl rfl rfl rfl (by rw[HI.C];omega) (by unfold maxLen;omega) ak ?_;intro t V d;have g:=hid (A V d);clear V d)
    have r:J (ρ t w.1.size 3 1 (dU w.1.size n) n ((([]:List Int)++replicate (n-0) 0).map G)/\dq t rb s bad/\Inv t st/\Fr (λj=>j≠rb/\¬Own j) w t):=by
      obtain⟨C,N⟩:=g.o;rw[show(Value.int IntKind.i64 0).cells=#[G 0] from rfl,toList_madeCells_one,LB]at C
      refine⟨by simpa using C,HH.d.grown N ak,HH.b w t st HH.D (λj f=>N.block j (HH.c j f) ak),Fr.dj N (λk _ _=>ak)⟩)
 clear g
 first|(have _:=vD;go_loopw[15] (λd wr=>∃(k:Nat) (D:List Vl) (N3:σ) (s2:z'),k<=n/\d=G k/\s2.size<=s.size/\J (ζ D=k)/\J (bp step k st s.1.1=B' ((D,N3),s2.1.1)/\(0<k->bad=P'))/\J (ρ wr w.1.size 73 6 (dU w.1.size n) n (fh (D++replicate (n-k) EF))/\dq wr rb s2 (if k=0 then bad else P')/\Inv wr N3/\Fr (λj=>j≠rb/\¬Own j) w wr)) (λd _=>n-(intOf d).toNat))|(go_loopw[15] (λd wr=>∃(k:Nat) (D:List Int) (N3:σ) (s2:z'),k<=n/\d=G k/\s2.size<=s.size/\J (ζ D=k)/\J (bp step k st s.1.1=B' ((D,N3),s2.1.1)/\(0<k->bad=P'))/\J (ρ wr w.1.size 3 1 (dU w.1.size n) n ((D++replicate (n-k) 0).map G)/\dq wr rb s2 (if k=0 then bad else P')/\Inv wr N3/\Fr (λj=>j≠rb/\¬Own j) w wr)) (λd _=>n-(intOf d).toNat))
 case atStart=>exact⟨0,[],st,s,bj,rfl,aF,rfl,⟨rfl,(λh=>I)⟩,r.a,r.b,r.c,r.C⟩
 clear r;obtain⟨k,D,N3,s2,d,rfl,KX,HX,HL,HW⟩:=hrel;by_cases L:k<n;rotate_left
 ·obtain rfl:k=n:=I;have iz:¬(k:Int)<k:=I;have d:J (et bad (bp step k st) s=B' ((D,N3),s2.1.1)):=by show _=_;rw[HL.A I];exact HL.a
  go_wp2_with fail;go_ret;refine⟨aI ⟨D,N3,s2,B' (O w.1.size 0),k,d.o,KX,rfl,(λh=>by cases h),?_,?_,HW.c⟩,HW.C⟩
  ·have:=HW.a;simpa using this
  have:=HW.b;rwa[aA h0]at this
 have iz:(k:Int)<n:=I;have T:=HH.a wr N3 s2 (if k=0 then bad else P') HW.c HW.b I;have d:=hid T;clear T;go_wp2_with fail;refine bK d.o ?_;rintro e F ⟨g,B⟩;have l:=B.own HW.a (λq hq=>by simp[Value.ownBlock]at hq;subst hq;exact⟨I,λd=>J' (HH.c _ d)⟩);have Y:=HW.C.trans B (λq _ hq=>hq);rcases g with⟨x,Zj,s3,i,uR,rfl,hr,r⟩|⟨i,v,s3,⟨x,rfl⟩,rfl,uR,hr,r⟩
 ·first
   |(
      have _:=vD;simp only[fT];have uS:=l.stored (k*6) (G x.aG);have KW:=uS.1.stored (k*6+1) (G x.lo);have KU:=KW.1.stored (k*6+2) (G x.hi);have KT:=KU.1.stored (k*6+3) (j' x.bJ);have T:=KT.1.stored (k*6+4) (G x.first);have KS:=T.1.stored (k*6+5) (G x.rank);have R:=A KS.1 (((((uS.2.trans KW.2).trans KU.2).trans KT.2).trans T.2).trans KS.2);clear uS KW KU KT T KS;rw[acz D n k x HX.o L]at R;have Qe:χ F (O w.1.size (k*6))=B' (G 0):=(l.cellAt (k*6+0) I).trans (j? D n k 0 HX.o L I);have Et:χ F (O w.1.size (k*6+1))=B' (G 0):=(l.cellAt (k*6+1) I).trans (j? D n k 1 HX.o L I);have U:χ F (O w.1.size (k*6+2))=B' (G 0):=(l.cellAt (k*6+2) I).trans (j? D n k 2 HX.o L I);have o:χ F (O w.1.size (k*6+3))=B' (j' P'):=(l.cellAt (k*6+3) I).trans (j? D n k 3 HX.o L I);have g:χ F (O w.1.size (k*6+4))=B' (G 0):=(l.cellAt (k*6+4) I).trans (j? D n k 4 HX.o L I);have hk6:χ F (O w.1.size (k*6+5))=B' (G 0):=(l.cellAt (k*6+5) I).trans (j? D n k 5 HX.o L I)
      have E:=l.frozenAt)
   |(
      have R:=l.stored k (G x);rw[T5 D n k x HX.o L]at R;have Qe:=l.cellAt k I;have We:((D++replicate (n-k) 0).map G)[k]?=B' (G 0):=by rw[cg,ek (by rw[HX.o];exact aF),HX.o,kH,oV,aB I];rfl
      rw[We]at Qe
      have E:=l.frozenAt k)
  have X:=hr.grown R.2 (by simp;omega);have TZ:=HH.b F _ Zj r (λj f=>R.2.block j (by have:=HH.c j f;have:=HW.C.size;have:=B.size;omega) (by have:=HH.c j f;simp;omega));have Uv:=Y.grown R.2 (λq hq _=>by simp;omega);have x1:=M X;have GG:(if k=0 then bad else P')=P'/\step N3 s2.1.1=B' ((x,Zj),s3.1.1):=by
   generalize(if k=0 then bad else P')=bb at i;cases bb with
   |true=>cases i
   |false=>exact⟨rfl,i⟩
  have t:=hid (A GG (A R.1 (A X (A TZ Uv))))
  first|(have _:=vD;clear GG R X TZ Uv i hr r l Y B)|(clear GG R X TZ Uv i hr r l Y B We)
  go_wp2_with fail;refine⟨⟨k+1,D++[x],Zj,s3,I,f',I,by show _=_;rw[bF,HX.o];rfl,⟨?_,λ_=>?_⟩,t.b,?_,t.d,t.D⟩,by simp[intOf];omega⟩
  ·rw[gZ,HL.a];simp only;rw[t.a.2]
  ·by_cases d:k=0
   · have:=t.a.1
     rwa[aB d]at this
   exact HL.A I
  rw[aA I];exact t.c
 first
  | (
    have _:=vD;simp only[fT];have uS:=l.stored (k*6) (G x.aG);have KW:=uS.1.stored (k*6+1) (G x.lo);have KU:=KW.1.stored (k*6+2) (G x.hi);have KT:=KU.1.stored (k*6+3) (j' x.bJ);have T:=KT.1.stored (k*6+4) (G x.first);have KS:=T.1.stored (k*6+5) (G x.rank);have R:=A KS.1 (((((uS.2.trans KW.2).trans KU.2).trans KT.2).trans T.2).trans KS.2);clear uS KW KU KT T KS;have Qe:χ F (O w.1.size (k*6))=B' (G 0):=(l.cellAt (k*6+0) I).trans (j? D n k 0 HX.o L I);have Et:χ F (O w.1.size (k*6+1))=B' (G 0):=(l.cellAt (k*6+1) I).trans (j? D n k 1 HX.o L I);have U:χ F (O w.1.size (k*6+2))=B' (G 0):=(l.cellAt (k*6+2) I).trans (j? D n k 2 HX.o L I);have o:χ F (O w.1.size (k*6+3))=B' (j' P'):=(l.cellAt (k*6+3) I).trans (j? D n k 3 HX.o L I);have g:χ F (O w.1.size (k*6+4))=B' (G 0):=(l.cellAt (k*6+4) I).trans (j? D n k 4 HX.o L I);have hk6:χ F (O w.1.size (k*6+5))=B' (G 0):=(l.cellAt (k*6+5) I).trans (j? D n k 5 HX.o L I)
    have E:=l.frozenAt)
  | (
    have R:=l.stored k (G x);have Qe:=l.cellAt k I;have We:((D++replicate (n-k) 0).map G)[k]?=B' (G 0):=by rw[cg,ek (by rw[HX.o];exact aF),HX.o,kH,oV,aB I];rfl
    rw[We]at Qe
    have E:=l.frozenAt k)
 have X:=hr.grown R.2 (by simp;omega);have TZ:=HB.a F _ r (λj f=>R.2.block j (by have:=HH.c j f;have:=HW.C.size;have:=B.size;omega) (by have:=HH.c j f;simp;omega));have Uv:=Y.grown R.2 (λq hq _=>by simp;omega);have x1:=M X;have d:et bad (bp step n st) s=C':=by
  unfold et;cases v:bad with
  |true=>rfl
  |false=>
   simp only[bO,bU];have GG:step N3 s2.1.1=C':=by rw[v]at i;simpa[et]using i
   refine rC step (k:=k+1) ?_ I;rw[gZ,HL.a];simp only;rw[GG]
 have t:=hid (A d (A X (A TZ Uv)))
 first|(have _:=vD;clear d R X TZ Uv i hr r l Y B)|(clear d R X TZ Uv i hr r l Y B We)
 go_wp2_with fail;go_ret
 exact⟨aK ⟨aK t.a,rfl,s3,I,t.b,t.c⟩,t.C⟩):p:=h
def Ki(step:σ->y'->Option ((Int×σ)×y'))(Inv:u'->σ->Prop)(hZ:u'->Prop)(Own:Nat->Prop)(rb n:Nat)(s:z')(bad:Bool)(st:σ)(w:u')
  (KZ:∀(W:u') (st:σ) (s:z') (bad:Bool),Inv W st->dq W rb s bad->s.size<=60000->Cl 291 (di rb) W λe b=>P0 b rb s (et bad (step st) s) (λx:Int=>G x) (λz=>∃x,z=G x) Inv hZ e/\Fr (λj=>j≠rb/\¬Own j) W b)
  (hinv:∀(W b:u') (st:σ),Inv W st->(∀j,Own j->b.1[j]?=W.1[j]?)->Inv b st) (M8:∀(W b:u'),hZ W->(∀j,Own j->b.1[j]?=W.1[j]?)->hZ b) (hIB:∀W st,Inv W st->hZ W) (mO:∀j,Own j->j<δ w.1) (h:dq w rb s bad) (hi:Inv w st) (y:s.size<=60000) (K:n<=100000000):
  Cl 289 #[o' (B' (O rb 0)),G n,.func (.func 291) (di rb) #[]] w λe b=>
   NR w b rb n s bad step st Inv hZ e/\Fr (λj=>j≠rb/\¬Own j) w b:=by
 exact aaC
def Kh(step:σ->y'->Option ((Int×σ)×y'))(Inv:u'->σ->Prop)(hZ:u'->Prop)(Own:Nat->Prop)(c u rb n:Nat)(s:z')(bad:Bool)(st:σ)(w:u')
  (KZ:∀(W:u') (st:σ) (s:z') (bad:Bool),Inv W st->dq W rb s bad->s.size<=60000->Cl 290 (n! c u) W λe b=>P0 b rb s (et bad (step st) s) (λx:Int=>G x) (λz=>∃x,z=G x) Inv hZ e/\Fr (λj=>j≠rb/\¬Own j) W b)
  (hinv:∀(W b:u') (st:σ),Inv W st->(∀j,Own j->b.1[j]?=W.1[j]?)->Inv b st) (M8:∀(W b:u'),hZ W->(∀j,Own j->b.1[j]?=W.1[j]?)->hZ b) (hIB:∀W st,Inv W st->hZ W) (mO:∀j,Own j->j<δ w.1) (h:dq w rb s bad) (hi:Inv w st) (y:s.size<=60000) (K:n<=100000000):
  Cl 289 #[o' (B' (O rb 0)),G n,.func (.func 290) #[] (n! c u)] w λe b=>
   NR w b rb n s bad step st Inv hZ e/\Fr (λj=>j≠rb/\¬Own j) w b:=by
 exact aaC
end
def Qz(x:Int)(h:lr x):IntKind.i64.wrap x=x:=by obtain⟨C,a⟩:=h;simp[IntKind.wrap,IntKind.bits,IntKind.signed];omega
def iI(fl:Nat)(l:y'):Option ((Int×Nat)×y'):=match fH (100000-(fl:Int)) l with
 |some (n,r)=>B' ((((fl+n:Nat):Int),fl+n+1),r)
 |none=>C'
def U?(xb rb:Nat)(W:u'):Prop:=W.1[xb]?=B' (k' (di rb) 274 (0,0))
def X?(fb xb rb:Nat)(W:u')(fl:Nat):Prop:=W.1[fb]?=B' (oZ fl)/\U? xb rb W/\fl<=100001
def afY(fb xb rb:Nat)(W:u'):Prop:=(∃v:Int,W.1[fb]?=B' (k' #[G v] 3 (0,0)))/\U? xb rb W
def SmK(s:z')(bad:Bool)(most:Int)(n:Nat)(s':z')(b:Bool):Prop:=s'.size<=s.size/\((b=P'/\et bad (fH most) s=B' (n,s'.1.1)/\(n:Int)<=most)\/(b=O'/\et bad (fH most) s=C'/\n=0))
def uB{a:Int}{l r:y'}{n:Nat}(h:fH a l=B' (n,r)):(n:Int)<=a:=by
 unfold fH at h;cases T:rc l with
 |none=>rw[T]at h;cases h
 |some p=>
  obtain⟨m,q⟩:=p;rw[T]at h;simp only at h;by_cases d:(m:Int)<=a
  ·rw[aB d]at h;cases h;exact d
  rw[aA d]at h;cases h
def nH(g:Nat)(s:z')(c:Bool)(a:Int)(w:u')(h:dq w g s c)(y:s.size<=60000)(d:lr a):
  Cl 158 #[o' (B' (O g 0)),G a] w λe i=>∃(n:Nat) (f:z') (b:Bool),e=p' (G n)/\SmK s c a n f b/\dq i g f b/\ξ w i (B' g):=by
 refine(yl g s c a w h y d).mono ?_;rintro e i ⟨C,g⟩;rcases C with⟨n,f,i,a,rfl,b⟩|⟨i,rfl,f,a,b⟩
 ·refine⟨n,f,P',rfl,⟨a,aI ⟨rfl,i,?_⟩⟩,b,g⟩;unfold et at i;cases c with
  |true=>cases i
  |false=>exact uB i
 exact⟨0,f,O',rfl,⟨a,aK ⟨rfl,i,rfl⟩⟩,b,g⟩
def OQ(p u B:Nat)(L:p≠B)(F:u≠B)(c:p≠u)(W:u')(Y:Nat)(s:z')(D:Bool)(i:X? p u B W Y)(h:dq W B s D)(y:s.size<=60000):
  Cl 290 (n! p u) W λe a=>P0 a B s (et D (iI Y) s) (λx:Int=>G x) (λz=>∃x,z=G x) (X? p u B) (afY p u B) e/\Fr (λj=>j≠B/\¬(j=p\/j=u)) W a:=by
 obtain⟨X,d,o⟩:=i;have C:IntKind.i64.wrap (100000-(Y:Int))=100000-(Y:Int):=by simp[IntKind.wrap,IntKind.bits,IntKind.signed];omega
 have T:=nH B s D (IntKind.i64.wrap (100000-(Y:Int))) W.drew h y (by rw[C];exact⟨I,I⟩);have b:=hid C;clear C;have E:=M X;have a:=M d;have f:=hid (A T (A X d));clear T X d h;go_enter func290,ntmps290;go_wp2_with fail
 go_region_held3 (λa=>χ a (O p 0)=B' (G Y)/\χ a (O u 0)=B' (vh B)) (go_keep) ((go_at_call 158;refine bK f.a ?_;rintro e t ⟨n,h,k,rfl,d,i,g⟩;have a:=(g.block p (aY.1 f.b).1 (I' L)).trans f.b;have r:=(g.block u (aY.1 f.B).1 (I' F)).trans f.B;have q:=M a;have l:=M r;have K:n<=100001:=(by rw[b.o]at d;rcases d.2 with⟨_,_,q⟩|⟨_,_,q⟩<;>omega);have l:=hid (A d (A i (A g (A a r))));clear d i g a r))
 go_wp2;go_ret;have R:∀v,d' (κ t (O p 0) v) p #[v] 3/\U? u B (κ t (O p 0) v)/\dq (κ t (O p 0) v) B h k/\Fr (λj=>j≠B/\¬(j=p\/j=u)) W (κ t (O p 0) v):=by intro v;obtain⟨_,k,f,w,P⟩:=l.o;have a:=bX t p 0 v;exact⟨aq w v,(a.block u (aY.1 P).1 (by simpa using λe=>c e.symm)).trans P,k.grown a (by simpa using λe=>L e.symm),Fr.trans (Fr.trans (Fr.aX (P:=λj=>j≠B/\¬(j=p\/j=u)) (sn W.1.size W).drew) (Fr.dj (P:=λj=>j≠B/\¬(j=p\/j=u)) f (λk _ U=>I' U.1)) (λ_ _ U=>U)) (Fr.dj a (λk _ U=>by simpa using λe=>U.2 (aI e))) (λ_ _ U=>U)⟩
 refine⟨?_,(R _).2.2.2⟩;have k:=l.a;rw[b.o]at k;obtain⟨U,a⟩:=k;rcases a with⟨a,i,b⟩|⟨a,i,V⟩
 ·subst a;refine aI ⟨((Y+n:Nat):Int),Y+n+1,h,?_,U,by simp[Qz (Y+n) (show lr _ from⟨I,I⟩)],(R _).2.2.1,?_,(R _).2.1,I⟩;rotate_left
  ·rw[(R _).1];push_cast;rfl
  unfold et at i⊢;cases D with
  |true=>cases i
  |false=>simp only[bO,bU]at i⊢;rw[iI,i]
 subst a;refine aK ⟨?_,_,h,⟨_,rfl⟩,rfl,U,(R _).2.2.1,⟨_,(R _).1⟩,(R _).2.1⟩;unfold et at i⊢;cases D with
 |true=>rfl
 |false=>simp only[bO,bU]at i⊢;rw[iI,i]
def DF(s:z'):(s.extract 1 s.size).1.1=s.1.1.drop 1:=Lib.extract_to_end s 1
def QS(h:p:=by
 go_enter func246,ntmps246;go_wp2;go_ret2
 exact⟨fW (by simp[jE,K.o]) (by simp[jd,K.o]),rfl⟩):p:=h
def afB(h:p:=by
 clear Y r;have W:(D[k].toNat:Int)<48\/57<(D[k].toNat:Int):=I;clear h;rcases W with Q|Q
 ·go_wp2;go_ret2;exact⟨fW (by simp[jE,K.o]) (by simp[jd,K.o]),rfl⟩
 have p:48<=(D[k].toNat:Int):=I;go_wp2;go_ret2
 exact⟨fW (by simp[jE,K.o]) (by simp[jd,K.o]),rfl⟩):p:=h
def aaj(h:p:=by
 show _=_;rw[Y.o];have C:=acC D (k+1);have W:=X.o;have N:=r.a;have d:2^63<Wm.dS D.1.1:=I;split
 ·simp;omega
 rfl):p:=h
def J3(s:z')(w:u')(y:s.size<=3000)(g:0<s.size)(d:((s[0].toNat:Int)==45)=O'):
  Cl 246 #[m' s] w λe f=>e=p' (t' #[G (jE s.1.1),j' (jd s.1.1)])/\f=w:=by
 have f:(0:Int)<(s.size:Int):=I;have o:((s.size:Int)==0)=P':=by rw[b?];omega
 obtain⟨D,b⟩:∃D,s.extract 1 s.size=D:=⟨_,rfl⟩;have t:s[0]=45:=by rw[bT]at d;exact xd.1 (by simpa using(by omega:s[0].toNat=45))
 have z:=Wm.fm s g;have P:D.1.1=s.1.1.drop 1:=by rw[<-b,DF]
 have Y:=hid (Uq s.1.1 D.1.1 O' (by rw[z,t,Wm.DQ,P]) (by rw[z,t];exact Wm.Dm _));have V:D.size<=3000:=by have C:=dZ length P;rw[nW]at C;have W:=Wm.bS D;have N:=Wm.bS s;omega
 have T:(s.toList==[48])=P':=by rw[b?,dp,z,t];simp
 clear z t P;by_cases F:D.size=0
 ·have K:J (Wm.ga s.1.1=C'):=by show _=_;rw[Y.o,yA D O' F];rfl
  have E:((D.size:Int)==0)=O':=by rw[bT];omega
  clear Y F;exact QS
 have U:0<D.size:=I;have E:((D.size:Int)==0)=P':=by rw[b?];omega
 have b:(0:Int)<(D.size:Int):=I;by_cases a:19<D.size
 ·have K:J (Wm.ga s.1.1=C'):=by
   show _=_;rw[Y.o];split
   ·rename_i b;have:=BG D O' a b;simp;omega
   rfl
  have g:decide (19<(D.size:Int))=O':=by rw[bq];omega
  clear Y F a;exact QS
 have g:decide (19<(D.size:Int))=P':=by rw[cR];omega
 by_cases f:D[0].toNat=48
 ·have K:J (Wm.ga s.1.1=C'):=by
   show _=_;have V:Wm.ku O' D.1.1=P':=by rw[Wm.fm D U];simp[Wm.ku,f]
   rw[Y.o,V];rfl
  have q:((D[0].toNat:Int)==48)=O':=by rw[bT];omega
  clear Y F a;exact QS
 have q:((D[0].toNat:Int)==48)=P':=by rw[b?];omega
 have c:J ((if D[0].toNat==48 then decide (D.size=1)&&!true else O')=O'):=by show _=_;simp[f]
 clear F a;go_enter func246,ntmps246;go_wp2
 go_loop [6,7] (λn i=>∃(k m:Nat),k<=D.size/\i=G k/\n=G (-(m:Int))/\m<=2^63/\J (m=Wm.dS (D.1.1.take k)/\(D.1.1.take k).all Wm.gM=O')) (λ_ i=>D.size-(intOf i).toNat)
 ·exact⟨0,0,bj,rfl,rfl,I,by show _/\_;simp[Wm.dS,Wm.iX]⟩
 obtain⟨k,m,b,rfl,rfl,a,r⟩:=hrel;by_cases L:k<D.size;rotate_left
 ·obtain rfl:k=D.size:=I;have R:=r.A;have u:=r.a;have x:=yz D O' U R;rw[c.o]at x;rw[cH (by rw[Wm.bS];exact aF)]at u;have b:=Y.o;rw[x,<-u]at b;have K:J (Wm.ga s.1.1=B' (-(m:Int))):=by show _=_;rw[b];simp[a]
  clear Y r R u x b c;go_wp2;go_ret2;exact⟨fW (by simp[jE,K.o]) (by simp[jd,K.o]),rfl⟩
 have a:(k:Int)<(D.size:Int):=I;by_cases h:48<=(D[k].toNat:Int)/\(D[k].toNat:Int)<=57;rotate_left
 ·have K:J (Wm.ga s.1.1=C'):=by show _=_;rw[Y.o,yB D O' k L (by cases e:Wm.gM D[k]with|false=>rfl|true=>exfalso;have:=(Wm.gq _).1 e;omega)];rfl
  exact afB
 have B:J (Wm.gM D[k]=O'):=(Wm.gq _).2 I;have X:=hid (Hg D k L);obtain⟨Q,p⟩:=h;by_cases j:2^63<10*(m:Int)+((D[k].toNat:Int)-48)
 ·have S:=ME m ((D[k].toNat:Int)-48) I I j;have K:J (Wm.ga s.1.1=C'):=by exact aaj
  clear Y j r X;go_wp2;go_ret2;exact⟨fW (by simp[jE,K.o]) (by simp[jd,K.o]),rfl⟩
 have l:10*(m:Int)+((D[k].toNat:Int)-48)<=2^63:=I;have S:=T4 m ((D[k].toNat:Int)-48) I I l;have v:=hid (ML m D[k].toNat Q p l);have a:J (10*m+((D[k].toNat:Int)-48).toNat=Wm.dS (D.1.1.take (k+1))/\(D.1.1.take (k+1)).all Wm.gM=O'/\10*m+((D[k].toNat:Int)-48).toNat<=2^63):=by show _/\_/\_;have W:=X.o;have N:=r.o;refine⟨I,?_,I⟩;rw[Wm.lh D k _ L,N.2,B.o];rfl
 clear j r X l;go_wp2
 all_goals first
  |(exfalso;exact ZR m ((D[k].toNat:Int)-48) I I (h') (h'))
  |skip
 all_goals
  refine⟨⟨k+1,10*m+((D[k].toNat:Int)-48).toNat,I,f',?_,a.B,⟨a.a,a.b⟩⟩,by simp[intOf];omega⟩
  first
   |exact dZ (Value.int IntKind.i64) v.o
   | (
     have a:-(m:Int)=(-2^63+((D[k].toNat:Int)-48)).tdiv 10:=h';have W:=v.o;rw[a]at W
     exact dZ (Value.int IntKind.i64) W)
section
open Go.RowKit Go.Proofs Tryz List
theorem YP(h:p:=by
 clear Y W a;go_enter func246,ntmps246;go_wp2;go_ret2
 exact⟨fW (by simp[jE,K.o]) (by simp[jd,K.o]),rfl⟩):p:=h
theorem YO(h:p:=by
 rcases Nat.eq_or_lt_of_le (show 1<=D.size by omega)with C|C
 ·exact C.symm
 exact absurd ⟨h,by omega⟩ f):p:=h
def J2(D:z')(w:u')(y:D.size<=3000)(F:0<D.size)(d:((D[0].toNat:Int)==45)=P'):
  Cl 246 #[m' D] w λe b=>e=p' (t' #[G (jE D.1.1),j' (jd D.1.1)])/\b=w:=by
 have b:(0:Int)<(D.size:Int):=I;have o:((D.size:Int)==0)=P':=by rw[b?];omega
 have X:D[0]≠45:=by rw[b?]at d;intro e;rw[e]at d;exact d rfl
 have z:=Wm.fm D F;have Y:=hid (Uq D.1.1 D.1.1 P' (by rw[z];exact Wm.zq _ _ X) (by rw[z];exact Wm.yD _ _ X));have V:D.size<=3000:=y;clear z X;by_cases W:D.size=0
 ·exact absurd W I
 have U:0<D.size:=I;have E:((D.size:Int)==0)=P':=by rw[b?];omega
 have b:(0:Int)<(D.size:Int):=I;by_cases a:19<D.size
 ·have K:J (Wm.ga D.1.1=C'):=by
   show _=_;rw[Y.o];split
   ·rename_i b;have:=BG D P' a b;simp;omega
   rfl
  have g:decide (19<(D.size:Int))=O':=by rw[bq];omega
  exact YP
 have g:decide (19<(D.size:Int))=P':=by rw[cR];omega
 by_cases f:D[0].toNat=48/\D.size≠1
 ·obtain⟨f,P⟩:=f
  have K:J (Wm.ga D.1.1=C'):=by
   show _=_;have z:=Wm.fm D F;have t:=Wm.bS D;rw[Y.o];have:Wm.ku P' D.1.1=P':=by rw[z]at t⊢;simp only[cC]at t;simp only[Wm.ku,f];simp;intros;omega
   rw[this];rfl
  have T:(D.toList==[48])=P':=by rw[b?,dp];intro e;have:=dZ length e;rw[Wm.bS]at this;exact P this
  have q:((D[0].toNat:Int)==48)=O':=by rw[bT];omega
  exact YP
 have c:J ((if D[0].toNat==48 then decide (D.size=1)&&!false else O')=O'):=by
  show _=_;by_cases h:D[0].toNat=48
  ·have:D.size=1:=by exact YO
   simp[h,this]
  simp[h]
 have b:((D[0].toNat:Int)==48)=P'\/((D[0].toNat:Int)==48)=O'/\(D.toList==[48])=O':=by
  by_cases h:D[0].toNat=48;rotate_left
  ·left;rw[b?];omega
  right;refine⟨by rw[bT];omega,?_⟩;have C:D.size=1:=by exact YO
  rw[bT,dp,Wm.fm D F];have:D.1.1.drop 1=[]:=qE (by rw[Wm.bS];omega);rw[this];have e:D[0]=48:=xd.1 (I' h);rw[e]
 clear f;rcases b with q|⟨q,b⟩
 all_goals
  clear W a;go_enter func246,ntmps246;go_wp2
  go_loop [6,7] (λn i=>∃(k m:Nat),k<=D.size/\i=G k/\n=G (-(m:Int))/\m<=2^63/\J (m=Wm.dS (D.1.1.take k)/\(D.1.1.take k).all Wm.gM=O')) (λ_ i=>D.size-(intOf i).toNat)
  ·exact⟨0,0,bj,rfl,rfl,I,by show _/\_;simp[Wm.dS,Wm.iX]⟩
  obtain⟨k,m,b,rfl,rfl,a,r⟩:=hrel;by_cases L:k<D.size;rotate_left
  ·obtain rfl:k=D.size:=I;have R:=r.A;have u:=r.a;have x:=yz D P' U R;rw[c.o]at x;rw[cH (by rw[Wm.bS];exact aF)]at u;have b:=Y.o;rw[x,<-u]at b;by_cases t:m=2^63
   ·have K:J (Wm.ga D.1.1=C'):=by show _=_;rw[b];simp[t]
    have f:=hid t;have d:((-(m:Int))==-2^63)=O':=by rw[bT];omega
    clear Y r R u x b c t;go_wp2;go_ret2;exact⟨fW (by simp[jE,K.o]) (by simp[jd,K.o]),rfl⟩
   have a:m<2^63:=I;have K:J (Wm.ga D.1.1=B' (m:Int)):=by show _=_;rw[b];simp[a]
   have d:((-(m:Int))==-2^63)=P':=by rw[b?];omega
   clear Y r R u x b c t;go_wp2;go_ret2;refine⟨fW ?_ (by simp[jd,K.o]),rfl⟩;simp[jE,K.o]
  have a:(k:Int)<(D.size:Int):=I;by_cases h:48<=(D[k].toNat:Int)/\(D[k].toNat:Int)<=57;rotate_left
  ·have K:J (Wm.ga D.1.1=C'):=by show _=_;rw[Y.o,yB D P' k L (by cases e:Wm.gM D[k]with|false=>rfl|true=>exfalso;have:=(Wm.gq _).1 e;omega)];rfl
   exact afB
  have B:J (Wm.gM D[k]=O'):=(Wm.gq _).2 I;have X:=hid (Hg D k L);obtain⟨Q,p⟩:=h;by_cases j:2^63<10*(m:Int)+((D[k].toNat:Int)-48)
  ·have S:=ME m ((D[k].toNat:Int)-48) I I j;have K:J (Wm.ga D.1.1=C'):=by exact aaj
   clear Y j r X;go_wp2;go_ret2;exact⟨fW (by simp[jE,K.o]) (by simp[jd,K.o]),rfl⟩
  have l:10*(m:Int)+((D[k].toNat:Int)-48)<=2^63:=I;have S:=T4 m ((D[k].toNat:Int)-48) I I l;have v:=hid (ML m D[k].toNat Q p l);have a:J (10*m+((D[k].toNat:Int)-48).toNat=Wm.dS (D.1.1.take (k+1))/\(D.1.1.take (k+1)).all Wm.gM=O'/\10*m+((D[k].toNat:Int)-48).toNat<=2^63):=by show _/\_/\_;have W:=X.o;have N:=r.o;refine⟨I,?_,I⟩;rw[Wm.lh D k _ L,N.2,B.o];rfl
  clear j r X l;go_wp2
  all_goals first
   |(exfalso;exact ZR m ((D[k].toNat:Int)-48) I I (h') (h'))
   |skip
  all_goals
   refine⟨⟨k+1,10*m+((D[k].toNat:Int)-48).toNat,I,f',?_,a.B,⟨a.a,a.b⟩⟩,by simp[intOf];omega⟩
   first
    |exact dZ (Value.int IntKind.i64) v.o
    |(
     have a:-(m:Int)=(-2^63+((D[k].toNat:Int)-48)).tdiv 10:=h';have s:=v.o;rw[a]at s
     exact dZ (Value.int IntKind.i64) s)
end
def M6:(Tryz.prog.info? 9).map (λi=>(i.zero,i.size,i.bytes))=B' (B' (m' ⟨#[]⟩),1,16):=au
def j4(s:z')(a b:Nat):(s.extract a b).1.1=Wm.sub s.1.1 a b:=by rw[Lib.extract_data];simp[Wm.sub,take_drop]
def tu:∀{a b:List z'},a.map (·.data.toList)=b.map (·.data.toList)->a=b
 |[],[],_=>rfl
 |[],_::_,h=>by simp at h
 |_::_,[],h=>by simp at h
 |x::a,y::b,h=>by simp only[u?,nh]at h;rw[data_inj h.1,tu h.2]
def Ld(Y r:y')(c:UInt8)(h:Wm.lQ c=O'):Wm.jc Y (c::r)=(if Y=[] then[] else[Y])++Wm.jc [] r:=by rw[Wm.jc,h];simp only[c!];split<;>simp
def XS(c:UInt8):Wm.lQ c=(((c.toNat:Int)==32)||((c.toNat:Int)==9)||((c.toNat:Int)==13)):=by rw[Wm.lQ,cj];simp;omega
def drop_cons(s:z')(k:Nat)(h:k<s.size):s.1.1.drop k=s[k]::s.1.1.drop (k+1):=by rw[qF (by rw[Wm.bS];exact h)];rfl
def sub_one(s:z')(k:Nat)(h:k<s.size):Wm.sub s.1.1 k (k+1)=[s[k]]:=by rw[Wm.sub,drop_cons s k h];simp
def Inv(s:z')(k fr:Nat)(acc:List z'):Prop:=
 if k<=s.size then acc.map (·.data.toList)++Wm.jc (Wm.sub s.1.1 fr k) (s.1.1.drop k)=Wm.jc [] s.1.1 else acc.map (·.data.toList)=Wm.jc [] s.1.1
def M5(s:z')(k b:Nat)(V:List z')(c:k<=s.size)(Y:b<=k)(a:∀h:k<s.size,Wm.lQ s[k]=O')(h:Inv s k b V):Inv s (k+1) (k+1) (if b<k then V++[s.extract b k] else V):=by
 have d:=Wm.bS s;unfold Inv at h⊢;rw[aB c]at h;have E:(if Wm.sub s.1.1 b k=[] then([]:List (y')) else[Wm.sub s.1.1 b k])=(if b<k then[(s.extract b k).1.1] else[]):=by
  by_cases L:b<k
  ·rw[aB L,aA (Wm.Jn _ _ _ L I),j4]
  obtain rfl:b=k:=I;rw[aA L,Wm.sub_self,aB rfl]
 have c:(if b<k then V++[s.extract b k] else V).map (·.data.toList)=V.map (·.data.toList)++(if b<k then[(s.extract b k).1.1] else[]):=by split<;>simp
 by_cases L:k<s.size
 ·rw[aB I,c,Wm.sub_self];rw[drop_cons s k L,Ld _ _ _ (a L),E]at h;rw[ef];exact h
 obtain rfl:k=s.size:=I;rw[aA I,c];rw[show s.1.1.drop s.size=[] from qE I,Wm.jc,E]at h;exact h
def WS(s:z')(k b:Nat)(V:List z')(a:k<s.size)(Y:b<=k)(d:Wm.lQ s[k]=P')(h:Inv s k b V):Inv s (k+1) b V:=by have c:=Wm.bS s;unfold Inv at h⊢;rw[aB I]at h;rw[aB I];rw[drop_cons s k a,Wm.jc,d]at h;simp only[bO,bU]at h;rw[Wm.sE s.1.1 b k (k+1) Y I,sub_one s k a];exact h
def YQ{p:Prop}(h:p:=by
 by_cases B:b<k
 ·have d:J (Inv s (k+1) (k+1) (V++[s.extract b k])):=by have:=p.o;rwa[aB B]at this
  have g:(b:Int)<k:=I;have j:(b:Int)<=k:=I;go_wp2_with (at_builtin;refine gu rfl (.tmp 37) (.tmp 42) 101 rfl w.1.size 9 N (m' ⟨#[]⟩) 1 16 underlying101 y.a y.b y.c y.C rfl aj _ _ _ rfl (o.alloc _) (O wr.1.size 0) 1 1 [m' (s.extract b k)] rfl rfl pN (by intro u C;simp at C;subst C;rfl) (by unfold maxLen;omega) I H' ?_;intro E F e W c)
  all_goals
   go_roundw
   ·
    refine⟨k+1,k+1,V++[s.extract b k],I,I,f',f',d.o,H',?_,(f.alloc l _).grown W H' (λq i=>(o.lt q i).1)⟩;rw[bF,eW];exact e
   exact G'
 have d:J (Inv s (k+1) (k+1) V):=by have:=p.o;rwa[aA B]at this
 have g:¬(b:Int)<k:=I;go_wp2
 all_goals
  go_roundw
  ·exact⟨k+1,k+1,V,I,I,f',f',d.o,I,o,f⟩
  exact G'):p:=h
def JB(s:z')(w:u')(y:s.size<=3000):
  Cl 67 #[m' s] w λe a=>∃v,e=p' v/\ρ a w.1.size 9 1 v (ζ (Ig s)) ((Ig s).map m')/\Bl w a:=by
 obtain⟨N,S,D,P,a⟩:=cQ M6;have y:J (Tryz.prog.info? 9=B' N/\N.zero=B' (m' ⟨#[]⟩)/\N.size=1/\N.bytes=16):=⟨S,D,P,a⟩;clear S D P a;have k:=Wm.bS s;go_enter func67,ntmps67;go_wp2;go_loopw[3,4,5] (λv f i wr=>∃(k b:Nat) (V:List z'),k<=s.size+1/\b<=k/\i=G k/\f=G b/\J (Inv s k b V)/\ζ V<=k/\ρ wr w.1.size 9 1 v (ζ V) (V.map m')/\Bl w wr) (λ_ _ i _=>s.size+1-(intOf i).toNat)
 ·exact⟨0,0,[],I,I,rfl,rfl,by show Inv _ _ _ _;simp[Inv,Wm.sub],ak,cb,aQ⟩
 obtain⟨k,b,V,a,a,rfl,rfl,T,F,o,f⟩:=hrel;have l:=f.size;by_cases R:k<=s.size;rotate_left
 ·obtain rfl:k=s.size+1:=I;have E:¬((s.size+1:Nat):Int)<=(s.size:Int):=I;go_wp2;go_ret;have e:=T.o;unfold Inv at e;rw[aA I]at e;have:V=Ig s:=tu (e.trans (Jd s).symm);subst this;exact⟨_,rfl,o,f⟩
 have g:(k:Int)<=(s.size:Int):=I;by_cases c:k=s.size
 ·have p:=hid (M5 s k b V R a (λh=>I) T.o);have z:((k:Int)==(s.size:Int))=O':=by rw[bT];omega
  clear c;exact YQ
 have L:k<s.size:=I;have z:((k:Int)==(s.size:Int))=P':=by rw[b?];omega
 have t:=XS s[k];cases r:Wm.lQ s[k]with
 |false=>
  have p:=hid (WS s k b V L a r T.o);rw[r]at t;have Y:=t.symm;simp only[q8]at Y;obtain⟨⟨z,D⟩,x⟩:=Y;clear t;go_wp2;go_roundw
  ·exact⟨k+1,b,V,I,I,f',rfl,p.o,I,o,f⟩
  exact G'
 |true=>
 have p:=hid (M5 s k b V R a (λh=>r) T.o);rw[r]at t;have Y:=hid t.symm;clear t r;cases z:((s[k].toNat:Int)==32)<;>cases D:((s[k].toNat:Int)==9)<;>cases x:((s[k].toNat:Int)==13)<;>(have v:=Y.o;rw[z,D,x]at v;clear Y)
 all_goals first|(exfalso;simp at v;done)|skip
 all_goals clear v
 all_goals
  exact YQ
section
variable {B:Nat} {X b:Option Nat} {u v:u'} {Q y:A'} {E:List bE}
def Fx(s:z')(w:u')(D:s.size=0):
  Cl 246 #[m' s] w λe a=>e=p' (t' #[G (jE s.1.1),j' (jd s.1.1)])/\a=w:=by
 have X:=du.1 D;have K:J (Wm.ga s.1.1=C'):=by show _=_;rw[X];rfl
 have o:((s.size:Int)==0)=O':=by rw[bT];omega
 have a:(s.size:Int)<=0:=I;have t:decide (0<(s.size:Int))=P':=by rw[cR];omega
 clear D X;go_enter func246,ntmps246;go_wp2;go_ret2;exact⟨fW (by simp[jE,K.o]) (by simp[jd,K.o]),rfl⟩
def rE(s:z')(w:u')(y:s.size<=3000):
  Cl 246 #[m' s] w λe a=>e=p' (t' #[G (jE s.1.1),j' (jd s.1.1)])/\a=w:=by
 by_cases D:s.size=0
 ·exact Fx s w D
 cases h:((s[0].toNat:Int)==45)with
 |true=>exact J3 s w y I h
 |false=>exact J2 s w y I h
def strOf(l:bE):A':=m' ⟨θ l⟩
structure Rp(w:u')(pb B:Nat)(nv xv:A')(vs:List bE)(vb:Option Nat):Prop where
  box:∃vv,w.1[pb]?=B' (k' #[nv,vv,xv] 107 (0,0))/\ρ w B 9 1 vv (ζ vs) (vs.map strOf)/\φ vv=vb
  nodup:vs.Nodup
structure RF(pb:Nat)(vb:Option Nat)(w w':u'):Prop where
  os:w'.os=w.os
  tape:w'.tape=w.tape
  output:w'.output=w.output
  size:δ w.1<=δ w'.1
  block:∀k,k<δ w.1->k≠pb->some k≠vb->w'.1[k]?=w.1[k]?
def gn(w:u')(vb VQ:Option Nat):Prop:=VQ=vb\/∃k,VQ=B' k/\δ w.1<=k
def RF.refl(N:Nat)(a:Option Nat)(w:u'):RF N a w w:=⟨rfl,rfl,rfl,aF,λ_ _ _ _=>rfl⟩
def RF.trans(h:RF N a u v)(K:gn u a X)(k:RF N X v w):RF N a u w:=by
 refine⟨k.os.trans h.os,k.tape.trans h.tape,k.output.trans h.output,bD h.size k.size,λj f C a=>?_⟩;refine(k.block j (mG f h.size) C ?_).trans (h.block j f C a);rcases K with rfl|⟨q,rfl,b⟩
 ·exact a
 simp;omega
def gn.trans{c:Option Nat}(h:gn u a b)(y:δ u.1<=δ v.1)(k:gn v b c):gn u a c:=by
 rcases k with rfl|⟨q,rfl,a⟩
 ·exact h
 exact aK ⟨q,rfl,I⟩
def RF.aX{a:u'}(h:Bl w a):RF N b w a:=⟨h.os,h.tape,h.output,h.size,λk a _ _=>h.block k a⟩
def RF.alloc(w:u')(o:Obj):RF N a w (w.alloc o):=RF.aX (aQ.alloc aF _)
def kd{a b c d}:=@RF.alloc a b c d
def RF.set(h:RF N b u w){a:Addr}(c:δ u.1<=a.block)(v:A'):RF N b u (w.setCell a v):=
 ⟨h.os,h.tape,h.output,by simpa[World.setCell]using h.size,λk a C b=>(aJ I).trans (h.block k a C b)⟩
def RF.dm{b:u'}{o:Obj}(h:RF N a (w.alloc o) b):RF N a w b:=(RF.alloc w o).trans (aI rfl) h
def Rp.lt(h:Rp w N B Q y E a):N<δ w.1:=by obtain⟨u,a,_⟩:=h.box;exact(aY.1 a).1
def Rp.Ei(h:Rp w N B Q y E a):∀k,a=B' k->B<=k/\k<δ w.1:=by obtain⟨u,_,b,rfl⟩:=h.box;exact λk a=>b.lt k a
def Rp.uJ{a:u'}(h:Rp w N B Q y E b)(C:a.1[N]?=w.1[N]?)(c:∀k,b=B' k->a.1[k]?=w.1[k]?):Rp a N B Q y E b:=by
 obtain⟨u,b,a,R⟩:=h.box;refine⟨⟨u,C.trans b,⟨a.1,?_⟩,R⟩,h.nodup⟩;rcases a.2 with a|⟨g,b,Y,e,Q,p,d⟩
 ·exact aI a
 refine aK ⟨g,b,Y,e,Q,(c g ?_).trans p,d⟩;rw[<-R,e];rfl
def Rp.below{b:u'}(h:Rp w N B Q y E a)(c:Bl w b):Rp b N B Q y E a:=
 h.uJ (c.block N h.lt) (λk a=>c.block k (h.Ei k a).2)
def Rp.alloc(h:Rp w N B Q y E a)(o:Obj):Rp (w.alloc o) N B Q y E a:=h.below (aQ.alloc aF _)
def Rp.set(h:Rp w N B Q y E b){a:Addr}(C:a.block≠N)(c:some a.block≠b)(v:A'):Rp (w.setCell a v) N B Q y E b:=
 h.uJ (aJ (gG C)) (λk a=>aJ (λe=>c (by rw[a,e])))
def Ws.rf{b:u'}{t:Nat}{R:List z'}(h:Ws w g t R)(U:Rp w N B Q y E a)(c:some g≠a)(Y:RF N a w b):Ws b g t R:=by refine h.of_block (Y.block g h.lt ?_ c);rintro rfl;obtain⟨u,a,_⟩:=U.box;obtain⟨Y,T,_⟩:=h;rw[T]at a;simp at a
def gn.ne(h:gn w a X)(b:g<δ w.1)(R:some g≠a):some g≠X:=by
 rcases h with rfl|⟨q,rfl,a⟩
 ·exact R
 simp;omega
def aaN(a:z')(l:bE):(a.toList==(ByteArray.mk (θ l)).toList)=(a.1.1==l):=by rw[dp,dp]
def acd{x:bE}{k:Nat}(Q:E.Nodup)(a:k<ζ E)(b:E[k]=x):E.idxOf x=k:=by
 have d:x∈E:=b▸lX a;have N:=sj d;have d:=Ex N;rw[nodup_iff_pairwise_ne,Qp]at Q;rcases Nat.lt_trichotomy (E.idxOf x) k with h|h|h
 ·exact absurd (d.trans b.symm) (Q _ _ N a h)
 ·exact h
 exact absurd (b.trans d.symm) (Q _ _ a N h)
end
def en(a b:y'):(a==b)=(b==a):=by rw[cj];simp;exact eq_comm
def JC(s:z')(N B:Nat)(Q y:A')(E:List bE)(vb:Option Nat)(w:u')(i:ζ E<20000)(i:B<=δ w.1)(i:N<B)(hP:Rp w N B Q y E vb):
  Cl 113 #[o' (B' (O N 0)),m' s] w λe i=>e=p' (G (eS E s.1.1))/\∃X,Rp i N B Q y (cB E s.1.1) X/\RF N vb w i/\gn w vb X:=by
 obtain⟨u,r,o,z⟩:=hP.box;have Eb:J (φ u=vb):=z;clear z;obtain⟨i0,S,D,P,a⟩:=cQ M6;have HI:J (Tryz.prog.info? 9=B' i0/\i0.zero=B' (m' ⟨#[]⟩)/\i0.size=1/\i0.bytes=16):=⟨S,D,P,a⟩;clear S D P a;have U:=hP.lt;have GH:=hP.nodup;obtain⟨q,t,rfl,S⟩:∃q t,u=i' q (ζ E) t/\∀k x,E[k]?=B' x->∃g,q=B' ⟨g,0,C'⟩/\χ w ⟨g,k,C'⟩=B' (strOf x):=by
  rcases o.2 with⟨rfl,D⟩|⟨g,t,Y,rfl,C,h2,h3,h4,l,c⟩
  ·refine⟨C',0,by rw[D],λk x F=>?_⟩;have:=(bm.1 F).1;omega
  refine⟨_,t,rfl,λk x F=>⟨g,rfl,?_⟩⟩;have hk:=(bm.1 F).1;have i:(Y.toList.take (ζ E*1))[k]?=B' (strOf x):=by rw[c];simp[F]
  rw[u4,aB I]at i;simp[World.cell?,h2];simpa using i
 have hx1:=M r;go_enter func113,ntmps113;go_wp2
 go_loop [5] (λi=>∃k:Nat,k<=ζ E/\i=G k/\J (∀j (h:j<ζ E),j<k->E[j]≠s.1.1)) (λi=>ζ E-(intOf i).toNat)
 ·exact⟨0,bj,rfl,by show ∀j h,_;intro j h f;omega⟩
 obtain⟨k,hk,rfl,T⟩:=hrel;by_cases L:k<ζ E
 ·have c:(k:Int)<(ζ E:Int):=I;obtain⟨g,K,hc⟩:=S k _ (bR L);subst K;obtain⟨x,F⟩:∃x,E[k]=x:=⟨_,rfl⟩;rw[F]at hc;have TC:=aaN s x;unfold strOf at hc;by_cases P:x=s.1.1
  ·have l:(x==s.toList)=O':=by rw[dp,P];simp
   have HV:J (eS E s.1.1=k/\cB E s.1.1=E):=by
    have d:s.1.1∈E:=by rw[<-P,<-F];exact lX L
    refine⟨?_,by simp[cB,d]⟩;simp only[eS,d,c!];rw[acd GH L (F.trans P)]
   clear TC P F;go_wp2;go_ret;refine⟨by rw[HV.a];rfl,vb,?_,RF.refl _ _ _,aI rfl⟩;rw[HV.A];exact hP
  have l:(x==s.toList)=P':=by rw[dp];simpa using P
  have K:J (∀j (h:j<ζ E),j<k+1->E[j]≠s.1.1):=by
   show ∀j h,_;intro j h f;by_cases e:j=k
   ·subst e;rw[F];exact P
   exact T.o j h I
  clear TC P F;go_wp2
  go_round
  ·exact⟨k+1,I,f',K.o⟩
  exact G'
 obtain rfl:k=ζ E:=I;have d:s.1.1∉E:=by intro h;obtain⟨j,f,e⟩:=w? h;exact T.o j f f e
 have HV:J (eS E s.1.1=ζ E/\cB E s.1.1=E++[s.1.1]):=⟨by simp[eS,d],by simp[cB,d]⟩;have c:J (s.1.1∉E):=d;clear d;go_wp2_with (at_builtin;go_must (refine qD _ rfl (.tmp 29) (.tmp 31) 101 rfl B 9 i0 (m' ⟨#[]⟩) 1 16 underlying101 HI.a HI.b HI.c HI.C rfl aj _ _ _ rfl (o.alloc _) (O w.1.size 0) 1 1 [m' s] rfl rfl pN (by intro u a;simp at a;subst a;rfl) (by unfold maxLen;omega) I H' ?_));intro v4 f d W _ a;have z:=Eb.o;have c:some N≠φ (i' q (ζ E) t):=by intro e;have:=(o.lt N e.symm).1;omega
 have v:f.1[N]?=B' (k' #[Q,i' q (ζ E) t,y] 107 (0,0)):=by rw[W.block N H' c];exact(bQ U).trans r
 obtain⟨ao4,V,p,rfl⟩:∃q n t,v4=i' q n t:=by
  rcases d.2 with⟨R,_⟩|⟨g,t,Y,R,_⟩
  ·exact⟨_,_,_,R⟩
  exact⟨_,_,_,R⟩
 have b:V=ζ E+1:=by
  rcases d.2 with⟨R,D⟩|⟨g,t,Y,R,_⟩
  ·omega
  cases R;rfl
 have c:J (V=ζ E+1):=b;have o:(V:Int)-1=(ζ E:Int):=I;have c:J ((V:Int)-1=(ζ E:Int)):=o;have f:(V:Int)<=20001:=I;clear o b;have Eb:J (φ (i' q (ζ E) t)=vb):=z;clear z hx1;have hx1:=M v;go_wp2;go_ret;have b:some N≠φ (i' ao4 V p):=by intro e;have:=(d.lt N e.symm).1;omega
 refine⟨by rw[HV.a,<-c.o];rfl,φ (i' ao4 V p),?_,?_,?_⟩
 ·rw[HV.A];have t:=xr GH s.1.1;rw[HV.A]at t;refine⟨⟨_,?_,?_,rfl⟩,t⟩
  ·simp[World.setCell,LI,v]
  have e:(E++[s.1.1]).map strOf=E.map strOf++[m' s]:=by simp[strOf]
  rw[bF,e];refine⟨d.1,?_⟩;rcases d.2 with h|⟨g,u,Y,R,C,h2,h3⟩
  ·exact aI h
  refine aK ⟨g,u,Y,R,C,(aJ ?_).trans h2,h3⟩;show g≠N;omega
 ·refine⟨W.os,W.tape,W.output,?_,λk hk C h2=>?_⟩
  ·have:=W.size;simp[World.setCell]at this⊢;omega
  rw[aJ (show k≠N from C),W.block k H' (by rw[Eb.o];exact h2)];exact bQ hk
 rcases a with h|h
 ·exact aI (h.trans Eb.o)
 exact aK ⟨_,h,ak⟩
structure RO where
  var:Int
  c:Int
  word:z'
def gI:RO:=⟨0,0,emp⟩
def sL(vs:List bE)(s:z'):RO:=if jd s.1.1 then⟨-1,jE s.1.1,s⟩ else if Wm.nm s then⟨eS vs s.1.1,0,s⟩ else gI
def SM(s:z')(h:Wm.nm s=O'):jd s.1.1=P':=by
 have D:0<s.size:=by
  rcases Cy s.size with e|e
  ·rw[Wm.wG s e]at h;cases h
  exact e
 have X:Wm.oJ s[0]=O':=by
  cases e:Wm.oJ s[0]with
  |true=>rfl
  |false=>rw[Wm.Dl s D e]at h;cases h
 have T:=Wm.fm s D;have a:97<=s[0].toNat:=by simp[Wm.oJ]at X;exact X.1
 have z:s[0]≠45:=by intro e;rw[e]at a;exact absurd a aj
 have K:Wm.pA s.1.1=P':=by
  rw[Wm.pA,T,Wm.zq _ _ z];have Q:Wm.gM s[0]=P':=by simp[Wm.gM];omega
  simp[Wm.ku,Q]
 rw[jd,Le K];rfl
def abD(s:z'):bY s=(jd s.1.1||Wm.nm s):=by rw[bY,Bool.or_comm]
def CT(s:z')(N B:Nat)(Q h:A')(E:List bE)(f:Option Nat)(w:u')(y:s.size<=3000)(K:ζ E<20000)(v:B<=δ w.1)(a:N<B)(hP:Rp w N B Q h E f):
  Cl 179 #[o' (B' (O N 0)),m' s] w λe b=>∃(z o:Int) (R:z') (X:Option Nat),
   e=p' (t' #[l' #[G z,G o,m' R],j' (bY s)])/\J (sL E s=⟨z,o,R⟩)/\Rp b N B Q h (bP E s) X/\RF N f w b/\gn w f X:=by
 have U:=hP.lt;have g:some w.1.size≠f:=by intro e;have:=hP.Ei _ e.symm;omega
 rw[abD];cases c:jd s.1.1 with
 |true=>
  have j:Wm.nm s=P':=by cases e:Wm.nm s with|false=>rfl|true=>rw[SM s e]at c;cases c
  have T:J (bP E s=E):=by show _=_;simp[bP,j]
  have d:J (sL E s=⟨-1,jE s.1.1,s⟩):=by show _=_;simp[sL,c]
  go_enter func179,ntmps179;go_wp2_with (go_at_call 246;refine F' (rE _ _ y) ?_);refine aC (v:=t' #[l' #[G (-1),G (jE s.1.1),m' s],j' O']) (by simp[results179,go_sem]) rfl ⟨_,_,_,f,rfl,d.o,?_,kd,aI rfl⟩;rw[T.o];exact hP.alloc _
 |false=>
  cases j:Wm.nm s with
  |false=>
   have T:J (bP E s=E):=by show _=_;simp[bP,j]
   have d:J (sL E s=gI):=by show _=_;simp[sL,c,j]
   go_enter func179,ntmps179
   go_wp2_with (first
    |(go_at_call 246;refine F' (rE _ _ y) ?_)
    |(go_at_call 68;refine F' (km y) ?_))
   refine aC (v:=t' #[l' #[G 0,G 0,m' ⟨#[]⟩],j' P']) (by simp[results179,go_sem]) rfl ⟨_,_,_,f,rfl,d.o,?_,kd,aI rfl⟩;rw[T.o];exact hP.alloc _
  |true=>
   have T:J (bP E s=cB E s.1.1):=by show _=_;simp[bP,j]
   have d:J (sL E s=⟨eS E s.1.1,0,s⟩):=by show _=_;simp[sL,c,j]
   go_enter func179,ntmps179
   go_wp2_with (first
    |(go_at_call 246;refine F' (rE _ _ y) ?_)
    |(go_at_call 68;refine F' (km y) ?_)
    |(go_at_call 113;refine(JC s N B Q h E f _ K H' a (hP.alloc _)).mono ?_;rintro e F ⟨rfl,X,i,c,a⟩;have r:F.1[δ w.1]?=B' _:=(c.block w.1.size ak I g).trans (cv w _);have L:=M r;have f:=(aY.1 r).1))
   have b:some w.1.size≠X:=a.ne ak g;refine aC (v:=t' #[l' #[G (eS E s.1.1),G 0,m' s],j' O']) (by simp[results179,go_sem,L.1]) rfl ⟨_,_,_,X,rfl,d.o,?_,?_,?_⟩
   ·rw[T.o];exact((i.set H' (I' b) _).set H' (I' b) _).set H' (I' b) _
   ·exact((c.dm.set aF _).set aF _).set aF _
   rcases a with h|⟨q,h,a⟩
   ·exact aI h
   exact aK ⟨q,h,by simp at a;omega⟩
def PY(s:z')(g a:Nat)(l:List z')(w:u')(X:ζ l<=4)(j:Ws w g 0 l):
  Cl 180 #[m' s,i' (B' (O g 0)) (ζ l) a] w λe a=>e=p' (j' (l.any (λx=>x.toList==s.toList)))/\a=w:=by
 go_enter func180,ntmps180;go_wp2
 go_loop [5] (λi=>∃k:Nat,k<=ζ l/\i=G k/\J ((l.take k).any (λx=>x.toList==s.toList)=P')) (λi=>ζ l-(intOf i).toNat)
 ·exact⟨0,bj,rfl,by show _=_;simp⟩
 obtain⟨k,a,rfl,T⟩:=hrel;by_cases L:k<ζ l;rotate_left
 ·obtain rfl:k=ζ l:=I;have e:=T.o;rw[gg]at e;have a:=hid e;clear e;go_wp2;go_ret;exact⟨aN a.o.symm,rfl⟩
 have a:(k:Int)<(ζ l:Int):=I;obtain⟨x,F⟩:=La L;have a:=j.cell k x F;rw[bW]at a;cases a:(x.toList==s.toList)with
 |true=>
  have v:J (l.any (λx=>x.toList==s.toList)=O'):=by show _=_;rw[any_eq_true];exact⟨x,aT F,a⟩
  go_wp2;go_ret;exact⟨aN v.o.symm,rfl⟩
 |false=>
  have v:J ((l.take (k+1)).any (λx=>x.toList==s.toList)=P'):=by show _=_;have X:=bm.1 F;rw[cX X.1,X.2,any_append,T.o];simp[a]
  go_wp2
  go_round
  ·exact⟨k+1,I,f',v.o⟩
  exact G'
structure RN where
  bu:z'
  does:z'
  target:Int
  a:RO
  b:RO
  ops:Int
  sign:z'
  bB:z'
def aH(wv:A')(n:RN):Array A':=
 #[wv,m' n.bu,m' n.does,G n.target,G n.a.var,G n.a.c,m' n.a.word,G n.b.var,G n.b.c,m' n.b.word,G n.ops,m' n.sign,m' n.bB]
def lf{N:Nat}{a:Option Nat}{w b:u'}{k:Nat}{o:Obj}(Y:RF N a w b)(h:w.1[k]?=B' o)(C:k≠N)(c:some k≠a):b.1[k]?=B' o:=
 (Y.block k (aY.1 h).1 C c).trans h
def adw{p:Prop}(h:p:=by
 have U:=hP.lt;have k:=hP.Ei;have o:some w.1.size≠vb:=by intro e;have:=k _ e.symm;omega
 have j:some (δ w.1+1)≠vb:=by intro e;have:=k _ e.symm;omega
 first|(have _:=afe;have T:=hW.cell 2 x hx)|(have T:=hW.cell 1 x hx)
 have d:=hW.lt;go_enter func112,ntmps112;go_wp2_with fail;refine(CT x pb B nv xv vs vb _ hs hn H' Pv ((hP.alloc _).alloc _)).mono ?_;rintro e F ⟨va,co,wd,d,rfl,V,i,E,r⟩;have q:=bL w (k' #[i' (B' (O g off)) len cap,m' n.bu,m' n.does,G n.target,G n.a.var,G n.a.c,m' n.a.word,G n.b.var,G n.b.c,m' n.b.word,G n.ops,m' n.sign,m' n.bB] 111) (k' #[i' C' 0 0,m' ⟨#[]⟩,m' ⟨#[]⟩,G 0,G 0,G 0,m' ⟨#[]⟩,G 0,G 0,m' ⟨#[]⟩,G 0,m' ⟨#[]⟩,m' ⟨#[]⟩] 111);have l:=lf E q.1 I o;have k:=lf E q.2 I j;have y:=M l;have u:=M k;have f:=(aY.1 k).1;have D:δ w.1<δ F.1:=I;have N:δ w.1≠δ F.1:=I;have s:δ w.1+1≠δ F.1:=I
 have s:=r.ne H' o;have t:some (δ w.1+1)≠d:=r.ne ak j;clear q l k T;have j:=E.dm.dm;have k:gn w vb d:=by
  rcases r with h|⟨q,h,l⟩
  ·exact aI h
  exact aK ⟨q,h,by simp at l;omega⟩
 cases o:bY x with
 |false=>
  go_wp2;refine aC (v:=t' #[l' (aH (i' (B' (O g off)) len cap) n),j' P']) (by simp[results112,go_sem,aH,y.1,u.1,f,D]) rfl ⟨n,d,by rw[o],(λe=>by rw[o]at e;cases e),?_,?_,k⟩
  ·refine Rp.alloc ?_ _
   repeat(refine Rp.set ?_ H' (I' t) _)
   exact i
  refine RF.trans ?_ (aI rfl) kd
  repeat(refine RF.set ?_ ak _)
  exact j
 |true=>
  go_wp2;refine aC (v:=t' #[l' (aH (i' (B' (O g off)) len cap) {n with a:=⟨va,co,wd⟩,ops:=1}),j' O']) (by simp[results112,go_sem,aH,y.1,u.1,f,D]) rfl ⟨_,d,by rw[o],(λ_=>by rw[V.o]),?_,?_,k⟩
  ·refine Rp.alloc ?_ _
   repeat(refine Rp.set ?_ H' (by first|simpa using t|simpa using s) _)
   exact i
  refine RF.trans ?_ (aI rfl) kd
  repeat(refine RF.set ?_ ak _)
  exact j):p:=h
def Rx(pb B g off len cap:Nat)(nv xv c:A')(vs:List bE)(vb:Option Nat)(R:List z')(x:z')(n:RN)(w:u')(hx:R[1]?=B' x)(L:(1:Int)<len)(hs:x.size<=3000)(hn:ζ vs<20000)(v:B<=δ w.1)(Pv:pb<B)(hP:Rp w pb B nv xv vs vb)(hW:Ws w g off R)(b:some g≠vb):
  Cl 112 #[o' (B' (O pb 0)),l' #[i' (B' (O g off)) len cap,m' n.bu,m' n.does,G n.target,G n.a.var,G n.a.c,m' n.a.word,G n.b.var,G n.b.c,m' n.b.word,G n.ops,m' n.sign,m' n.bB],G 1,G 2,c] w λe b=>∃(m:RN) (X:Option Nat),
   e=p' (t' #[l' (aH (i' (B' (O g off)) len cap) m),j' (bY x)])/\J (bY x=O'->m={n with a:=sL vs x,ops:=1})/\Rp b pb B nv xv (bP vs x) X/\RF pb vb w b/\gn w vb X:=by
 exact adw
def Rw(pb B g off len cap:Nat)(nv xv c:A')(vs:List bE)(vb:Option Nat)(R:List z')(x:z')(n:RN)(w:u')(hx:R[2]?=B' x)(L:(2:Int)<len)(hs:x.size<=3000)(hn:ζ vs<20000)(v:B<=δ w.1)(Pv:pb<B)(hP:Rp w pb B nv xv vs vb)(hW:Ws w g off R)(b:some g≠vb):
  Cl 112 #[o' (B' (O pb 0)),l' #[i' (B' (O g off)) len cap,m' n.bu,m' n.does,G n.target,G n.a.var,G n.a.c,m' n.a.word,G n.b.var,G n.b.c,m' n.b.word,G n.ops,m' n.sign,m' n.bB],G 2,G 3,c] w λe b=>∃(m:RN) (X:Option Nat),
   e=p' (t' #[l' (aH (i' (B' (O g off)) len cap) m),j' (bY x)])/\J (bY x=O'->m={n with a:=sL vs x,ops:=1})/\Rp b pb B nv xv (bP vs x) X/\RF pb vb w b/\gn w vb X:=by
 have afe:=True.intro;exact adw
def adx{p:Prop}(h:p:=by
 have U:=hP.lt;have k:=hP.Ei;have o:some w.1.size≠vb:=by intro e;have:=k _ e.symm;omega
 have j:some (δ w.1+1)≠vb:=by intro e;have:=k _ e.symm;omega
 first|(have _:=ZX;have T:=hW.cell 2 x hx)|(have T:=hW.cell 1 x hx)
 have k:=hW.lt;go_enter func112,ntmps112;go_wp2_with fail;refine(CT x pb B nv xv vs vb _ hs I H' Pv ((hP.alloc _).alloc _)).mono ?_;rintro e F ⟨va,co,wd,k,rfl,V,XN,E,r⟩;have C:=bL w (k' #[i' (B' (O g off)) len cap,m' n.bu,m' n.does,G n.target,G n.a.var,G n.a.c,m' n.a.word,G n.b.var,G n.b.c,m' n.b.word,G n.ops,m' n.sign,m' n.bB] 111) (k' #[i' C' 0 0,m' ⟨#[]⟩,m' ⟨#[]⟩,G 0,G 0,G 0,m' ⟨#[]⟩,G 0,G 0,m' ⟨#[]⟩,G 0,m' ⟨#[]⟩,m' ⟨#[]⟩] 111);have l:=lf E C.1 I o;have TN:=lf E C.2 I j;have hx1:=M l;have u:=M TN;have hz:=(aY.1 TN).1;have D:δ w.1<δ F.1:=I;have N:δ w.1≠δ F.1:=I;have hq2:δ w.1+1≠δ F.1:=I;have s:=r.ne H' o;have U:some (δ w.1+1)≠k:=r.ne ak j;have j:ζ (bP vs x)<20000:=by have:=jS vs x;omega
 clear C T;have W:=E.dm.dm;have T:gn w vb k:=by
  rcases r with h|⟨q,h,C⟩
  ·exact aI h
  exact aK ⟨q,h,by simp at C;omega⟩
 cases o:bY x with
 |false=>
  clear l TN;go_wp2;refine aC (v:=t' #[l' (aH (i' (B' (O g off)) len cap) n),j' P']) (by simp[results112,go_sem,aH,hx1.1,u.1,hz,D]) rfl ⟨n,k,bP vs x,P',rfl,(by show _=_;rw[o];rfl),(λe=>by cases e),?_,?_,T⟩
  ·refine Rp.alloc ?_ _
   repeat(refine Rp.set ?_ H' (I' U) _)
   exact XN
  refine RF.trans ?_ (aI rfl) kd
  repeat(refine RF.set ?_ ak _)
  exact W
 |true=>
  have Wl:=((hW.alloc (k' #[i' (B' (O g off)) len cap,m' n.bu,m' n.does,G n.target,G n.a.var,G n.a.c,m' n.a.word,G n.b.var,G n.b.c,m' n.b.word,G n.ops,m' n.sign,m' n.bB] 111)).alloc (k' #[i' C' 0 0,m' ⟨#[]⟩,m' ⟨#[]⟩,G 0,G 0,G 0,m' ⟨#[]⟩,G 0,G 0,m' ⟨#[]⟩,G 0,m' ⟨#[]⟩,m' ⟨#[]⟩] 111)).rf ((hP.alloc _).alloc _) Z9 E
  first|(have _:=ZX;have Y:=Wl.cell 3 z Z0;have hc3:=Wl.cell 4 y hyw)|(have Y:=Wl.cell 2 z Z0;have hc3:=Wl.cell 3 y hyw)
  have W! : g≠δ w.1:=I;have hg2:g≠δ w.1+1:=I;have GN:g≠δ F.1:=I;have agn:δ w.1≠g:=I;have agm:δ w.1+1≠g:=I;have agl:δ F.1≠g:=I;have afu:g<δ F.1:=I;go_wp2_with fail;refine(CT y pb B nv xv (bP vs x) k _ hsy j H' Pv ?_).mono ?_
  ·refine Rp.alloc ?_ _
   repeat(refine Rp.set ?_ H' (I' s) _)
   exact XN
  rintro e W4 ⟨va',co',wd',Xs,rfl,HO',hP4,j,hn4⟩;have ack:gn F k Xs:=by
   rcases hn4 with h|⟨q,h,C⟩
   ·exact aI h
   exact aK ⟨q,h,by simp at C;omega⟩
  have hc1:=lf j (fK (lT (lT (lT (lT (lT l))))) _) I s;have Y:W4.1[δ w.1+1]?=_:=lf j (fK ((aJ ak).trans ((aJ ak).trans ((aJ ak).trans ((aJ ak).trans ((aJ ak).trans TN))))) _) I U;simp at hc1;have C:=hS.lt;have hsg:sb≠δ w.1:=I
  have hS4:Ws W4 sb 0 sl:=by
   have C:=((hS.alloc (k' #[i' (B' (O g off)) len cap,m' n.bu,m' n.does,G n.target,G n.a.var,G n.a.c,m' n.a.word,G n.b.var,G n.b.c,m' n.b.word,G n.ops,m' n.sign,m' n.bB] 111)).alloc (k' #[i' C' 0 0,m' ⟨#[]⟩,m' ⟨#[]⟩,G 0,G 0,G 0,m' ⟨#[]⟩,G 0,G 0,m' ⟨#[]⟩,G 0,m' ⟨#[]⟩,m' ⟨#[]⟩] 111)).rf ((hP.alloc _).alloc _) hsv E;refine Ws.rf ?_ (?_:Rp _ pb B nv xv (bP vs x) k) (r.ne H' hsv) j
   ·refine Ws.alloc ?_ _
    repeat(refine Ws.set ?_ (I' hsg) _)
    exact C
   refine Rp.alloc ?_ _
   repeat(refine Rp.set ?_ H' (I' s) _)
   exact XN
  have afv:RF pb vb w W4:=by
   refine RF.trans ?_ T j;refine RF.trans ?_ (aI rfl) kd
   repeat(refine RF.set ?_ ak _)
   exact W
  have k:δ F.1<δ W4.1:=by have:=j.size;simp at this;omega
  have k:gn w vb Xs:=T.trans I ack;have hm0:=ack.ne D s;have D:=ack.ne hz U;have F:=M hc1;have q1:=M Y;clear hc1 Y hx1 u l TN j hn4 E r Wl hc3 N hq2 hW hS s U T W XN hP W! hg2 GN agn agm agl;have r1:δ w.1<δ W4.1:=I;have E:δ w.1+1<δ W4.1:=I;have j:δ w.1≠δ W4.1:=I;have j:δ w.1+1≠δ W4.1:=I;have j:δ W4.1≠δ w.1:=I;have j:δ W4.1≠δ w.1+1:=I;obtain⟨j,l⟩:∃j,(sl.any (λq=>q.toList==z.toList))=j:=⟨_,rfl⟩;have s:=hid l;have r:∀W:u',Ws W sb 0 sl->Cl 180 #[m' z,i' (B' (O sb 0)) 4 sc] W λe w'=>e=p' (j' j)/\w'=W:=by intro W u;have:=PY z sb sc sl W I u;rwa[hsl,l]at this
  have u:=hid r;clear l r;go_wp2_with fail;refine(u.o _ ?_).mono ?_
  ·refine Ws.alloc ?_ _
   repeat(refine Ws.set ?_ (I' hsg) _)
   exact hS4
  rintro e C ⟨rfl,rfl⟩;clear u;cases l:bY y with
  |true=>
   go_wp2;refine aC (v:=t' #[l' (aH (i' (B' (O g off)) len cap) {n with a:=⟨va,co,wd⟩,b:=⟨va',co',wd'⟩,sign:=z,ops:=2}),j' j]) (by simp[results112,go_sem,aH,F.1,q1.1,r1,E]) rfl ⟨_,Xs,bP (bP vs x) y,j,rfl,(by show _=_;rw[o,l,s.o];rfl),(λ_=>⟨by rw[V.o,HO'.o],rfl⟩),?_,?_,k⟩
   ·refine Rp.alloc ?_ _
    repeat(refine Rp.set ?_ H' (by first|simpa using D|simpa using hm0) _)
    exact hP4
   refine RF.trans ?_ (aI rfl) kd
   repeat(refine RF.set ?_ ak _)
   exact afv
  |false=>
   go_wp2;refine aC (v:=t' #[l' (aH (i' (B' (O g off)) len cap) {n with a:=⟨va,co,wd⟩,b:=⟨va',co',wd'⟩,sign:=z,ops:=2}),j' P']) (by simp[results112,go_sem,aH,F.1,q1.1,r1,E]) rfl ⟨_,Xs,bP (bP vs x) y,P',rfl,(by show _=_;rw[o,l,s.o];rfl),(λ_=>⟨by rw[V.o,HO'.o],rfl⟩),?_,?_,k⟩
   ·refine Rp.alloc ?_ _
    repeat(refine Rp.set ?_ H' (by first|simpa using D|simpa using hm0) _)
    exact hP4
   refine RF.trans ?_ (aI rfl) kd
   repeat(refine RF.set ?_ ak _)
   exact afv):p:=h
def Jm(pb B g off len cap:Nat)(nv xv:A')(vs:List bE)(vb:Option Nat)(R:List z')(x z y:z')(sb sc:Nat)(sl:List z')(n:RN)(w:u')(hx:R[1]?=B' x)(Z0:R[2]?=B' z)(hyw:R[3]?=B' y)(L:(1:Int)<len)(c:(2:Int)<len)(f:(3:Int)<len)(hs:x.size<=3000)(hsy:y.size<=3000)(c:ζ vs+1<20000)(hsl:ζ sl=4)(hS:Ws w sb 0 sl)(hsv:some sb≠vb)(v:B<=δ w.1)(Pv:pb<B)(hP:Rp w pb B nv xv vs vb)(hW:Ws w g off R)(Z9:some g≠vb):
  Cl 112 #[o' (B' (O pb 0)),l' #[i' (B' (O g off)) len cap,m' n.bu,m' n.does,G n.target,G n.a.var,G n.a.c,m' n.a.word,G n.b.var,G n.b.c,m' n.b.word,G n.ops,m' n.sign,m' n.bB],G 1,G 4,i' (B' (O sb 0)) 4 sc] w λe w'=>∃(m:RN) (X:Option Nat) (c:List bE) (t:Bool),
   e=p' (t' #[l' (aH (i' (B' (O g off)) len cap) m),j' t])/\J (t=(bY x&&bY y&&sl.any (λq=>q.toList==z.toList)))/\J (t=O'->m={n with a:=sL vs x,b:=sL (bP vs x) y,sign:=z,ops:=2}/\c=bP (bP vs x) y)/\Rp w' pb B nv xv c X/\RF pb vb w w'/\gn w vb X:=by
 exact adx
def Jl(pb B g off len cap:Nat)(nv xv:A')(vs:List bE)(vb:Option Nat)(R:List z')(x z y:z')(sb sc:Nat)(sl:List z')(n:RN)(w:u')(hx:R[2]?=B' x)(Z0:R[3]?=B' z)(hyw:R[4]?=B' y)(L:(2:Int)<len)(c:(3:Int)<len)(f:(4:Int)<len)(hs:x.size<=3000)(hsy:y.size<=3000)(c:ζ vs+1<20000)(hsl:ζ sl=4)(hS:Ws w sb 0 sl)(hsv:some sb≠vb)(v:B<=δ w.1)(Pv:pb<B)(hP:Rp w pb B nv xv vs vb)(hW:Ws w g off R)(Z9:some g≠vb):
  Cl 112 #[o' (B' (O pb 0)),l' #[i' (B' (O g off)) len cap,m' n.bu,m' n.does,G n.target,G n.a.var,G n.a.c,m' n.a.word,G n.b.var,G n.b.c,m' n.b.word,G n.ops,m' n.sign,m' n.bB],G 2,G 5,i' (B' (O sb 0)) 4 sc] w λe w'=>∃(m:RN) (X:Option Nat) (c:List bE) (t:Bool),
   e=p' (t' #[l' (aH (i' (B' (O g off)) len cap) m),j' t])/\J (t=(bY x&&bY y&&sl.any (λq=>q.toList==z.toList)))/\J (t=O'->m={n with a:=sL vs x,b:=sL (bP vs x) y,sign:=z,ops:=2}/\c=bP (bP vs x) y)/\Rp w' pb B nv xv c X/\RF pb vb w w'/\gn w vb X:=by
 have ZX:=True.intro;exact adx
def opsL:List z':=[⟨#[43]⟩,⟨#[45]⟩,⟨#[42]⟩,⟨#[47]⟩]
def EO:List z':=[⟨#[60]⟩,⟨#[60,61]⟩,⟨#[61,61]⟩,⟨#[33,61]⟩]
def gw(vs:List bE)(ws:List z'):Option (RN×List bE):=
 match ws with
 |[w0]=>if w0.toList==[114,101,116,117,114,110] then B' (⟨emp,w0,-1,gI,gI,0,emp,emp⟩,vs) else C'
 |[w0,w1]=>if w0.toList==[103,111,116,111] then(if Wm.nm w1 then B' (⟨emp,w0,-1,gI,gI,0,emp,w1⟩,vs) else C') else if w0.toList==[111,117,116,112,117,116] then(if bY w1 then B' (⟨emp,w0,-1,sL vs w1,gI,1,emp,emp⟩,bP vs w1) else C') else C'
 |[w0,w1,w2]=>if Wm.nm w0&&w1.toList==[61] then(if w2.toList==[105,110,112,117,116] then B' (⟨emp,⟨vd⟩,eS vs w0.1.1,gI,gI,0,emp,emp⟩,cB vs w0.1.1) else if bY w2 then B' (⟨emp,⟨#[61]⟩,eS vs w0.1.1,sL (cB vs w0.1.1) w2,gI,1,emp,emp⟩,bP (cB vs w0.1.1) w2) else C') else C'
 |[w0,w1,w2,w3,w4]=>if Wm.nm w0&&w1.toList==[61] then(if bY w2&&bY w4&&opsL.any (λq=>q.toList==w3.toList) then B' (⟨emp,⟨#[61]⟩,eS vs w0.1.1,sL (cB vs w0.1.1) w2,sL (bP (cB vs w0.1.1) w2) w4,2,w3,emp⟩,bP (bP (cB vs w0.1.1) w2) w4) else C') else C'
 |[w0,w1,w2,w3,w4,w5]=>if w0.toList==[105,102]&&w4.toList==[103,111,116,111] then(if Wm.nm w5&&(bY w1&&bY w3&&EO.any (λq=>q.toList==w2.toList)) then B' (⟨emp,w0,-1,sL vs w1,sL (bP vs w1) w3,2,w2,w5⟩,bP (bP vs w1) w3) else C') else C'
 |_=>C'
def i6(w:u')(pb B:Nat)(nv xv wv:A')(vb:Option Nat)(r:Option (RN×List bE))(e:Ending)(w':u'):Prop:=
 ∃(m:RN) (VQ:Option Nat) (Ih:List bE) (ok:Bool),e=p' (t' #[l' (aH wv m),j' ok])/\J (r=if ok then B' (m,Ih) else C')/\Rp w' pb B nv xv Ih VQ/\RF pb vb w w'/\gn w vb VQ
def Rp.drew{B:Nat}{Q y:A'}{E:List bE}(h:Rp w N B Q y E a):Rp w.drew N B Q y E a:=h.uJ rfl (λ_ _=>rfl)
def RF.drew{u:u'}(h:RF N a u w):RF N a u w.drew:=⟨h.os,h.tape,h.output,h.size,h.block⟩
def ZE(N B a:Nat)(q:x')(Q y:A')(E:List bE)(b:Option Nat)(w:u')(hP:Rp w N B Q y E b):
  Cl 69 #[o' (B' (O N 0)),i' q 0 a] w (i6 w N B Q y (i' q 0 a) b (gw E [])):=by
 unfold i6;go_enter func69,ntmps69;go_wp2;refine aC (v:=t' #[l' (aH (i' (q) 0 a) ⟨emp,emp,-1,gI,gI,0,emp,emp⟩),j' P']) (by simp[results69,go_sem,aH,gI,emp]) rfl ⟨⟨emp,emp,-1,gI,gI,0,emp,emp⟩,b,E,P',rfl,rfl,?_,?_,aI rfl⟩
 ·exact(hP.alloc _).alloc _
 exact kd.trans (aI rfl) kd
def adK(N B g t b:Nat)(Q y:A')(E:List bE)(c:Option Nat)(u:z') (w:u')(T:u.size<=3000)(v:B<=δ w.1)(a:N<B)(hP:Rp w N B Q y E c)(j:Ws w g t [u]):
  Cl 69 #[o' (B' (O N 0)),i' (B' (O g t)) 1 b] w (i6 w N B Q y (i' (B' (O g t)) 1 b) c (gw E [u])):=by
 have U:=hP.lt;have k:=hP.Ei;have R:=j.lt;have a:g≠δ w.1:=I;have q:g≠δ w.1+1:=I;have s:δ w.1≠g:=I;have a:δ w.1+1≠g:=I;have a:=j.cell 0 u rfl;rw[gD]at a;have d:J (gw E [u]=if (u.toList==[114,101,116,117,114,110]) then B' (⟨emp,u,-1,gI,gI,0,emp,emp⟩,E) else C'):=by show _=_;rfl
 unfold i6;go_enter func69,ntmps69;go_wp2_with (first|(go_at_call 68;refine F' (km T) ?_))
 go_region_held3 (λa=>χ a (O g t)=B' (m' u)/\χ a (O (δ w.1+1) 0)=B' (i' (B' (O g t)) 1 b)/\χ a (O (δ w.1+1) 1)=B' (m' ⟨#[]⟩)/\χ a (O (δ w.1+1) 2)=B' (m' u)/\χ a (O (δ w.1+1) 3)=B' (G (-1))/\χ a (O (δ w.1+1) 4)=B' (G 0)/\χ a (O (δ w.1+1) 5)=B' (G 0)/\χ a (O (δ w.1+1) 6)=B' (m' ⟨#[]⟩)/\χ a (O (δ w.1+1) 7)=B' (G 0)/\χ a (O (δ w.1+1) 8)=B' (G 0)/\χ a (O (δ w.1+1) 9)=B' (m' ⟨#[]⟩)/\χ a (O (δ w.1+1) 10)=B' (G 0)/\χ a (O (δ w.1+1) 11)=B' (m' ⟨#[]⟩)/\χ a (O (δ w.1+1) 12)=B' (m' ⟨#[]⟩)) (go_keep) (fail)
 go_wp2;refine aC (v:=t' #[l' (aH (i' (B' (O g t)) 1 b) ⟨emp,u,-1,gI,gI,0,emp,emp⟩),j' (u.toList==[114,101,116,117,114,110])]) (by simp[results69,go_sem,aH,gI,emp]) rfl ⟨⟨emp,u,-1,gI,gI,0,emp,emp⟩,c,E,(u.toList==[114,101,116,117,114,110]),rfl,d.o,?_,?_,aI rfl⟩
 ·refine Rp.drew ?_;exact(hP.alloc _).alloc _
 refine RF.drew ?_;exact kd.trans (aI rfl) kd
def RY(N B g t f:Nat)(Q y:A')(E:List bE)(h:Option Nat)(u b:z') (w:u')(T:u.size<=3000)(S:b.size<=3000)(D:(u.toList==[103,111,116,111])=O')(v:B<=δ w.1)(a:N<B)(hP:Rp w N B Q y E h)(j:Ws w g t [u,b]):
  Cl 69 #[o' (B' (O N 0)),i' (B' (O g t)) 2 f] w (i6 w N B Q y (i' (B' (O g t)) 2 f) h (gw E [u,b])):=by
 have U:=hP.lt;have k:=hP.Ei;have R:=j.lt;have a:g≠δ w.1:=I;have q:g≠δ w.1+1:=I;have s:δ w.1≠g:=I;have a:δ w.1+1≠g:=I;have a:=j.cell 0 u rfl;rw[gD]at a;have c:=j.cell 1 b rfl;have d:J (gw E [u,b]=if Wm.nm b then B' (⟨emp,u,-1,gI,gI,0,emp,b⟩,E) else C'):=by show _=_;simp only[gw,D,c!]
 unfold i6;go_enter func69,ntmps69;go_wp2_with (first|(go_at_call_of 68 (m' u);refine F' (km T) ?_)|(go_at_call_of 68 (m' b);refine F' (km S) ?_));refine aC (v:=t' #[l' (aH (i' (B' (O g t)) 2 f) ⟨emp,u,-1,gI,gI,0,emp,b⟩),j' (Wm.nm b)]) (by simp[results69,go_sem,aH,gI,emp]) rfl ⟨⟨emp,u,-1,gI,gI,0,emp,b⟩,h,E,(Wm.nm b),rfl,d.o,?_,?_,aI rfl⟩
 ·exact(hP.alloc _).alloc _
 exact kd.trans (aI rfl) kd
def VZ(N B g t f:Nat)(Q y:A')(E:List bE)(h:Option Nat)(u b:z') (w:u')(T:u.size<=3000)(S:b.size<=3000)(D:(u.toList==[103,111,116,111])=P')(C:(u.toList==[111,117,116,112,117,116])=P')(v:B<=δ w.1)(a:N<B)(hP:Rp w N B Q y E h)(j:Ws w g t [u,b]):
  Cl 69 #[o' (B' (O N 0)),i' (B' (O g t)) 2 f] w (i6 w N B Q y (i' (B' (O g t)) 2 f) h (gw E [u,b])):=by
 have U:=hP.lt;have k:=hP.Ei;have R:=j.lt;have a:g≠δ w.1:=I;have q:g≠δ w.1+1:=I;have s:δ w.1≠g:=I;have a:δ w.1+1≠g:=I;have a:=j.cell 0 u rfl;rw[gD]at a;have c:=j.cell 1 b rfl;have d:J (gw E [u,b]=C'):=by show _=_;simp only[gw,D,C];rfl
 unfold i6;cases V:Wm.nm u
 all_goals
  go_enter func69,ntmps69;go_wp2_with (first|(go_at_call_of 68 (m' u);refine F' (km T) ?_));refine aC (v:=t' #[l' (aH (i' (B' (O g t)) 2 f) ⟨emp,u,-1,gI,gI,0,emp,emp⟩),j' P']) (by simp[results69,go_sem,aH,gI,emp]) rfl ⟨⟨emp,u,-1,gI,gI,0,emp,emp⟩,h,E,P',rfl,d.o,?_,?_,aI rfl⟩
  ·exact(hP.alloc _).alloc _
  exact kd.trans (aI rfl) kd
def QZ(h:p:=by
 unfold i6;go_enter func69,ntmps69;go_wp2_with (first|(go_at_call_of 68 (m' u);refine F' (km T) ?_));refine aC (v:=t' #[l' (aH (i' (B' (O g t)) 3 f) ⟨emp,u,-1,gI,gI,0,emp,emp⟩),j' P']) (by simp[results69,go_sem,aH,gI,emp]) rfl ⟨⟨emp,u,-1,gI,gI,0,emp,emp⟩,h,E,P',rfl,d.o,?_,?_,aI rfl⟩
 ·exact(hP.alloc _).alloc _
 exact kd.trans (aI rfl) kd):p:=h
def R6(N B g t f:Nat)(Q y:A')(E:List bE)(h:Option Nat)(u b W:z') (w:u')(T:u.size<=3000)(S:b.size<=3000)(a:W.size<=3000)(V:Wm.nm u=P')(v:B<=δ w.1)(a:N<B)(hP:Rp w N B Q y E h)(j:Ws w g t [u,b,W]):
  Cl 69 #[o' (B' (O N 0)),i' (B' (O g t)) 3 f] w (i6 w N B Q y (i' (B' (O g t)) 3 f) h (gw E [u,b,W])):=by
 have U:=hP.lt;have k:=hP.Ei;have R:=j.lt;have a:g≠δ w.1:=I;have q:g≠δ w.1+1:=I;have s:δ w.1≠g:=I;have a:δ w.1+1≠g:=I;have a:=j.cell 0 u rfl;rw[gD]at a;have c:=j.cell 1 b rfl;have Y:=j.cell 2 W rfl;have d:J (gw E [u,b,W]=C'):=by show _=_;simp only[gw,V];rfl
 exact QZ
def R5(N B g t f:Nat)(Q y:A')(E:List bE)(h:Option Nat)(u b W:z') (w:u')(T:u.size<=3000)(S:b.size<=3000)(a:W.size<=3000)(V:Wm.nm u=O')(C:(b.toList==[61])=P')(v:B<=δ w.1)(a:N<B)(hP:Rp w N B Q y E h)(j:Ws w g t [u,b,W]):
  Cl 69 #[o' (B' (O N 0)),i' (B' (O g t)) 3 f] w (i6 w N B Q y (i' (B' (O g t)) 3 f) h (gw E [u,b,W])):=by
 have U:=hP.lt;have k:=hP.Ei;have R:=j.lt;have a:g≠δ w.1:=I;have q:g≠δ w.1+1:=I;have s:δ w.1≠g:=I;have a:δ w.1+1≠g:=I;have a:=j.cell 0 u rfl;rw[gD]at a;have c:=j.cell 1 b rfl;have Y:=j.cell 2 W rfl;have d:J (gw E [u,b,W]=C'):=by show _=_;simp only[gw,V,C];rfl
 exact QZ
def adu(h:p:=by
 have U:=hP.lt;have k:=hP.Ei;have R:=hW.lt;have b:g≠δ w.1:=I;have q:g≠δ w.1+1:=I;have s:δ w.1≠g:=I;have b:δ w.1+1≠g:=I;have b:=hW.cell 0 w0 rfl;rw[gD]at b;have c:=hW.cell 1 w1 rfl;have Y:=hW.cell 2 w2 rfl;have E:=hW.cell 3 w3 rfl;have b:=hW.cell 4 w4 rfl;have d:J (gw vs [w0,w1,w2,w3,w4]=C'):=by show _=_;first|(have _:=afc;simp only[gw,W?,h1];rfl)|(simp only[gw,W?];rfl)
 unfold i6;go_enter func69,ntmps69;go_wp2_with (first|(go_at_call_of 68 (m' w0);refine F' (km WY) ?_));refine aC (v:=t' #[l' (aH (i' (B' (O g off)) 5 cap) ⟨emp,w0,-1,gI,gI,0,emp,emp⟩),j' P']) (by simp[results69,go_sem,aH,gI,emp]) rfl ⟨⟨emp,w0,-1,gI,gI,0,emp,emp⟩,vb,vs,P',rfl,d.o,?_,?_,aI rfl⟩
 ·exact(hP.alloc _).alloc _
 exact kd.trans (aI rfl) kd):p:=h
def R4(N B g off cap:Nat)(Q y:A')(vs:List bE)(vb:Option Nat)(w0 w1 w2 w3 w4:z') (w:u')(WY:w0.size<=3000)(S:w1.size<=3000)(a:w2.size<=3000)(z:w3.size<=3000)(P:w4.size<=3000)(W?:Wm.nm w0=P')(v:B<=δ w.1)(a:N<B)(hP:Rp w N B Q y vs vb)(hW:Ws w g off [w0,w1,w2,w3,w4]):
  Cl 69 #[o' (B' (O N 0)),i' (B' (O g off)) 5 cap] w (i6 w N B Q y (i' (B' (O g off)) 5 cap) vb (gw vs [w0,w1,w2,w3,w4])):=by
 exact adu
def R3(N B g off cap:Nat)(Q y:A')(vs:List bE)(vb:Option Nat)(w0 w1 w2 w3 w4:z') (w:u')(WY:w0.size<=3000)(S:w1.size<=3000)(a:w2.size<=3000)(z:w3.size<=3000)(P:w4.size<=3000)(W?:Wm.nm w0=O')(h1:(w1.toList==[61])=P')(v:B<=δ w.1)(a:N<B)(hP:Rp w N B Q y vs vb)(hW:Ws w g off [w0,w1,w2,w3,w4]):
  Cl 69 #[o' (B' (O N 0)),i' (B' (O g off)) 5 cap] w (i6 w N B Q y (i' (B' (O g off)) 5 cap) vb (gw vs [w0,w1,w2,w3,w4])):=by
 have afc:=True.intro;exact adu
def adv(h:p:=by
 have U:=hP.lt;have k:=hP.Ei;have R:=hW.lt;have c:g≠δ w.1:=I;have q:g≠δ w.1+1:=I;have s:δ w.1≠g:=I;have c:δ w.1+1≠g:=I;have c:=hW.cell 0 w0 rfl;rw[gD]at c;have c:=hW.cell 1 w1 rfl;have Y:=hW.cell 2 w2 rfl;have E:=hW.cell 3 w3 rfl;have c:=hW.cell 4 w4 rfl;have C:=hW.cell 5 w5 rfl;have d:J (gw vs [w0,w1,w2,w3,w4,w5]=C'):=by show _=_;first|(have _:=afd;simp only[gw,h0,h4];rfl)|(simp only[gw,h0];rfl)
 unfold i6;cases V:Wm.nm w0
 all_goals
  go_enter func69,ntmps69;go_wp2_with (first|(go_at_call_of 68 (m' w0);refine F' (km WY) ?_));refine aC (v:=t' #[l' (aH (i' (B' (O g off)) 6 cap) ⟨emp,w0,-1,gI,gI,0,emp,emp⟩),j' P']) (by simp[results69,go_sem,aH,gI,emp]) rfl ⟨⟨emp,w0,-1,gI,gI,0,emp,emp⟩,vb,vs,P',rfl,d.o,?_,?_,aI rfl⟩
  ·exact(hP.alloc _).alloc _
  exact kd.trans (aI rfl) kd):p:=h
def R2(N B g off cap:Nat)(Q y:A')(vs:List bE)(vb:Option Nat)(w0 w1 w2 w3 w4 w5:z') (w:u')(WY:w0.size<=3000)(S:w1.size<=3000)(a:w2.size<=3000)(z:w3.size<=3000)(P:w4.size<=3000)(b:w5.size<=3000)(h0:(w0.toList==[105,102])=P')(v:B<=δ w.1)(a:N<B)(hP:Rp w N B Q y vs vb)(hW:Ws w g off [w0,w1,w2,w3,w4,w5]):
  Cl 69 #[o' (B' (O N 0)),i' (B' (O g off)) 6 cap] w (i6 w N B Q y (i' (B' (O g off)) 6 cap) vb (gw vs [w0,w1,w2,w3,w4,w5])):=by
 exact adv
def R1(N B g off cap:Nat)(Q y:A')(vs:List bE)(vb:Option Nat)(w0 w1 w2 w3 w4 w5:z') (w:u')(WY:w0.size<=3000)(S:w1.size<=3000)(a:w2.size<=3000)(z:w3.size<=3000)(P:w4.size<=3000)(b:w5.size<=3000)(h0:(w0.toList==[105,102])=O')(h4:(w4.toList==[103,111,116,111])=P')(v:B<=δ w.1)(a:N<B)(hP:Rp w N B Q y vs vb)(hW:Ws w g off [w0,w1,w2,w3,w4,w5]):
  Cl 69 #[o' (B' (O N 0)),i' (B' (O g off)) 6 cap] w (i6 w N B Q y (i' (B' (O g off)) 6 cap) vb (gw vs [w0,w1,w2,w3,w4,w5])):=by
 have afd:=True.intro;exact adv
def E?(N B g t h:Nat)(Q y:A')(E:List bE)(i:Option Nat)(u:z')(c:Nat)(R:List z')(w:u')(T:u.size<=3000)(X:c<=3001)(F:R[0]?=B' u)(e:gw E R=C')(U:((c:Int)==0)=P')(b:(0:Int)<c)(a:((c:Int)==1)=P')(k:((c:Int)==2)=P')(f:((c:Int)==3)=P')(P:((c:Int)==5)=P')(K:((c:Int)==6)=P')(v:B<=δ w.1)(a:N<B)(hP:Rp w N B Q y E i)(j:Ws w g t R):
  Cl 69 (j! N g t c h) w (i6 w N B Q y (oY g t c h) i (gw E R)):=by
 have U:=hP.lt;have k:=hP.Ei;have a:=j.lt;have a:g≠δ w.1:=I;have q:g≠δ w.1+1:=I;have s:δ w.1≠g:=I;have a:δ w.1+1≠g:=I;have a:=j.cell 0 u F;rw[gD]at a;have d:J (gw E R=C'):=by show _=_;exact e
 unfold i6;clear e;cases V:Wm.nm u
 all_goals
  go_enter func69,ntmps69;go_wp2_with (first|(go_at_call_of 68 (m' u);refine F' (km T) ?_));refine aC (v:=t' #[l' (aH (oY g t c h) ⟨emp,u,-1,gI,gI,0,emp,emp⟩),j' P']) (by simp[results69,go_sem,aH,gI,emp]) rfl ⟨⟨emp,u,-1,gI,gI,0,emp,emp⟩,i,E,P',rfl,d.o,?_,?_,aI rfl⟩
  ·exact(hP.alloc _).alloc _
  exact kd.trans (aI rfl) kd
def gn.dm{o:Obj}{X:Option Nat}(h:gn (w.alloc o) a X):gn w a X:=by
 rcases h with h|⟨q,h,a⟩
 ·exact aI h
 exact aK ⟨q,h,by simp at a;omega⟩
def RF.snoc{u:u'}(h:RF N a u w)(o:Obj):RF N a u (w.alloc o):=h.trans (aI rfl) kd
def me{B:Nat}{Q y:A'}{E:List bE}(h:Rp w N B Q y E a){k:Nat}(b:δ w.1<=k):some k≠a:=by intro e;have:=h.Ei _ e.symm;omega
def VY(N B g t P:Nat)(Q y:A')(E:List bE)(f:Option Nat)(u b:z') (w:u')(T:u.size<=3000)(S:b.size<=3000)(K:ζ E<20000)(D:(u.toList==[103,111,116,111])=P')(C:(u.toList==[111,117,116,112,117,116])=O')(v:B<=δ w.1)(a:N<B)(hP:Rp w N B Q y E f)(j:Ws w g t [u,b])(h:some g≠f):
  Cl 69 #[o' (B' (O N 0)),i' (B' (O g t)) 2 P] w (i6 w N B Q y (i' (B' (O g t)) 2 P) f (gw E [u,b])):=by
 have U:=hP.lt;have k:=hP.Ei;have R:=j.lt;have c:g≠δ w.1:=I;have q:g≠δ w.1+1:=I;have s:δ w.1≠g:=I;have c:δ w.1+1≠g:=I;have c:=j.cell 0 u rfl;rw[gD]at c;have c:=j.cell 1 b rfl;have d:J (gw E [u,b]=if bY b then B' (⟨emp,u,-1,sL E b,gI,1,emp,emp⟩,bP E b) else C'):=by show _=_;simp only[gw,D,C,c!];rfl
 cases V:Wm.nm u
 all_goals
  go_enter func69,ntmps69;go_wp2_with (first|(go_at_call_of 68 (m' u);refine F' (km T) ?_));refine(Rx N B g t 2 P Q y _ E f [u,b] b ⟨⟨#[]⟩,u,-1,⟨0,0,⟨#[]⟩⟩,⟨0,0,⟨#[]⟩⟩,0,⟨#[]⟩,⟨#[]⟩⟩ _ rfl aj S K H' a ((hP.alloc _).alloc _) ((j.alloc _).alloc _) h).mono ?_;rintro e o ⟨m,L,rfl,r,x,u,a⟩;have l:o.1[δ w.1]?=B' _:=lf u (bL w _ _).1 I (me hP aF);have F:=M l;have f:=(aY.1 l).1;have N:δ w.1≠δ o.1:=I;have p:δ o.1≠δ w.1:=I;have z:=a.ne H' (me hP aF);have i:=u.dm.dm;have c:=a.dm.dm;clear l u a;simp only[aH];go_wp2;refine aC (v:=t' #[l' (aH (i' (B' (O g t)) 2 P) m),j' (bY b)]) (by simp[results69,go_sem,aH,F.1,f]) rfl ?_;unfold i6;refine⟨m,L,bP E b,(bY b),rfl,(by show _=_;rw[d.o];cases h:bY b with|false=>rfl|true=>rw[r.o h];rfl),?_,?_,c⟩
  ·repeat(first|with_reducible refine Rp.drew ?_|with_reducible refine Rp.alloc ?_ _|with_reducible refine Rp.set ?_ H' (I' z) _)
   exact x
  repeat(first|with_reducible refine RF.drew ?_|with_reducible refine RF.snoc ?_ _|with_reducible refine RF.set ?_ ak _)
  exact i
def Qx(w:u')(l:List z')(a:Array A')(k:Nat)(b:k=δ w.1)(c:a.toList=l.map m'):Ws (w.alloc (k' a 9)) k 0 l:=by subst b;refine⟨_,bV,?_⟩;rw[AO,c,cH ak]
def QY(h:p:=by
 repeat(first|with_reducible refine Rp.drew ?_|with_reducible refine Rp.alloc ?_ _|with_reducible refine Rp.set ?_ H' (by first|simpa using s|simpa using c) _)
 exact x):p:=h
def QX(h:p:=by
 repeat(first|with_reducible refine RF.drew ?_|with_reducible refine RF.snoc ?_ _|with_reducible refine RF.set ?_ ak _)
 exact i):p:=h
def aa2(N B g t cap:Nat)(Q y:A')(E:List bE)(f:Option Nat)(u b W i Y p:z') (w:u')(T:u.size<=3000)(S:b.size<=3000)(a:W.size<=3000)(z:i.size<=3000)(P:Y.size<=3000)(l:p.size<=3000)(K:ζ E+1<20000)(D:(u.toList==[105,102])=O')(e:(Y.toList==[103,111,116,111])=O')(v:B<=δ w.1)(a:N<B)(hP:Rp w N B Q y E f)(j:Ws w g t [u,b,W,i,Y,p])(h:some g≠f):
  Cl 69 #[o' (B' (O N 0)),i' (B' (O g t)) 6 cap] w (i6 w N B Q y (i' (B' (O g t)) 6 cap) f (gw E [u,b,W,i,Y,p])):=by
 have U:=hP.lt;have k:=hP.Ei;have R:=j.lt;have c:g≠δ w.1:=I;have q:g≠δ w.1+1:=I;have s:δ w.1≠g:=I;have c:δ w.1+1≠g:=I;have c:=j.cell 0 u rfl;rw[gD]at c;have c:=j.cell 1 b rfl;have c:=j.cell 2 W rfl;have c:=j.cell 3 i rfl;have c:=j.cell 4 Y rfl;have C:=j.cell 5 p rfl;have d:J (gw E [u,b,W,i,Y,p]=if Wm.nm p&&(bY b&&bY i&&EO.any (λq=>q.toList==W.toList)) then B' (⟨emp,u,-1,sL E b,sL (bP E b) i,2,W,p⟩,bP (bP E b) i) else C'):=by show _=_;simp only[gw,D,e,ua,c!]
 cases V:Wm.nm u
 all_goals
  go_enter func69,ntmps69;go_wp2_with (first|(go_at_call_of 68 (m' u);refine F' (km T) ?_)|(go_at_call_of 68 (m' p);refine F' (km l) ?_));refine(Jm N B g t 6 cap Q y E f [u,b,W,i,Y,p] b W i (δ w.1+1+1) 4 EO ⟨⟨#[]⟩,u,-1,⟨0,0,⟨#[]⟩⟩,⟨0,0,⟨#[]⟩⟩,0,⟨#[]⟩,p⟩ _ rfl rfl rfl aj aj aj S z K rfl (Qx _ EO _ _ ak rfl) (me hP I) H' a (((hP.alloc _).alloc _).alloc _) (((j.alloc _).alloc _).alloc _) h).mono ?_;rintro e o ⟨m,L,a,h,rfl,f,r,x,u,e⟩;have l:o.1[δ w.1]?=B' _:=lf u (fK (bL w _ _).1 _) I (me hP aF);have F:=M l;have D:=(aY.1 l).1;have X:δ w.1≠δ o.1:=I;have T:δ o.1≠δ w.1:=I;have s:=e.ne H' (me hP aF);have c:some w.1.size≠L:=s;have i:=u.dm.dm.dm;have b:=e.dm.dm.dm;clear l u e;simp only[aH];cases v:Wm.nm p
  case false=>
   go_wp2;refine aC (v:=t' #[l' (aH (i' (B' (O g t)) 6 cap) m),j' P']) (by simp[results69,go_sem,aH,gI,emp,F.1,D]) rfl ?_;unfold i6;refine⟨m,L,a,P',rfl,(by show _=_;rw[d.o,v];rfl),?_,?_,b⟩
   ·exact QY
   exact QX
  go_wp2;refine aC (v:=t' #[l' (aH (i' (B' (O g t)) 6 cap) m),j' h]) (by simp[results69,go_sem,aH,gI,emp,F.1,D]) rfl ?_;unfold i6;refine⟨m,L,a,h,rfl,(by show _=_;rw[d.o,v,<-f.o];cases h with|false=>rfl|true=>rw[(r.o rfl).1,(r.o rfl).2];rfl),?_,?_,b⟩
  ·exact QY
  exact QX
def aaB {p:Prop} (h:p:=by
  have U:=hP.lt;have k:=hP.Ei;have R:=hW.lt;have a:g≠δ w.1:=I;have Q:g≠δ w.1+1:=I;have s:δ w.1≠g:=I;have a:δ w.1+1≠g:=I;have a:=hW.cell 0 w0 rfl;rw[gD]at a;have c:=hW.cell 1 w1 rfl;have Y:=hW.cell 2 w2 rfl
  first
    |(
       have _:=yK;have d:J (gw vs [w0,w1,w2]=B' (⟨emp,⟨vd⟩,eS vs w0.1.1,gI,gI,0,emp,emp⟩,cB vs w0.1.1)):=by
         show _=_
         simp only[gw,W?,h1,h2];rfl)
    |(first
         | have _:=Gq
           have E:=hW.cell 3 w3 rfl;have y:=hW.cell 4 w4 rfl;have d:J (gw vs [w0,w1,w2,w3,w4]=if bY w2&&bY w4&&opsL.any (λq=>q.toList==w3.toList) then B' (⟨emp,⟨#[61]⟩,eS vs w0.1.1,sL (cB vs w0.1.1) w2,sL (bP (cB vs w0.1.1) w2) w4,2,w3,emp⟩,bP (bP (cB vs w0.1.1) w2) w4) else C'):=by show _=_;simp only[gw,W?,h1,ua,c!]
         |have d:J (gw vs [w0,w1,w2]=if bY w2 then B' (⟨emp,⟨#[61]⟩,eS vs w0.1.1,sL (cB vs w0.1.1) w2,gI,1,emp,emp⟩,bP (cB vs w0.1.1) w2) else C'):=by
             show _=_
             simp only[gw,W?,h1,h2];rfl)
  go_enter func69,ntmps69;go_wp2_with (first|(go_at_call_of 68 (m' w0);refine(km WY).mono ?_;rintro e a ⟨rfl,rfl⟩))
  first|(have _:=yK;refine(JC w0 pb B nv xv vs vb _ hn H' Pv ((hP.alloc _).alloc _)).mono ?_)|(refine(JC w0 pb B nv xv vs vb _ I H' Pv ((hP.alloc _).alloc _)).mono ?_)
  rintro e o ⟨rfl,L,x,u,k⟩;have l:o.1[δ w.1]?=B' _:=lf u (bL w _ _).1 I (me hP aF);have X:o.1[δ w.1+1]?=B' _:=lf u (bL w _ _).2 I (me hP I);have F:=M l;have R:=M X;have P:δ w.1+1<δ o.1:=(aY.1 X).1;have D:δ w.1<δ o.1:=I;have a:δ w.1≠δ o.1:=I;have T:δ o.1≠δ w.1:=I;have a:δ w.1+1≠δ o.1:=I;have W:δ o.1≠δ w.1+1:=I;have s:some w.1.size≠L:=k.ne H' (me hP aF);have E:some (δ w.1+1)≠L:=k.ne ak (me hP I);have i:=u.dm.dm;have c:=k.dm.dm
  first|(have _:=yK;clear l X u k)|skip
  go_wp2_with fail
  first
    |(
       have _:=yK
       refine aC (v:=t' #[l' (aH (i' (B' (O g off)) 3 cap) ⟨emp,⟨vd⟩,eS vs w0.1.1,gI,gI,0,emp,emp⟩),j' O']) (by simp[results69,go_sem,aH,gI,emp,F.1,D]) rfl ?_)
    |(
       first|(have _:=Gq;(have j:ζ (cB vs w0.1.1)+1<20000:=J' (kO vs w0.1.1));have a:Ws o g off [w0,w1,w2,w3,w4]:=((hW.alloc _).alloc _).rf ((hP.alloc _).alloc _) Z9 u)|((have j:ζ (cB vs w0.1.1)<20000:=J' (kO vs w0.1.1));have a:Ws o g off [w0,w1,w2]:=((hW.alloc _).alloc _).rf ((hP.alloc _).alloc _) Z9 u)
       have K:some g≠L:=k.ne H' Z9
       first|(have _:=Gq;refine(Jl pb B g off 5 cap nv xv (cB vs w0.1.1) L [w0,w1,w2,w3,w4] w2 w3 w4 o.1.size 4 opsL ⟨⟨#[]⟩,⟨#[61]⟩,eS vs w0.1.1,⟨0,0,⟨#[]⟩⟩,⟨0,0,⟨#[]⟩⟩,0,⟨#[]⟩,⟨#[]⟩⟩ _ rfl rfl rfl aj aj aj KX hs4 j rfl (Qx _ opsL _ _ ak rfl) (me x aF) H' Pv ((x.set H' (by simpa using E) _).alloc _) ((a.set (by simpa using Q) _).alloc _) K).mono ?_;rintro e C ⟨m,y,P,t,rfl,f,r,N,b,D⟩)|(refine(Rw pb B g off 3 cap nv xv _ (cB vs w0.1.1) L [w0,w1,w2] w2 ⟨⟨#[]⟩,⟨#[61]⟩,eS vs w0.1.1,⟨0,0,⟨#[]⟩⟩,⟨0,0,⟨#[]⟩⟩,0,⟨#[]⟩,⟨#[]⟩⟩ _ rfl aj KX j H' Pv ((x.set H' (by simpa using E) _).alloc _) ((a.set (by simpa using Q) _).alloc _) K).mono ?_;rintro e C ⟨m,y,rfl,r,N,b,D⟩)
       have e:C.1[δ w.1]?=B' _:=lf b (fK ((aJ ak).trans l) _) I s;clear l X F R;have F:=M e;have V:δ w.1<δ C.1:=(aY.1 e).1;have j:δ w.1≠δ C.1:=I;have a:δ C.1≠δ w.1:=I
       have a:gn w vb y:=c.trans I (v:=o) (by rcases D with h|⟨q,h,j⟩;exact aI h;exact aK ⟨q,h,by simp at j;omega⟩);have s:some w.1.size≠y:=D.ne H' s;have Q:RF pb vb w C:=by
         refine RF.trans ?_ c b
         with_reducible refine RF.snoc ?_ _
         with_reducible refine RF.set ?_ ak _
         exact i
       clear e b D u k c i;simp only[aH];go_wp2_with fail
       first|(have _:=Gq;refine aC (v:=t' #[l' (aH (i' (B' (O g off)) 5 cap) m),j' t]) (by simp[results69,go_sem,aH,gI,emp,F.1,V]) rfl ?_)|(refine aC (v:=t' #[l' (aH (i' (B' (O g off)) 3 cap) m),j' (bY w2)]) (by simp[results69,go_sem,aH,gI,emp,F.1,V]) rfl ?_))
  unfold i6
  first|(have _:=yK;refine⟨⟨emp,⟨vd⟩,eS vs w0.1.1,gI,gI,0,emp,emp⟩,L,cB vs w0.1.1,O',rfl,d.o,?_,?_,c⟩)|((first|(have _:=Gq;refine⟨m,y,P,t,rfl,(by show _=_;rw[d.o,<-f.o];cases t with|false=>rfl|true=>rw[(r.o rfl).1,(r.o rfl).2];rfl),?_,?_,a⟩)|(refine⟨m,y,bP (cB vs w0.1.1) w2,(bY w2),rfl,(by show _=_;rw[d.o];cases h:bY w2 with|false=>rfl|true=>rw[r.o h];rfl),?_,?_,a⟩)))
  · repeat(first|with_reducible refine Rp.drew ?_|with_reducible refine Rp.alloc ?_ _|with_reducible refine Rp.set ?_ H' (by first|simpa using s|simpa using E) _)
    first|(have _:=yK;exact x)|(exact N)
  repeat(first|with_reducible refine RF.drew ?_|with_reducible refine RF.snoc ?_ _|with_reducible refine RF.set ?_ ak _)
  first|(have _:=yK;exact i)|(exact Q)):p:=h
def RZ(pb B g off cap:Nat)(nv xv:A')(vs:List bE)(vb:Option Nat)(w0 w1 w2:z') (w:u')(WY:w0.size<=3000)(S:w1.size<=3000)(KX:w2.size<=3000)(hn:ζ vs+1<20000)(W?:Wm.nm w0=O')(h1:(w1.toList==[61])=O')(h2:(w2.toList==[105,110,112,117,116])=P')(v:B<=δ w.1)(Pv:pb<B)(hP:Rp w pb B nv xv vs vb)(hW:Ws w g off [w0,w1,w2])(Z9 : some g≠vb):
  Cl 69 #[o' (B' (O pb 0)),i' (B' (O g off)) 3 cap] w (i6 w pb B nv xv (i' (B' (O g off)) 3 cap) vb (gw vs [w0,w1,w2])):=by
 exact aaB
def aa1(pb B g off cap:Nat)(nv xv:A')(vs:List bE)(vb:Option Nat)(w0 w1 w2:z') (w:u')(WY:w0.size<=3000)(S:w1.size<=3000)(KX:w2.size<=3000)(hn:ζ vs<20000)(W?:Wm.nm w0=O')(h1:(w1.toList==[61])=O')(h2:(w2.toList==[105,110,112,117,116])=O')(v:B<=δ w.1)(Pv:pb<B)(hP:Rp w pb B nv xv vs vb)(hW:Ws w g off [w0,w1,w2])(Z9:some g≠vb):
  Cl 69 #[o' (B' (O pb 0)),i' (B' (O g off)) 3 cap] w (i6 w pb B nv xv (i' (B' (O g off)) 3 cap) vb (gw vs [w0,w1,w2])):=by
 have yK:=True.intro;exact aaB
def R0(pb B g off cap:Nat)(nv xv:A')(vs:List bE)(vb:Option Nat)(w0 w1 w2 w3 w4:z') (w:u')(WY:w0.size<=3000)(S:w1.size<=3000)(KX:w2.size<=3000)(z:w3.size<=3000)(hs4:w4.size<=3000)(hn:ζ vs+2<20000)(W?:Wm.nm w0=O')(h1:(w1.toList==[61])=O')(v:B<=δ w.1)(Pv:pb<B)(hP:Rp w pb B nv xv vs vb)(hW:Ws w g off [w0,w1,w2,w3,w4])(Z9:some g≠vb):
  Cl 69 #[o' (B' (O pb 0)),i' (B' (O g off)) 5 cap] w (i6 w pb B nv xv (i' (B' (O g off)) 5 cap) vb (gw vs [w0,w1,w2,w3,w4])):=by
 have Gq:=True.intro;exact aaB
section
variable {s:z'} {E:List bE} {R:List z'}
def Mc(N B g t e:Nat)(Q y:A')(E:List bE)(j:Option Nat)(R:List z')(w:u')(f:vO R)(K:ζ E+3<20000)(v:B<=δ w.1)(a:N<B)(hP:Rp w N B Q y E j)(hW:Ws w g t R)(h:some g≠j):
  Cl 69 (j! N g t (ζ R) e) w (i6 w N B Q y (oY g t (ζ R) e) j (gw E R)):=by
 match R,f,hW with
 |[],_,_=>exact ZE N B e _ Q y E j w hP
 |[u],f,hW=>exact adK N B g t e Q y E j u w (f.word u ak) v a hP hW
 | [u,b],f,hW=>
  have c:=f.word u ak;have U:=f.word b ak;cases D:(u.toList==[103,111,116,111])with
  |true=>exact RY N B g t e Q y E j u b w c U D v a hP hW
  |false=>
   cases C:(u.toList==[111,117,116,112,117,116])with
   |true=>exact VY N B g t e Q y E j u b w c U I D C v a hP hW h
   |false=>exact VZ N B g t e Q y E j u b w c U D C v a hP hW
 | [u,b,W],f,hW=>
  have c:=f.word u ak;have U:=f.word b ak;have k:=f.word W ak;cases V:Wm.nm u with
  |false=>exact R6 N B g t e Q y E j u b W w c U k V v a hP hW
  |true=>
   cases C:(b.toList==[61])with
   |false=>exact R5 N B g t e Q y E j u b W w c U k V C v a hP hW
   |true=>
    cases d:(W.toList==[105,110,112,117,116])with
    |true=>exact aa1 N B g t e Q y E j u b W w c U k I V C d v a hP hW h
    |false=>exact RZ N B g t e Q y E j u b W w c U k I V C d v a hP hW h
 | [u,b,W,i,Y],f,hW=>
  have c:=f.word u ak;have U:=f.word b ak;have k:=f.word W ak;have S:=f.word i ak;have P:=f.word Y ak;cases V:Wm.nm u with
  |false=>exact R4 N B g t e Q y E j u b W i Y w c U k S P V v a hP hW
  |true=>
   cases C:(b.toList==[61])with
   |false=>exact R3 N B g t e Q y E j u b W i Y w c U k S P V C v a hP hW
   |true=>exact R0 N B g t e Q y E j u b W i Y w c U k S P I V C v a hP hW h
 | [u,b,W,i,Y,p],f,hW=>
  have c:=f.word u ak;have U:=f.word b ak;have k:=f.word W ak;have S:=f.word i ak;have P:=f.word Y ak;have K:=f.word p ak;cases D:(u.toList==[105,102])with
  |false=>exact R2 N B g t e Q y E j u b W i Y p w c U k S P K D v a hP hW
  |true=>
   cases d:(Y.toList==[103,111,116,111])with
   |false=>exact R1 N B g t e Q y E j u b W i Y p w c U k S P K D d v a hP hW
   |true=>exact aa2 N B g t e Q y E j u b W i Y p w c U k S P K I D d v a hP hW h
 |[u,b,W,i],f,hW=>exact E? N B g t e Q y E j u _ _ w (f.word u ak) f.len rfl rfl ak ak ak ak ak ak ak v a hP hW
 |u::b::W::i::Y::p::c::r,f,hW=>have X:ζ (u::b::W::i::Y::p::c::r)=ζ r+7:=ak;refine E? N B g t e Q y E j u _ _ w (f.word u ak) f.len rfl rfl ?_ ?_ ?_ ?_ ?_ ?_ ?_ v a hP hW;all_goals(rw[X];first|(rw[b?];omega)|omega)
def fQ(r:RO)(o:lU):Prop:=if o.aS then r.var=o.var/\0<=o.var else r.var=-1/\r.c=o.cq
def zn(k:Int):z':=if k=0\/k=1 then⟨#[61]⟩ else if k=2 then⟨vd⟩ else if k=3 then⟨#[111,117,116,112,117,116]⟩ else if k=4 then⟨#[105,102]⟩ else if k=5 then⟨#[103,111,116,111]⟩ else⟨#[114,101,116,117,114,110]⟩
structure tV(m:RN)(n:SN):Prop where
  bB:m.bB=n.bB
  aG:0<=n.aG/\n.aG<=6
  does:m.does=zn n.aG
  target:m.target=if n.aG<=2 then n.var else -1
  var:n.aG<=2->0<=n.var
  a:n.aG=0\/n.aG=1\/n.aG=3\/n.aG=4->fQ m.a n.a
  b:n.aG=1\/n.aG=4->fQ m.b n.b
  ops:m.ops=if n.aG=0\/n.aG=3 then 1 else if n.aG=1\/n.aG=4 then 2 else 0
  op:n.aG=1->n.op=Wm.tZ m.sign.1.1/\Wm.wC m.sign.1.1=O'
  test:n.aG=4->n.test=Wm.uw m.sign.1.1/\Wm.xA m.sign.1.1=O'
  bu:m.bu=emp
  gnm:n.aG=4\/n.aG=5->Wm.nm n.bB=O'
  gno:n.aG≠4->n.aG≠5->n.bB=emp
def p4(E:List bE)(s:z')(h:bY s=O'):fQ (sL E s) (oI E s):=by
 unfold fQ sL oI;cases K:Wm.nm s with
 |true=>rw[SM s K];simp[pV]
 |false=>
  have T:jd s.1.1=O':=by unfold bY at h;rw[K]at h;simpa using h
  simp[T]
def Nz(i:z'):opsL.any (λq=>q.toList==i.toList)=Wm.wC i.1.1:=by rw[dp i];simp only[opsL,q?,any_nil,Wm.wC,dp,wZ];rw[en [43],en [45],en [42],en [47]];simp[q9]
def Ny(i:z'):EO.any (λq=>q.toList==i.toList)=Wm.xA i.1.1:=by rw[dp i];simp only[EO,q?,any_nil,Wm.xA,dp,wZ];rw[en [60],en [60,61],en [61,61],en [33,61]];simp[q9]
def WR{a:Array UInt8}(h:(s.toList==a.toList)=O'):s=⟨a⟩:=by rw[bT,dp]at h;exact data_inj h
def wF(l:y')(X:Wm.SU l=P')(h:Wm.nm s=O'):(s.toList==l)=P':=by rw[b?,dp];intro e;unfold Wm.nm at h;rw[e,X]at h;cases h
structure pO(vs:List bE)(ws:List z'):Prop where
  no:gw vs ws=C'->(ix vs ws).2.1=P'
  yes:∀m Ih,gw vs ws=B' (m,Ih)->(ix vs ws).2.1=O'/\(ix vs ws).2.2=Ih/\tV m (ix vs ws).1
def kp(h:gw E R=C')(a:(ix E R).2.1=P'):pO E R:=
 ⟨λ_=>a,λm a e=>by rw[h]at e;cases e⟩
def nt{b:Bool}{m:RN}{a:List bE}(h:gw E R=if b then B' (m,a) else C')(d:(ix E R).2.1=b)(N:b=O'->(ix E R).2.2=a/\tV m (ix E R).1):pO E R:=by
 cases b with
 |false=>exact kp h d
 |true=>
  refine⟨λe=>?_,λc a e=>?_⟩
  ·rw[h]at e;cases e
  rw[h]at e;cases e;exact⟨d,N rfl⟩
def sF(E:List bE)(u:z')(r:List z')(h:Wm.nm u=O'):ix E (u::r)=fB E (u::r):=by unfold ix;simp only;rw[wF [111,117,116,112,117,116] aj h,wF [105,102] aj h,wF [103,111,116,111] aj h,wF [114,101,116,117,114,110] aj h];rfl
def acY(E:List bE)(u:z')(r:List z')(h:Wm.nm u=P'):fB E (u::r)=gJ E:=by
 unfold fB;split
 ·rename_i e;cases e;rw[h];rfl
 rfl
def F1(E:List bE)(R:List z')(h:ζ R≠2):pw E R=gJ E:=by
 unfold pw;split
 ·simp at h
 rfl
def BZ(E:List bE)(R:List z')(h:ζ R≠2):j2 E R=gJ E:=by
 unfold j2;split
 ·simp at h
 rfl
def Jo(E:List bE)(u:z')(r:List z')(C:ζ (u::r)≠1)(a:ζ (u::r)≠2)(N:(zT E (u::r)).2.1=P'\/(u.toList==[105,102])=P')(d:(fB E (u::r)).2.1=P'):(ix E (u::r)).2.1=P':=by
 unfold ix;simp only;split
 ·rw[F1 E _ a];rfl
 split
 ·rename_i h;rcases N with N|N
  ·exact N
  rw[N]at h;cases h
 split
 ·rw[BZ E _ a];rfl
 split
 ·simp only[cC]at C;simp only;rw[b?];omega
 exact d
def tC{l:y'}(h:(s.toList==l)=O'):s.toList=l:=I' h
def Dw{l:y'}(h:(s.toList==l)=O'):s=⟨θ l⟩:=WR (a:=θ l) h
def aaZ(E:List bE)(u:z'):pO E [u]:=by
 refine nt (b:=(u.toList==[114,101,116,117,114,110])) rfl ?_ ?_;rotate_left
 ·intro h;have y:ix E [u]=(⟨6,0,0,0,o0,o0,emp⟩,O',E):=by simp[ix,tC h]
  rw[y];exact⟨rfl,⟨rfl,ak,Dw h,rfl,ak,ak,ak,rfl,ak,ak,rfl,ak,λ_ _=>rfl⟩⟩
 cases h:(u.toList==[114,101,116,117,114,110])with
 |true=>simp[ix,tC h]
 |false=>
  simp only[ix,h];rw[F1 E _ ak,yV E _ ak,BZ E _ ak];split;· rfl
  split;· rfl
  split;· rfl
  rfl
def aaY(E:List bE)(u b:z'):pO E [u,b]:=by
 cases D:(u.toList==[103,111,116,111])with
 |true=>
  have y:ix E [u,b]=(⟨5,0,0,0,o0,o0,b⟩,Wm.nm b,E):=by simp[ix,tC D,j2]
  refine nt (b:=Wm.nm b) (by simp only[gw,D,c!];rfl) (by rw[y]) ?_;intro K;rw[y];exact⟨rfl,⟨rfl,ak,Dw D,rfl,ak,ak,ak,rfl,ak,ak,rfl,λ_=>K,ak⟩⟩
 |false=>
  cases C:(u.toList==[111,117,116,112,117,116])with
  |true=>
   have y:ix E [u,b]=(⟨3,0,0,0,oI E b,o0,emp⟩,bY b,bP E b):=by simp[ix,tC C,pw]
   refine nt (b:=bY b) (by simp only[gw,D,C,c!];rfl) (by rw[y]) ?_;intro K;rw[y];exact⟨rfl,⟨rfl,ak,Dw C,rfl,ak,λ_=>p4 E b K,ak,rfl,ak,ak,rfl,ak,λ_ _=>rfl⟩⟩
  |false=>
   refine kp (by simp only[gw,D,C];rfl) ?_;simp only[ix,D,C];simp only[bO,bU];split
   ·rw[yV E _ ak];rfl
   split
   ·rfl
   rfl
def QW(h:p:=by
 refine kp (by simp only[gw,V];rfl) (Jo E u _ ak ak (aI (by rw[yV E _ ak];rfl)) ?_)
 rw[acY E u _ V];rfl):p:=h
def aaX(E:List bE)(u b W:z'):pO E [u,b,W]:=by
 cases V:Wm.nm u with
 |false=>exact QW
 |true=>
  cases C:(b.toList==[61])with
  |false=>refine kp (by simp only[gw,V,C];rfl) ?_;rw[sF E u _ V];simp only[fB,V,C];rfl
  |true=>
   cases a:(W.toList==[105,110,112,117,116])with
   |true=>
    have y:ix E [u,b,W]=(⟨2,eS E u.1.1,0,0,o0,o0,emp⟩,O',cB E u.1.1):=by rw[sF E u _ V];simp only[fB,V,C,a];rfl
    refine nt (b:=O') (by simp only[gw,V,C,a];rfl) (by rw[y]) ?_;intro _;rw[y];exact⟨rfl,⟨rfl,ak,rfl,rfl,λ_=>pV _ _,ak,ak,rfl,ak,ak,rfl,ak,λ_ _=>rfl⟩⟩
   |false=>
    have y:ix E [u,b,W]=(⟨0,eS E u.1.1,0,0,oI (cB E u.1.1) W,o0,emp⟩,bY W,bP (cB E u.1.1) W):=by rw[sF E u _ V];simp only[fB,V,C,a];rfl
    refine nt (b:=bY W) (by simp only[gw,V,C,a];rfl) (by rw[y]) ?_;intro K;rw[y];exact⟨rfl,⟨rfl,ak,rfl,rfl,λ_=>pV _ _,λ_=>p4 _ W K,ak,rfl,ak,ak,rfl,ak,λ_ _=>rfl⟩⟩
def aaW(E:List bE)(u b W i Y:z'):pO E [u,b,W,i,Y]:=by
 cases V:Wm.nm u with
 |false=>exact QW
 |true=>
  cases C:(b.toList==[61])with
  |false=>refine kp (by simp only[gw,V,C];rfl) ?_;rw[sF E u _ V];simp only[fB,V,C];rfl
  |true=>
   have y:ix E [u,b,W,i,Y]=(⟨1,eS E u.1.1,Wm.tZ i.1.1,0,oI (cB E u.1.1) W,oI (bP (cB E u.1.1) W) Y,emp⟩,bY W&&Wm.wC i.1.1&&bY Y,bP (bP (cB E u.1.1) W) Y):=by rw[sF E u _ V];simp only[fB,V,C];rfl
   have a:(bY W&&Wm.wC i.1.1&&bY Y)=(bY W&&bY Y&&opsL.any (λq=>q.toList==i.toList)):=by rw[Nz,um,Bool.and_comm (Wm.wC _),um]
   refine nt (b:=bY W&&bY Y&&opsL.any (λq=>q.toList==i.toList)) (by simp only[gw,V,C];rfl) (by rw[y,<-a]) ?_;intro K;rw[Nz]at K;simp only[bh]at K;rw[y];exact⟨rfl,⟨rfl,ak,rfl,rfl,λ_=>pV _ _,λ_=>p4 _ W K.1.1,λ_=>p4 _ Y K.1.2,rfl,λ_=>⟨rfl,K.2⟩,ak,rfl,ak,λ_ _=>rfl⟩⟩
def aaV(E:List bE)(u b W i Y p:z'):pO E [u,b,W,i,Y,p]:=by
 have a:(fB E [u,b,W,i,Y,p]).2.1=P':=by unfold fB;simp only;split<;>rfl
 cases D:(u.toList==[105,102])with
 |false=>exact kp (by simp only[gw,D];rfl) (Jo E u _ ak ak (aK D) a)
 |true=>
  have R:ix E [u,b,W,i,Y,p]=zT E [u,b,W,i,Y,p]:=by simp[ix,tC D]
  cases d:(Y.toList==[103,111,116,111])with
  |false=>refine kp (by simp only[gw,D,d];rfl) ?_;rw[R];simp only[zT,d];rfl
  |true=>
   have y:ix E [u,b,W,i,Y,p]=(⟨4,0,0,Wm.uw W.1.1,oI E b,oI (bP E b) i,p⟩,bY b&&Wm.xA W.1.1&&bY i&&Wm.nm p,bP (bP E b) i):=by rw[R];simp only[zT,d];rfl
   have a:(bY b&&Wm.xA W.1.1&&bY i&&Wm.nm p)=(Wm.nm p&&(bY b&&bY i&&EO.any (λq=>q.toList==W.toList))):=by rw[Ny,Bool.and_comm _ (Wm.nm p)];congr 1;rw[um,Bool.and_comm (Wm.xA _),um]
   refine nt (b:=Wm.nm p&&(bY b&&bY i&&EO.any (λq=>q.toList==W.toList))) (by simp only[gw,D,d];rfl) (by rw[y,<-a]) ?_;intro K;rw[Ny]at K;simp only[bh]at K;rw[y];exact⟨rfl,⟨rfl,ak,Dw D,rfl,ak,λ_=>p4 _ b K.2.1.1,λ_=>p4 _ i K.2.1.2,rfl,ak,λ_=>⟨rfl,K.2.2⟩,rfl,λ_=>K.1,ak⟩⟩
def QV(h:p:=by
 refine kp rfl (Jo E u _ ak ak (aI (by rw[yV E _ ak];rfl)) ?_);unfold fB;simp only
 split<;>rfl):p:=h
def E8(E:List bE)(R:List z'):pO E R:=by
 match R with
 |[]=>exact kp rfl rfl
 |[u]=>exact aaZ E u
 |[u,b]=>exact aaY E u b
 |[u,b,W]=>exact aaX E u b W
 |[u,b,W,i,Y]=>exact aaW E u b W i Y
 |[u,b,W,i,Y,p]=>exact aaV E u b W i Y p
 |[u,b,W,i]=>exact QV
 |u::b::W::i::Y::p::c::r=>exact QV
end
section
variable {a k i:Nat}
structure RC where
  n:RN
  wa:x'
  wl:Nat
  wc:Nat
abbrev RC.wv(c:RC):A':=i' c.wa c.wl c.wc
def fI(c:RC):List A':=(aH c.wv c.n).toList
def sJ(l:List RC):List A':=l.flatMap fI
def jR(c:RC):ζ (fI c)=13:=rfl
def A6(l:List RC)(c:RC):sJ (l++[c])=sJ l++fI c:=by simp[sJ]
def A7(c:RC)(l:List RC):sJ (c::l)=fI c++sJ l:=by simp[sJ]
def Me:∀(l:List RC) (k:Nat) (c:RC) (j:Nat),l[k]?=B' c->j<13->(sJ l)[k*13+j]?=(fI c)[j]?
 |[],k,c,j,h,_=>by simp at h
 |d::l,0,c,j,h,hj=>by simp at h;subst h;rw[A7,e?,bW,jN (by rw[jR];exact hj)]
 |d::l,k+1,c,j,h,hj=>by rw[A7,ek (by rw[jR];omega),jR,show(k+1)*13+j-13=k*13+j by omega];exact Me l k c j (I' h) hj
def mX(w:u')(g cap:Nat)(cl:List RC):Prop:=∃cur,w.1[g]?=B' (k' cur 111 (0,0))/\cur.size=cap*13/\cur.toList.take (ζ cl*13)=sJ cl/\ζ cl<=cap
def mX.cells{D:List RC}(h:mX w g a D)(k:Nat)(c:RC)(a:D[k]?=B' c)(j:Nat)(f:j<13):χ w (O g (k*13+j))=(aH c.wv c.n)[j]?:=by obtain⟨Y,b,_,U,_⟩:=h;have X:=(bm.1 a).1;have C:=Me D k c j a f;rw[<-U,u4,aB I]at C;simp only[World.cell?,b];simpa[fI]using C
def mX.all{D:List RC}(h:mX w g a D)(k:Nat)(c:RC)(a:D[k]?=B' c):χ w (O g (k*13))=B' (aO c.wa c.wl c.wc)/\χ w (O g (k*13+1))=B' (m' c.n.bu)/\χ w (O g (k*13+2))=B' (m' c.n.does)/\χ w (O g (k*13+3))=B' (G c.n.target)/\χ w (O g (k*13+4))=B' (G c.n.a.var)/\χ w (O g (k*13+5))=B' (G c.n.a.c)/\χ w (O g (k*13+6))=B' (m' c.n.a.word)/\χ w (O g (k*13+7))=B' (G c.n.b.var)/\χ w (O g (k*13+8))=B' (G c.n.b.c)/\χ w (O g (k*13+9))=B' (m' c.n.b.word)/\χ w (O g (k*13+10))=B' (G c.n.ops)/\χ w (O g (k*13+11))=B' (m' c.n.sign)/\χ w (O g (k*13+12))=B' (m' c.n.bB):=
 ⟨h.cells k c a 0 I,h.cells k c a 1 I,h.cells k c a 2 I,h.cells k c a 3 I,h.cells k c a 4 I,h.cells k c a 5 I,h.cells k c a 6 I,h.cells k c a 7 I,h.cells k c a 8 I,h.cells k c a 9 I,h.cells k c a 10 I,h.cells k c a 11 I,h.cells k c a 12 I⟩
def mX.lt{D:List RC}(h:mX w g a D):g<δ w.1:=by obtain⟨Y,a,_⟩:=h;exact(aY.1 a).1
def mX.of_block{b:u'}{D:List RC}(h:mX w g a D)(c:b.1[g]?=w.1[g]?):mX b g a D:=by obtain⟨Y,C,a⟩:=h;exact⟨Y,c.trans C,a⟩
def k6(cl:List RC)(j:Nat):z':=match cl[j]? with|some c=>c.n.bu|none=>emp
def iQ(cl:List RC)(g:z'):Nat->List Int
 |0=>[]
 |k+1=>iQ cl g k++(if (k6 cl k).toList==g.toList then[(k:Int)] else[])
def iW(cl:List RC)(i:Nat)(l:z'):Nat->Bool
 |0=>P'
 |k+1=>iW cl i l k||(decide (k≠i)&&(k6 cl k).toList==l.toList)
def j3(m:RN):Bool:=!(m.does.toList==[103,111,116,111])&&!(m.does.toList==[114,101,116,117,114,110])
def eP(cl:List RC)(m:RN)(k:Nat):List Int:=if m.bB.toList.isEmpty then[] else iQ cl m.bB k
def vS(cl:List RC)(i:Nat)(m:RN):List Int:=eP cl m (ζ cl)++(if j3 m then[(i:Int)+1] else[])
def rG(cl:List RC)(i:Nat)(m:RN):Bool:=(!m.bu.toList.isEmpty&&iW cl i m.bu (ζ cl))||(!m.bB.toList.isEmpty&&(eP cl m (ζ cl)).isEmpty)||(j3 m&&decide (i+1=ζ cl))
def mK(cl:List RC):Nat->Bool
 |0=>O'
 |k+1=>mK cl k&&(match cl[k]? with|some c=>!rG cl k c.n|none=>O')
def P8(cl:List RC):Bool:=mK cl (ζ cl)
def Ps(D:List RC)(g:z')(k:Nat):ζ (iQ D g k)<=k:=by
 induction k with
 |zero=>simp[iQ]
 |succ k B=>simp only[iQ,bF];split<;>simp<;>omega
def GL(D:List RC)(m:RN)(k:Nat):ζ (eP D m k)<=k:=by
 unfold eP;split
 ·simp
 exact Ps _ _ _
def pD{D:List RC}{c:RC}(h:D[k]?=B' c):k6 D k=c.n.bu:=by rw[k6,h]
def sO{D:List RC}{c:RC}(h:D[i]?=B' c)(a:rG D i c.n=O'):P8 D=P':=by
 have X:∀k,i<k->mK D k=P':=by
  intro k;induction k with
  |zero=>intro h;omega
  |succ k B=>
   intro b;rw[mK];by_cases e:i=k
   ·subst e;rw[h];simp[a]
   rw[B I];rfl
 exact X _ (bm.1 h).1
def Uc {D:List RC} {l:z'} (h:iW D i l k=O'):∀n,k<=n->iW D i l n=O':=by
  intro n K;induction n with
  | zero => obtain rfl:k=0:=I
            exact h
  |succ n B=>
    by_cases e:k=n+1
    · subst e;exact h
    rw[iW,B I];rfl
def KY(D:List RC)(m:RN)(k:Nat)(d:RC)(h:D[k]?=B' d):eP D m (k+1)=if !m.bB.toList.isEmpty&&(d.n.bu.toList==m.bB.toList) then eP D m k++[(k:Int)] else eP D m k:=by
 unfold eP;cases l:m.bB.toList.isEmpty with
 |true=>simp
 |false=>simp only[Bool.not_false,dW,bO,bU];rw[iQ,pD h];split<;>simp
def Ub(D:List RC)(i:Nat)(l:z')(k:Nat)(d:RC)(h:D[k]?=B' d):iW D i l (k+1)=(iW D i l k||(decide (k≠i)&&(d.n.bu.toList==l.toList))):=by rw[iW,pD h]
def ab6:(Tryz.prog.info? 36).map (λi=>(i.zero,i.size,i.bytes))=B' (B' (i' C' 0 0),1,24):=au
def ab8:(Tryz.prog.info? 111).map (λi=>(i.zero,i.size,i.bytes))=B' (B' (l' #[i' C' 0 0,m' ⟨#[]⟩,m' ⟨#[]⟩,G 0,G 0,G 0,m' ⟨#[]⟩,G 0,G 0,m' ⟨#[]⟩,G 0,m' ⟨#[]⟩,m' ⟨#[]⟩]),13,168):=au
end
