import Derived.Test.YtmipbiligijcpaaGreatDoorA02
import Derived.Test.YtmipbiligijcpaaGreatDoorA03
namespace Go.Proofs.YtmipbiligijcpaaGreatDoor
set_option linter.all false
set_option maxHeartbeats 0
set_option maxRecDepth 99999
open Go.RowKit Go.Proofs Go.Maps Tryz List open List renaming length->ζ,toArray->θ open _root_.Array renaming size->δ open World renaming setCell->κ,cell?->χ,grownBy->ξ,setCells->ψ open Value renaming slice->h',bool->i',agg->k',string->m',pointer->n',tuple->p' open Obj renaming cells->j' open Ending renaming returned->o' open Option renaming some->C',none->D' open Bool renaming true->P',false->Q'
variable {p:Prop}{q:Nat}{w:t'}
section
variable {p:Int}{x y z:VV}{n:Nat}{a b c:EV}
def gL(p:Int)(x y:VV):Prop:=if p=5 then x=y\/y=VV.fM else x.any=y.any/\y.lo<=x.lo/\x.hi<=y.hi
structure okV(p:Int)(x:VV):Prop where
  bd:ç x
  form:if p=5 then x=VV.fM\/x=VV.one x.lo else x.any=Q'/\x.lo<=x.hi
def okV.agI(h:okV p x)(l:p≠5):x.any=Q':=by have:=h.form;rw[ax l]at this;exact this.1
def i!(p:Int)(x:VV):gL p x x:=by unfold gL;split;exact aI rfl;exact⟨rfl,cV _,cV _⟩
def P2(h:gL p x y)(k:gL p y z):gL p x z:=by
 unfold gL at *;split at h
 .rename_i U;rw[aB U]at k|-;rcases h with rfl|rfl
  .exact k
  rcases k with rfl|rfl<;>exact aH rfl
 rename_i U;rw[ax U]at k|-;exact⟨h.1.trans k.1,Int.le_trans k.2.1 h.2.1,Int.le_trans h.2.2 k.2.2⟩
def Ud(F:okV p x)(B:okV p y):VV.xw (oW p x y) y=P'↔gL p x y:=by
 rw[VV.l?];unfold oW gL;split
 .by_cases e:VV.xw x y=P'
  .rw[aB e];have:=(VV.l? x y).1 e;exact⟨λ_=>aI this,λ_=>this⟩
  rw[ax e];exact⟨λh=>aH h.symm,λh=>h.elim (λh=>absurd ((VV.l? x y).2 h) e) λh=>h.symm⟩
 obtain⟨c,a,b⟩:=x;obtain⟨a,f,d⟩:=y;simp only[VV.mk.injEq];constructor
 .rintro⟨C,a,N⟩;refine⟨C,?_,?_⟩
  .split at a<;>omega
  split at N<;>omega
 rintro⟨C,a,N⟩;refine⟨C,?_,?_⟩
 .split<;>omega
 split<;>omega
def ac5(F:okV p x)(B:okV p y):okV p (oW p x y):=by
 unfold oW;split
 .split
  .exact F
  rename_i l _;exact⟨⟨aj,aj⟩,by rw[aB l];exact aI rfl⟩
 rename_i l;have L:=F.form;have u:=B.form;rw[ax l]at L u;have g:=F.bd;have a:=B.bd;have N:=g.lo;have b:=g.hi;have b:=a.lo;have C:=a.hi;refine⟨⟨?_,?_⟩,?_⟩
 .simp only;split<;>omega
 .simp only;split<;>omega
 rw[ax l];refine⟨L.1,?_⟩;simp only;split<;>split<;>omega
def af3(F:okV p x)(B:okV p y):gL p x (oW p x y):=by
 unfold oW gL;split
 .split
  .exact aI rfl
  exact aH rfl
 refine⟨rfl,?_,?_⟩<;>(simp only;split<;>omega)
def af2(F:okV p x)(B:okV p y):gL p y (oW p x y):=by
 unfold oW gL;split
 .split
  .rename_i e;exact aI ((VV.l? x y).1 e).symm
  exact aH rfl
 rename_i l;refine⟨by rw[F.agI l,B.agI l],?_,?_⟩<;>(simp only;split<;>omega)
def Yt(h:gL p x z)(k:gL p y z):gL p (oW p x y) z:=by
 unfold oW gL at *;split;rotate_left
 .rename_i l;rw[ax l]at h k;refine⟨h.1,?_,?_⟩<;>(simp only;split<;>omega)
 rename_i l;rw[aB l]at h k;split
 .exact h
 rename_i e;rcases h with rfl|rfl
 .rcases k with rfl|rfl
  .exact absurd ((VV.l? y y).2 rfl) e
  exact aI rfl
 exact aI rfl
def jk(p:Int):EV->EV->Prop
 |none,_=>True
 |some _,none=>False
 |some a,some b=>∀(j:Nat)(x y:VV),a[j]?=C' x->b[j]?=C' y->gL p x y
def dZ(p:Int)(n:Nat)(e:EV):Prop:=∀vs,e=C' vs->ζ vs=n/\∀v∈vs,okV p v
def fT(p:Int)(n:Nat):dZ p n D':=λ_ h=>by cases h
def c8(p:Int):∀e:EV,jk p e e
 |none=>trivial
 |some a=>λj x y h k=>by rw[h]at k;cases k;exact i! p x
def dT(e:dZ p n b)(d:dZ p n a)(h:jk p a b)(k:jk p b c):jk p a c:=by
 match a,b,c,h,k with
 |none,_,_,_,_=>trivial
 |some a,some b,some c,h,k=>intro j x z F f;have X:=(d a rfl).1;have i:=(e b rfl).1;have a:=(aV.1 F).1;have B:b[j]?=C' b[j]:=aQ I;exact P2 (h j x _ F B)<|k j _ z B f
def jV(c:dZ p n a)(d:dZ p n b):QL p a b=P'↔jk p a b:=by
 match a,b with
 |none,_=>simp[QL,jk]
 |some a,none=>simp[QL,jk]
 |some a,some b=>
  have C:=c a rfl;have c:=d b rfl;simp only[QL,jk,bZ];constructor
  .intro h j x y F B;have:=h (x,y)<|aK (by rw[uy];exact⟨F,B⟩:(zip a b)[j]?=C' (x,y));exact(Ud (C.2 x<|aK F)<|c.2 y<|aK B).1 this
  rintro h ⟨x,y⟩ d;obtain⟨j,f⟩:=dN.1 d;rw[uy]at f;exact(Ud (C.2 x<|aK f.1)<|c.2 y<|aK f.2).2<|h j x y f.1 f.2
def L7{α β γ:Type}{f:α->β->γ}{a:List α}{b:List β}{j:Nat}{z:γ}(h:(zipWith f a b)[j]?=C' z):∃x y,a[j]?=C' x/\b[j]?=C' y/\z=f x y:=by
 rw[getElem?_zipWith]at h;cases F:a[j]? with
 |none=>rw[F]at h;simp at h
 |some x=>
  cases B:b[j]? with
  |none=>rw[F,B]at h;simp at h
  |some y=>rw[F,B]at h;simp at h;exact⟨x,y,rfl,rfl,h.symm⟩
def pK(c:dZ p n a)(d:dZ p n b):dZ p n (A7 p a b):=by
 match a,b with
 |none,_=>exact d
 |some a,none=>exact c
 |some a,some b=>intro E h;have C:=c a rfl;have a:=d b rfl;simp only[A7,dq]at h;subst h;refine⟨by simp[C.1,a.1],λv R=>?_⟩;obtain⟨j,f⟩:=dN.1 R;obtain⟨x,y,F,B,rfl⟩:=L7 f;exact ac5 (C.2 x<|aK F)<|a.2 y<|aK B
def Ue(d:dZ p n a)(e:dZ p n b):jk p a (A7 p a b):=by
 match a,b with
 |none,_=>trivial
 |some a,none=>exact c8 p _
 |some a,some b=>intro j x z F f;obtain⟨i,y,c,B,rfl⟩:=L7 f;rw[F]at c;cases c;exact af3 ((d a rfl).2 x<|aK F)<|(e b rfl).2 y<|aK B
def Nz(d:dZ p n a)(e:dZ p n b):jk p b (A7 p a b):=by
 match a,b with
 |none,b=>exact c8 p _
 |some a,none=>trivial
 |some a,some b=>intro j y z B f;obtain⟨x,g,F,c,rfl⟩:=L7 f;rw[B]at c;cases c;exact af2 ((d a rfl).2 x<|aK F)<|(e b rfl).2 y<|aK B
def NA(e:dZ p n a)(e:dZ p n b)(h:jk p a c)(k:jk p b c):jk p (A7 p a b) c:=by
 match a,b,c with
 |none,_,_=>exact k
 |some a,none,_=>exact h
 |some a,some b,none=>exact h
 |some a,some b,some c=>intro j z w f B;obtain⟨x,y,F,d,rfl⟩:=L7 f;exact Yt (h j x w F B)<|k j y w d B
end
section
variable {x:Int}
def T! : Tryz.prog.cellsOf 225=2:=H
def agX:Tryz.prog.cellsOf 4=1:=H
def Ŀ:Tryz.prog.cellsOf 2=1:=H
def acZ:Tryz.prog.keyTypeAt 5 225=P':=H
def T1(h:aT x=P'):(Lit.int .i64 x).wf=P':=by unfold aT at h;simp only[aS,bw]at h;simpa[Lit.wf,IntKind.min,IntKind.max,IntKind.signed,IntKind.bits]using h
def Ny(a:Bool)(h:aT x=true):Tryz.prog.keyLits 5 225 [.bool a,.int .i64 x]=some [.bool a,.int .i64 x]:=by simp[Program.keyLits,underlying225,underlying4,underlying2,T!,agX,Ŀ,T1 h]
def T?(a c:Bool)(x y:Int)(F:aT x=true)(B:aT y=true)(w:World):(binOp .eql 225 (.agg #[.bool a,G x])<|.agg #[.bool c,G y]).run Tryz.prog w=.ok (.bool<|a==c&&x==y) w:=by
 rw[run_eql_struct];obtain⟨r,b,S⟩:=Jc (P:=Tryz.prog) 9995 5 225 acZ w 5 5 (.agg #[.bool a,G x]) (.agg #[.bool c,G y]) _ _ H H (Ny a F)<|Ny c B;have:r=(a==c&&x==y):=by rw[cK,S];simp
 rw[<-this];simp only[Nat.reduceAdd]at b;rw[b];rfl
def K1(r:A')(c:Int)(w:t')(b:r=k' #[]):
  Cl 385 #[r,G c] w (Rb w<|k'<|om c):=by
 subst b;go_enter func385,ntmps385;go_wp2_with fail;refine aC (v:=k'<|om c) (by simp[results385,go_sem]) rfl ⟨rfl,cU⟩
def K0(r:A')(w:t')(b:r=k' #[]):
  Cl 386 #[r] w (Rb w<|k' q?):=by
 subst b;go_enter func386,ntmps386;go_wp2_with fail;refine aC (v:=k' q?) (by simp[results386,go_sem]) rfl ⟨rfl,cU⟩
def P8(r:A')(a b:Bool)(x y:Int)(w:t')(c:r=k' #[]):
  Cl 388 #[r,k' #[i' a,G x],k' #[i' b,G y]] w (Rb w<|p' #[k' #[i' a,G x],i' P']):=by
 subst c;go_enter func388,ntmps388;go_wp2_with fail;refine aC (v:=p' #[k' #[i' a,G x],i' P']) (by simp[results388,go_sem]) rfl ⟨rfl,oe⟩
def K3(r:A')(a b:Bool)(x y:Int)(w:t')(d:r=k' #[])(F:aT x=P')(B:aT y=P'):
  Cl 383 #[r,k' #[i' a,G x],k' #[i' b,G y]] w (Rb w<|i'<|(a==b&&x==y)||b):=by
 subst d;have k:=λw=>T? a b x y F B w;clear F B;obtain⟨q,c⟩:=Ea<|(a==b&&x==y);rw[<-c];simp only[<-c]at k;clear c;go_enter func383,ntmps383;cases q
 .go_wp2_with fail;go_ret;exact⟨ak,gU⟩
 go_wp2_with fail;go_ret;exact⟨ak,gU⟩
def P9(r:A')(a b:Bool)(x y:Int)(w:t')(d:r=k' #[])(F:aT x=P')(B:aT y=P'):
  Cl 387 #[r,k' #[i' a,G x],k' #[i' b,G y]] w (Rb w<|if (a==b&&x==y) then k' #[i' a,G x] else k' q?):=by
 subst d;have k:=λw=>T? a b x y F B w;clear F B;obtain⟨q,c⟩:=Ea<|(a==b&&x==y);rw[<-c];simp only[<-c]at k;clear c;go_enter func387,ntmps387;cases q
 .go_wp2_with fail;refine aC (v:=k' q?) (by simp[results387,go_sem]) rfl ⟨rfl,oe⟩
 go_wp2_with fail;refine aC (v:=k' #[i' a,G x]) (by simp[results387,go_sem]) rfl ⟨rfl,oe⟩
def ô(op:Int)(a b:Bool)(x y:Int):A'×Bool:=if op=3/\b=Q'/\y=0 then(k' vE,Q') else if a||b then(k' q?,P') else(k' #[i' Q',G<|lA op x y],qQ op y)
def RN(h:p:=by
 go_wp2_with fail
 refine aC (v:=p' #[k' q?,i' P']) (by simp[results384,go_sem]) rfl ⟨rfl,by first|exact oe|exact K.o _ _ _ _ _⟩):p:=h
def RM(h:p:=by
 go_wp2_with (go_at_call 172;refine bE (g.o _) ?_;rintro e t ⟨rfl,rfl⟩)
 refine aC (v:=p' #[k'<|om f,i' l]) (by simp[results384,go_sem]) rfl ⟨rfl,by first|exact oe|exact K.o _ _ _ _ _⟩):p:=h
def ż(h:p:=by
 obtain rfl:R=(k' q?,P'):=by rw[P.o];rfl
 go_enter func384,ntmps384;rcases N with N|rfl
 .exact RN
 cases d:(i==3)
 .exact RN
 exact RN):p:=h
def Eh(r:A')(i:Int)(a b:Bool)(x y:Int)(w:t')(d:r=k' #[])(F:aT x=P')(B:aT y=P'):
  Cl 384 #[r,G i,k' #[i' a,G x],k' #[i' b,G y]] w (Rb w<|p' #[(ô i a b x y).1,i' (ô i a b x y).2]):=by
 subst d;have k:=λw=>T? b Q' y 0 B rfl w;clear F B;obtain⟨q,c⟩:=Ea<|(b==Q'&&y==0);have S:J (q=P'↔(b=Q'/\y=0)):=by rw[c];exact⟨λh=>J' h,λh=>J' h⟩
 simp only[<-c]at k;clear c;have g:=ſ λW=>vw i x y W;obtain⟨f,j⟩:=Ea<|lA i x y;obtain⟨l,c⟩:=Ea<|qQ i y;rw[<-j,<-c]at g;obtain⟨R,v⟩:=Ea<|ô i a b x y;rw[<-v];have k:J (R=if i=3/\q=P' then(k' vE,Q') else if a||b then(k' q?,P') else(k'<|om f,l)):=by show _=_;rw[v,j,c];simp only[ô,S.o]
 clear j c v;have K:=ſ λ(a b c d e:Obj)=>(sw w a b c d).alloc I' e;by_cases T:i=3/\q=P'
 .obtain⟨rfl,rfl⟩:=T;obtain rfl:R=(k' vE,Q'):=by rw[k.o];simp
  go_enter func384,ntmps384;go_wp2_with fail;refine aC (v:=p' #[k' vE,i' Q']) (by simp[results384,go_sem]) rfl ⟨rfl,by first|exact oe|exact K.o _ _ _ _ _⟩
 have P:J (R=if a||b then(k' q?,P') else(k'<|om f,l)):=by show _=_;rw[k.o,ax T]
 have N:(i==3)=Q'\/q=Q':=by
  rcases Bool.eq_false_or_eq_true q with h|h
  .left;simp;intro e;exact T ⟨e,h⟩
  right;exact h
 clear T;cases a;rotate_left
 .exact ż
 cases b
 .obtain rfl:R=(k'<|om f,l):=by rw[P.o];rfl
  go_enter func384,ntmps384;rcases N with N|rfl
  .exact RM
  cases d:(i==3)
  .exact RM
  exact RM
 exact ż
theorem RL(h:p:=by
 repeat(first|with_reducible exact aP _ _|with_reducible refine below_drewN ?_ _|with_reducible refine iJ ?_|refine lf ?_ (by show _<=_;simp;try omega) _|refine qZ ?_ (by first|(simp;done)|(simp;omega)) _)):p:=h
def Ha(r:A')(R:Int)(g a b:Bool)(x y:Int)(w:t')(d:r=k' #[]):
  Cl 382 #[r,G R,i' g,k' #[i' a,G x],k' #[i' b,G y]] w (Rb w<|p' #[k' #[i' a,G x],k' #[i' b,G y],i'<|a||b||(o! R x y==g)]):=by
 subst d;have d:=ſ λW=>Co R x y W;obtain⟨h,V⟩:=Ea<|o! R x y;rw[<-V]at d|-;clear V;obtain⟨q,c⟩:=Ea<|(a||b||(h==g));rw[<-c];cases a;rotate_left
 .have S:J (q=P'):=c;clear c;go_enter func382,ntmps382;go_upto_region 2 with fail
  go_region_law fail
  all_goals
   go_wp2_with fail;refine aC (v:=p' #[k' #[i' P',G x],k' #[i' b,G y],i' P']) (by simp[results382,go_sem]) rfl ⟨by rw[S.o],?_⟩;exact RL
 cases b;rotate_left
 .have S:J (q=P'):=c;clear c;go_enter func382,ntmps382;go_upto_region 2 with fail
  go_region_law fail
  all_goals
   go_wp2_with fail;refine aC (v:=p' #[k'<|om x,k' #[i' P',G y],i' P']) (by simp[results382,go_sem]) rfl ⟨by rw[S.o],?_⟩;exact RL
 obtain⟨z,f⟩:=Ea<|(h==g);have S:J (q=z):=by show _=_;rw[c,f];rfl
 clear c;have c:=ſ f;clear f;go_enter func382,ntmps382;cases h<;>cases g
 all_goals
  go_upto_region 2 with(go_at_call 173;refine bE (d.o _) ?_;rintro e t ⟨rfl,rfl⟩)
  rw[c.o]at S
  go_region_law fail
  all_goals
   go_wp2_with fail
   first|refine aC (v:=p' #[k'<|om x,k'<|om y,i' P']) (by simp[results382,go_sem]) rfl ⟨by rw[S.o];rfl,?_⟩|refine aC (v:=p' #[k'<|om x,k'<|om y,i' Q']) (by simp[results382,go_sem]) rfl ⟨by rw[S.o];rfl,?_⟩
   exact RL
end
section
variable {W:t'}
abbrev BB:=Int×Int
def eB(a:BB):A':=k' #[G a.1,G a.2]
abbrev BR:=BB×BB×Bool
def AF(r:BR):A':=p' #[eB r.1,eB r.2.1,i' r.2.2]
def jt(a b:BB):BR:=(a,b,decide (a.1<=a.2)&&decide (b.1<=b.2))
def i?(a b:BB):BR:=if b.2=-9223372036854775808\/a.1=9223372036854775807 then((0,0),(0,0),Q') else jt (a.1,min a.2 (b.2-1)) (max b.1 (a.1+1),b.2)
def mf(a b:BB):BR:=jt (a.1,min a.2 b.2) (max b.1 a.1,b.2)
def oF(a b:BB):BB:=(max a.1 b.1,min a.2 b.2)
def kC(a b:BB):BR:=(oF a b,oF a b,decide ((oF a b).1<=(oF a b).2))
def fm(a b:BB):BR:=(a,b,!(a.1==b.1&&a.2==b.2)||!(a.1==a.2))
def OI(r:BR):BR:=(r.2.1,r.1,r.2.2)
def cN(ts:Int)(so:Bool)(a b:BB):BR:=
 if ts=0 then(if so then i? a b else OI (mf b a))
 else if ts=1 then(if so then mf a b else OI (i? b a))
 else if ts=2 then(if so then kC a b else fm a b)
 else(if so then fm a b else kC a b)
structure dD(a:BB):Prop where
  lo:aT a.1=P'
  hi:aT a.2=P'
def VM(w:t')(a b c d e:Obj):Bl w (((((w.alloc a).alloc b).alloc c).alloc d).alloc e):=(sw w a b c d).alloc I' _
def QM(r:A')(a b:BB)(w:t')(d:r=k' #[]):
  Cl 394 #[r,eB a,eB b] w (Rb w<|eB (min a.1 b.1,max a.2 b.2)):=by
 subst d;simp only[eB];go_enter func394,ntmps394;go_wp2_with fail;refine aC (v:=eB (min a.1 b.1,max a.2 b.2)) (by simp[results394,go_sem,eB]) rfl ⟨rfl,oe⟩
def Ah(w:t'):
  Cl 406 #[] w (Rb w<|eB (-2^63,9223372036854775807)):=by
 go_enter func406,ntmps406;go_wp2_with fail;refine aC (v:=eB (-2^63,9223372036854775807)) (by simp[results406,go_sem,eB]) rfl ⟨rfl,aY⟩
def LQ(r:A')(c:Int)(w:t')(b:r=k' #[]):
  Cl 392 #[r,G c] w (Rb w<|eB (c,c)):=by
 subst b;go_enter func392,ntmps392;go_wp2_with fail;refine aC (v:=eB (c,c)) (by simp[results392,go_sem,eB]) rfl ⟨rfl,cU⟩
def LO(r:A')(w:t')(b:r=k' #[]):
  Cl 393 #[r] w (Rb w<|eB (-9223372036854775808,9223372036854775807)):=by
 subst b;have T:=ſ Ah;simp only[eB]at T;go_enter func393,ntmps393;go_wp2_with (go_at_call 406;refine(T.o _).mono ?_;rintro e t ⟨rfl,a⟩;have E:=A<|aF a eO.2;have U:=ſ a;clear a);refine aC (v:=eB (-9223372036854775808,9223372036854775807)) (by simp[results,results393,go_sem,eB,(A<|aw (o:=0) (aF U.o (bP w _ _).2)<|G<|-9223372036854775808).1,(A<|aw (o:=1) (aw (o:=0) (aF U.o (bP w _ _).2)<|G<|-9223372036854775808)<|G 9223372036854775807).1]) rfl ⟨rfl,?_⟩;exact((aq cU U.o).setCell (by show _<=δ w.1+1;omega) _).setCell (by show _<=δ w.1+1;omega) _
def LR(r:A')(a b:BB)(w:t')(d:r=k' #[]):
  Cl 390 #[r,eB a,eB b] w (Rb w<|i' (decide (b.1<=a.1)&&decide (a.2<=b.2))):=by
 subst d;simp only[eB];by_cases h:b.1<=a.1
 .go_enter func390,ntmps390;go_wp2_with fail;go_ret;exact⟨by simp[h],gU⟩
 have D:decide (b.1<=a.1)=Q':=by simp;omega
 rw[D,C1];go_enter func390,ntmps390;go_wp2_with fail;go_ret;exact⟨rfl,gU⟩
def Ž(h:p:=by
 repeat(first|with_reducible exact aP _ _|with_reducible refine below_drewN ?_ _|with_reducible refine iJ ?_|refine lf ?_ (by show _<=_;simp;try omega) _|refine qZ ?_ (by first|(simp;done)|(simp;omega)) _)):p:=h
def CJ(r:A')(a b:BB)(w:t')(d:r=k' #[]):
  Cl 395 #[r,eB a,eB b] w λe c=>e=o' (p' #[eB<|oF a b,i' (decide ((oF a b).1<=(oF a b).2))])/\Bl w c:=by
 subst d;simp only[eB,oF];go_enter func395,ntmps395;obtain⟨m,d⟩:=Ea (max a.1 b.1);obtain⟨n,K⟩:=Ea (min a.2 b.2);go_upto_region 2 with fail
 rw[<-d,<-K];have r:=ſ<|M d K;clear d K
 go_region_law fail
 all_goals
  go_wp2_with fail;refine aC (v:=p' #[eB (m,n),i' (decide (m<=n))]) (by simp[results395,go_sem,eB]) rfl ⟨by rw[r.a,r.A];rfl,?_⟩;exact Ž
def Ł(h:p:=by
 first|(have _:=kO)|(simp only[eB,AF,jt])
 obtain⟨N,g⟩:=a;obtain⟨l,o⟩:=b
 first|(have _:=kO;(have k:=λw=>ad3 N l g o ha.lo hb.lo ha.hi hb.hi w);clear ha hb;simp only[eB,AF,fm];obtain⟨q,hq⟩:=Ea<|!(N==l&&g==o);simp only[<-hq]at k|-;clear hq;cases q)|(by_cases h:N<=g)
 .first|(have _:=kO;go_enter func400,ntmps400)|(go_enter func407,ntmps407)
  go_upto_region 1 with fail
  go_region_held3 (λw'=>χ w' (O w.1.size 0)=C' (G N)/\χ w' (O w.1.size 1)=C' (G g)/\χ w' (O (δ w.1+1) 0)=C' (G l)/\χ w' (O (δ w.1+1) 1)=C' (G o)) (go_keep) (fail)
  all_goals
   go_wp2_with fail
   first|(have _:=kO;refine aC (v:=p' #[k' #[G N,G g],k' #[G l,G o],i'<|!(N==g)]) (by simp[results400,go_sem,bne]) rfl ⟨ak,?_⟩)|(refine aC (v:=p' #[eB (N,g),eB (l,o),i' (decide (l<=o))]) (by simp[results407,go_sem,eB]) rfl ⟨by simp[h,eB],?_⟩)
   repeat(first|with_reducible exact aP _ _|with_reducible refine below_drewN ?_ _|with_reducible refine iJ ?_|refine lf ?_ (by show _<=_;simp;try omega) _|refine qZ ?_ (by first|(simp;done)|(simp;omega)) _)
 first|(have _:=kO;go_enter func400,ntmps400)|((have D:decide (N<=g)=Q':=by simp;omega);clear h;go_enter func407,ntmps407)
 go_upto_region 1 with fail
 refine wp_region_held_drew (S:=λw'=>χ w' (O w.1.size 0)=C' (G N)/\χ w' (O w.1.size 1)=C' (G g)/\χ w' (O (δ w.1+1) 0)=C' (G l)/\χ w' (O (δ w.1+1) 1)=C' (G o)) H (by(try dsimp only);go_keep) λf=>?_;refine wpAnyH_take (i:=0) (v:=k' #[G N,G g]) rfl H H H (λ_ _ _ h=>h) (aI ⟨by rfl,λw u=>by have j:=u;clear f;go_simp⟩) (g') ?_;refine pt ?_;refine wpAnyH_take (i:=1) (v:=k' #[G l,G o]) rfl H H H (λ_ _ _ h=>h) (aI ⟨by rfl,λw u=>by have j:=u;clear f;go_simp⟩) (g') ?_;refine pt ?_
 first|(have _:=kO;refine wpAnyH_take (i:=2) (v:=k' #[G N,G g]) rfl H H H (λ_ _ _ h=>h) (aI ⟨by rfl,λw u=>by have j:=u;clear f;go_simp⟩) (g') ?_)|(refine wpAnyH_take (i:=2) (v:=n'<|cA w.1.size) rfl H H H (λ_ _ _ h=>h) (aI ⟨by rfl,λw u=>by have j:=u;clear f;go_simp⟩) (g') ?_)
 refine pt ?_
 first|(have _:=kO;refine wpAnyH_take (i:=3) (v:=k' #[G l,G o]) rfl H H H (λ_ _ _ h=>h) (aI ⟨by rfl,λw u=>by have j:=u;clear f;go_simp⟩) (g') ?_)|(refine wpAnyH_take (i:=3) (v:=G N) rfl H H H (λ_ _ _ h=>h) (aI ⟨by rfl,λw u=>by have j:=u;clear f;go_simp⟩) (g') ?_)
 refine pt ?_
 first|(have _:=kO;refine wpAnyH_take (i:=4) (v:=i' P') rfl H H H (λ_ _ _ h=>h) (aI ⟨by rfl,λw u=>by have j:=u;clear f;go_simp⟩) (g') ?_)|(refine wpAnyH_take (i:=4) (v:=n'<|some<|O w.1.size 1) rfl H H H (λ_ _ _ h=>h) (aI ⟨by rfl,λw u=>by have j:=u;clear f;go_simp⟩) (g') ?_)
 refine pt ?_
 first|(have _:=kO;refine wpAnyH_take (i:=5) (v:=i' P') rfl H H H (λ_ _ _ h=>h) (aI ⟨by rfl,λw u=>by have j:=u;clear f;go_simp⟩) (g') ?_)|(refine wpAnyH_take (i:=5) (v:=G g) rfl H H H (λ_ _ _ h=>h) (aI ⟨by rfl,λw u=>by have j:=u;clear f;go_simp⟩) (g') ?_)
 refine pt ?_
 first|(have _:=kO;refine wpAnyH_take (i:=6) (v:=undef) rfl H H H (λ_ _ _ h=>h) (aH ⟨H,rfl⟩) (g') ?_)|(refine wpAnyH_take (i:=6) (v:=i' false) rfl H H H (λ_ _ _ h=>h) (aI ⟨by rfl,λw u=>by have j:=u;clear f;go_simp⟩) (g') ?_)
 refine pt ?_
 first|(have _:=kO;refine wpAnyH_take (i:=7) (v:=undef) rfl H H H (λ_ _ _ h=>h) (aH ⟨H,rfl⟩) (g') ?_)|(refine wpAnyH_take (i:=7) (v:=i' false) rfl H H H (λ_ _ _ h=>h) (aI ⟨by rfl,λw u=>by have j:=u;clear f;go_simp⟩) (g') ?_)
 refine pt ?_;refine wpAnyH_take (i:=8) (v:=undef) rfl H H H (λ_ _ _ h=>h) (aH ⟨H,rfl⟩) (g') ?_;refine pt ?_;refine wpAnyH_take (i:=9) (v:=undef) rfl H H H (λ_ _ _ h=>h) (aH ⟨H,rfl⟩) (g') ?_;refine pt ?_;refine wpAnyH_take (i:=10) (v:=undef) rfl H H H (λ_ _ _ h=>h) (aH ⟨H,rfl⟩) (g') ?_;refine pt ?_
 first|(have _:=kO;refine wpAnyH_take (i:=11) (v:=i' P') rfl H H H (λ_ _ _ h=>h) (aI ⟨by rfl,λw u=>by have j:=u;clear f;go_simp⟩) (g') ?_)|(refine wpAnyH_take (i:=11) (v:=undef) rfl H H H (λ_ _ _ h=>h) (aH ⟨H,rfl⟩) (g') ?_)
 refine pt ?_
 first|(have _:=kO;refine r1 12 λK k=>?_)|(refine wpAnyH_take (i:=12) (v:=undef) rfl H H H (λ_ _ _ h=>h) (aH ⟨H,rfl⟩) (g') ?_;refine pt ?_;refine wpAnyH_take (i:=13) (v:=i' Q') rfl H H H (λ_ _ _ h=>h) (aI ⟨by rfl,λw u=>by have j:=u;clear f;go_simp⟩) (g') ?_;refine pt ?_;refine r1 14 λK k=>?_)
 go_simp;refine k.out _ _ (by(try dsimp only);go_keep) λf=>?_;clear k K;refine pt ?_
 first|(have _:=kO;refine r1 13 λK k=>?_)|(refine r1 15 λK k=>?_)
 go_simp;refine k.out _ _ (by(try dsimp only);go_keep) λf=>?_;clear k K;refine pt ?_
 first|(have _:=kO;refine tz 14 (i' P') ?_ (y:=aI ⟨by rfl,λw u=>by go_simp⟩))|(refine tz 16 (i' false) ?_ (y:=aI ⟨by rfl,λw u=>by go_simp⟩))
 refine wpAnyH_done H ?_ _;go_wp2_with fail
 first|(have _:=kO;refine aC (v:=p' #[k' #[G N,G g],k' #[G l,G o],i' P']) (by simp[results400,go_sem,bne]) rfl ⟨ak,?_⟩)|(refine aC (v:=p' #[eB (N,g),eB (l,o),i' Q']) (by simp[results407,go_sem,eB]) rfl ⟨by simp only[D,eB,C1],?_⟩)
 repeat(first|with_reducible exact aP _ _|with_reducible refine below_drewN ?_ _|with_reducible refine iJ ?_|refine lf ?_ (by show _<=_;simp;try omega) _|refine qZ ?_ (by first|(simp;done)|(simp;omega)) _)):p:=h
def CL(a b:BB)(w:t'):
  Cl 407 #[eB a,eB b] w (Rb w<|AF<|jt a b):=by
 exact Ł
def Oj(a b:BB)(t:Bool)(w:t'):
  Cl 397 #[eB a,eB b,i' t] w (Rb w<|AF (b,a,t)):=by
 simp only[eB,AF];go_enter func397,ntmps397;go_upto_region 1 with fail
 go_region_law fail
 all_goals
  go_wp2_with fail;refine aC (v:=AF (b,a,t)) (by simp[results397,go_sem,eB,AF]) rfl ⟨rfl,?_⟩;exact Ž
def Į(w:t')(a b c d:Obj):((((w.alloc a).alloc b).alloc c).alloc d).1[δ w.1+2]?=C' c/\((((w.alloc a).alloc b).alloc c).alloc d).1[δ w.1+3]?=C' d:=by have h:=bP ((w.alloc a).alloc b) c d;have z:δ ((w.alloc a).alloc b).1=δ w.1+2:=ak;rw[z]at h;exact h
def sy{a b c d e}:=@Į a b c d e
def Sr{p t:Nat}{F E e f:A'}(U:W.1[p]?=C' (j' #[F,E] t (0,0)))(g:W.1[q]?=C' (j' #[e,f] t (0,0)))(z:p≠q)(a b c d:A'):
  (κ (κ (κ (κ W (O p 0) a) (O p 1) b) (O q 0) c) (O q 1) d).1[p]?=C' (j' #[a,b] t (0,0))/\(κ (κ (κ (κ W (O p 0) a) (O p 1) b) (O q 0) c) (O q 1) d).1[q]?=C' (j' #[c,d] t (0,0)):=by
 have C:(κ (κ W (O p 0) a) (O p 1) b).1[p]?=C' (j' #[a,b] t (0,0)):=by rw[aw (aw U _) _];rfl
 have c:(κ (κ W (O p 0) a) (O p 1) b).1[q]?=C' (j' #[e,f] t (0,0)):=((bh _ _ _ _ z.symm).trans<|bh _ _ _ _ z.symm).trans g;exact⟨((bh _ _ _ _ z).trans<|bh _ _ _ _ z).trans C,by rw[aw (aw c _) _];rfl⟩
def Ag{w:t'}{p:Nat}{a b c d:A'}(h:Bl w W)(U:δ w.1<=p)(e:δ w.1<=q):Bl w (κ (κ (κ (κ W (O p 0) a) (O p 1) b) (O q 0) c) (O q 1) d):=(((h.setCell U _).setCell U _).setCell e _).setCell e _
def wo(a b:BB)(w:t'):
  Cl 398 #[eB a,eB b] w (Rb w<|AF<|mf a b):=by
 have c:=ſ λW=>CL (a.1,min a.2 b.2) (max b.1 a.1,b.2) W;have e:mf a b=jt (a.1,min a.2 b.2) (max b.1 a.1,b.2):=rfl;rw[e];obtain⟨⟨⟨r1,q⟩,⟨v,L⟩,f⟩,hr⟩:∃r,r=jt (a.1,min a.2 b.2) (max b.1 a.1,b.2):=⟨_,rfl⟩;rw[<-hr]at c|-;clear e hr;simp only[eB,AF]at c|-;have s:δ w.1+2≠δ w.1+3:=I;go_enter func398,ntmps398;go_wp2_with (go_at_call 407;refine(c.o _).mono ?_;rintro e t ⟨rfl,(U:J _)⟩;have E:=A<|aF U.o sy.1;have b:=A<|aF U.o sy.2);have b:=Sr (aF U.o sy.1) (aF U.o sy.2) I (G r1) (G q) (G v)<|G L;refine aC (v:=p' #[k' #[G r1,G q],k' #[G v,G L],i' f]) (by simp[results398,go_sem,(A b.1).1,(A b.2).1]) rfl ⟨rfl,Ag (aq oe U.o) I I⟩
def Z!(h:p:=by
 clear T;go_wp2_with fail
 refine aC (v:=.tuple #[.agg #[G 0,G 0],.agg #[G 0,G 0],.bool false]) (by simp[results,results396,go_sem]) rfl ⟨rfl,oe⟩):p:=h
def CK(a b:BB)(w:t')(f:dD a)(g:dD b):
  Cl 396 #[eB a,eB b] w (Rb w<|AF<|i? a b):=by
 have c:=f.lo;have X:=g.hi;clear f g;by_cases T:b.2=-9223372036854775808\/a.1=9223372036854775807
 .have e:i? a b=((0,0),(0,0),false):=by unfold i?;rw[aB T]
  rw[e];simp only[eB,AF];obtain⟨N,p⟩:=a;obtain⟨k,o⟩:=b;simp only at T|-;clear e c X;go_enter func396,ntmps396;cases C:(o==-9223372036854775808)
  .have l:(N==9223372036854775807)=true:=by simp at C|-;omega
   exact Z!
  exact Z!
 have j:=ſ λW=>CL (a.1,min a.2 (b.2-1)) (max b.1 (a.1+1),b.2) W;have e:i? a b=jt (a.1,min a.2 (b.2-1)) (max b.1 (a.1+1),b.2):=by unfold i?;rw[ax T]
 rw[e];obtain⟨⟨⟨r1,q⟩,⟨v,L⟩,f⟩,hr⟩:∃r,r=jt (a.1,min a.2 (b.2-1)) (max b.1 (a.1+1),b.2):=⟨_,rfl⟩;rw[<-hr]at j|-;clear e hr;simp only[eB,AF]at j|-;obtain⟨N,p⟩:=a;obtain⟨k,o⟩:=b;simp only at T j c X|-;have C:(o==-9223372036854775808)=false:=by simp;omega
 have l:(N==9223372036854775807)=false:=by simp;omega
 have b:IntKind.i64.wrap (o-1)=o-1:=by unfold aT at X;simp only[aS,bw]at X;simp[IntKind.wrap,IntKind.bits,IntKind.signed]at *;omega
 have W:IntKind.i64.wrap (N+1)=N+1:=by unfold aT at c;simp only[aS,bw]at c;simp[IntKind.wrap,IntKind.bits,IntKind.signed]at *;omega
 clear T c X;have s:δ w.1+2≠δ w.1+3:=I;go_enter func396,ntmps396;go_wp2_with (go_at_call 407;refine(j.o _).mono ?_;rintro e t ⟨rfl,g⟩;have U:=ſ g;clear g;have E:=A<|aF U.o sy.1;have b:=A<|aF U.o sy.2);have b:=Sr (aF U.o sy.1) (aF U.o sy.2) I (G r1) (G q) (G v)<|G L;refine aC (v:=p' #[k' #[G r1,G q],k' #[G v,G L],i' f]) (by simp[results,results396,go_sem,(A b.1).1,(A b.2).1]) rfl ⟨rfl,Ag (aq oe U.o) I I⟩
end
def VO:Tryz.prog.cellsOf 247=2:=H
def ad4:Tryz.prog.keyTypeAt 5 247=P':=H
def Ok{x y:Int}(h:aT x=P')(s:aT y=P'):Tryz.prog.keyLits 5 247 [.int .i64 x,.int .i64 y]=C' [.int .i64 x,.int .i64 y]:=by simp[Program.keyLits,underlying247,underlying2,VO,Ŀ,T1 h,T1 s]
def ad3(a c x y:Int)(d:aT a=P')(T:aT c=P')(F:aT x=P')(B:aT y=P')(w:t'):(binOp .neq 247 (k' #[G a,G x])<|k' #[G c,G y]).run Tryz.prog w=.ok (i'<|!(a==c&&x==y)) w:=by
 rw[run_neq_struct];obtain⟨r,b,S⟩:=Jc (P:=Tryz.prog) 9995 5 247 ad4 w 5 5 (k' #[G a,G x]) (k' #[G c,G y]) _ _ H H (Ok d F)<|Ok T B;have:r=(a==c&&x==y):=by rw[cK,S];simp
 rw[<-this];simp only[Nat.reduceAdd]at b;rw[b];rfl
def EP(a b:BB)(w:t')(ha:dD a)(hb:dD b):
  Cl 400 #[eB a,eB b] w (Rb w<|AF<|fm a b):=by
 have kO:=True.intro;exact Ł
def LP(a b:BB)(w:t'):
  Cl 399 #[eB a,eB b] w (Rb w<|AF<|kC a b):=by
 have r:=ſ λW=>CJ (k' #[]) a b W rfl;simp only[eB,AF,kC]at r|-;generalize(oF a b).1=m at r|-;generalize(oF a b).2=n at r|-;obtain⟨q,f⟩:=Ea (decide (m<=n));rw[<-f]at r|-;clear f;go_enter func399,ntmps399;go_upto_region 2 with(go_at_call 395;refine(r.o _).mono ?_;rintro e t ⟨rfl,(U:J _)⟩)
 generalize u:t.alloc (kJ m n)=F;have b:J (Bl w F/\F.1[δ w.1+2]?=C' vF/\F.1[δ w.1+3]?=C' vF/\d' F t.1.size #[G m,G n] 247/\δ w.1+3<δ t.1):=by subst u;have a:=aq U.o<|cE t<|kJ m n;exact⟨aq oe a,aF a sy.1,aF a sy.2,bj _ _,À<|aF U.o sy.2⟩
 clear u;have c:=b.D;generalize δ t.1=a at b c|-;have E:=A b.b;have c:=A b.c;have W:=A b.d;have s:δ w.1+2≠a:=I;have x:=s.symm;have c:δ w.1+3≠a:=I;have V:=c.symm;have d:δ w.1+2≠δ w.1+3:=I
 go_region_law fail
 all_goals
  go_wp2_with fail;have f:=Sr b.b b.c I (G m) (G n) (G m)<|G n;have Q:∀(X:t')(o:Addr),χ X.drew o=χ X o:=λ_ _=>rfl;refine aC (v:=p' #[k' #[G m,G n],k' #[G m,G n],i' q]) (by simp[results399,go_sem,(A f.1).1,(A f.2).1]) rfl ⟨rfl,?_⟩
  first|exact(Ag b.a I I).drew|exact Ag b.a I I|exact below_drewN (Ag b.a I I) _
def al5(w:t')(a b c d e:Obj):(((((w.alloc a).alloc b).alloc c).alloc d).alloc e).1[δ w.1+3]?=C' d/\(((((w.alloc a).alloc b).alloc c).alloc d).alloc e).1[δ w.1+4]?=C' e:=by have h:=Į (w.alloc a) b c d e;have z:δ (w.alloc a).1=δ w.1+1:=ak;rw[z,Nat.add_right_comm,Nat.add_right_comm w.1.size 1 3]at h;exact h
def qV{a b c d e f}:=@al5 a b c d e f
def Mm(h:p:=by
 have k:=Sr (aF U.o qV.1) (aF U.o qV.2) I (G r1) (G q) (G v)<|G L
 refine aC (v:=p' #[k' #[G r1,G q],k' #[G v,G L],i' f]) (by simp[results389,go_sem,(A k.1).1,(A k.2).1]) rfl ⟨rfl,Ag (aq (VM _ _ _ _ _ _) U.o) I I⟩):p:=h
def Z?(h:p:=by
 rw[e];have Y:=ſ λW=>EP a b W l c;obtain⟨⟨⟨r1,q⟩,⟨v,L⟩,f⟩,hr⟩:∃r,r=fm a b:=⟨_,rfl⟩;rw[<-hr]at Y|-;clear e hr l c;simp only[eB,AF]at Y|-;go_enter func389,ntmps389;go_wp2_with (go_at_call 400;refine(Y.o _).mono ?_;rintro e t ⟨rfl,c⟩;have U:=ſ c;clear c;have E:=A<|aF U.o qV.1;have o:=A<|aF U.o qV.2)
 exact Mm):p:=h
def Z9(h:p:=by
 rw[e];have Y:=ſ λW=>LP a b W;obtain⟨⟨⟨r1,q⟩,⟨v,L⟩,f⟩,hr⟩:∃r,r=kC a b:=⟨_,rfl⟩;rw[<-hr]at Y|-;clear e hr l c;simp only[eB,AF]at Y|-;go_enter func389,ntmps389;go_wp2_with (go_at_call 399;refine(Y.o _).mono ?_;rintro e t ⟨rfl,c⟩;have U:=ſ c;clear c;have E:=A<|aF U.o qV.1;have o:=A<|aF U.o qV.2)
 exact Mm):p:=h
def Z8(h:p:=by
 have k:=Sr (aF j.o qV.1) (aF j.o qV.2) I (G v) (G L) (G r1)<|G q
 refine aC (v:=p' #[k' #[G v,G L],k' #[G r1,G q],i' f]) (by simp[results389,go_sem,(A k.1).1,(A k.2).1]) rfl ⟨rfl,Ag (aq (VM _ _ _ _ _ _) j.o) I I⟩):p:=h
def IE(r:A')(R:Int)(g:Bool)(a b:BB)(w:t')(hr:r=k' #[])(l:dD a)(c:dD b):
  Cl 389 #[r,G R,i' g,eB a,eB b] w (Rb w<|AF<|cN R g a b):=by
 subst hr;have s:δ w.1+3≠δ w.1+4:=I;have x:=s.symm;cases D:(R==0);rotate_left
 .cases g
  .have e:cN R Q' a b=OI (mf b a):=by unfold cN;simp at *;simp[*]
   rw[e];have Y:=ſ λW=>wo b a W;obtain⟨⟨⟨r1,q⟩,⟨v,L⟩,f⟩,hr⟩:∃r,r=mf b a:=⟨_,rfl⟩;rw[<-hr]at Y|-;have p:=ſ λW=>Oj (r1,q) (v,L) f W;clear e hr l c;simp only[eB,AF,OI]at Y p|-;go_enter func389,ntmps389;go_wp2_with (first|(have _:=U;go_at_call 397;refine(p.o _).mono ?_;rintro e F ⟨rfl,X⟩;have j:=ſ<|aq U.o X;clear X;have E:=A<|aF j.o qV.1;have o:=A<|aF j.o qV.2)|(go_at_call 398;refine(Y.o _).mono ?_;rintro e t ⟨rfl,c⟩;have U:=ſ c;clear c));exact Z8
  have e:cN R P' a b=i? a b:=by unfold cN;simp at *;simp[*]
  rw[e];have Y:=ſ λW=>CK a b W l c;obtain⟨⟨⟨r1,q⟩,⟨v,L⟩,f⟩,hr⟩:∃r,r=i? a b:=⟨_,rfl⟩;rw[<-hr]at Y|-;clear e hr l c;simp only[eB,AF]at Y|-;go_enter func389,ntmps389;go_wp2_with (go_at_call 396;refine(Y.o _).mono ?_;rintro e t ⟨rfl,c⟩;have U:=ſ c;clear c;have E:=A<|aF U.o qV.1;have o:=A<|aF U.o qV.2);exact Mm
 cases C:(R==1);rotate_left
 .cases g
  .have e:cN R Q' a b=OI (i? b a):=by unfold cN;simp at *;simp[*]
   rw[e];have Y:=ſ λW=>CK b a W c l;obtain⟨⟨⟨r1,q⟩,⟨v,L⟩,f⟩,hr⟩:∃r,r=i? b a:=⟨_,rfl⟩;rw[<-hr]at Y|-;have p:=ſ λW=>Oj (r1,q) (v,L) f W;clear e hr l c;simp only[eB,AF,OI]at Y p|-;go_enter func389,ntmps389;go_wp2_with (first|(have _:=U;go_at_call 397;refine(p.o _).mono ?_;rintro e F ⟨rfl,X⟩;have j:=ſ<|aq U.o X;clear X;have E:=A<|aF j.o qV.1;have o:=A<|aF j.o qV.2)|(go_at_call 396;refine(Y.o _).mono ?_;rintro e t ⟨rfl,c⟩;have U:=ſ c;clear c));exact Z8
  have e:cN R P' a b=mf a b:=by unfold cN;simp at *;simp[*]
  rw[e];have Y:=ſ λW=>wo a b W;obtain⟨⟨⟨r1,q⟩,⟨v,L⟩,f⟩,hr⟩:∃r,r=mf a b:=⟨_,rfl⟩;rw[<-hr]at Y|-;clear e hr l c;simp only[eB,AF]at Y|-;go_enter func389,ntmps389;go_wp2_with (go_at_call 398;refine(Y.o _).mono ?_;rintro e t ⟨rfl,c⟩;have U:=ſ c;clear c;have E:=A<|aF U.o qV.1;have o:=A<|aF U.o qV.2);exact Mm
 cases j:(R==2)
 .cases g
  .have e:cN R Q' a b=kC a b:=by unfold cN;simp at *;simp[*]
   exact Z9
  have e:cN R P' a b=fm a b:=by unfold cN;simp at *;simp[*]
  exact Z?
 cases g
 .have e:cN R Q' a b=fm a b:=by unfold cN;simp at *;simp[*]
  exact Z?
 have e:cN R P' a b=kC a b:=by unfold cN;simp at *;simp[*]
 exact Z9
section
variable {a b:Int}
def f64{x:Int}:aT x=P'↔(-9223372036854775808<=x/\x<=9223372036854775807):=by unfold aT;simp
def Z6(h:p:=by
 have c:=k;rw[f64]at k;rw[j0]at c
 rw[c,dM h,di (by unfold wrap64;omega)];rfl):p:=h
def Z5(h:p:=by
 have c:=k;rw[f64]at k;rw[j0]at c
 rw[c,di h,dM (by unfold wrap64;omega)];rfl):p:=h
def WZ(c:aT a=P')(d:aT b=P'):(decide (wrap64 (a+b)<a)==decide (b<0))=aT (a+b):=by
 rw[f64]at c d;by_cases h:b<0
 .by_cases k:aT (a+b)=P'
  .rw[k,ct k,dM h,dM I];rfl
  exact Z6
 by_cases k:aT (a+b)=P'
 .rw[k,ct k,di h,di I];rfl
 exact Z5
def Zd(c:aT a=P')(d:aT b=P'):(decide (a<wrap64 (a-b))==decide (b<0))=aT (a-b):=by
 rw[f64]at c d;by_cases h:b<0
 .by_cases k:aT (a-b)=P'
  .rw[k,ct k,dM h,dM I];rfl
  exact Z6
 by_cases k:aT (a-b)=P'
 .rw[k,ct k,di h,di I];rfl
 exact Z5
def vU(c:a≠0)(d:b≠0):decide (a*b<0)=(decide (a<0) !=decide (b<0)):=by
 rcases Int.lt_or_gt_of_ne c with C|C<;>rcases Int.lt_or_gt_of_ne d with c|c
 .have:=Int.mul_pos_of_neg_of_neg C c;rw[di I,dM C,dM c];rfl
 .have:=Int.mul_neg_of_neg_of_pos C c;rw[dM this,dM C,di I];rfl
 .have:=Int.mul_neg_of_pos_of_neg C c;rw[dM this,di I,dM c];rfl
 have:=Int.mul_pos C c;rw[di I,di I,di I];rfl
def XW(c:aT a=P')(e:aT b=P')(D:a≠0)(C:b≠0):(wrap64 ((wrap64<|a*b).tdiv b)==a&&(decide (wrap64 (a*b)<0)==(decide (a<0) !=decide (b<0))))=aT (a*b):=by
 by_cases d:b=-1;rotate_left
 .rw[PQ e C d];by_cases k:aT (a*b)=P'
  .rw[k,ct k,vU D C];simp
  rw[j0]at k;rw[k];rfl
 subst d;rw[f64]at c;have e:a*-1=-a:=I;rw[e];by_cases F:a=-2^63
 .subst F;have u:wrap64 (- -2^63)=-2^63:=by unfold wrap64;omega
  have b:aT (- -2^63)=Q':=by rw[vD,ne_eq,f64];omega
  rw[u,b];simp
 have k:aT (-a)=P':=by rw[f64];omega
 have q:(-a).tdiv (-1)=a:=by rw[C?,Int.tdiv_one];omega
 rw[k,ct k,q,ct<|by rw[f64];exact c];have:=vU (a:=a) (b:=-1) D aj;rw[e]at this;rw[this];simp
def Y4(x:Int):A':=k' #[G<|wrap64 x,i'<|aT x]
def IA(a b:Int)(w:t')(c:aT a=P')(d:aT b=P'):
  Cl 402 #[G a,G b] w (Rb w<|Y4<|a+b):=by
 have v:=ſ<|WZ c d;clear c d;go_enter func402,ntmps402;go_wp2_with fail;refine aC (v:=k' #[G<|wrap64<|a+b,i' (decide (wrap64 (a+b)<a)==decide (b<0))]) (by simp[results402,go_sem]) rfl ⟨by rw[v.o];rfl,aY⟩
def IC(a b:Int)(w:t')(c:aT a=P')(d:aT b=P'):
  Cl 408 #[G a,G b] w (Rb w<|Y4<|a-b):=by
 have v:=ſ<|Zd c d;clear c d;go_enter func408,ntmps408;go_wp2_with fail;refine aC (v:=k' #[G<|wrap64<|a-b,i' (decide (a<wrap64 (a-b))==decide (b<0))]) (by simp[results408,go_sem]) rfl ⟨by rw[v.o];rfl,aY⟩
def Z7(h:p:=by
 go_enter func404,ntmps404;go_wp2_with fail
 refine aC (v:=k' #[G 0,i' P']) (by simp[results404,go_sem]) rfl ⟨by rw[e];rw[Y4,ZQ];rfl,aY⟩):p:=h
def qK(a b:Int)(w:t')(c:aT a=P')(f:aT b=P'):
  Cl 404 #[G a,G b] w (Rb w<|Y4<|a*b):=by
 cases D:(a==0);rotate_left
 .obtain rfl:a=0:=J' D;have e:=Int.zero_mul b;exact Z7
 cases C:(b==0);rotate_left
 .obtain rfl:b=0:=J' C;have e:=Int.mul_zero a;exact Z7
 have U:=J' D;have d:=J' C;have Y:=XW c f U d;clear c f U;obtain⟨n,K⟩:=Ea<|wrap64<|a*b;obtain⟨q,c⟩:=Ea<|(wrap64 (n.tdiv b)==a);rw[<-K,<-c]at Y;have v:=ſ Y;have S:=ſ c;clear Y c;go_enter func404,ntmps404;cases q
 .have l:=S.o.symm;rw[K]at l;go_wp2_with fail;rw[<-K];refine aC (v:=k' #[G n,i' Q']) (by simp[results404,go_sem]) rfl ⟨by rw[Y4,<-K,<-v.o];rfl,aY⟩
 have l:=S.o.symm;rw[K]at l;go_wp2_with fail;rw[<-K];refine aC (v:=k' #[G n,i' (decide (n<0)==(decide (a<0) !=decide (b<0)))]) (by simp[results404,go_sem,bne]) rfl ⟨by rw[Y4,<-K,<-v.o,eV],aY⟩
abbrev EX:=Int×Bool
def Ė(w:t')(ao:u')(es:List EX):Prop:=∀j e,es[j]?=C' e->∃b o,ao=C' (O b o)/\χ w (O b<|o+j*2)=C' (G e.1)/\χ w (O b<|o+j*2+1)=C' (i' e.2)
def Wq(s:Int×Int×Bool)(e:EX):Int×Int×Bool:=(min s.1 e.1,max s.2.1 e.1,s.2.2&&e.2)
def æ(s:Int×Int×Bool):BB:=if s.2.2 then(s.1,s.2.1) else(-9223372036854775808,9223372036854775807)
def Cr{α β:Type}(f:β->α->β)(s:β){l:List α}{k:Nat}{x:α}(h:l[k]?=C' x):(l.take<|k+1).foldl f s=f ((l.take k).foldl f s) x:=by have X:=(aV.1 h).1;rw[cX X,(aV.1 h).2];simp
def pP(x:EX)(d:List EX)(q:u')(c:Nat)(w:t')(h:Ė w q d)(X:ζ d<=100):
  Cl 401 #[k' #[G x.1,i' x.2],h' q (ζ d) c] w λe a=>e=o' (eB<|æ<|d.foldl Wq (x.1,x.1,x.2))/\Below w.1.size w a:=by
 obtain⟨g,q⟩:=x;have s:=ſ h;clear h;obtain⟨k,a⟩:=Ea<|ζ d;rw[<-a]at X|-;have K:=ſ a;clear a;have B:=ſ Ah;simp only[eB]at B|-;go_enter func401,ntmps401;go_upto_region 3 with fail
 generalize u:((w.alloc<|j' #[G g,i' q] 502).alloc iO).alloc (j' #[G g,G g] 247)=a;have U:J (Below w.1.size w a/\a.1[δ w.1+1]?=C' vF/\a.1[δ w.1+2]?=C' (j' #[G g,G g] 247 (0,0))):=by subst u;have h:=bP (w.alloc<|j' #[G g,i' q] 502) iO<|j' #[G g,G g] 247;have z:δ (w.alloc<|j' #[G g,i' q] 502).1=δ w.1+1:=ak;rw[z]at h;exact⟨gU,h.1,h.2⟩
 clear u;go_wp2_with fail;go_loopw[6,18] (λP y wr=>∃(j:Nat)(h S:Int)(f:Bool),j<=k/\y=G j/\P=i' f/\J ((h,S,f)=(d.take j).foldl Wq (g,g,q)/\Below w.1.size w wr/\wr.1[δ w.1+1]?=C' vF/\wr.1[δ w.1+2]?=C' (j' #[G h,G S] 247 (0,0)))) (λ_ y _=>k-(intOf y).toNat)
 case atStart=>exact⟨0,g,g,q,bq _,rfl,rfl,rfl,U.a,U.b,U.B⟩
 obtain⟨j,h,S,f,a,rfl,rfl,c⟩:=hrel;by_cases L:j<k;rotate_left
 .have a:¬(j:Int)<k:=I;have p:j=k:=I;have y:J ((h,S,f)=d.foldl Wq (g,g,q)):=by show _=_;rw[c.a,p,K.o,nB]
  cases f
  .have i:=ſ λW=>B.o W;have F:=c.c;go_wp2_with (go_at_call 406;refine(B.o _).mono ?_;rintro e t ⟨rfl,i⟩;have r:=ſ i;clear i;have E:=A<|aF r.o c.c);refine aC (v:=eB (-9223372036854775808,9223372036854775807)) (by simp[results401,go_sem,eB,(A<|aw (o:=1) (aw (o:=0) (aF r.o c.c)<|G<|-9223372036854775808)<|G 9223372036854775807).1]) rfl ⟨by rw[<-y.o];rfl,?_⟩;exact((c.b.trans<|r.o.mono c.b.size).setCell (by show _<=δ w.1+1;omega) _).setCell (by show _<=δ w.1+1;omega) _
  have E:=A c.c;have b:=A c.C;go_wp2_with fail;refine aC (v:=eB (h,S)) (by simp[results401,go_sem,eB,(A<|aw (o:=1) (aw (o:=0) c.c<|G h)<|G S).1]) rfl ⟨by rw[<-y.o];rfl,?_⟩;exact(c.b.setCell (by show _<=δ w.1+1;omega) _).setCell (by show _<=δ w.1+1;omega) _
 have a:(j:Int)<k:=I;obtain⟨⟨a,v⟩,l⟩:∃e,d[j]?=C' e:=⟨_,aQ<|by rw[<-K.o];exact L⟩;obtain⟨b,o,rfl,T,Q⟩:=s.o j _ l;have e:χ wr (O b<|o+j*2)=C' (G a):=aA T c.b;have Y:χ wr (O b<|o+j*2+1)=C' (i' v):=aA Q c.b;have y:J ((min h a,max S a,f&&v)=(d.take<|j+1).foldl Wq (g,g,q)):=by show _=_;rw[Cr _ _ l,<-c.a];rfl
 clear T Q l;have E:=A c.C;have D:=À c.C;have s:δ wr.1≠δ w.1+2:=I;have x:=s.symm;go_upto_region 7 with fail
 generalize u:(κ (κ wr (O (δ w.1+1+1) 0)<|G (min h a)) (O (δ w.1+1+1) 1)<|G (max S a)).alloc (j' #[G a,i' v] 502)=t;have X:J (Below w.1.size w t/\t.1[δ w.1+1]?=C' vF/\t.1[δ w.1+2]?=C' (j' #[G (min h a),G (max S a)] 247 (0,0))/\t.1[δ wr.1]?=C' (j' #[G a,i' v] 502 (0,0))):=by
  subst u;have i:=cE (κ (κ wr (O (δ w.1+1+1) 0)<|G (min h a)) (O (δ w.1+1+1) 1)<|G (max S a))<|j' #[G a,i' v] 502;have C:Below w.1.size w (κ (κ wr (O (δ w.1+1+1) 0)<|G (min h a)) (O (δ w.1+1+1) 1)<|G (max S a)):=(c.b.setCell (by show _<=δ w.1+1+1;omega) _).setCell (by show _<=δ w.1+1+1;omega) _;have b:(κ (κ wr (O (δ w.1+1+1) 0)<|G (min h a)) (O (δ w.1+1+1) 1)<|G (max S a)).1[δ w.1+1]?=C' vF:=((bh _ _ _ _<|by show δ w.1+1≠δ w.1+1+1;omega).trans (bh _ _ _ _<|by show δ w.1+1≠δ w.1+1+1;omega)).trans c.c;have N:(κ (κ wr (O (δ w.1+1+1) 0)<|G (min h a)) (O (δ w.1+1+1) 1)<|G (max S a)).1[δ w.1+2]?=C' (j' #[G (min h a),G (max S a)] 247 (0,0)):=by rw[aw (aw c.C _) _];rfl
  have d:δ (κ (κ wr (O (δ w.1+1+1) 0)<|G (min h a)) (O (δ w.1+1+1) 1)<|G (max S a)).1=δ wr.1:=ak;refine⟨aq C i,aF i b,aF i N,?_⟩;have l:=bj (κ (κ wr (O (δ w.1+1+1) 0)<|G (min h a)) (O (δ w.1+1+1) 1)<|G (max S a))<|j' #[G a,i' v] 502;rw[d]at l;exact l
 clear u;clear E e Y;have E:=A X.C;cases f
 .go_wp2_with fail;go_roundw
  case rel=>exact⟨j+1,_,_,Q',L,f',rfl,y.o,X.a,X.b,X.c⟩
  exact H'
 go_wp2_with fail;go_roundw
 case rel=>exact⟨j+1,_,_,v,L,f',rfl,y.o,X.a,X.b,X.c⟩
 exact H'
end
def b6(v:VV):BB:=(v.lo,v.hi)
def Zz(a b:VV):æ (Wq (wrap64<|a.lo+b.lo,wrap64<|a.lo+b.lo,aT<|a.lo+b.lo) (wrap64<|a.hi+b.hi,aT<|a.hi+b.hi))=b6 (E2 a b):=by
 unfold æ Wq E2 LW b6;by_cases C:aT (a.lo+b.lo)=P';rotate_left
 .rw[j0]at C;simp[C,VV.all]
 by_cases c:aT (a.hi+b.hi)=P'
 .simp only[C,c,ct C,ct c,CS,b8];generalize a.lo+b.lo=x;generalize a.hi+b.hi=y;simp[oW,VV.one];constructor<;>(repeat' split)<;>omega
 rw[j0]at c;simp[c,VV.all]
def Zx(a b:VV):æ (Wq (wrap64<|a.lo-b.hi,wrap64<|a.lo-b.hi,aT<|a.lo-b.hi) (wrap64<|a.hi-b.lo,aT<|a.hi-b.lo))=b6 (rS a b):=by
 unfold æ Wq rS LW b6;by_cases C:aT (a.lo-b.hi)=P';rotate_left
 .rw[j0]at C;simp[C,VV.all]
 by_cases c:aT (a.hi-b.lo)=P'
 .simp only[C,c,ct C,ct c,CS,b8];generalize a.lo-b.hi=x;generalize a.hi-b.lo=y;simp[oW,VV.one];constructor<;>(repeat' split)<;>omega
 rw[j0]at c;simp[c,VV.all]
def Zy(a b:VV):æ ([(wrap64<|a.lo*b.hi,aT<|a.lo*b.hi),(wrap64<|a.hi*b.lo,aT<|a.hi*b.lo),(wrap64<|a.hi*b.hi,aT<|a.hi*b.hi)].foldl Wq (wrap64<|a.lo*b.lo,wrap64<|a.lo*b.lo,aT<|a.lo*b.lo))=b6 (Ed a b):=by
 simp only[æ,Ed,LW,b6,e8,rP,Wq];by_cases C:aT (a.lo*b.lo)=P';rotate_left
 .rw[j0]at C;simp[C,VV.all]
 by_cases c:aT (a.lo*b.hi)=P';rotate_left
 .rw[j0]at c;simp[c,VV.all]
 by_cases N:aT (a.hi*b.lo)=P';rotate_left
 .rw[j0]at N;simp[N,VV.all]
 by_cases d:aT (a.hi*b.hi)=P';rotate_left
 .rw[j0]at d;simp[d,VV.all]
 simp only[C,c,N,d,ct C,ct c,ct N,ct d,CS,b8];generalize a.lo*b.lo=x;generalize a.lo*b.hi=y;generalize a.hi*b.lo=z;generalize a.hi*b.hi=u;simp[oW,VV.one];constructor<;>(repeat' split)<;>omega
def U4{n:Int}{f:Bool}(D:χ w (O q 0)=C' (G n))(C:χ w (O q 1)=C' (i' f)):Ė w (C'<|O q 0) [(n,f)]:=by
 intro j e hj
 match j,hj with
 |0,hj=>simp at hj;subst hj;exact⟨q,0,rfl,by simp[D],by simp[C]⟩
 |j+1,hj=>simp at hj
def Y3{s x c:Int}{K B t:Bool}(D:χ w (O q 0)=C' (G s))(C:χ w (O q 1)=C' (i' K))(a:χ w (O q 2)=C' (G x))(N:χ w (O q 3)=C' (i' B))(d:χ w (O q 4)=C' (G c))(l:χ w (O q 5)=C' (i' t)):Ė w (C'<|O q 0) [(s,K),(x,B),(c,t)]:=by
 intro j e hj
 match j,hj with
 |0,hj=>simp at hj;subst hj;exact⟨q,0,rfl,by simp[D],by simp[C]⟩
 |1,hj=>simp at hj;subst hj;exact⟨q,0,rfl,by simp[a],by simp[N]⟩
 |2,hj=>simp at hj;subst hj;exact⟨q,0,rfl,by simp[d],by simp[l]⟩
 |j+3,hj=>simp at hj
def ZB(w:t')(a b c:Obj):(((w.alloc a).alloc b).alloc c).1[δ w.1]?=C' a/\(((w.alloc a).alloc b).alloc c).1[δ w.1+1]?=C' b/\(((w.alloc a).alloc b).alloc c).1[δ w.1+2]?=C' c:=by have h:=bP (w.alloc a) b c;have z:δ (w.alloc a).1=δ w.1+1:=ak;rw[z]at h;exact⟨aF cU<|bj _ _,h.1,h.2⟩
def E3{a b c d}:=@ZB a b c d
def Ac(a b:VV)(w:t')(j:dD<|b6 a)(i:dD<|b6 b):
  Cl 403 #[eB<|b6 a,eB<|b6 b] w (Rb w<|eB<|b6<|rS a b):=by
 obtain⟨P,N,f⟩:=a;obtain⟨l,a,o⟩:=b;have d:=ſ<|Zx ⟨P,N,f⟩ ⟨l,a,o⟩;have c:=ſ λW=>IC N o W j.lo i.hi;have u:=ſ λW=>IC f a W j.hi i.lo;have T:=ſ λW q h=>pP (wrap64<|N-o,aT<|N-o) [(wrap64<|f-a,aT<|f-a)] (C'<|O q 0) 1 W h ak;simp only[e8,rP,fP]at T;simp only at d;rw[d.o]at T;clear j i;simp only[Y4]at c u;generalize rS ⟨P,N,f⟩ ⟨l,a,o⟩=s at T|-;generalize wrap64 (N-o)=h at c T;generalize wrap64 (f-a)=x at u T;generalize aT (N-o)=K at c T;generalize aT (f-a)=B at u T;obtain⟨b,U,d⟩:=s;simp only[eB,b6]at T|-;go_enter func403,ntmps403;go_upto_region 1 with fail
 obtain⟨s,v,b⟩:=ZB w (kJ N f) (j' #[G a,G o] 247) iO;have B:=ſ<|M s<|M v<|M b<|pO w (kJ N f) (j' #[G a,G o] 247) iO;clear s v b;generalize((w.alloc<|kJ N f).alloc<|j' #[G a,G o] 247).alloc iO=V at B|-;have S:J (∀W,Bl V W->χ W (O w.1.size 0)=C' (G N)/\χ W (O w.1.size 1)=C' (G f)/\χ W (O (δ w.1+1) 0)=C' (G a)/\χ W (O (δ w.1+1) 1)=C' (G o)):=by intro W j;have R:=(A<|aF j B.a).1;have F:=(A<|aF j B.b).1;exact⟨R 0,R 1,F 0,F 1⟩
 have b:=S.o V<|aP _ _;have h:δ w.1≠δ w.1+1+1:=I;have x:=h.symm
 go_region_held3 (λg=>χ g (O w.1.size 0)=C' (G N)/\χ g (O w.1.size 1)=C' (G f)/\χ g (O (δ w.1+1) 0)=C' (G a)/\χ g (O (δ w.1+1) 1)=C' (G o)) (go_keep) (first|(have _:=L;go_at_call 401;refine(T.o _ _<|U4 ak ak).mono ?_;rintro e E ⟨rfl,Y⟩;have p:Bl V E:=aq (aq L.o ay) Y;have l:=ſ p;have Q:=S.o E p;have N:=A<|aF p B.c;clear Y p)|(have _:=D;go_at_call 408;refine(u.o _).mono ?_;rintro e a ⟨rfl,X⟩;have p:Bl V a:=aq (aq D.o ay) X;have L:=ſ p;have o0:=S.o a p;clear X p)|(go_at_call 408;refine(c.o _).mono ?_;rintro e f ⟨rfl,a⟩;have p:Bl V f:=aq ay a;have D:=ſ p;have P:=S.o f p;clear a p))
 all_goals
  go_wp2_with fail;refine aC (v:=k' #[G U,G d]) (by simp[results403,go_sem,(A<|aw (o:=1) (aw (o:=0) (aF l.o B.c)<|G U)<|G d).1]) rfl ⟨rfl,?_⟩
  first|exact((aq B.C l.o).setCell I' _).setCell I' _|exact(((aq B.C l.o).setCell I' _).setCell I' _).drew
def Rf(op:Int)(a b:VV):Option VV:=if op=0 then C' (E2 a b) else if op=1 then C' (rS a b) else if op=2 then C' (Ed a b) else jN a b
def M6:Option VV->A'×Bool
 |none=>(eB (0,0),Q')
 |some v=>(eB<|b6 v,P')
def sZ{x b:Int}(F:aT x=P')(D:b≠0)(C:b≠-1):IntKind.i64.wrap (x.tdiv b)=x.tdiv b:=by have h:=ct<|xi F D C;unfold wrap64 at h;rw[IntKind.wrap_i64];exact h
theorem RJ(h:p:=by
 repeat(first|with_reducible exact aP _ _|with_reducible refine below_drewN ?_ _|with_reducible refine iJ ?_|refine lf ?_ (by show _<=_;simp;try omega) _|refine qZ ?_ (by first|(simp;done)|(simp;omega)) _)):p:=h
def Z2(h:p:=by
 first|exact((aq gU U.o).setCell (by show _<=δ w.1+2;omega) _).setCell (by show _<=δ w.1+2;omega) _|exact(((aq gU U.o).setCell (by show _<=δ w.1+2;omega) _).setCell (by show _<=δ w.1+2;omega) _).drew|exact below_drewN (((aq gU U.o).setCell (by show _<=δ w.1+2;omega) _).setCell (by show _<=δ w.1+2;omega) _) _):p:=h
def VI(a b:VV)(w:t')(j:dD<|b6 a)(i:dD<|b6 b):
  Cl 405 #[eB<|b6 a,eB<|b6 b] w (Rb w<|p' #[(M6<|jN a b).1,i' (M6<|jN a b).2]):=by
 have s:δ w.1≠δ w.1+1+1:=I;have x:=s.symm;cases D:(b.lo==b.hi)
 .have e:jN a b=C' VV.all:=by unfold jN;rw[aB<|by simpa using D]
  rw[e];have T:=ſ Ah;obtain⟨P,N,p⟩:=a;obtain⟨l,h,o⟩:=b;simp only[M6,eB,b6,VV.all]at T D|-;clear e j i;go_enter func405,ntmps405;go_wp2_with (go_at_call 406;refine(T.o _).mono ?_;rintro e t ⟨rfl,i⟩;have U:=ſ i;clear i;have E:=A<|aF U.o E3.2.2);have R:=(A<|aw (o:=1) (aw (o:=0) (aF U.o E3.2.2)<|G<|-9223372036854775808)<|G 9223372036854775807).1;refine aC (v:=p' #[k' #[G<|-9223372036854775808,G 9223372036854775807],i' P']) (by simp[results405,go_sem,R]) rfl ⟨rfl,?_⟩;exact Z2
 have X:b.lo=b.hi:=by simpa using D
 cases C:(b.lo==0);rotate_left
 .have k:b.lo=0:=by simpa using C
  have e:jN a b=D':=by unfold jN;rw[ax<|by simpa using X,aB k]
  rw[e];obtain⟨P,N,p⟩:=a;obtain⟨l,h,o⟩:=b;simp only[M6,eB,b6]at *;clear e j i X k;go_enter func405,ntmps405;go_wp2_with fail;refine aC (v:=p' #[k' #[G 0,G 0],i' Q']) (by simp[results405,go_sem]) rfl ⟨rfl,?_⟩;exact RJ
 have k:b.lo≠0:=by simpa using C
 by_cases v:0<b.lo
 .have d:b.lo≠-1:=I;have e:jN a b=C' ⟨Q',a.lo.tdiv b.lo,a.hi.tdiv b.lo⟩:=by unfold jN;rw[ax<|by simpa using X,ax k,ax d,aB v]
  rw[e];have V:IntKind.i64.wrap (a.lo.tdiv b.lo)=a.lo.tdiv b.lo:=sZ j.lo k d;have u:IntKind.i64.wrap (a.hi.tdiv b.lo)=a.hi.tdiv b.lo:=sZ j.hi k d;obtain⟨P,N,p⟩:=a;obtain⟨l,h,o⟩:=b;simp only[M6,eB,b6]at *;have f:¬h=0:=k;clear e j i d X k;go_enter func405,ntmps405;go_upto_region 7 with fail
  go_region_held3 (λq=>χ q (O w.1.size 0)=C' (G N)/\χ q (O w.1.size 1)=C' (G p)) (go_keep) (fail)
  all_goals
   go_wp2_with fail;refine aC (v:=p' #[k' #[G<|N.tdiv h,G<|p.tdiv h],i' P']) (by simp[results405,go_sem]) rfl ⟨rfl,?_⟩;exact RJ
 cases d:(b.lo==-1)
 .have g:b.lo≠-1:=by simpa using d
  have e:jN a b=C' ⟨Q',a.hi.tdiv b.lo,a.lo.tdiv b.lo⟩:=by unfold jN;rw[ax<|by simpa using X,ax k,ax g,ax v]
  rw[e];have V:IntKind.i64.wrap (a.lo.tdiv b.lo)=a.lo.tdiv b.lo:=sZ j.lo k g;have u:IntKind.i64.wrap (a.hi.tdiv b.lo)=a.hi.tdiv b.lo:=sZ j.hi k g;obtain⟨P,N,p⟩:=a;obtain⟨l,h,o⟩:=b;simp only[M6,eB,b6]at *;have c:decide (0<h)=Q':=by simp;omega
  have f:¬h=0:=k;clear e j i g X k v;go_enter func405,ntmps405;go_upto_region 10 with fail
  go_region_held3 (λq=>χ q (O w.1.size 0)=C' (G N)/\χ q (O w.1.size 1)=C' (G p)) (go_keep) (fail)
  all_goals
   go_wp2_with fail;refine aC (v:=p' #[k' #[G<|p.tdiv h,G<|N.tdiv h],i' P']) (by simp[results405,go_sem]) rfl ⟨rfl,?_⟩;exact RJ
 have g:b.lo=-1:=by simpa using d
 have e:jN a b=C' (rS ⟨Q',0,0⟩ a):=by unfold jN;rw[ax<|by simpa using X,ax k,aB g]
 rw[e];have r:=ſ λW=>Ac ⟨Q',0,0⟩ a W ⟨aj,aj⟩ j;generalize rS ⟨Q',0,0⟩ a=s at r|-;obtain⟨_,f,zd⟩:=s;obtain⟨P,N,p⟩:=a;obtain⟨l,h,o⟩:=b;simp only[M6,eB,b6]at *;have c:decide (0<h)=Q':=by simp;omega
 clear e j i g X k v;go_enter func405,ntmps405;go_wp2_with (go_at_call 403;refine(r.o _).mono ?_;rintro e t ⟨rfl,i⟩;have U:=ſ i;clear i;have E:=A<|aF U.o E3.2.2);have R:=(A<|aw (o:=1) (aw (o:=0) (aF U.o E3.2.2)<|G f)<|G zd).1;refine aC (v:=p' #[k' #[G f,G zd],i' P']) (by simp[results405,go_sem,R]) rfl ⟨rfl,?_⟩;exact Z2
def Z4(h:p:=by
 go_wp2_with fail;refine aC (v:=p' #[k' #[G U,G s2],i' P']) (by simp[results391,go_sem,(A<|aw (o:=1) (aw (o:=0) (aF l.o B.c)<|G U)<|G s2).1]) rfl ⟨rfl,?_⟩
 first|exact((aq B.C l.o).setCell I' _).setCell I' _|exact(((aq B.C l.o).setCell I' _).setCell I' _).drew|exact below_drewN (((aq B.C l.o).setCell I' _).setCell I' _) _):p:=h
def Z3(h:p:=by
 first|exact((aq oe r.o).setCell I' _).setCell I' _|exact(((aq oe r.o).setCell I' _).setCell I' _).drew|exact below_drewN (((aq oe r.o).setCell I' _).setCell I' _) _):p:=h
def Z1(h:p:=by
 have h:=ZB (w.alloc oo) (kJ N Y) (j' #[G x,G o] 247) iO;have z:δ (w.alloc oo).1=δ w.1+1:=ak;rw[z]at h
 exact⟨h.1,h.2.1,h.2.2,oe⟩):p:=h
def ZZ(h:p:=by
 intro W j;have R:=(A<|aF j B.a).1;have F:=(A<|aF j B.b).1
 exact⟨R 0,R 1,F 0,F 1⟩):p:=h
def ES(r:A')(i:Int)(a b:VV)(w:t')(f:r=k' #[])(ha:dD<|b6 a)(hb:dD<|b6 b):
  Cl 391 #[r,G i,eB<|b6 a,eB<|b6 b] w (Rb w<|p' #[(M6<|Rf i a b).1,i' (M6<|Rf i a b).2]):=by
 subst f;have s:δ w.1+1≠δ w.1+1+1+1:=I;have x:=s.symm;have d:δ w.1+1+1≠δ w.1+1+1+1:=I;have V:=d.symm;have d:δ w.1≠δ w.1+1+1:=I;have f:=d.symm;cases h0:(i==0);rotate_left
 .have e:Rf i a b=C' (E2 a b):=by unfold Rf;simp at h0;simp[h0]
  rw[e];have d:=ſ<|Zz a b;obtain⟨P,N,Y⟩:=a;obtain⟨ba,x,o⟩:=b;have H1:=ſ λW=>IA N x W ha.lo hb.lo;have u:=ſ λW=>IA Y o W ha.hi hb.hi;have T:=ſ λW q h=>pP (wrap64<|N+x,aT<|N+x) [(wrap64<|Y+o,aT<|Y+o)] (C'<|O q 0) 1 W h ak;simp only[e8,rP,fP]at T;simp only at d;rw[d.o]at T;clear ha hb e;simp only[Y4]at H1 u;generalize E2 ⟨P,N,Y⟩ ⟨ba,x,o⟩=s at T|-;generalize wrap64 (N+x)=y at H1 T;generalize wrap64 (Y+o)=m2 at u T;generalize aT (N+x)=K at H1 T;generalize aT (Y+o)=f2 at u T;obtain⟨sa,U,s2⟩:=s;simp only[eB,b6,M6]at T|-;go_enter func391,ntmps391;go_upto_region 3 with fail
  have B:J (d' ((((w.alloc oo).alloc<|kJ N Y).alloc<|j' #[G x,G o] 247).alloc iO) (δ w.1+1) #[G N,G Y] 247/\d' ((((w.alloc oo).alloc<|kJ N Y).alloc<|j' #[G x,G o] 247).alloc iO) (δ w.1+2) #[G x,G o] 247/\((((w.alloc oo).alloc<|kJ N Y).alloc<|j' #[G x,G o] 247).alloc iO).1[δ w.1+3]?=C' vF/\Bl w ((((w.alloc oo).alloc<|kJ N Y).alloc<|j' #[G x,G o] 247).alloc iO)):=by exact Z1
  generalize((((w.alloc oo).alloc<|kJ N Y).alloc<|j' #[G x,G o] 247).alloc iO)=V at B|-;have S:J (∀W,Bl V W->χ W (O (δ w.1+1) 0)=C' (G N)/\χ W (O (δ w.1+1) 1)=C' (G Y)/\χ W (O (δ w.1+1+1) 0)=C' (G x)/\χ W (O (δ w.1+1+1) 1)=C' (G o)):=by exact ZZ
  obtain⟨s0,Q,aa,s3⟩:=S.o V<|aP _ _
  go_region_held3 (λW=>χ W (O (δ w.1+1) 0)=C' (G N)/\χ W (O (δ w.1+1) 1)=C' (G Y)/\χ W (O (δ w.1+1+1) 0)=C' (G x)/\χ W (O (δ w.1+1+1) 1)=C' (G o)) (go_keep) (first|(have _:=L;go_at_call 401;refine(T.o _ _<|U4 ak ak).mono ?_;rintro e X3 ⟨rfl,hb⟩;have p:Bl V X3:=aq (aq L.o ay) hb;have l:=ſ p;obtain⟨x0,x1,g,x3⟩:=S.o X3 p;obtain⟨g1,k⟩:=A<|aF p B.c;clear hb p)|(have _:=D;go_at_call 402;refine(u.o _).mono ?_;rintro e X ⟨rfl,hb⟩;have p:Bl V X:=aq (aq D.o ay) hb;have L:=ſ p;obtain⟨o0,o1,o2,o3⟩:=S.o X p;clear hb p)|(go_at_call 402;refine(H1.o _).mono ?_;rintro e X1 ⟨rfl,hb⟩;have p:Bl V X1:=aq ay hb;have D:=ſ p;obtain⟨p0,p1,p2,p3⟩:=S.o X1 p;clear hb p))
  all_goals
   exact Z4
 cases C:(i==1);rotate_left
 .have e:Rf i a b=C' (rS a b):=by unfold Rf;simp at h0 C;simp[h0,C]
  rw[e];have r:=ſ λW=>Ac a b W ha hb;generalize rS a b=s at r|-;obtain⟨sa,U,s2⟩:=s;obtain⟨P,N,Y⟩:=a;obtain⟨ba,x,o⟩:=b;simp only[M6,eB,b6]at r|-;clear e ha hb;go_enter func391,ntmps391;go_wp2_with (go_at_call 403;refine(r.o _).mono ?_;rintro e t ⟨rfl,hb⟩;have r:=ſ hb;clear hb;obtain⟨x1,g⟩:=A<|aF r.o sy.2);refine aC (v:=p' #[k' #[G U,G s2],i' P']) (by simp[results391,go_sem,(A<|aw (o:=1) (aw (o:=0) (aF r.o sy.2)<|G U)<|G s2).1]) rfl ⟨rfl,?_⟩;exact Z3
 cases h2:(i==2)
 .have e:Rf i a b=jN a b:=by unfold Rf;simp at h0 C h2;simp[h0,C,h2]
  rw[e];have HQ:=ſ λW=>VI a b W ha hb;have Wo:∃U s2 f,(M6<|jN a b).1=k' #[G U,G s2]/\(M6<|jN a b).2=f:=by
   cases jN a b with
   |none=>exact⟨0,0,Q',rfl,rfl⟩
   |some v=>exact⟨v.lo,v.hi,P',rfl,rfl⟩
  obtain⟨U,s2,f,v,E⟩:=Wo;rw[v,E]at HQ|-;obtain⟨P,N,Y⟩:=a;obtain⟨ba,x,o⟩:=b;simp only[eB,b6]at HQ|-;clear e ha hb v E;go_enter func391,ntmps391;go_wp2_with (go_at_call 405;refine(HQ.o _).mono ?_;rintro e t ⟨rfl,hb⟩;have r:=ſ hb;clear hb;obtain⟨x1,g⟩:=A<|aF r.o sy.2);refine aC (v:=p' #[k' #[G U,G s2],i' f]) (by simp[results391,go_sem,(A<|aw (o:=1) (aw (o:=0) (aF r.o sy.2)<|G U)<|G s2).1]) rfl ⟨rfl,?_⟩;exact Z3
 have e:Rf i a b=C' (Ed a b):=by unfold Rf;simp at h0 C h2;simp[h0,C,h2]
 rw[e];have d:=ſ<|Zy a b;obtain⟨P,N,Y⟩:=a;obtain⟨ba,x,o⟩:=b;have H1:=ſ λW=>qK N x W ha.lo hb.lo;have u:=ſ λW=>qK N o W ha.lo hb.hi;have f:=ſ λW=>qK Y x W ha.hi hb.lo;have b:=ſ λW=>qK Y o W ha.hi hb.hi;have T:=ſ λW q h=>pP (wrap64<|N*x,aT<|N*x) [(wrap64<|N*o,aT<|N*o),(wrap64<|Y*x,aT<|Y*x),(wrap64<|Y*o,aT<|Y*o)] (C'<|O q 0) 3 W h ak;simp only[bR,de,bW,Nat.reduceAdd]at T;simp only at d;rw[d.o]at T;clear ha hb e;simp only[Y4]at H1 u f b;generalize Ed ⟨P,N,Y⟩ ⟨ba,x,o⟩=s at T|-;generalize wrap64 (N*x)=y at H1 T;generalize wrap64 (N*o)=m2 at u T;generalize wrap64 (Y*x)=a at f T;generalize wrap64 (Y*o)=a at b T;generalize aT (N*x)=K at H1 T;generalize aT (N*o)=f2 at u T;generalize aT (Y*x)=t at f T;generalize aT (Y*o)=a at b T;obtain⟨sa,U,s2⟩:=s;simp only[eB,b6,M6]at T|-;go_enter func391,ntmps391;go_upto_region 7 with fail
 have B:J (d' ((((w.alloc oo).alloc<|kJ N Y).alloc<|j' #[G x,G o] 247).alloc iO) (δ w.1+1) #[G N,G Y] 247/\d' ((((w.alloc oo).alloc<|kJ N Y).alloc<|j' #[G x,G o] 247).alloc iO) (δ w.1+2) #[G x,G o] 247/\((((w.alloc oo).alloc<|kJ N Y).alloc<|j' #[G x,G o] 247).alloc iO).1[δ w.1+3]?=C' vF/\Bl w ((((w.alloc oo).alloc<|kJ N Y).alloc<|j' #[G x,G o] 247).alloc iO)):=by exact Z1
 generalize((((w.alloc oo).alloc<|kJ N Y).alloc<|j' #[G x,G o] 247).alloc iO)=V at B|-;have S:J (∀W,Bl V W->χ W (O (δ w.1+1) 0)=C' (G N)/\χ W (O (δ w.1+1) 1)=C' (G Y)/\χ W (O (δ w.1+1+1) 0)=C' (G x)/\χ W (O (δ w.1+1+1) 1)=C' (G o)):=by exact ZZ
 obtain⟨s0,Q,aa,s3⟩:=S.o V<|aP _ _
 go_region_held3 (λW=>χ W (O (δ w.1+1) 0)=C' (G N)/\χ W (O (δ w.1+1) 1)=C' (G Y)/\χ W (O (δ w.1+1+1) 0)=C' (G x)/\χ W (O (δ w.1+1+1) 1)=C' (G o)) (go_keep) (first|(have _:=c;go_at_call 401;refine(T.o _ _<|Y3 ak ak ak ak ak ak).mono ?_;rintro e a ⟨rfl,hb⟩;have p:Bl V a:=aq (aq c.o ay) hb;have Y:=ſ p;obtain⟨d,W,d,d⟩:=S.o a p;obtain⟨g1,k⟩:=A<|aF p B.c;clear hb p)|(have _:=l;go_at_call 404;refine(b.o _).mono ?_;rintro e a ⟨rfl,hb⟩;have p:Bl V a:=aq (aq l.o ay) hb;have c:=ſ p;obtain⟨b,b,d,b⟩:=S.o a p;clear hb p)|(have _:=L;go_at_call 404;refine(f.o _).mono ?_;rintro e X3 ⟨rfl,hb⟩;have p:Bl V X3:=aq (aq L.o ay) hb;have l:=ſ p;obtain⟨x0,x1,g,x3⟩:=S.o X3 p;clear hb p)|(have _:=D;go_at_call 404;refine(u.o _).mono ?_;rintro e X ⟨rfl,hb⟩;have p:Bl V X:=aq (aq D.o ay) hb;have L:=ſ p;obtain⟨o0,o1,o2,o3⟩:=S.o X p;clear hb p)|(go_at_call 404;refine(H1.o _).mono ?_;rintro e X1 ⟨rfl,hb⟩;have p:Bl V X1:=aq ay hb;have D:=ſ p;obtain⟨p0,p1,p2,p3⟩:=S.o X1 p;clear hb p))
 all_goals
  have l:=Y;exact Z4
section
variable {i b t:Nat}
structure PE where
  r:Bool
  a0:VV
  a1:VV
  a2:VV
  a3:VV
  a4:VV
  a5:VV
  a6:VV
  a7:VV
def VV.z:VV:=⟨Q',0,0⟩
def PE.zero:PE:=⟨Q',VV.z,VV.z,VV.z,VV.z,VV.z,VV.z,VV.z,VV.z⟩
def PE.at(e:PE)(i:Nat):VV:=if i=0 then e.a0 else if i=1 then e.a1 else if i=2 then e.a2 else if i=3 then e.a3 else if i=4 then e.a4 else if i=5 then e.a5 else if i=6 then e.a6 else if i=7 then e.a7 else VV.z
def PE.put(e:PE)(i:Nat)(x:VV):PE:=⟨e.r,if i=0 then x else e.a0,if i=1 then x else e.a1,if i=2 then x else e.a2,if i=3 then x else e.a3,if i=4 then x else e.a4,if i=5 then x else e.a5,if i=6 then x else e.a6,if i=7 then x else e.a7⟩
def KC.qv(x:VV):A':=k' #[i' x.any,G x.lo]
def KB.qv(x:VV):A':=k' #[G x.lo,G x.hi]
def KC.aL(e:PE):List A':=[i' e.r,i' e.a0.any,G e.a0.lo,i' e.a1.any,G e.a1.lo,i' e.a2.any,G e.a2.lo,i' e.a3.any,G e.a3.lo,i' e.a4.any,G e.a4.lo,i' e.a5.any,G e.a5.lo,i' e.a6.any,G e.a6.lo,i' e.a7.any,G e.a7.lo]
def KB.aL(e:PE):List A':=[i' e.r,G e.a0.lo,G e.a0.hi,G e.a1.lo,G e.a1.hi,G e.a2.lo,G e.a2.hi,G e.a3.lo,G e.a3.hi,G e.a4.lo,G e.a4.hi,G e.a5.lo,G e.a5.hi,G e.a6.lo,G e.a6.hi,G e.a7.lo,G e.a7.hi]
def TR(h:i<8):i=0\/i=1\/i=2\/i=3\/i=4\/i=5\/i=6\/i=7:=I
def KC.iX(e:PE)(h:i<8):(KC.aL e)[1+i*2]?=C' (i' (e.at i).any)/\(KC.aL e)[1+i*2+1]?=C' (G (e.at i).lo):=by rcases TR h with rfl|rfl|rfl|rfl|rfl|rfl|rfl|rfl<;>exact⟨rfl,rfl⟩
def KC.s5(e:PE)(h:i<8)(x:VV):((KC.aL e).toArray.setIfInBounds (1+i*2)<|i' x.any).setIfInBounds (1+i*2+1) (G x.lo)=θ (KC.aL<|e.put i x):=by rcases TR h with rfl|rfl|rfl|rfl|rfl|rfl|rfl|rfl<;>rfl
def ZY{p:Prop}(h:p:=by
 rcases R with rfl|rfl|rfl|rfl|rfl|rfl|rfl|rfl|rfl|rfl|rfl|rfl|rfl|rfl|rfl|rfl|rfl<;>rfl):p:=h
def KC.qe(e:PE):∀v∈KC.aL e,v.oneCell'=P':=by intro v R;simp only[KC.aL,cO,g!,gC]at R;exact ZY
def KC.bn(e:PE):(KC.aL e).toArray.all (·.oneCell')=P':=all_oneCell_toArray<|KC.qe e
def KC.MU(e:PE):ζ (KC.aL e)=17:=rfl
def KB.iX(e:PE)(h:i<8):(KB.aL e)[1+i*2]?=C' (G (e.at i).lo)/\(KB.aL e)[1+i*2+1]?=C' (G (e.at i).hi):=by rcases TR h with rfl|rfl|rfl|rfl|rfl|rfl|rfl|rfl<;>exact⟨rfl,rfl⟩
def KB.s5(e:PE)(h:i<8)(x:VV):((KB.aL e).toArray.setIfInBounds (1+i*2)<|G x.lo).setIfInBounds (1+i*2+1) (G x.hi)=θ (KB.aL<|e.put i x):=by rcases TR h with rfl|rfl|rfl|rfl|rfl|rfl|rfl|rfl<;>rfl
def KB.qe(e:PE):∀v∈KB.aL e,v.oneCell'=P':=by intro v R;simp only[KB.aL,cO,g!,gC]at R;exact ZY
def KB.bn(e:PE):(KB.aL e).toArray.all (·.oneCell')=P':=all_oneCell_toArray<|KB.qe e
def KB.MU(e:PE):ζ (KB.aL e)=17:=rfl
def PE.jO(e:PE){j:Nat}(h:i<8)(x:VV):(e.put i x).at j=if j=i then x else e.at j:=by
 by_cases f:j<8
 .rcases TR h with rfl|rfl|rfl|rfl|rfl|rfl|rfl|rfl<;>rcases TR f with rfl|rfl|rfl|rfl|rfl|rfl|rfl|rfl<;>rfl
 have:∀e:PE,e.at j=VV.z:=λe=>by unfold PE.at;repeat rw[ax I]
 rw[this,this,ax I]
def jl(e:PE)(o:kE):VV:=if o.aN then e.at o.var.toNat else VV.one o.bJ
def IG(w:t')(a b c d:Obj):((((w.alloc a).alloc b).alloc c).alloc d).1[δ w.1]?=C' a/\((((w.alloc a).alloc b).alloc c).alloc d).1[δ w.1+1]?=C' b/\((((w.alloc a).alloc b).alloc c).alloc d).1[δ w.1+2]?=C' c/\((((w.alloc a).alloc b).alloc c).alloc d).1[δ w.1+3]?=C' d:=by have h:=ZB (w.alloc a) b c d;have z:δ (w.alloc a).1=δ w.1+1:=ak;rw[z]at h;exact⟨aF gU<|bj _ _,h.1,h.2.1,h.2.2⟩
def bf{L:List A'}(h:w.1[b]?=C' (cL (θ L) t)):w.rangeAt b 0 L:=λj v R=>by rw[bW,(A h).1];simpa using R
def b5{n:Nat}{L:Array A'}(h:w.1[b]?=C' (cL L t))(K:L.size=n):w.there b 0 n:=λj f=>by rw[bW];refine⟨?_,(A h).2 j⟩;rw[(A h).1,rE I];rfl
def dC(b:Nat):∀(E:List A')(o:Nat)(w:t')(k:Nat),k≠b->(ψ w b o E).1[k]?=w.1[k]?
 |[],_,_,_,_=>rfl
 |v::r,o,w,k,h=>(dC b r (o+1) _ k h).trans<|bh _ _ _ _ h
def FY{B:Nat}{u:t'}(b:Nat)(a:B<=b):∀(E:List A')(o:Nat)(w:t'),Below B u w->Below B u (ψ w b o E)
 |[],_,_,h=>h
 |v::r,o,w,h=>FY b a r (o+1) _<|h.setCell a _
def cM{a b c}:=@FY a b c
def MC(b t:Nat):∀(E p a:List A')(w:t')(o:Nat),o=ζ p->w.1[b]?=C' (j' (θ<|p++a) t (0,0))->ζ a=ζ E->(ψ w b o E).1[b]?=C' (j' (θ<|p++E) t (0,0))
 |[],p,a,w,o,_,h,hl=>by have:a=[]:=eq_nil_of_length_eq_zero hl;subst this;exact h
 |v::r,p,[],w,o,_,h,hl=>by simp at hl
 |v::r,p,d::a,w,o,c,h,hl=>by
  have C:(κ w (O b o) v).1[b]?=C' (j' (θ<|(p++[v])++a) t (0,0)):=by rw[aw h,c];simp
  have d:=MC b t r (p++[v]) a _ (o+1) (by simp[c]) C (by simpa using hl);rw[df]at d;exact d
def cm{cs vs:List A'}(h:w.1[b]?=C' (cL (θ cs) t))(X:ζ cs=ζ vs):(ψ w b 0 vs).1[b]?=C' (cL (θ vs) t):=by have:=MC b t vs [] cs w 0 rfl h X;simpa using this
def KC.DU:True:=trivial
abbrev KC.dF(x:VV):A':=i' x.any
abbrev KC.dE(x:VV):A':=G x.lo
abbrev KB.dF(x:VV):A':=G x.lo
abbrev KB.dE(x:VV):A':=G x.hi
abbrev KC.qd:List A':=[i' Q',i' Q',G 0,i' Q',G 0,i' Q',G 0,i' Q',G 0,i' Q',G 0,i' Q',G 0,i' Q',G 0,i' Q',G 0]
abbrev KB.qd:List A':=[i' Q',G 0,G 0,G 0,G 0,G 0,G 0,G 0,G 0,G 0,G 0,G 0,G 0,G 0,G 0,G 0,G 0]
abbrev KC.IL:Array A':=vE
abbrev KB.IL:Array A':=#[G 0,G 0]
abbrev KC.iZ:Array A':=AI
abbrev KB.iZ:Array A':=AH
abbrev KC.fX:=@underlying228
abbrev KC.qF1:=@func309
abbrev KC.qN2:=@ntmps309
abbrev KC.bN:Nat:=228
abbrev KC.iH:Nat:=225
abbrev KC.qF7:=@func340
abbrev KC.qN8:=@ntmps340
abbrev KC.qF9:=@func313
abbrev KC.afu:=@ntmps313
abbrev KC.ib:Nat:=328
abbrev KC.afJ:=@func315
abbrev KC.aft:=@ntmps315
abbrev KC.afI:=@func308
abbrev KC.afs:=@ntmps308
abbrev KC.yR:Nat:=381
abbrev KC.afH:=@func311
abbrev KC.afr:=@ntmps311
abbrev KC.afG:=@func312
abbrev KC.afq:=@ntmps312
abbrev KC.afF:=@func316
abbrev KC.afp:=@ntmps316
abbrev KC.afE:=@func317
abbrev KC.afo:=@ntmps317
abbrev KC.Kd:Nat:=376
abbrev KC.afD:=@func314
abbrev KC.afn:=@ntmps314
abbrev KC.Pj:=@func274
abbrev KC.Ph:=@ntmps274
abbrev KC.XC:Nat:=316
abbrev KC.Ke:Nat:=317
abbrev KC.XB:Nat:=314
abbrev KC.XA:Nat:=312
abbrev KC.Xz:Nat:=311
abbrev KC.Xy:Nat:=308
abbrev KC.afP:=@Tryz.call308
abbrev KC.afO:=@Tryz.call311
abbrev KC.afN:=@Tryz.call312
abbrev KC.afM:=@Tryz.call314
abbrev KC.afL:=@Tryz.call316
abbrev KC.Xw:=@underlying226
abbrev KC.afC:=@func273
abbrev KC.afm:=@ntmps273
abbrev KC.Xx:Nat:=226
abbrev KC.afB:=@func271
abbrev KC.afl:=@ntmps271
abbrev KC.afA:=@func270
abbrev KC.afk:=@ntmps270
abbrev KC.afz:=@func272
abbrev KC.afj:=@ntmps272
abbrev KC.afy:=@func235
abbrev KC.afi:=@ntmps235
abbrev KC.Kc:Nat:=222
abbrev KC.ab8:Nat:=233
abbrev KC.aeL:=@underlying229
abbrev KC.aeK:=@underlying373
abbrev KC.afx:=@func212
abbrev KC.afh:=@ntmps212
abbrev KC.afe:Nat:=274
abbrev KC.yV:Nat:=270
abbrev KC.yU:Nat:=272
abbrev KC.aeN:Nat:=229
abbrev KC.s4:Nat:=375
abbrev KC.mP:Nat:=378
abbrev KC.aeM:Nat:=373
abbrev KC.ab7:=@underlying375
abbrev KC.ab6:=@underlying222
abbrev KC.afw:=@func210
abbrev KC.afg:=@ntmps210
abbrev KC.afv:=@func163
abbrev KC.aff:=@ntmps163
abbrev KC.afK:=@Tryz.call235
abbrev KC.aca:Nat:=210
abbrev KC.ab9:Nat:=235
abbrev KB.fX:=@underlying250
abbrev KB.qF1:=@func319
abbrev KB.qN2:=@ntmps319
abbrev KB.bN:Nat:=250
abbrev KB.iH:Nat:=247
abbrev KB.qF7:=@func341
abbrev KB.qN8:=@ntmps341
abbrev KB.qF9:=@func323
abbrev KB.afu:=@ntmps323
abbrev KB.ib:Nat:=331
abbrev KB.afJ:=@func325
abbrev KB.aft:=@ntmps325
abbrev KB.afI:=@func318
abbrev KB.afs:=@ntmps318
abbrev KB.yR:Nat:=386
abbrev KB.afH:=@func321
abbrev KB.afr:=@ntmps321
abbrev KB.afG:=@func322
abbrev KB.afq:=@ntmps322
abbrev KB.afF:=@func326
abbrev KB.afp:=@ntmps326
abbrev KB.afE:=@func327
abbrev KB.afo:=@ntmps327
abbrev KB.Kd:Nat:=338
abbrev KB.afD:=@func324
abbrev KB.afn:=@ntmps324
abbrev KB.Pj:=@func279
abbrev KB.Ph:=@ntmps279
abbrev KB.XC:Nat:=326
abbrev KB.Ke:Nat:=327
abbrev KB.XB:Nat:=324
abbrev KB.XA:Nat:=322
abbrev KB.Xz:Nat:=321
abbrev KB.Xy:Nat:=318
abbrev KB.afP:=@Tryz.call318
abbrev KB.afO:=@Tryz.call321
abbrev KB.afN:=@Tryz.call322
abbrev KB.afM:=@Tryz.call324
abbrev KB.afL:=@Tryz.call326
abbrev KB.Xw:=@underlying248
abbrev KB.afC:=@func278
abbrev KB.afm:=@ntmps278
abbrev KB.Xx:Nat:=248
abbrev KB.afB:=@func276
abbrev KB.afl:=@ntmps276
abbrev KB.afA:=@func275
abbrev KB.afk:=@ntmps275
abbrev KB.afz:=@func277
abbrev KB.afj:=@ntmps277
abbrev KB.afy:=@func239
abbrev KB.afi:=@ntmps239
abbrev KB.Kc:Nat:=244
abbrev KB.ab8:Nat:=242
abbrev KB.aeL:=@underlying238
abbrev KB.aeK:=@underlying335
abbrev KB.afx:=@func213
abbrev KB.afh:=@ntmps213
abbrev KB.afe:Nat:=279
abbrev KB.yV:Nat:=275
abbrev KB.yU:Nat:=277
abbrev KB.aeN:Nat:=238
abbrev KB.s4:Nat:=337
abbrev KB.mP:Nat:=340
abbrev KB.aeM:Nat:=335
abbrev KB.ab7:=@underlying337
abbrev KB.ab6:=@underlying244
abbrev KB.afw:=@func216
abbrev KB.afg:=@ntmps216
abbrev KB.afv:=@func166
abbrev KB.aff:=@ntmps166
abbrev KB.afK:=@Tryz.call239
abbrev KB.aca:Nat:=216
abbrev KB.ab9:Nat:=239
end
section
def ī{p:Prop}(h:p:=by
 have Q:(k:Int)<8:=I;simp only[KC.qv,KB.qv];go_enter qF1,qN2;go_upto_region 1 with fail
 have B:J ((((w.alloc<|j' (θ<|aL e) bN).alloc<|j' #[(dF x),(dE x)] iH).alloc<|j' iZ bN).1[δ w.1]?=C' (j' (θ<|aL e) bN (0,0))/\(((w.alloc<|j' (θ<|aL e) bN).alloc<|j' #[(dF x),(dE x)] iH).alloc<|j' iZ bN).1[δ w.1+1]?=C' (j' #[(dF x),(dE x)] iH (0,0))/\(((w.alloc<|j' (θ<|aL e) bN).alloc<|j' #[(dF x),(dE x)] iH).alloc<|j' iZ bN).1[δ w.1+2]?=C' (j' (θ<|qd) bN (0,0))/\Below w.1.size w (((w.alloc<|j' (θ<|aL e) bN).alloc<|j' #[(dF x),(dE x)] iH).alloc<|j' iZ bN)):=by obtain⟨s,v,b⟩:=ZB w (j' (θ<|aL e) bN) (j' #[(dF x),(dE x)] iH)<|j' iZ bN;exact⟨s,v,b,gU⟩
 generalize(((w.alloc<|j' (θ<|aL e) bN).alloc<|j' #[(dF x),(dE x)] iH).alloc<|j' iZ bN)=V at B|-;obtain⟨E,g⟩:=A B.a;obtain⟨c,d⟩:=A B.b;have t:χ V (O w.1.size<|1+k*2)=C' (dF<|e.at k):=by rw[E];exact(cz ..).trans (iX e hk).1
 have Y:χ V (O w.1.size<|1+k*2+1)=C' (dE<|e.at k):=by rw[E];exact(cz ..).trans (iX e hk).2
 clear E;go_upto_region 2 with fail
 have X:J ((κ (κ V (O w.1.size<|1+k*2)<|dF x) (O w.1.size<|1+k*2+1)<|dE x).1[δ w.1]?=C' (j' (θ<|aL<|e.put k x) bN (0,0))/\(κ (κ V (O w.1.size<|1+k*2)<|dF x) (O w.1.size<|1+k*2+1)<|dE x).1[δ w.1+2]?=C' (j' (θ<|qd) bN (0,0))/\Below w.1.size w (κ (κ V (O w.1.size<|1+k*2)<|dF x) (O w.1.size<|1+k*2+1)<|dE x)):=by refine⟨?_,((bh _ _ _ _<|by show δ w.1+2≠δ w.1;omega).trans (bh _ _ _ _<|by show δ w.1+2≠δ w.1;omega)).trans B.c,(B.C.setCell (aD _) _).setCell (aD _) _⟩;rw[aw (aw B.a _) _,s5 e hk]
 generalize(κ (κ V (O w.1.size<|1+k*2)<|dF x) (O w.1.size<|1+k*2+1)<|dE x)=q at X|-;obtain⟨V,b⟩:=Ea<|e.put k x;rw[<-b]at X;have f:=ſ b;clear g c d t Y b;have U:=b5 (n:=17) X.b rfl;go_wp2_with (first|(refine wpList_load_mid rfl bN (.tmp 3) rfl w.1.size 0 rfl (aL V) _ (bf X.a) fX rfl H ?_)|(refine wpList_store_mid rfl bN (.tmp 6) (.tmp 11) rfl (δ w.1+1+1) 0 (θ<|aL V) rfl rfl U H (bn _) ?_));have b:=cm X.b (vs:=aL V) rfl;have C:=run_loadVar_mid (P:=Tryz.prog) (ψ q (δ w.1+1+1) 0<|aL V) (δ w.1+1+1) 0 bN (aL V) _ (bf b) fX rfl H
 refine aC (v:=k'<|θ<|aL V) (by simp[results,results309,results319,C,Act.put,asAddr]) rfl ⟨by rw[f.o],cM I _ _ _ X.B⟩):p:=h
open KC in
def KC.kX(e:PE)(k:Nat)(x:VV)(w:World)(hk:k<8):
 Cl 309 #[.agg (KC.aL e).toArray,G k,KC.qv x] w (Rb w<|.agg (KC.aL<|e.put k x).toArray):=by exact ī
open KB in
def KB.kX(e:PE)(k:Nat)(x:VV)(w:World)(hk:k<8):
 Cl 319 #[.agg (KB.aL e).toArray,G k,KB.qv x] w (Rb w<|.agg (KB.aL<|e.put k x).toArray):=by exact ī
end
def KC.vO (w : t') : (nilAhead 605 328 (k' #[]) "warrant/rules.compute").run Tryz.prog w = .ok (C' Q') w := by kernel_rfl
def KB.vO (w : t') : (nilAhead 605 331 (k' #[]) "warrant/rules.compute").run Tryz.prog w = .ok (C' Q') w := by kernel_rfl
def KC.yT (w : t') : (nilAhead 605 328 (k' #[]) "warrant/rules.assume").run Tryz.prog w = .ok (C' Q') w := by kernel_rfl
def KB.yT (w : t') : (nilAhead 605 331 (k' #[]) "warrant/rules.assume").run Tryz.prog w = .ok (C' Q') w := by kernel_rfl
def KC.Gh (w : t') : (nilAhead 605 328 (k' #[]) "warrant/rules.meet").run Tryz.prog w = .ok (C' Q') w := by kernel_rfl
def KB.Gh (w : t') : (nilAhead 605 331 (k' #[]) "warrant/rules.meet").run Tryz.prog w = .ok (C' Q') w := by kernel_rfl
def KC.Gi (w : t') : (nilAhead 605 328 (k' #[]) "warrant/rules.join").run Tryz.prog w = .ok (C' Q') w := by kernel_rfl
def KB.Gi (w : t') : (nilAhead 605 331 (k' #[]) "warrant/rules.join").run Tryz.prog w = .ok (C' Q') w := by kernel_rfl
def KC.BV (w : t') : (nilAhead 605 328 (k' #[]) "warrant/rules.below").run Tryz.prog w = .ok (C' Q') w := by kernel_rfl
def KB.BV (w : t') : (nilAhead 605 331 (k' #[]) "warrant/rules.below").run Tryz.prog w = .ok (C' Q') w := by kernel_rfl
def KC.nJ (w : t') : (method 605 328 (k' #[]) "warrant/rules.constant").run Tryz.prog w = .ok (385, k' #[]) w := by kernel_rfl
def KB.nJ (w : t') : (method 605 331 (k' #[]) "warrant/rules.constant").run Tryz.prog w = .ok (392, k' #[]) w := by kernel_rfl
def KC.BW (w : t') : (method 605 328 (k' #[]) "warrant/rules.input").run Tryz.prog w = .ok (386, k' #[]) w := by kernel_rfl
def KB.BW (w : t') : (method 605 331 (k' #[]) "warrant/rules.input").run Tryz.prog w = .ok (393, k' #[]) w := by kernel_rfl
def KC.vP (w : t') : (method 605 328 (k' #[]) "warrant/rules.compute").run Tryz.prog w = .ok (384, k' #[]) w := by kernel_rfl
def KB.vP (w : t') : (method 605 331 (k' #[]) "warrant/rules.compute").run Tryz.prog w = .ok (391, k' #[]) w := by kernel_rfl
def KC.yW (w : t') : (method 605 328 (k' #[]) "warrant/rules.assume").run Tryz.prog w = .ok (382, k' #[]) w := by kernel_rfl
def KB.yW (w : t') : (method 605 331 (k' #[]) "warrant/rules.assume").run Tryz.prog w = .ok (389, k' #[]) w := by kernel_rfl
def KC.Gj (w : t') : (method 605 328 (k' #[]) "warrant/rules.meet").run Tryz.prog w = .ok (388, k' #[]) w := by kernel_rfl
def KB.Gj (w : t') : (method 605 331 (k' #[]) "warrant/rules.meet").run Tryz.prog w = .ok (395, k' #[]) w := by kernel_rfl
def KC.Gk (w : t') : (method 605 328 (k' #[]) "warrant/rules.join").run Tryz.prog w = .ok (387, k' #[]) w := by kernel_rfl
def KB.Gk (w : t') : (method 605 331 (k' #[]) "warrant/rules.join").run Tryz.prog w = .ok (394, k' #[]) w := by kernel_rfl
def KC.BX (w : t') : (method 605 328 (k' #[]) "warrant/rules.below").run Tryz.prog w = .ok (383, k' #[]) w := by kernel_rfl
def KB.BX (w : t') : (method 605 331 (k' #[]) "warrant/rules.below").run Tryz.prog w = .ok (390, k' #[]) w := by kernel_rfl
def ZX{p:Prop}(h:p:=by
 exact((aq gU U.o).setCell I' _).setCell I' _):p:=h
def KC.jD(e:PE)(o:kE)(w:t')(a:o.aN=P'->0<=o.var/\o.var<8):
  Cl 310 #[.iface 328<|k' #[],k'<|θ<|KC.aL e,k' #[i' o.aN,G o.var,G o.bJ]] w (Rb w<|KC.qv<|jl e o):=by
 obtain⟨y,q,c⟩:=o;simp only[jl]at a|-;cases y
 .have Y:=ſ λW=>K1 (k' #[]) c W rfl;have d:=KC.nJ;go_enter func310,ntmps310;go_wp2_with (go_at_call 385;refine(Y.o _).mono ?_;rintro r t ⟨rfl,(U:J _)⟩;have E:=A<|aF U.o E3.2.2);have R:=(A<|aw (o:=1) (aw (o:=0) (aF U.o E3.2.2)<|i' (VV.one c).any)<|G (VV.one c).lo).1;simp only[VV.one]at R;refine aC (v:=KC.qv<|VV.one c) (by simp[results310,go_sem,R,KC.qv,VV.one]) rfl ⟨ak,?_⟩;exact ZX
 obtain⟨k,rfl⟩:∃k:Nat,q=(k:Int):=⟨q.toNat,L'<|(a rfl).1⟩;have b:k<8:=by have:=(a rfl).2;omega
 have Q:(k:Int)<8:=I;clear a;go_enter func310,ntmps310;go_upto_region 2 with fail
 have B:=ſ<|M (ZB w (j' (θ<|KC.aL e) 228) (rh k c)<|j' vE 225)<|pO w (j' (θ<|KC.aL e) 228) (rh k c)<|j' vE 225;generalize((w.alloc<|j' (θ<|KC.aL e) 228).alloc<|rh k c).alloc (j' vE 225)=V at B|-;have E:=A B.a.1;have a:=A B.a.2.1;have W:=A B.a.2.2;have t:χ V (O w.1.size<|1+k*2)=C' (i' (e.at k).any):=by rw[E.1];exact(cz ..).trans (KC.iX e b).1
 have Y:χ V (O w.1.size<|1+k*2+1)=C' (G (e.at k).lo):=by rw[E.1];exact(cz ..).trans (KC.iX e b).2
 clear E;go_wp2_with fail;refine aC (v:=KC.qv<|e.at k) (by simp[results310,go_sem,(A<|aw (o:=1) (aw (o:=0) B.a.2.2<|i' (e.at k).any)<|G (e.at k).lo).1,KC.qv]) rfl ⟨ak,?_⟩;exact(B.A.setCell I' _).setCell I' _
def KB.jD(e:PE)(o:kE)(w:t')(a:o.aN=P'->0<=o.var/\o.var<8):
  Cl 320 #[.iface 331<|k' #[],k'<|θ<|KB.aL e,k' #[i' o.aN,G o.var,G o.bJ]] w (Rb w<|KB.qv<|jl e o):=by
 obtain⟨y,q,c⟩:=o;simp only[jl]at a|-;cases y
 .have Y:=ſ λW=>LQ (k' #[]) c W rfl;have d:=KB.nJ;simp only[eB]at Y;go_enter func320,ntmps320;go_wp2_with (go_at_call 392;refine(Y.o _).mono ?_;rintro r t ⟨rfl,(U:J _)⟩;have E:=A<|aF U.o E3.2.2);have R:=(A<|aw (o:=1) (aw (o:=0) (aF U.o E3.2.2)<|G (VV.one c).lo)<|G (VV.one c).hi).1;simp only[VV.one]at R;refine aC (v:=KB.qv<|VV.one c) (by simp[results320,go_sem,R,KB.qv,VV.one]) rfl ⟨ak,?_⟩;exact ZX
 obtain⟨k,rfl⟩:∃k:Nat,q=(k:Int):=⟨q.toNat,L'<|(a rfl).1⟩;have b:k<8:=by have:=(a rfl).2;omega
 have Q:(k:Int)<8:=I;clear a;go_enter func320,ntmps320;go_upto_region 2 with fail
 have B:=ſ<|M (ZB w (j' (θ<|KB.aL e) 250) (rh k c) iO)<|pO w (j' (θ<|KB.aL e) 250) (rh k c) iO;generalize((w.alloc<|j' (θ<|KB.aL e) 250).alloc<|rh k c).alloc iO=V at B|-;have E:=A B.a.1;have a:=A B.a.2.1;have W:=A B.a.2.2;have t:χ V (O w.1.size<|1+k*2)=C' (G (e.at k).lo):=by rw[E.1];exact(cz ..).trans (KB.iX e b).1
 have Y:χ V (O w.1.size<|1+k*2+1)=C' (G (e.at k).hi):=by rw[E.1];exact(cz ..).trans (KB.iX e b).2
 clear E;go_wp2_with fail;refine aC (v:=KB.qv<|e.at k) (by simp[results320,go_sem,(A<|aw (o:=1) (aw (o:=0) B.a.2.2<|G (e.at k).lo)<|G (e.at k).hi).1,KB.qv]) rfl ⟨ak,?_⟩;exact(B.A.setCell I' _).setCell I' _
section
def KC.Wf(a _:VV):Option VV:=C' a
def KB.Wf(a b:VV):Option VV:=if (cx a b.lo b.hi).lo<=(cx a b.lo b.hi).hi then C' (cx a b.lo b.hi) else D'
def Il(a b:VV):oF (b6 a) (b6 b)=b6 (cx a b.lo b.hi):=by simp only[oF,b6,cx,gM];constructor<;>split<;>omega
def KC.MR(a b:VV):∃m t,KC.Wf a b=(if t then C' m else D')/\∀w,Cl 388 #[k' #[],KC.qv a,KC.qv b] w (Rb w<|p' #[KC.qv m,i' t]):=⟨a,P',rfl,λw=>P8 (k' #[]) a.any b.any a.lo b.lo w rfl⟩
def KB.MR(a b:VV):∃m t,KB.Wf a b=(if t then C' m else D')/\∀w,Cl 395 #[k' #[],KB.qv a,KB.qv b] w (Rb w<|p' #[KB.qv m,i' t]):=by refine⟨cx a b.lo b.hi,decide ((cx a b.lo b.hi).lo<=(cx a b.lo b.hi).hi),by unfold KB.Wf;simp,λw=>?_⟩;have h:=CJ (k' #[]) (b6 a) (b6 b) w rfl;rw[Il]at h;exact h
def KC.f?(e:PE)(o:kE)(x:VV):PE:=if e.r&&o.aN then(match KC.Wf (e.at o.var.toNat) x with|some m=>e.put o.var.toNat m|none=>PE.zero) else e
def KB.f?(e:PE)(o:kE)(x:VV):PE:=if e.r&&o.aN then(match KB.Wf (e.at o.var.toNat) x with|some m=>e.put o.var.toNat m|none=>PE.zero) else e
def Ī{p:Prop}(h:p:=by
 obtain⟨y,q,c⟩:=o;obtain⟨l,z⟩:=Ea<|f? e ⟨y,q,c⟩ x;rw[<-z];simp only[KC.qv,KB.qv]at ho|-;cases v:e.r
 .have K:J (l=e):=by show _=_;rw[z];(first|unfold KC.f?|unfold KB.f?);simp[v]
  clear z ho;have b:(aL e)[0]?=C' (i' false):=by rw[<-v];rfl
  clear v;go_enter qF7,qN8;go_upto_region 2 with fail
  have B:=ſ<|M (IG w (j' (θ<|aL e) bN) (oZ y q c) (j' #[(dF x),(dE x)] iH)<|j' iZ bN)<|sw w (j' (θ<|aL e) bN) (oZ y q c) (j' #[(dF x),(dE x)] iH)<|j' iZ bN;generalize((((w.alloc<|j' (θ<|aL e) bN).alloc<|oZ y q c).alloc<|j' #[(dF x),(dE x)] iH).alloc<|j' iZ bN)=V at B|-;have U:=b5 (n:=17) B.a.2.2.2 rfl;go_wp2_with (first|(refine wpList_load_mid rfl bN (.tmp 5) rfl w.1.size 0 rfl (aL e) _ (bf B.a.1) fX rfl H ?_)|(refine wpList_store_mid rfl bN (.tmp 8) (.tmp 19) rfl (δ w.1+1+1+1) 0 (θ<|aL e) rfl rfl U H (bn _) ?_));have hq:=cm (cs:=qd) B.a.2.2.2 (vs:=aL e) rfl;have C:=run_loadVar_mid (P:=Tryz.prog) (ψ V (δ w.1+1+1+1) 0<|aL e) (δ w.1+1+1+1) 0 bN (aL e) _ (bf hq) fX rfl H;refine aC (v:=k'<|θ<|aL e) (by simp[results,results340,results341,C,Act.put,asAddr]) rfl ⟨by rw[K.o],cM I _ _ _ B.A⟩
 cases y
 .have K:J (l=e):=by show _=_;rw[z];(first|unfold KC.f?|unfold KB.f?);simp
  clear z ho;have b:(aL e)[0]?=C' (i' true):=by rw[<-v];rfl
  clear v;go_enter qF7,qN8;go_upto_region 2 with fail
  have B:=ſ<|M (IG w (j' (θ<|aL e) bN) (j' #[i' false,G q,G c] 150) (j' #[(dF x),(dE x)] iH)<|j' iZ bN)<|sw w (j' (θ<|aL e) bN) (j' #[i' false,G q,G c] 150) (j' #[(dF x),(dE x)] iH)<|j' iZ bN;generalize((((w.alloc<|j' (θ<|aL e) bN).alloc<|j' #[i' false,G q,G c] 150).alloc<|j' #[(dF x),(dE x)] iH).alloc<|j' iZ bN)=V at B|-;have U:=b5 (n:=17) B.a.2.2.2 rfl;go_wp2_with (first|(refine wpList_load_mid rfl bN (.tmp 5) rfl w.1.size 0 rfl (aL e) _ (bf B.a.1) fX rfl H ?_)|(refine wpList_store_mid rfl bN (.tmp 8) (.tmp 19) rfl (δ w.1+1+1+1) 0 (θ<|aL e) rfl rfl U H (bn _) ?_));have hq:=cm (cs:=qd) B.a.2.2.2 (vs:=aL e) rfl;have C:=run_loadVar_mid (P:=Tryz.prog) (ψ V (δ w.1+1+1+1) 0<|aL e) (δ w.1+1+1+1) 0 bN (aL e) _ (bf hq) fX rfl H;refine aC (v:=k'<|θ<|aL e) (by simp[results,results340,results341,C,Act.put,asAddr]) rfl ⟨by rw[K.o],cM I _ _ _ B.A⟩
 obtain⟨k,rfl⟩:∃k:Nat,q=(k:Int):=⟨q.toNat,by have:=(ho rfl).1;omega⟩;have f:k<8:=by have:=(ho rfl).2;omega
 have Q:(k:Int)<8:=I;have K:J (l=match Wf (e.at k) x with|some m=>e.put k m|none=>PE.zero):=by show _=_;rw[z];(first|unfold KC.f?|unfold KB.f?);simp[v]
 have b:(aL e)[0]?=C' (i' true):=by rw[<-v];rfl
 clear z ho v;obtain⟨m,t,d,b⟩:=MR (e.at k) x;have s:=ſ b;have q:=ſ λW=>kX e k m W f;rw[d]at K;clear b d;simp only[KC.qv,KB.qv]at s q;have d:=Gj;have N:=Gh;go_enter qF7,qN8;go_upto_region 3 with fail
 have B:=ſ<|M (IG w (j' (θ<|aL e) bN) (rh k c) (j' #[(dF x),(dE x)] iH)<|j' iZ bN)<|sw w (j' (θ<|aL e) bN) (rh k c) (j' #[(dF x),(dE x)] iH)<|j' iZ bN;generalize((((w.alloc<|j' (θ<|aL e) bN).alloc<|rh k c).alloc<|j' #[(dF x),(dE x)] iH).alloc<|j' iZ bN)=V at B|-;have S:J (∀b,Below V.1.size V b->χ b (O w.1.size<|1+k*2)=C' (dF<|e.at k)/\χ b (O w.1.size<|1+k*2+1)=C' (dE<|e.at k)/\χ b (O (δ w.1+1) 0)=C' (i' true)/\χ b (O (δ w.1+1) 1)=C' (G k)/\χ b (O (δ w.1+1) 2)=C' (G c)/\χ b (O (δ w.1+1+1) 0)=C' (dF x)/\χ b (O (δ w.1+1+1) 1)=C' (dE x)):=by intro b j;have R:=(A<|aF j B.a.1).1;have F:=(A<|aF j B.a.2.1).1;have i:=(A<|aF j B.a.2.2.1).1;exact⟨by rw[R];exact(cz ..).trans (iX e f).1,by rw[R];exact(cz ..).trans (iX e f).2,F 0,F 1,F 2,i 0,i 1⟩
 have E:δ w.1+3<δ V.1:=À B.a.2.2.2;have y:δ w.1≠δ V.1:=I;have d:=y.symm;have d:δ w.1+1≠δ V.1:=I;have f:=d.symm;have g:δ w.1+1+1≠δ V.1:=I;have u:=g.symm;have d:=S.o V<|aP _ _
 go_region_held3 (λb=>χ b (O w.1.size<|1+k*2)=C' (dF<|e.at k)/\χ b (O w.1.size<|1+k*2+1)=C' (dE<|e.at k)/\χ b (O (δ w.1+1) 0)=C' (i' true)/\χ b (O (δ w.1+1) 1)=C' (G k)/\χ b (O (δ w.1+1) 2)=C' (G c)/\χ b (O (δ w.1+1+1) 0)=C' (dF x)/\χ b (O (δ w.1+1+1) 1)=C' (dE x)) (go_keep) (first|((first|go_at_call 388 | go_at_call 395);refine(s.o _).mono ?_;rintro r f ⟨rfl,c⟩;have b:f.1[δ V.1]?=C' (j' IL iH (0,0)):=aF c (by first|exact bj V _|exact bj V.drew _);have N:=A b;have T:=ſ b;clear b;have b:Below V.1.size V f:=aq ay c;have D:=ſ b;have P:=S.o f b;clear c b)|((first|go_at_call 388 | go_at_call 395);refine(s.o _).mono ?_;rintro r f ⟨rfl,c⟩;have b:Below V.1.size V f:=aq ay c;have D:=ſ b;have P:=S.o f b;clear c b))
 all_goals
  first
  | (
    have b:J (Below V.1.size V (κ (κ f (O V.1.size 0)<|dF m) (O V.1.size 1)<|dE m)/\(κ (κ f (O V.1.size 0)<|dF m) (O V.1.size 1)<|dE m).1[δ V.1]?=C' (j' #[(dF m),(dE m)] iH (0,0))):=⟨(D.o.setCell (aD _) _).setCell (aD _) _,by rw[aw (aw T.o _) _];rfl⟩;generalize(κ (κ f (O V.1.size 0)<|dF m) (O V.1.size 1)<|dE m)=X at b|-;have L:=ſ b.o
    clear N)
  | (
    have L:J (Below V.1.size V (f.alloc<|j' #[(dF m),(dE m)] iH)/\(f.alloc<|j' #[(dF m),(dE m)] iH).1[δ f.1]?=C' (j' #[(dF m),(dE m)] iH (0,0))):=⟨aq D.o aY,bj _ _⟩;generalize f.alloc (j' #[(dF m),(dE m)] iH)=X at L|-
    generalize δ f.1=b at L|-)
  clear d P;cases t
  .have s:J (l=PE.zero):=K.o;have b:J (Below V.1.size V X):=L.a;have U:=b5 (n:=17) (aF b.o B.a.2.2.2) rfl;go_wp2_with (refine wpList_store_mid rfl bN (.tmp 8) (.tmp 36) rfl (δ w.1+1+1+1) 0 (θ<|aL PE.zero) rfl rfl U H (bn _) ?_);have hq:=cm (cs:=qd) (aF b.o B.a.2.2.2) (vs:=aL PE.zero) rfl;have C:=run_loadVar_mid (P:=Tryz.prog) (ψ X (δ w.1+1+1+1) 0<|aL PE.zero) (δ w.1+1+1+1) 0 bN (aL PE.zero) _ (bf hq) fX rfl H;refine aC (v:=k'<|θ<|aL PE.zero) (by simp[results,results340,results341,C,Act.put,asAddr]) rfl ⟨by rw[s.o],cM I _ _ _<|aq B.A b.o⟩
  have s:J (l=e.put k m):=K.o;have b:J (Below V.1.size V X):=L.a;have c:=A<|aF b.o B.a.2.1;have W:=A L.A;go_wp2_with (first|(refine wpList_load_mid rfl bN (.tmp 5) rfl w.1.size 0 rfl (aL e) _ (bf<|aF b.o B.a.1) fX rfl H ?_)|((first|go_at_call 309 | go_at_call 319);refine(q.o _).mono ?_;rintro r E ⟨rfl,Y⟩;have l:=ſ<|aq b.o Y;clear Y;have U:=b5 (n:=17) (aF l.o B.a.2.2.2) rfl)|(refine wpList_store_mid rfl bN (.tmp 8) (.tmp 41) rfl (δ w.1+1+1+1) 0 (θ<|aL<|e.put k m) rfl rfl U H (bn _) ?_));have hq:=cm (cs:=qd) (aF l.o B.a.2.2.2) (vs:=aL<|e.put k m) rfl;have C:=run_loadVar_mid (P:=Tryz.prog) (ψ E (δ w.1+1+1+1) 0<|aL<|e.put k m) (δ w.1+1+1+1) 0 bN (aL<|e.put k m) _ (bf hq) fX rfl H
  refine aC (v:=k'<|θ<|aL<|e.put k m) (by simp[results,results340,results341,C,Act.put,asAddr]) rfl ⟨by rw[s.o],cM I _ _ _<|aq B.A l.o⟩):p:=h
open KC in
def KC.pA(e:PE)(o:kE)(x:VV)(w:World)(ho:o.aN=true->0<=o.var/\o.var<8):
 Cl 340 #[.iface 328<|.agg #[],.agg<|θ<|KC.aL e,.agg #[.bool o.aN,G o.var,G o.bJ],KC.qv x] w (Rb w<|.agg<|θ<|KC.aL<|KC.f? e o x):=by exact Ī
open KB in
def KB.pA(e:PE)(o:kE)(x:VV)(w:World)(ho:o.aN=true->0<=o.var/\o.var<8):
 Cl 341 #[.iface 331<|.agg #[],.agg<|θ<|KB.aL e,.agg #[.bool o.aN,G o.var,G o.bJ],KB.qv x] w (Rb w<|.agg<|θ<|KB.aL<|KB.f? e o x):=by exact Ī
end
section
def KC.XD(op:Int)(a b:VV):Option VV:=if op=3/\b.any=Q'/\b.lo=0 then D' else if a.any||b.any then C' VV.fM else if qQ op b.lo then C' (VV.one<|lA op a.lo b.lo) else D'
def KB.XD(op:Int)(a b:VV):Option VV:=Rf op a b
def KC.MW(i:Int)(a b:VV)(d:dD<|b6 a)(e:dD<|b6 b):∃m t,KC.XD i a b=(if t then C' m else D')/\∀w,Cl 384 #[k' #[],G i,KC.qv a,KC.qv b] w (Rb w<|p' #[KC.qv m,i' t]):=by
 have h:=λw=>Eh (k' #[]) i a.any b.any a.lo b.lo w rfl d.lo e.lo;unfold ô at h;unfold KC.XD;by_cases C:i=3/\b.any=Q'/\b.lo=0
 .simp only[aB C]at h|-;exact⟨VV.z,Q',rfl,h⟩
 simp only[ax C]at h|-;by_cases c:(a.any||b.any)=P'
 .simp only[aB c]at h|-;exact⟨VV.fM,P',rfl,h⟩
 simp only[ax c]at h|-;exact⟨VV.one<|lA i a.lo b.lo,qQ i b.lo,rfl,h⟩
def KB.MW(i:Int)(a b:VV)(d:dD<|b6 a)(e:dD<|b6 b):∃m t,KB.XD i a b=(if t then C' m else D')/\∀w,Cl 391 #[k' #[],G i,KB.qv a,KB.qv b] w (Rb w<|p' #[KB.qv m,i' t]):=by
 have h:=λw=>ES (k' #[]) i a b w rfl d e;unfold KB.XD;cases T:Rf i a b with
 |none=>rw[T]at h;exact⟨VV.z,Q',rfl,h⟩
 |some v=>rw[T]at h;exact⟨v,P',rfl,h⟩
def KC.rY(e:PE)(n:SN):PE:=match KC.XD n.op (jl e n.a) (jl e n.b)with|some v=>e.put n.var.toNat v|none=>PE.zero
def KB.rY(e:PE)(n:SN):PE:=match KB.XD n.op (jl e n.a) (jl e n.b)with|some v=>e.put n.var.toNat v|none=>PE.zero
def ĩ{p:Prop}(h:p:=by
 obtain⟨m,t,f,g⟩:=MW n.op (jl e n.a) (jl e n.b) En Cp;obtain⟨k,l⟩:∃k:Nat,n.var=(k:Int):=⟨n.var.toNat,I⟩;have hk:k<8:=I;have s:n.var.toNat=k:=I;have HN:J (rY e n=if t then e.put k m else PE.zero):=by show _=_;(first|unfold KC.rY|unfold KB.rY);rw[f,s];cases t<;>rfl
 have U:=ſ λW=>jD e n.a W ha;have C:=ſ λW=>jD e n.b W hb;have u:=ſ g;have o:=ſ λW=>kX e k m W hk;have z:=vP;have N:=vO;generalize rY e n=ne at HN|-;generalize jl e n.a=z at U u;generalize jl e n.b=z at C u;clear f g ha hb En Cp s hv;obtain⟨x,s,op,j,f,T,g⟩:=n;simp only at l;subst l;simp only[aJ,KC.qv,KB.qv]at U C u o|-;go_enter qF9,afu;go_upto_region 1 with fail
 have B:=ſ<|M (ZB w (j' (θ<|aL e) bN) (j' #[m' bL,h' wa wl wc,G x,G k,G op,G j,i' f.aN,G f.var,G f.bJ,i' T.aN,G T.var,G T.bJ,h' ea el ec,m' g] 152)<|j' iZ bN)<|pO w (j' (θ<|aL e) bN) (j' #[m' bL,h' wa wl wc,G x,G k,G op,G j,i' f.aN,G f.var,G f.bJ,i' T.aN,G T.var,G T.bJ,h' ea el ec,m' g] 152)<|j' iZ bN;generalize(((w.alloc<|j' (θ<|aL e) bN).alloc<|j' #[m' bL,h' wa wl wc,G x,G k,G op,G j,i' f.aN,G f.var,G f.bJ,i' T.aN,G T.var,G T.bJ,h' ea el ec,m' g] 152).alloc<|j' iZ bN)=V at B|-;have g:J (∀W',Below V.1.size V W'->χ W' (O (δ w.1+1) 3)=C' (G k)/\χ W' (O (δ w.1+1) 4)=C' (G op)/\χ W' (O (δ w.1+1) 5)=C' (G j)/\χ W' (O (δ w.1+1) 6)=C' (i' f.aN)/\χ W' (O (δ w.1+1) 7)=C' (G f.var)/\χ W' (O (δ w.1+1) 8)=C' (G f.bJ)/\χ W' (O (δ w.1+1) 9)=C' (i' T.aN)/\χ W' (O (δ w.1+1) 10)=C' (G T.var)/\χ W' (O (δ w.1+1) 11)=C' (G T.bJ)):=by intro W' j;have F:=(A<|aF j B.a.2.1).1;exact⟨F 3,F 4,F 5,F 6,F 7,F 8,F 9,F 10,F 11⟩
 have E : δ w.1 + 2 < δ V.1 := À B.o.1.2.2;refine wp_region_held_drew (S := λW' => Below V.1.size V W') H ((aP _ _).drew) λaE => ?_;refine tq 0 (.iface ib<|k' #[]) ?_;refine tq 1 (n'<|C'<|O (δ w.1 + 1) 4) ?_;refine tr 2 (G op) (λW' bm => g.o W' bm) ?_;refine tq 3 (.iface ib<|k' #[]) ?_;refine tz 4 (k'<|θ<|aL e) ?_ (y := yieldsIf_load_mid H _ _ rfl _ _ rfl _ _ (λW' bm => bf<|aF bm B.o.1.1) fX rfl H);refine tq 5 (n'<|C'<|O (δ w.1 + 1) 6) ?_;refine tr 6 (k' #[i' f.aN, G f.var, G f.bJ]) (λW' bm => g.o W' bm) ?_;refine tq 8 (.iface ib<|k' #[]) ?_;refine tz 9 (k'<|θ<|aL e) ?_ (y := yieldsIf_load_mid H _ _ rfl _ _ rfl _ _ (λW' bm => bf<|aF bm B.o.1.1) fX rfl H);refine tq 10 (n'<|C'<|O (δ w.1 + 1) 9) ?_;refine tr 11 (k' #[i' T.aN, G T.var, G T.bJ]) (λW' bm => g.o W' bm) ?_;refine tq 13 (.func (.method "warrant/rules.compute") #[.iface ib<|k' #[]] #[]) ?_;refine tq 14 (.func (.method "warrant/rules.compute") #[.iface ib<|k' #[]] #[]) ?_;refine tq 15 (.iface ib<|k' #[]) ?_;refine wpAnyH_ready (rs := [7, 20]) H ak ?_;refine AllReadyH.cons rfl (λK j => ?_) (AllReadyH.cons rfl (λK j => ?_) AllReadyH.nil);go_simp;refine(U.o _).mono ?_;rintro r f ⟨rfl,hb⟩
 first|(have g:=aF hb T.o;have T:=ſ g;clear g)|(have g:f.1[δ V.1]?=C' (j' IL iH (0,0)):=aF hb (by first|exact bj V _|exact bj V.drew _);have T:=ſ g;clear g)|skip
 have D:J (Below V.1.size V f):=aq ay hb;clear hb;refine j.out _ _ D.o λaE=>?_;clear j K;refine pt ?_;refine wpAnyH_ready (rs:=[12,20]) H ak ?_;refine AllReadyH.cons rfl (λK j=>?_) (AllReadyH.cons rfl (λK j=>?_) AllReadyH.nil);go_simp;refine(C.o _).mono ?_;rintro r X ⟨rfl,hb⟩
 first|(have g:=aF hb T.o;have T:=ſ g;clear g)|(have g:X.1[δ f.1]?=C' (j' IL iH (0,0)):=aF hb (by first|exact bj f _|exact bj f.drew _);have T:=ſ g;clear g)|skip
 have L:J (Below V.1.size V X):=aq (aq D.o ay) hb;clear hb;refine j.out _ _ L.o λaE=>?_;clear j K;refine pt ?_;refine wpAnyH_ready (rs:=[16,20]) H ak ?_;refine AllReadyH.cons rfl (λK j=>?_) (AllReadyH.cons rfl (λK j=>?_) AllReadyH.nil);go_simp;refine(u.o _).mono ?_;rintro r E ⟨rfl,hb⟩
 first|(have g:=aF hb T.o;have T:=ſ g;clear g)|(have g:E.1[δ X.1]?=C' (j' IL iH (0,0)):=aF hb (by first|exact bj X _|exact bj X.drew _);have T:=ſ g;clear g)|skip
 have l:J (Below V.1.size V E):=aq (aq L.o ay) hb;clear hb;refine j.out _ _ l.o λaE=>?_;clear j K;refine pt ?_;refine tq 17 (p' #[k' #[(dF m),(dE m)],i' t]) ?_;refine tq 18 (k' #[(dF m),(dE m)]) ?_;refine tq 19 (i' t) ?_;refine r1 20 λK j=>?_;go_simp;refine j.out _ _ (aq l.o ay) λaE=>?_;clear j K;refine pt ?_;refine r1 21 λK j=>?_;go_simp;refine j.out _ _ (by first|exact((l.o.setCell (by show _<=δ E.1;first|exact aD _|exact l.o.size) _).setCell (by show _<=δ E.1;first|exact aD _|exact l.o.size) _)|exact aq l.o ay) λaE=>?_;clear j K;refine pt ?_;refine tq 22 (i' t) ?_;refine wpAnyH_done H ?_ _;rotate_left 1;go_simp;refine j.out _ _ (aq L.o ay) λaE=>?_;clear j K;refine pt ?_;refine r1 16 λK j=>?_;go_simp;refine(u.o _).mono ?_;rintro r E ⟨rfl,hb⟩
 first|(have g:=aF hb T.o;have T:=ſ g;clear g)|(have g:E.1[δ X.1]?=C' (j' IL iH (0,0)):=aF hb (by first|exact bj X _|exact bj X.drew _);have T:=ſ g;clear g)|skip
 have l:J (Below V.1.size V E):=aq (aq L.o ay) hb;clear hb;refine j.out _ _ l.o λaE=>?_;clear j K;refine pt ?_;refine tq 17 (p' #[k' #[(dF m),(dE m)],i' t]) ?_;refine tq 18 (k' #[(dF m),(dE m)]) ?_;refine tq 19 (i' t) ?_;refine r1 21 λK j=>?_;have N:=A T.o;go_simp;refine j.out _ _ (by first|exact((l.o.setCell (by show _<=δ X.1;first|exact aD _|exact L.o.size) _).setCell (by show _<=δ X.1;first|exact aD _|exact L.o.size) _)|exact aq l.o ay) λaE=>?_;clear j K;refine pt ?_;clear N;refine tq 22 (i' t) ?_;refine wpAnyH_done H ?_ _;rotate_left 1;go_simp;refine j.out _ _ (aq D.o ay) λaE=>?_;clear j K;refine pt ?_;refine r1 12 λK j=>?_;go_simp;refine(C.o _).mono ?_;rintro r X ⟨rfl,hb⟩
 first|(have g:=aF hb T.o;have T:=ſ g;clear g)|(have g:X.1[δ f.1]?=C' (j' IL iH (0,0)):=aF hb (by first|exact bj f _|exact bj f.drew _);have T:=ſ g;clear g)|skip
 have L:J (Below V.1.size V X):=aq (aq D.o ay) hb;clear hb;refine j.out _ _ L.o λaE=>?_;clear j K;refine pt ?_;refine r1 16 λK j=>?_;go_simp;refine(u.o _).mono ?_;rintro r E ⟨rfl,hb⟩
 first|(have g:=aF hb T.o;have T:=ſ g;clear g)|(have g:E.1[δ X.1]?=C' (j' IL iH (0,0)):=aF hb (by first|exact bj X _|exact bj X.drew _);have T:=ſ g;clear g)|skip
 have l:J (Below V.1.size V E):=aq (aq L.o ay) hb;clear hb;refine j.out _ _ l.o λaE=>?_;clear j K;refine pt ?_;refine tq 17 (p' #[k' #[(dF m),(dE m)],i' t]) ?_;refine tq 18 (k' #[(dF m),(dE m)]) ?_;refine tq 19 (i' t) ?_;refine r1 21 λK j=>?_;have N:=A T.o;go_simp;refine j.out _ _ (by first|exact((l.o.setCell (by show _<=δ f.1;first|exact aD _|exact D.o.size) _).setCell (by show _<=δ f.1;first|exact aD _|exact D.o.size) _)|exact aq l.o ay) λaE=>?_;clear j K;refine pt ?_;clear N;refine tq 22 (i' t) ?_;refine wpAnyH_done H ?_ _;rotate_left 1;go_simp;refine j.out _ _ ay λaE=>?_;clear j K;refine pt ?_;refine r1 7 λK j=>?_;go_simp;refine(U.o _).mono ?_;rintro r f ⟨rfl,hb⟩
 first|(have g:=aF hb T.o;have T:=ſ g;clear g)|(have g:f.1[δ V.1]?=C' (j' IL iH (0,0)):=aF hb (by first|exact bj V _|exact bj V.drew _);have T:=ſ g;clear g)|skip
 have D:J (Below V.1.size V f):=aq ay hb;clear hb;refine j.out _ _ D.o λaE=>?_;clear j K;refine pt ?_;refine r1 12 λK j=>?_;go_simp;refine(C.o _).mono ?_;rintro r X ⟨rfl,hb⟩
 first|(have g:=aF hb T.o;have T:=ſ g;clear g)|(have g:X.1[δ f.1]?=C' (j' IL iH (0,0)):=aF hb (by first|exact bj f _|exact bj f.drew _);have T:=ſ g;clear g)|skip
 have L:J (Below V.1.size V X):=aq (aq D.o ay) hb;clear hb;refine j.out _ _ L.o λaE=>?_;clear j K;refine pt ?_;refine r1 16 λK j=>?_;go_simp;refine(u.o _).mono ?_;rintro r E ⟨rfl,hb⟩
 first|(have g:=aF hb T.o;have T:=ſ g;clear g)|(have g:E.1[δ X.1]?=C' (j' IL iH (0,0)):=aF hb (by first|exact bj X _|exact bj X.drew _);have T:=ſ g;clear g)|skip
 have l:J (Below V.1.size V E):=aq (aq L.o ay) hb;clear hb;refine j.out _ _ l.o λaE=>?_;clear j K;refine pt ?_;refine tq 17 (p' #[k' #[(dF m),(dE m)],i' t]) ?_;refine tq 18 (k' #[(dF m),(dE m)]) ?_;refine tq 19 (i' t) ?_;refine r1 21 λK j=>?_;have N:=A T.o;go_simp;refine j.out _ _ (by exact((l.o.setCell (aD _) _).setCell (aD _) _)) λaE=>?_;clear j K;refine pt ?_;clear N;refine tq 22 (i' t) ?_;refine wpAnyH_done H ?_ _
 all_goals
  first
  | (
    have HX:J (Below V.1.size V (κ (κ E (O V.1.size 0)<|dF m) (O V.1.size 1)<|dE m)/\(κ (κ E (O V.1.size 0)<|dF m) (O V.1.size 1)<|dE m).1[δ V.1]?=C' (j' #[(dF m),(dE m)] iH (0,0))):=⟨(l.o.setCell (aD _) _).setCell (aD _) _,by rw[aw (aw (show E.1[δ V.1]?=C' (j' IL iH (0,0))from T.o) _) _];rfl⟩
    generalize(κ (κ E (O V.1.size 0)<|dF m) (O V.1.size 1)<|dE m)=Y at HX|-)
  | (
    have HX:J (Below V.1.size V (κ (κ E (O f.1.size 0)<|dF m) (O f.1.size 1)<|dE m)/\(κ (κ E (O f.1.size 0)<|dF m) (O f.1.size 1)<|dE m).1[δ f.1]?=C' (j' #[(dF m),(dE m)] iH (0,0))):=⟨(l.o.setCell (D.o.size) _).setCell (D.o.size) _,by rw[aw (aw (show E.1[δ f.1]?=C' (j' IL iH (0,0))from T.o) _) _];rfl⟩
    generalize(κ (κ E (O f.1.size 0)<|dF m) (O f.1.size 1)<|dE m)=Y at HX|-)
  | (
    have HX:J (Below V.1.size V (κ (κ E (O X.1.size 0)<|dF m) (O X.1.size 1)<|dE m)/\(κ (κ E (O X.1.size 0)<|dF m) (O X.1.size 1)<|dE m).1[δ X.1]?=C' (j' #[(dF m),(dE m)] iH (0,0))):=⟨(l.o.setCell (L.o.size) _).setCell (L.o.size) _,by rw[aw (aw (show E.1[δ X.1]?=C' (j' IL iH (0,0))from T.o) _) _];rfl⟩
    generalize(κ (κ E (O X.1.size 0)<|dF m) (O X.1.size 1)<|dE m)=Y at HX|-)
  | (
    have HX:J (Below V.1.size V (E.alloc<|j' #[(dF m),(dE m)] iH)/\(E.alloc<|j' #[(dF m),(dE m)] iH).1[δ E.1]?=C' (j' #[(dF m),(dE m)] iH (0,0))):=⟨aq l.o aY,bj _ _⟩
    generalize(E.alloc<|j' #[(dF m),(dE m)] iH)=Y at HX|-)
  cases t
  .have s:J (ne=PE.zero):=HN.o;have U:=b5 (n:=17) (aF HX.a B.a.2.2) rfl;go_wp2_with (refine wpList_store_mid rfl bN (.tmp 6) (.tmp 31) rfl (δ w.1+1+1) 0 (θ<|aL PE.zero) rfl rfl U H (bn _) ?_);have hq:=cm (cs:=qd) (aF HX.a B.a.2.2) (vs:=aL PE.zero) rfl;have C:=run_loadVar_mid (P:=Tryz.prog) (ψ Y (δ w.1+1+1) 0<|aL PE.zero) (δ w.1+1+1) 0 bN (aL PE.zero) _ (bf hq) fX rfl H;refine aC (v:=k'<|θ<|aL PE.zero) (by simp[results,results313,results323,C,Act.put,asAddr]) rfl ⟨by rw[s.o],cM I _ _ _<|aq B.A HX.a⟩
  have s:J (ne=e.put k m):=HN.o;have f:=A<|aF HX.a B.a.2.1;have W:=A HX.A;go_wp2_with (first|(refine wpList_load_mid rfl bN (.tmp 4) rfl w.1.size 0 rfl (aL e) _ (bf<|aF HX.a B.a.1) fX rfl H ?_)|((first|go_at_call 309 | go_at_call 319);refine(o.o _).mono ?_;rintro r f ⟨rfl,z⟩;have Y:=ſ<|aq HX.a z;clear z;have U:=b5 (n:=17) (aF Y.o B.a.2.2) rfl)|(refine wpList_store_mid rfl bN (.tmp 6) (.tmp 36) rfl (δ w.1+1+1) 0 (θ<|aL<|e.put k m) rfl rfl U H (bn _) ?_));have hq:=cm (cs:=qd) (aF Y.o B.a.2.2) (vs:=aL<|e.put k m) rfl;have C:=run_loadVar_mid (P:=Tryz.prog) (ψ f (δ w.1+1+1) 0<|aL<|e.put k m) (δ w.1+1+1) 0 bN (aL<|e.put k m) _ (bf hq) fX rfl H
  refine aC (v:=k'<|θ<|aL<|e.put k m) (by simp[results,results313,results323,C,Act.put,asAddr]) rfl ⟨by rw[s.o],cM I _ _ _<|aq B.A Y.o⟩):p:=h
open KC in
def KC.s6(e:PE)(bL:ByteArray)(wa ea:Option Addr)(wl wc el ec:Nat)(n:SN)(w:World)(hv:0<=n.var/\n.var<8)(ha:n.a.aN=true->0<=n.a.var/\n.a.var<8)(hb:n.b.aN=true->0<=n.b.var/\n.b.var<8)(En:dD<|b6<|jl e n.a)(Cp:dD<|b6<|jl e n.b):
 Cl 313 #[.iface 328<|.agg #[],.agg<|θ<|KC.aL e,.agg<|aJ bL (.slice wa wl wc) n<|.slice ea el ec] w (Rb w<|.agg<|θ<|KC.aL<|KC.rY e n):=by exact ĩ
open KB in
def KB.s6(e:PE)(bL:ByteArray)(wa ea:Option Addr)(wl wc el ec:Nat)(n:SN)(w:World)(hv:0<=n.var/\n.var<8)(ha:n.a.aN=true->0<=n.a.var/\n.a.var<8)(hb:n.b.aN=true->0<=n.b.var/\n.b.var<8)(En:dD<|b6<|jl e n.a)(Cp:dD<|b6<|jl e n.b):
 Cl 323 #[.iface 331<|.agg #[],.agg<|θ<|KB.aL e,.agg<|aJ bL (.slice wa wl wc) n<|.slice ea el ec] w (Rb w<|.agg<|θ<|KB.aL<|KB.rY e n):=by exact ĩ
end
def A!(nv:Int)(x:Nd):Bool:=!x.reached||decide ((ζ x.aG:Int)=nv)
def zP(T:u')(r Q:Nat)(v:List Nd)(w:t')(h:bX w T v)(K:ζ v<=60):
  Cl 161 #[h' T (ζ v) r,G Q] w (Rb w<|i'<|v.all<|A! (Q:Int)):=by
 have s:=ſ h;clear h;go_enter func161,ntmps161;go_wp2_with fail;go_loopw[9] (λy wr=>∃i:Nat,i<=ζ v/\y=G i/\J ((v.take i).all (A! (Q:Int))=P'/\Bl w wr)) (λy _=>ζ v-(intOf y).toNat)
 case atStart=>exact⟨0,bq _,rfl,rfl,aP _ _⟩
 obtain⟨i,S,rfl,d⟩:=hrel;by_cases L:i<ζ v;rotate_left
 .have a:¬(i:Int)<(ζ v:Int):=I;go_wp2_with fail;go_ret;exact⟨by have C:=d.a;rw[b! I]at C;rw[C];rfl,d.A⟩
 have a:(i:Int)<(ζ v:Int):=I;obtain⟨x,F⟩:=La L;obtain⟨b,o,a,l,z,q,rc,a,rfl,T,a,p,a,P,b⟩:=s.o.below d.A i x F;have a:=ſ F;clear F b;obtain⟨e,Y⟩:=Ea x.reached;have U:J (A! (Q:Int) x=(!e||decide ((ζ x.aG:Int)=Q))):=by rw[Y];rfl
 rw[<-Y]at p;clear Y;cases e
 .go_wp2_with fail;go_roundw
  case rel=>exact⟨i+1,L,f',by rw[jW _ a.o,d.a,U.o];rfl,d.A.alloc d.A.size _⟩
  exact H'
 by_cases T:(ζ x.aG:Int)=Q
 .have c:ζ x.aG=Q:=I;have j:J (A! (Q:Int) x=P'):=by show _=_;rw[U.o];simp[T]
  rw[c]at P;clear T c;go_wp2_with fail;go_roundw
  case rel=>exact⟨i+1,L,f',by rw[jW _ a.o,d.a,j.o];rfl,d.A.alloc d.A.size _⟩
  exact H'
 have j:J (A! (Q:Int) x=Q'):=by show _=_;rw[U.o];simp[T]
 have c:(ζ x.aG==Q)=Q':=by simp;omega
 have Y:((ζ x.aG:Int)==(Q:Int))=Q':=by simp;omega
 have E:¬ζ x.aG=Q:=I;go_wp2_with fail;go_ret;exact⟨by rw[wq _ a.o j.o];rfl,d.A.alloc d.A.size _⟩
def Ub(v:Vl)(r:Int):VV:=if v.aO=1 then VV.one v.lo else if v.bO&&decide (r<=v.rank) then VV.one v.first else VV.fM
def ZV{p:Prop}(h:p:=by
 go_enter func234,ntmps234;go_wp2_with fail
 refine aC (v:=.agg q?) (by simp[results,results234,go_sem]) rfl ⟨rfl,cU⟩):p:=h
def EN(v:Vl)(r:Int)(w:t'):
  Cl 234 #[k' #[G v.aO,G v.lo,G v.hi,i' v.bO,G v.first,G v.rank],G r] w (Rb w<|KC.qv<|Ub v r):=by
 obtain⟨x,j,S,bO,first,a⟩:=v;simp only[KC.qv,Ub];cases C:(x==1);rotate_left
 .have b:x=1:=J' C;simp only[aB b];go_enter func234,ntmps234;go_wp2_with fail;refine aC (v:=k'<|om j) (by simp[results234,go_sem]) rfl ⟨rfl,cU⟩
 have b:¬x=1:=J' C;simp only[ax b];cases bO
 .exact ZV
 by_cases b:r<=a
 .have Q:decide (r<=a)=P':=J' b;simp only[Q,CS,b8];go_enter func234,ntmps234;go_wp2_with fail;refine aC (v:=k' #[i' Q',G first]) (by simp[results234,go_sem]) rfl ⟨rfl,cU⟩
 have Q:decide (r<=a)=Q':=J' b;simp only[Q,Bool.and_false,bV,bB];exact ZV
def FK{s:z'}(h:0<s.size):s.1.1=s[0]::(s.extract 1 s.size).1.1:=by
 have X:ζ s.1.1=s.size:=rfl;have e:(s.extract 1 s.size).1.1=s.1.1.drop 1:=by rw[ByteArray.data_extract,Array.toList_extract];show(s.1.1.drop 1).take (s.size-1)=_;rw[b!<|by rw[Jl,X];exact aD _]
 rw[e];cases y:s.1.1 with
 |nil=>rw[y]at X;simp at X;omega
 |cons a r=>
  have:s[0]=a:=by
   have b:s.1.1[0]?=C' a:=by rw[y];rfl
   have N:s.1.1[0]?=C' s[0]:=by rw[aQ<|by rw[X];exact h];rfl
   rw[N]at b;exact dW b
  rw[this];rfl
def QN:∀r:Fin 256,bits BinOp.and IntKind.u8 ((r.val:Nat):Int) 127=((r.val % 128:Nat):Int):=by decide +kernel
def aeb(b:UInt8):bits BinOp.and IntKind.u8 (b.toNat:Int) 127=((b.toNat % 128:Nat):Int):=QN ⟨b.toNat,sG b⟩
def Rw(n:Nat)(h:n<18446744073709551616):IntKind.u64.wrap (n:Int)=n:=by
 have e:IntKind.u64.wrap (n:Int)=n % 18446744073709551616:=by simp[IntKind.wrap,IntKind.bits,IntKind.signed]
 rw[e];omega
def D1(i:Nat):128 ^ i=2 ^ (7*i):=by rw[Nat.pow_mul]
def yK(n i:Nat)(b:UInt8)(K:n<128 ^ i)(R:n+128 ^ i*(b.toNat % 128)<18446744073709551616):bits BinOp.or IntKind.u64 (n:Int) (IntKind.u64.wrap<|IntKind.u64.wrap (bits BinOp.and IntKind.u8 (b.toNat:Int) 127)*2 ^ (7*i))=((n+128 ^ i*(b.toNat % 128):Nat):Int):=by
 rw[aeb,Rw _ I];have e:((b.toNat % 128:Nat):Int)*2 ^ (7*i)=((128 ^ i*(b.toNat % 128):Nat):Int):=by
  rw[D1]
  push_cast
  rw[Fl]
 rw[e,Rw _ I,CY _ _ I I];congr 1;have a:128 ^ i*(b.toNat % 128)=(b.toNat % 128) <<< (7*i):=by rw[Nat.shiftLeft_eq,D1,xI]
 rw[a,Nat.or_comm,<-Nat.shiftLeft_add_eq_or_of_lt (by rw[<-D1];exact K),xS]
def ahs(w w':t')(rb:Nat)(s:z')(e:Ending):Prop:=(∃n s',rc s.1.1=C' (n,s'.1.1)/\s'.size<=s.size/\e=o' (Z n)/\dc w' rb s' Q')\/(rc s.1.1=D'/\e=o' (Z 0)/\∃s',s'.size<=s.size/\dc w' rb s' P')
def aaE(h:p:=by
 have Y:decide ((b.toNat:Int)<128)=P':=by rw[bw];omega
 have z:n+128 ^ i*(b.toNat % 128)<18446744073709551616:=by have C:128 ^ i*(b.toNat % 128)<=128 ^ i*1:=Jj _ I;have D:=K.o;omega
 have u:=yK n i b K.o z;obtain⟨N,p⟩:=Ea<|n+128 ^ i*(b.toNat % 128);rw[<-p]at u z;have r:=ſ p;clear p;have w:J (rc s.1.1=C' (N,F.1.1)):=by show _=_;rw[V.b,tO _ _ _ _ _ h,ax I];have d:=rG h;have g:=r.o;rw[d]at g;rw[<-g,aB z]
 clear j B a y f k;go_wp2_with (go_at_call 156;refine(V.a _ P.o).mono ?_;rintro e t ⟨rfl,C,l⟩;have E:=A C;have c:=ſ<|M C l;clear C l);go_ret
 exact⟨aI ⟨N,F,w.o,L' V.B,rfl,c.a⟩,T.o.trans c.A⟩):p:=h
def R3(h:p:=by
 clear j B a y;go_wp2_with (go_at_call 156;refine(V.a _ P.o).mono ?_;rintro e t ⟨rfl,C,l⟩;have E:=A C;have c:=ſ<|M C l;clear C l);go_ret
 exact⟨aH ⟨w.o,rfl,F,L' V.B,aw c.a _⟩,(T.o.trans c.A).trans ub⟩):p:=h
def aaD(h:p:=by
 have C:128 ^ i*(b.toNat % 128)<=128 ^ i*127:=Jj _ I;have L:=a I;have D:=K.o
 omega):p:=h
def Pv(b:Nat)(s:z')(w:t')(h:dc w b s Q')(y:s.size<=60000):
  Cl 230 (bM b) w λe a=>ahs w a b s e/\ξ w a (C' b):=by
 have d:=(show J (dc w b s Q')from h);clear h;go_enter func230,ntmps230;go_wp2_with fail;go_loopw[3,4] (λQ a wr=>∃(i n:Nat)(q:z'),i<=9/\n<128 ^ i/\Q=Z n/\a=G ((7*i:Nat):Int)/\q.size<=s.size/\J (rc s.1.1=oI i n (lr (10-i) q.1.1))/\J (dc wr b q Q')/\J (ξ w wr<|C' b)) (λ_ a _=>100-(intOf a).toNat)
 case atStart=>exact⟨0,0,s,I,ak,rfl,rfl,aD _,ab4 _,d,World.grownBy.refl _ _⟩
 obtain⟨i,n,q,S,o,rfl,rfl,d,v,P,T⟩:=hrel;by_cases D:0<q.size;rotate_left
 .have w:J (rc s.1.1=D'):=by show _=_;have l:q.1.1=[]:=fg.1 (show q.size=0 by omega);rw[v.o,l,Y0]
  have a:((0:Int)==0)=P':=rfl;go_wp2_with (go_at_call 156;refine(rU b q Q' _ P.o<|aH I).mono ?_;rintro e t ⟨rfl,C,l⟩;have E:=A C;have c:=ſ<|M C l;clear C l)
  all_goals
   go_ret
   first
    |exact⟨aH ⟨w.o,rfl,q,d,c.a⟩,T.o.trans c.A⟩
    |exact⟨aH ⟨w.o,rfl,q,d,aw c.a _⟩,(T.o.trans c.A).trans ub⟩
 obtain⟨k,y⟩:∃k,10-i=k+1:=⟨9-i,I⟩;have j:=sG<|q[0];have X:(q.extract 1 q.size).size<=q.size:=ak;have R:=v.o;rw[y,FK D]at R;have L:=λW v=>BK b q W v D I;generalize g:q[0]=b at j R L;generalize f:q.extract 1 q.size=F at X R L;have V:=ſ<|M L<|M R X;have d:n<128 ^ i:=o;have K:=ſ d;have B:128 ^ i<=2^63:=by have:128 ^ i<=128 ^ 9:=Fi I S;omega
 have a:i<9->128 ^ i<=72057594037927936:=by intro h;have:128 ^ i<=128 ^ 8:=Fi I I;omega
 clear L R X g f o d;by_cases h:b.toNat<128;rotate_left
 .by_cases v:i=9
  .have q:((b.toNat:Int)==0)=Q':=by rw[dO];omega
   have x:decide (1<(b.toNat:Int))=P':=by rw[bw];omega
   have o:(7*(i:Int)==63)=P':=by rw[eo];omega
   have Y:decide ((b.toNat:Int)<128)=Q':=by rw[gB];omega
   have w:J (rc s.1.1=D'):=by show _=_;rw[V.b,H! _ _ _ _ _ h,show k=0 by omega];rfl
   exact R3
  have q:((b.toNat:Int)==0)=Q':=by rw[dO];omega
  have x:decide (1<(b.toNat:Int))=P':=by rw[bw];omega
  have o:(7*(i:Int)==63)=Q':=by rw[dO];omega
  have Y:decide ((b.toNat:Int)<128)=Q':=by rw[gB];omega
  have z:n+128 ^ i*(b.toNat % 128)<18446744073709551616:=by exact aaD
  have u:=yK n i b K.o z;obtain⟨N,p⟩:=Ea<|n+128 ^ i*(b.toNat % 128);rw[<-p]at u z;have r:=ſ p;clear p;have w:J (rc s.1.1=oI (i+1) N (lr (10-(i+1)) F.1.1)/\N<128 ^ (i+1)):=by
   refine⟨?_,?_⟩
   .rw[V.b,H! _ _ _ _ _ h,r.o,show 10-(i+1)=k by omega]
   have C:128 ^ i*(b.toNat % 128)<=128 ^ i*127:=Jj _ I;have D:=K.o;rw[r.o,vA];omega
  clear j B a y;go_wp2_with (go_at_call 156;refine(V.a _ P.o).mono ?_;rintro e t ⟨rfl,C,l⟩;have E:=A C;have c:=ſ<|M C l;clear C l);exact⟨⟨i+1,N,F,I,w.A,rfl,f',L' V.B,w.a,c.a,T.o.trans c.A⟩,by simp[intOf];omega⟩
 by_cases f:b.toNat=0
 .by_cases k:i=0;rotate_left
  .have q:((b.toNat:Int)==0)=P':=by rw[eo];omega
   have d:decide (0<7*(i:Int))=P':=by rw[bw];omega
   have x:decide (1<(b.toNat:Int))=Q':=by rw[gB];omega
   have Y:decide ((b.toNat:Int)<128)=P':=by rw[bw];omega
   have w:J (rc s.1.1=D'):=by show _=_;rw[V.b,tO _ _ _ _ _ h,aB I]
   exact R3
  have q:((b.toNat:Int)==0)=P':=by rw[eo];omega
  have d:decide (0<7*(i:Int))=Q':=by rw[gB];omega
  have x:decide (1<(b.toNat:Int))=Q':=by rw[gB];omega
  have o:(7*(i:Int)==63)=Q':=by rw[dO];omega
  exact aaE
 by_cases k:b.toNat=1
 .have q:((b.toNat:Int)==0)=Q':=by rw[dO];omega
  have x:decide (1<(b.toNat:Int))=Q':=by rw[gB];omega
  exact aaE
 by_cases v:i=9
 .have q:((b.toNat:Int)==0)=Q':=by rw[dO];omega
  have x:decide (1<(b.toNat:Int))=P':=by rw[bw];omega
  have o:(7*(i:Int)==63)=P':=by rw[eo];omega
  have Y:decide ((b.toNat:Int)<128)=P':=by rw[bw];omega
  have w:J (rc s.1.1=D'):=by show _=_;rw[V.b,tO _ _ _ _ _ h,ax I,ax ?_];subst v;omega
  exact R3
 have q:((b.toNat:Int)==0)=Q':=by rw[dO];omega
 have x:decide (1<(b.toNat:Int))=P':=by rw[bw];omega
 have o:(7*(i:Int)==63)=Q':=by rw[dO];omega
 have Y:decide ((b.toNat:Int)<128)=P':=by rw[bw];omega
 have z:n+128 ^ i*(b.toNat % 128)<18446744073709551616:=by exact aaD
 have u:=yK n i b K.o z;obtain⟨N,p⟩:=Ea<|n+128 ^ i*(b.toNat % 128);rw[<-p]at u z;have r:=ſ p;clear p;have w:J (rc s.1.1=C' (N,F.1.1)):=by show _=_;rw[V.b,tO _ _ _ _ _ h,ax I];have d:=rG h;have g:=r.o;rw[d]at g;rw[<-g,aB z]
 clear j B a y;go_wp2_with (go_at_call 156;refine(V.a _ P.o).mono ?_;rintro e t ⟨rfl,C,l⟩;have E:=A C;have c:=ſ<|M C l;clear C l);go_ret;exact⟨aI ⟨N,F,w.o,L' V.B,rfl,c.a⟩,T.o.trans c.A⟩
section
variable {α:Type}
def ï(w':t')(rb:Nat)(s:z')(res:Option<|α×y')(val:α->A')(z:A')(e:Ending):Prop:=
 (∃a s',res=C' (a,s'.1.1)/\s'.size<=s.size/\e=o' (val a)/\dc w' rb s' Q')\/(res=D'/\e=o' z/\∃s',s'.size<=s.size/\dc w' rb s' P')
def dU(bad:Bool)(p:y'->Option (α×y'))(s:z'):Option (α×y'):=if bad then D' else p s.1.1
def nN(a:Nat)(s:z')(b:Bool)(w:t')(h:dc w a s b)(y:s.size<=60000):
  Cl 230 (bM a) w λe c=>ï c a s (dU b rc s) (λn:Nat=>Z n) (Z 0) e/\ξ w c (C' a):=by
 cases b with
 |false=>refine(Pv a s w h y).mono ?_;rintro e c ⟨C,b⟩;exact⟨C,b⟩
 |true=>
  have d:=(show J (dc w a s P')from h);clear h;go_enter func230,ntmps230;go_wp2_with fail;go_loopw[3,4] (λQ b wr=>Q=Z 0/\b=G 0/\wr=w) (λ_ _ _=>0)
  case atStart=>exact⟨rfl,rfl,rfl⟩
  obtain⟨rfl,rfl,rfl⟩:=hrel;go_wp2_with (go_at_call 156;refine(rU a s P' _ d.o<|aI rfl).mono ?_;rintro e t ⟨rfl,C,N⟩;have E:=A C;have c:=ſ<|M C N;clear C N);go_ret;exact⟨aH ⟨rfl,rfl,s,aD _,c.a⟩,c.A⟩
def kW(most:Int)(l:y'):Option (Nat×y'):=match rc l with
 |some (n,r)=>if (n:Int)<=most then C' (n,r) else D'
 |none=>D'
def aaC{p:Prop}(h:p:=by
 go_wp2_with fail;go_ret;refine⟨aH ⟨?_,rfl,h,d,Q.a⟩,c.B.trans Q.A⟩;have b:=c.a;unfold dU at b|-;cases l with
 |true=>rfl
 |false=>
  simp only[bV,bB]at b|-;unfold kW;rw[b];simp only
  rw[ax I]):p:=h
def za(o:Nat)(s:z')(l:Bool)(a:Int)(w:t')(h:dc w o s l)(y:s.size<=60000)(d:dK a):
  Cl 158 #[n'<|C'<|O o 0,G a] w λe b=>ï b o s (dU l (kW a) s) (λn:Nat=>G n) (G 0) e/\ξ w b (C' o):=by
 obtain⟨j,t⟩:=d;have Y:=ſ<|nN o s l w h y;clear h;go_enter func158,ntmps158;go_wp2_with fail;refine bE Y.o ?_;rintro e t ⟨C,N⟩;rcases C with⟨n,h,i,d,rfl,e⟩|⟨i,rfl,h,d,e⟩;rotate_left
 .obtain⟨E,g⟩:=A e
  have K:J (dU l (kW a) s=D'):=by
   show _=_;unfold dU at i|-;cases l with
   |true=>rfl
   |false=>simp only[bV,bB]at i|-;unfold kW;rw[i]
  have c:=ſ<|M e N;have W:dc (κ t (O o 1)<|i' P') o h P'/\ξ t (κ t (O o 1)<|i' P') (C' o):=⟨aw e _,ub⟩;have Q:=ſ W;clear W i e N;by_cases b:a<0
  .go_wp2_with fail;go_ret;exact⟨aH ⟨K.o,rfl,h,d,Q.a⟩,c.A.trans Q.A⟩
  obtain⟨k,rfl⟩:=Jp (show 0<=a by omega);have f:¬((k:Int)<0):=I;go_wp2_with fail;go_ret;exact⟨aH ⟨K.o,rfl,h,d,c.a⟩,c.A⟩
 have K:n<18446744073709551616:=by
  unfold dU at i;cases l with
  |true=>cases i
  |false=>exact(wz.1 i).2
 obtain⟨E,g⟩:=A e;have c:=ſ<|M i<|M e N;have W:dc (κ t (O o 1)<|i' P') o h P'/\ξ t (κ t (O o 1)<|i' P') (C' o):=⟨aw e _,ub⟩;have Q:=ſ W;clear W i e N;by_cases b:a<0
 .exact aaC
 obtain⟨k,rfl⟩:=Jp (show 0<=a by omega);by_cases R:n<=k
 .have f:¬((k:Int)<n):=I;have r:n<9223372036854775808:=I;go_wp2_with fail;go_ret;refine⟨aI ⟨n,h,?_,d,rfl,c.b⟩,c.B⟩;have b:=c.a;unfold dU at b|-;cases l with
  |true=>cases b
  |false=>simp only[bV,bB]at b|-;unfold kW;rw[b];simp only;rw[aB I]
 have f:(k:Int)<n:=I;exact aaC
end
def FZ(l:y'):Option (UInt8×y'):=match l with
 |b::r=>C' (b,r)
 |[]=>D'
def r8(c:Nat)(s:z')(a:Bool)(w:t')(h:dc w c s a)(y:s.size<=60000):
  Cl 156 (bM c) w λe d=>ï d c s (dU a FZ s) (λb:UInt8=>.int .u8 (b.toNat:Int)) (.int .u8 0) e/\ξ w d (C' c):=by
 by_cases D:a=P'\/s.size=0
 .refine(rU c s a w h D).mono ?_;rintro e d ⟨rfl,C,b⟩;refine⟨aH ⟨?_,rfl,s,aD _,C⟩,b⟩;unfold dU;cases a with
  |true=>rfl
  |false=>have l:s.1.1=[]:=fg.1 (show s.size=0 by rcases D with h|h;cases h;exact h);rw[l];rfl
 have f:a=Q':=by cases a<;>simp_all
 subst f;have a:0<s.size:=I;refine(BK c s w h a y).mono ?_;rintro e d ⟨rfl,C,b⟩;refine⟨aI ⟨s[0],s.extract 1 s.size,?_,ak,rfl,C⟩,b⟩;rw[dU,FK a];rfl
def iy(l:y'):Option (Bool×y'):=match l with
 |b::r=>if b.toNat<=1 then C' (decide (b.toNat=1),r) else D'
 |[]=>D'
def B7(a:Nat)(s:z')(d:Bool)(w:t')(h:dc w a s d)(y:s.size<=60000):
  Cl 232 (bM a) w λe c=>ï c a s (dU d iy s) (λb:Bool=>i' b) (i' Q') e/\ξ w c (C' a):=by
 have Y:=ſ<|r8 a s d w h y;clear h;go_enter func232,ntmps232;go_wp2_with fail;refine bE Y.o ?_;rintro e t ⟨C,N⟩;rcases C with⟨b,g,i,e,rfl,f⟩|⟨i,rfl,g,e,f⟩;rotate_left
 .have E:=A f
  have K:J (dU d iy s=D'):=by
   show _=_;unfold dU at i|-;cases d with
   |true=>rfl
   |false=>
    simp only[bV,bB]at i|-;cases X:s.1.1 with
    |nil=>rfl
    |cons a r=>rw[X]at i;simp[FZ]at i
  have c:=ſ<|M f N;clear f N i;go_wp2_with fail;go_ret;exact⟨aH ⟨K.o,rfl,g,e,aw c.a _⟩,c.A.trans ub⟩
 have E:=A f;have j:=sG b;have a:d=Q'/\s.1.1=b::g.1.1:=by
  unfold dU FZ at i;cases d with
  |true=>cases i
  |false=>
   refine⟨rfl,?_⟩;simp only[bV,bB]at i;split at i
   .rename_i o q l;simp at i;rw[l,i.1,i.2]
   cases i
 obtain⟨rfl,X⟩:=a;have c:=ſ<|M X<|M f N;clear X f N i;by_cases R:b.toNat<=1
 .have f:decide (1<(b.toNat:Int))=Q':=by rw[gB];omega
  go_wp2_with fail;go_ret;refine⟨aI ⟨decide (b.toNat=1),g,?_,e,?_,?_⟩,c.B.trans ub⟩
  .unfold dU iy;rw[c.a];simp[R]
  .show o' (i' _)=_;exact aZ (by rw[cK];simp;omega)
  exact aw c.b _
 have f:decide (1<(b.toNat:Int))=P':=by rw[bw];omega
 have d:((b.toNat:Int)==1)=Q':=by rw[dO];omega
 go_wp2_with fail;go_ret;refine⟨aH ⟨?_,rfl,g,e,aw c.b _⟩,c.B.trans ub⟩;unfold dU iy;rw[c.a];simp[R]
def OD(n:Nat):Int:=if n % 2=0 then((n / 2:Nat):Int) else -((n / 2:Nat):Int)-1
def pq(l:y'):Option (Int×y'):=match rc l with
 |some (n,r)=>C' (OD n,r)
 |none=>D'
def pC(b:Nat)(s:z')(a:Bool)(w:t')(h:dc w b s a)(y:s.size<=60000):
  Cl 334 (bM b) w λe c=>ï c b s (dU a pq s) (λx:Int=>G x) (G 0) e/\ξ w c (C' b):=by
 have Y:=ſ<|nN b s a w h y;clear h;go_enter func334,ntmps334;go_wp2_with fail;refine bE Y.o ?_;rintro e t ⟨C,N⟩;rcases C with⟨n,e,i,d,rfl,b⟩|⟨i,rfl,e,d,b⟩;rotate_left
 .have K:J (dU a pq s=D'):=by
   show _=_;unfold dU at i|-;cases a with
   |true=>rfl
   |false=>simp only[bV,bB]at i|-;rw[pq,i]
  have c:=ſ<|M b N;clear b N i;go_wp2_with fail;go_ret;exact⟨aH ⟨K.o,rfl,e,d,c.a⟩,c.A⟩
 have f:n<18446744073709551616:=by
  unfold dU at i;cases a with
  |true=>cases i
  |false=>exact(wz.1 i).2
 have K:J (dU a pq s=C' (OD n,e.1.1)):=by
  show _=_;unfold dU at i|-;cases a with
  |true=>cases i
  |false=>simp only[bV,bB]at i|-;rw[pq,i]
 have c:=ſ<|M b N;clear i b N;obtain⟨q,f,j⟩:∃q:Nat,q=n / 2/\(n:Int) / 2=(q:Int):=⟨n / 2,rfl,I⟩;have a:q<2^63:=I;by_cases a:n % 2=0
 .have b:((n:Int) % 2==0)=P':=by rw[eo];omega
  have g:J (OD n=(q:Int)):=by show _=_;rw[OD,aB a,f]
  clear a f;go_wp2_with fail;go_ret;exact⟨aI ⟨OD n,e,K.o,d,by rw[g.o];rfl,c.a⟩,c.A⟩
 have b:((n:Int) % 2==0)=Q':=by rw[dO];omega
 have g:J (OD n=-(q:Int)-1):=by show _=_;rw[OD,ax a,f]
 clear a f;go_wp2_with fail;go_ret;exact⟨aI ⟨OD n,e,K.o,d,by rw[g.o];rfl,c.a⟩,c.A⟩
def qg(b:Nat)(s:z')(a:Bool)(w:t')(h:dc w b s a)(y:s.size<=60000):
  Cl 291 (bM b) w λe c=>ï c b s (dU a (kW 100000) s) (λn:Nat=>G n) (G 0) e/\ξ w c (C' b):=by
 have T:=za b s a 100000 w h y ⟨I,I⟩;have Y:=ſ T;clear h T;go_enter func291,ntmps291;go_wp2_with fail;refine bE Y.o ?_;rintro e t ⟨C,N⟩;rcases C with⟨n,d,i,a,rfl,b⟩|⟨i,rfl,d,a,b⟩
 .have c:=ſ<|M i<|M b N;clear i b N;go_wp2_with fail;go_ret;exact⟨aI ⟨n,d,c.a,a,rfl,c.b⟩,c.B⟩
 have c:=ſ<|M i<|M b N;clear i b N;go_wp2_with fail;go_ret;exact⟨aH ⟨c.a,rfl,d,a,c.b⟩,c.B⟩
