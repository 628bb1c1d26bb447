import Derived.Test.YtmipbiligijcpaaGreatDoorA09
import Derived.Test.YtmipbiligijcpaaGreatDoorA08
import Derived.Sort.CutIn
import Derived.Deep.WholeRow
namespace Go.Proofs.YtmipbiligijcpaaGreatDoor
set_option linter.all false
set_option maxRecDepth 99999
set_option maxHeartbeats 0
open Go.RowKit Go.Proofs Go.Maps Tryz List Go.Shelf open List renaming length->ζ,toArray->θ open _root_.Array renaming size->δ open World renaming setCell->κ,ownsRow->ρ,cell?->χ,grownBy->ξ,setCells->ψ open Value renaming ownBlock->φ open Value renaming slice->g',bool->h',agg->j',string->k',pointer->m',tuple->o' open Obj renaming cells->i' open Ending renaming returned->n' open Option renaming some->z',none->A' open Bool renaming true->N',false->O'
variable {B N m n x:Nat}{W w:p'}{p:Int}
section
def aeL{p:Prop}(h:p:=by
 have Y:=hid λW=>vE e bB wa ea wl wc el ec n so W ha hb qF qE;clear ha hb qF qE;generalize ry e n so=c at Y|-;obtain⟨x,q,i,b,d,T,g⟩:=n;simp only[aS]at Y hn|-;go_enter ae8,aeU;go_upto_region 1 with fail
 generalize u:(w.alloc<|i' (θ<|aT e) bL).alloc (i' jf bL)=V;have B:J ((V.1[δ w.1]?=z' (i' (θ<|aT e) bL (0,0))/\V.1[δ w.1+1]?=z' (i' jf bL (0,0)))/\Bl w V/\V.1[nb]?=z' (i' #[k' bB,g' wa wl wc,G x,G q,G i,G b,h' d.aU,G d.var,G d.cg,h' T.aU,G T.var,G T.cg,g' ea el ec,k' g] 152 (0,0))/\V.1[db]?=z' (i' #[.iface h!<|j' #[]] yw (0,0))/\V.1[fb]?=z' (i' #[h' so] 4 (0,0))):=by subst u;exact⟨hJ,dH,aG dH hn,aG dH hd,aG dH hf⟩
 clear u;clear hn hd hf;have E:δ w.1+1<δ V.1:=blt B.a.2;have b:=A B.c;have W:=A B.d;have K:=A B.D;go_wp2_with (first|(refine wpList_load_mid rfl bL (.tmp 4) rfl w.1.size 0 rfl (aT e) _ (bu B.a.1) gU rfl M ?_)|((first|go_at_call 315 | go_at_call 325);refine(Y.o _).mono ?_;rintro r b ⟨rfl,hb⟩;have f:J (Bl V b):=hb;clear hb;have U:=cK (n:=17) (aG f.o B.a.2) rfl)|(refine wpList_store_mid rfl bL (.tmp 5) (.tmp 10) rfl (δ w.1+1) 0 (θ<|aT c) rfl rfl U M (bO _) ?_));have d:=cX (cs:=qh) (aG f.o B.a.2) (vs:=aT c) rfl;have C:=run_loadVar_mid (P:=Tryz.prog) (ψ b (δ w.1+1) 0<|aT c) (δ w.1+1) 0 bL (aT c) _ (bu d) gU rfl M
 refine aE (v:=j'<|θ<|aT c) (by simp[results,results314,results324,C,Act.put,asAddr]) rfl ⟨rfl,dJ I _ _ _<|aq B.b f.o⟩):p:=h
open KC in
def KC.yF(e:PE)(bB:ByteArray)(wa ea:Option Addr)(wl wc el ec:Nat)(n:SN)(so:Bool)(nb db fb:Nat)(w:World)(hn:w.heap[nb]?=some (.cells (aS bB (.slice wa wl wc) n<|.slice ea el ec) 152 (0,0)))(hd:w.heap[db]?=some (.cells #[.iface 328<|.agg #[]] 381 (0,0)))(hf:w.heap[fb]?=some (.cells #[.bool so] 4 (0,0)))(ha:n.a.aU=true->0<=n.a.var/\n.a.var<8)(hb:n.b.aU=true->0<=n.b.var/\n.b.var<8)(qF:dM<|b8<|jg e n.a)(qE:dM<|b8<|jg e n.b):
 Cl 314 #[.agg<|θ<|KC.aT e,.pointer<|some<|O db 0,.pointer<|some<|O nb 0,.pointer<|some<|O fb 0] w (Rb w<|.agg<|θ<|KC.aT<|KC.ry e n so):=by exact aeL
open KB in
def KB.yF(e:PE)(bB:ByteArray)(wa ea:Option Addr)(wl wc el ec:Nat)(n:SN)(so:Bool)(nb db fb:Nat)(w:World)(hn:w.heap[nb]?=some (.cells (aS bB (.slice wa wl wc) n<|.slice ea el ec) 152 (0,0)))(hd:w.heap[db]?=some (.cells #[.iface 331<|.agg #[]] 386 (0,0)))(hf:w.heap[fb]?=some (.cells #[.bool so] 4 (0,0)))(ha:n.a.aU=true->0<=n.a.var/\n.a.var<8)(hb:n.b.aU=true->0<=n.b.var/\n.b.var<8)(qF:dM<|b8<|jg e n.a)(qE:dM<|b8<|jg e n.b):
 Cl 324 #[.agg<|θ<|KB.aT e,.pointer<|some<|O db 0,.pointer<|some<|O nb 0,.pointer<|some<|O fb 0] w (Rb w<|.agg<|θ<|KB.aT<|KB.ry e n so):=by exact aeL
end
section
attribute [local go_sem] Oper.semAt_some
def Af(q m:Nat)(a:t')(N c:Nat)(hs:List BS)(w:p')(e:w.1[q]?=z' (i' #[g' a N c] 264 (0,0)))(X:ζ hs=N)(p:N<=60)(d:m<N)(u:Ep w a hs):
  Cl 224 #[G m,m'<|z'<|O q 0] w (Rb w<|cW<|cT hs m):=by
 have F:hs[m]?=z' (cT hs m):=by rw[cT,getD,bj I];rfl
 obtain⟨b,o,rfl,T,Q⟩:=u m _ F;have a:(m:Int)<N:=I;generalize cT hs m=z at *;obtain⟨E,a⟩:=A e;have a:=cf w gY;have t:=aB T a;have Y:=aB Q a;have L:=blt e;have b:q≠δ w.1:=I;clear u F X e T Q a;go_enter func224,ntmps224;go_wp2_with fail;refine aE (v:=cW z) (by simp[results224,go_sem,cW]) rfl ⟨rfl,?_⟩
 (repeat first|exact aQ|refine jI ?_ (by first|omega|(simp;omega)) _|refine lB ?_ (by first|omega|(simp;omega)|(simp;done)) _)
structure Qu(N:Nat)(hs:List BS)(wt:BS):Prop where
  len:ζ hs=N
  each:∀s∈hs,b! s
  wi:b! wt
  low:∀x∈ef wt,x<N
structure RiS{σ:Type}(S:Nat->Prop)(C:σ->p'->Prop)(w:p')(rb N fk:Nat)(caps:Array y')(rd:List BS)(bx g JT qb ab:Nat)(s:σ)(hs:List BS)(W:p'):Prop where
  k:Kx S w W
  c:C s W
  tab:lV W
  sys:W.1[δ w.1]?=z' (i' (eu rb N) 260 (0,0))
  chg:W.1[δ w.1+1]?=z' (i' #[.func (.func fk) #[] caps] 273 (0,0))
  held:W.1[δ w.1+1+1]?=z' (i' (θ<|di hs) 267 (0,0))
  uS:W.1[bx]?=z' (i' #[g' (z'<|O (δ w.1+1+1) 0) N N] 264 (0,0))
  hold:W.1[bx+1]?=z' (i' #[.func (.func 224) #[]<|cB bx] 321 (0,0))
  rdr:W.1[g]?=z' (i' (θ<|di rd) 267 (0,0))
  rbc:W.1[JT]?=z' (i' (mG g N) 264 (0,0))
  box:W.1[qb]?=z' (i' (cB ab) 379 (0,0))
  hl:δ w.1+1+1<bx
  gl:bx+1<g
  rl:g<JT
  al:JT<ab
  ql:ab<qb
section
variable {σ:Type}{S:Nat->Prop}{C:σ->p'->Prop}{w:p'}{rb N fk:Nat}{caps:Array y'}{rd:List BS}{bx g JT qb ab:Nat}{s:σ}{hs:List BS}{W W':p'}
def RiS.keep(h:RiS S C w rb N fk caps rd bx g JT qb ab s hs W)(u:∀k,S k->k<δ w.1)(m:∀s W W',C s W->(∀k,S k->W'.1[k]?=W.1[k]?)->C s W')(U:0<δ w.1){X:Nat->Prop}(b:Kx X W W')(a:∀k,X k->k=ab\/qb<k):RiS S C w rb N fk caps rd bx g JT qb ab s hs W':=by
 have D:=h.hl;have i:=h.gl;have c:=h.rl;have j:=h.al;have d:=h.ql;have f:=bX h.k.size b.size;have v:∀k,k<qb+1->k≠ab->¬X k:=λk b K F=>by rcases a k F with e|e<;>omega
 refine⟨⟨b.os.trans h.k.os,b.tape.trans h.k.tape,b.output.trans h.k.output,f,λk a K=>(b.keep k (eh a h.k.size)<|v k I I).trans<|h.k.keep k a K⟩,m s W W' h.c λk hs=>?_,b.tab h.tab<|v _ I I,b.box h.sys<|v _ I I,b.box h.chg<|v _ I I,b.box h.held<|v _ I I,b.box h.uS<|v _ I I,b.box h.hold<|v _ I I,b.box h.rdr<|v _ I I,b.box h.rbc<|v _ I I,b.box h.box<|v _ I I,D,i,c,j,d⟩;have:=u k hs;exact b.keep k (eh this h.k.size)<|v _ I I
def RiS.z!{c:σ}{a:List BS}(h:RiS S C w rb N fk caps rd bx g JT qb ab s hs W)(u:∀k,S k->k<δ w.1)(U:¬S 0)(b:Kx (λk=>S k\/k=δ w.1+1+1\/k=ab) W W')(T:C c W')(d:0<δ w.1)(V:W'.1[δ w.1+1+1]?=z' (i' (θ<|di a) 267 (0,0))):RiS S C w rb N fk caps rd bx g JT qb ab c a W':=by
 have D:=h.hl;have e:=h.gl;have c:=h.rl;have i:=h.al;have d:=h.ql;have f:=bX h.k.size b.size;have v:∀k,δ w.1<=k->k≠δ w.1+1+1->k≠ab->¬(S k\/k=δ w.1+1+1\/k=ab):=λk e c i d=>by rcases d with d|d|d;(· have:=u k d;omega);all_goals omega
 exact⟨⟨b.os.trans h.k.os,b.tape.trans h.k.tape,b.output.trans h.k.output,f,λk a K=>(b.keep k (eh a h.k.size) (by rintro(h|h|h);(· exact K h);all_goals omega)).trans<|h.k.keep k a K⟩,T,b.tab h.tab (by rintro(h|h|h);(· exact U h);all_goals omega),b.box h.sys<|v _ I I I,b.box h.chg<|v _ I I I,V,b.box h.uS<|v _ I I I,b.box h.hold<|v _ I I I,b.box h.rdr<|v _ I I I,b.box h.rbc<|v _ I I I,b.box h.box<|v _ I I I,D,e,c,i,d⟩
end
end
section
variable {s t c:BS}
def DQ{α:Type}{p q:α->Bool}:∀(l:List α),(∀x∈l,p x=N'->q x=N')->ζ (l.filter p)<=ζ (l.filter q)
 |[],_=>aK
 |a::l,h=>by
  have B:=DQ l λx F=>h x (by simp[F]);have D:=h a ak;rw[qS,qS];cases U:p a<;>cases b:q a
  .simpa using B
  .simp;omega
  .rw[D U]at b;cases b
  simp;omega
def xe{α:Type}{p q:α->Bool}:∀(l:List α),(∀x∈l,p x=N'->q x=N')->(∃x∈l,p x=O'/\q x=N')->ζ (l.filter p)<ζ (l.filter q)
 |[],_,h=>by obtain⟨x,F,_⟩:=h;cases F
 |a::l,h,he=>by
  have B:=DQ l λx F=>h x (by simp[F]);have D:=h a ak;rw[qS,qS];cases U:p a<;>cases b:q a
  .have:∃x∈l,p x=O'/\q x=N':=by
    obtain⟨x,F,C,c⟩:=he;rcases cM.1 F with rfl|F
    .rw[c]at b;cases b
    exact⟨x,F,C,c⟩
   simpa using xe l (λx F=>h x<|by simp[F]) this
  .simp;omega
  .rw[D U]at b;cases b
  have:∃x∈l,p x=O'/\q x=N':=by
   obtain⟨x,F,C,c⟩:=he;rcases cM.1 F with rfl|F
   .rw[C]at U;cases U
   exact⟨x,F,C,c⟩
  simpa using xe l (λx F=>h x<|by simp[F]) this
def T?(h:∀f,f<128->bt s f=N'->bt t f=N')(l:∃f,f<128/\bt s f=O'/\bt t f=N'):ζ (ef s)<ζ (ef t):=by rw[uV,uV];obtain⟨f,C,a,N⟩:=l;exact xe _ (λx F=>h x<|cx.1 F) ⟨f,cx.2 C,a,N⟩
def rP{f:Nat}(F:x<128)(Y:f<128):bt (de [x]) f=decide (f=x):=by rw[qI _ _ Y<|H' F];simp
def jF(F:x<128):b! (de [x]):=me _<|H' F
def YT(S:b! c)(F:x∈ef c):ζ (ef<|fI c<|de [x])<ζ (ef c):=by
 obtain⟨C,a⟩:=(df c S x).1 F;refine T? (λf Y h=>?_) ⟨x,C,?_,a⟩
 .rw[lU (jF C) Y,aY]at h;exact h.1
 rw[lU (jF C) C,rP C C];simp
def muS(hs:List BS):Nat:=(hs.map λs=>128-ζ (ef s)).sum
def L0{f:BS->Nat}:∀(l:List BS)(i:Nat)(s:BS),i<ζ l->f s<f (l.getD i (0,0))->((l.set i s).map f).sum<(l.map f).sum
 |[],i,s,h,_=>by simp at h
 |a::l,0,s,_,h=>by simp at h|-;exact h
 |a::l,i+1,s,h,h2=>by have:=L0 l i s (H' h)<|H' h2;rw[cO,fA,fA,kS,kS];omega
def SP(U:b! t)(h:K2 (fI s t)=O'):∃f,f<128/\bt s f=N'/\bt t f=O':=by
 have C:¬∀f,f<128->bt s f=N'->bt t f=N':=λa=>by rw[(yO U).2 a]at h;cases h
 simp only[Classical.not_forall]at C;obtain⟨f,C,a,N⟩:=C;exact⟨f,C,a,H' N⟩
def MN{hs:List BS}{said:BS}(F:x<ζ hs)(S:b!<|cT hs x)(h:K2 (fI said<|cT hs x)=O'):muS (hs.set x<|fU (cT hs x) said)<muS hs:=by refine L0 (f:=λs=>128-ζ (ef s)) hs x _ F ?_;obtain⟨f,C,a,N⟩:=SP S h;have L:ζ (ef<|cT hs x)<ζ (ef<|fU (cT hs x) said):=T? (λg _ b=>by rw[iy,b];rfl) ⟨f,C,N,by rw[iy,a];simp⟩;have:=nB<|fU (cT hs x) said;show 128-_<128-ζ (ef<|cT hs x);omega
def muA(hs:List BS)(wt:BS):Nat:=muS hs*200+ζ (ef wt)
def Qu.skip{y:List BS}(h:Qu N y c)(x:Nat)(F:x<128):Qu N y (fI c<|de [x]):=by refine⟨h.len,h.each,po,λy B=>h.low y ?_⟩;obtain⟨C,a⟩:=(df _ po y).1 B;rw[lU (jF F) C,aY]at a;exact(df c h.wi y).2 ⟨C,a.1⟩
def Qu.step{a:List BS}{z r:BS}(h:Qu N a c)(x:Nat)(F:x<128)(f:b! z)(e:b! r)(X:∀y∈ef r,y<N):Qu N (a.set x z) (fU (fI c<|de [x]) r):=by
 have b:=h.skip x F;refine⟨by rw[dh];exact h.len,λs a=>?_,ib b.wi e,λy B=>?_⟩
 .rcases gJ a with a|rfl
  .exact h.each s a
  exact f
 obtain⟨N,d⟩:=(df _ (ib b.wi e) y).1 B;rw[iy,eZ]at d;rcases d with d|d
 .exact b.low y ((df _ b.wi y).2 ⟨N,d⟩)
 exact X y ((df _ e y).2 ⟨N,d⟩)
def LS(p:N<=128):∀x∈ef (jK N),x<N:=λx F=>by obtain⟨C,a⟩:=(df _ (oz N p) x).1 F;rw[vV N x p C]at a;simpa using a
end
section
variable {F:p'->Prop}{a b:Obj}{R:RS}
attribute [local go_sem] Oper.semAt_some
structure SnS{σ:Type}(R:RS)(N:Nat)(rd:List BS)(nx:σ->Nat->BS->BS->σ)(Inv:σ->List BS->BS->Prop)(s0:σ):Prop where
  start:Inv s0 (replicate N (0,0)) (jK N)
  skip:∀s hs wt x,Inv s hs wt->Qu N hs wt->x∈ef wt->K2 (fI (lx R (cT hs) x)<|cT hs x)=N'->Inv s hs (fI wt<|de [x])
  step:∀s hs wt x,Inv s hs wt->Qu N hs wt->x∈ef wt->K2 (fI (lx R (cT hs) x)<|cT hs x)=O'->Inv (nx s x (cT hs x)<|fU (cT hs x)<|lx R (cT hs) x) (hs.set x<|fU (cT hs x)<|lx R (cT hs) x) (fU (fI wt<|de [x])<|rd.getD x (0,0))
structure ChS{σ:Type}(S:Nat->Prop)(C:σ->p'->Prop)(w:p')(R:RS)(N fk pb:Nat)(caps:Array y')(nx:σ->Nat->BS->BS->σ)(Inv:σ->List BS->BS->Prop):Prop where
  low:∀k,S k->k<δ w.1
  cel:∀s W k o,C s W->S k->W.1[k]?=z' o->o.isCells=N'
  NR:∀s W W',C s W->(∀k,S k->W'.1[k]?=W.1[k]?)->C s W'
  tab:¬S 0
  pk:¬S pb
  pbl:pb<δ w.1
  fn:∀xs w,(callFunc fk xs).run Tryz.prog w=.ok (.enter fk xs) w
  call:∀s hs wt W x,Inv s hs wt->Qu N hs wt->x∈ef wt->K2 (fI (lx R (cT hs) x)<|cT hs x)=O'->C s W->lV W->Cl fk (#[G x,cW<|cT hs x,cW<|fU (cT hs x)<|lx R (cT hs) x]++caps) W λe w'=>e=n' (cW<|fU (cT hs x)<|lx R (cT hs) x)/\C (nx s x (cT hs x)<|fU (cT hs x)<|lx R (cT hs) x) w'/\Kx S W w'
def gnB(h:∀V,J (Bl w V/\V.1[δ w.1]?=z' a/\V.1[δ w.1+1]?=z' b/\δ V.1=δ w.1+1+1)->F V):F ((w.alloc a).alloc b):=h _ ⟨dH,hJ.1,hJ.2,ak⟩
def gnD{c d:Obj}(h:∀V,J (Bl w V/\V.1[δ w.1]?=z' a/\V.1[δ w.1+1]?=z' b/\V.1[δ w.1+1+1]?=z' c/\V.1[δ w.1+1+1+1]?=z' d/\δ V.1=δ w.1+1+1+1+1)->F V):F ((((w.alloc a).alloc b).alloc c).alloc d):=h _ (by obtain⟨C,e,N,f⟩:=qd w a b c d;exact⟨jb,C,e,N,f,ak⟩)
def aav(h:∀V,J (V.1[δ w.1]?=z' a/\Bl w V)->F V):F (w.alloc a).drew:=h _ ⟨cF w a,(cf w a).drew⟩
def qo(h:∀V,J (Bl w V/\V.1[δ w.1]?=z' a/\δ V.1=δ w.1+1)->F V):F (w.alloc a):=h _ ⟨bA,cv,ak⟩
abbrev R?(R:RS)(N:Nat):List BS:=tT (R.map λr=>r.2.map (·.1)) N N
def C8(h:N<=60)(x:Nat):b! ((R? R N).getD x (0,0)):=yt _ N N I x
def Wp(h:Lf R N)(x:Nat):∀y∈ef ((R? R N).getD x (0,0)),y<N:=λy B=>by
 have d:=h.most;obtain⟨C,a⟩:=(df _ (C8 d x) y).1 B;rw[Ec _ N x y C (λm f Y=>?_) N I,aY]at a
 .simpa using a.1
 rw[bN,a!]at Y;cases a:R[m]? with
 |none=>rw[a]at Y;simp at Y
 |some r=>rw[a]at Y;simp at Y;obtain⟨b,b⟩:=Y;exact((h.each r<|aO a).2.2 _ b).2
section
variable {σ H:Type} (Rs:σ->H->p'->Prop) (ab pb qb:Nat) (Inv:σ->H->BS->Prop) (Sh:H->BS->Prop) (mu:H->BS->Nat)
def Qv(τ:σ×H×BS)(W:p'):Prop:=∃pv,Rs τ.1 τ.2.1 W/\W.1[ab]?=z' (AE τ.2.2 pv)/\jC W pb pv/\Inv τ.1 τ.2.1 τ.2.2/\Sh τ.2.1 τ.2.2
def IfS(τ:σ×H×BS)(W:p'):Prop:=Rs τ.1 τ.2.1 W/\Inv τ.1 τ.2.1 (0,0)/\Sh τ.2.1 (0,0)
def IyS(x:Nat)(τ:σ×H×BS)(W:p'):Prop:=∃pv,Rs τ.1 τ.2.1 W/\W.1[ab]?=z' (AE (fI τ.2.2<|de [x]) pv)/\jC W pb pv/\Inv τ.1 τ.2.1 τ.2.2/\Sh τ.2.1 τ.2.2/\x∈ef τ.2.2
def ltS(a b:σ×H×BS):Prop:=mu a.2.1 a.2.2<mu b.2.1 b.2.2
def NK{W:p'}{ab:Nat}{s t:BS}{p q:y'}(h:W.1[ab]?=z' (AE s p))(k:W.1[ab]?=z' (AE t q)):s=t/\p=q:=by rw[h]at k;simp only[AE,dU,Obj.cells.injEq]at k;have C:=k.1;simp at C;exact⟨Prod.ext (CG C.1)<|CG C.2.1,C.2.2⟩
structure RsK:Prop where
  keep:∀s hs W W' X,Rs s hs W->Kx X W W'->(∀k,X k->k=ab\/qb<k)->(∀k o,X k->W.1[k]?=z' o->o.isCells=O'\/∃c f,o=i' c 323 f)->Rs s hs W'
  tab:∀s hs W,Rs s hs W->lV W
  box:∀s hs W,Rs s hs W->W.1[qb]?=z' (i' (cB ab) 379 (0,0))
variable {Rs ab pb qb Inv Sh mu}
def ZK{p:Prop}(h:p:=by
 intro τ W e q y b f;obtain⟨a,C,c,N,d⟩:=y;have F:Kx (λk=>q=z' k) W e:=⟨b.os,b.tape,b.output,b.size,λk g K=>b.block k g λe=>K e.symm⟩;have K:∀k,k<B->¬q=z' k:=λk g e=>by have:=(f k e).1;omega
 exact⟨a,h.keep _ _ _ _ _ C F (λk e=>I' ((f k e).1)) (λk o e i=>by obtain⟨_,b,C,c⟩:=f k e;rw[C]at i;cases i;exact aP c),F.box c<|K _ l,N.keep λo u T=>F.cell T<|K _ j,d⟩):p:=h
def Qv.own(h:RsK Rs ab qb)(j:pb<B)(a:qb<B)(l:ab<B):OwnFrom B (Qv Rs ab pb Inv Sh):=by exact ZK
def IfS.own(h:RsK Rs ab qb)(a:qb<B):OwnFrom B (IfS Rs Inv Sh):=by intro τ W b q y a d;have F:Kx (λk=>q=z' k) W b:=⟨a.os,a.tape,a.output,a.size,λk b K=>a.block k b λe=>K e.symm⟩;exact⟨h.keep _ _ _ _ _ y.1 F (λk e=>I' ((d k e).1)) (λk o e c=>by obtain⟨_,b,C,f⟩:=d k e;rw[C]at c;cases c;exact aP f),y.2⟩
def IyS.own(h:RsK Rs ab qb)(j:pb<B)(a:qb<B)(l:ab<B)(x:Nat):OwnFrom B (IyS Rs ab pb Inv Sh x):=by exact ZK
def Qv.it(h:RsK Rs ab qb)(b:∀h c,Sh h c->b! c)(n:Nat)(E:1<=n)(z:ab≠pb)(o:ab≠qb)(s0:σ×H×BS)(l:Nat)(K:p'->Prop)(W:p')(w:∀g B,K g->KeepsOthers g B->K B)
  (B:∀s x t,IyS Rs ab pb Inv Sh x s t->K t->YieldAt Fence.wide (n-1) Tryz.prog l #[G x] t λe i=>e=n' (h' N')/\(∃g,ltS mu g s/\Qv Rs ab pb Inv Sh g i)/\K i) (D:Qv Rs ab pb Inv Sh s0 W) (g:K W):
  CallsIn Fence.wide n Tryz.prog 268 (#[.func (.yield l) #[] #[]]++(cB qb)) W λe i=>(∃v,e=n' v)/\(∃s,IfS Rs Inv Sh s i)/\K i:=by
 refine O! n E ab pb qb (Qv Rs ab pb Inv Sh) (IfS Rs Inv Sh) (IyS Rs ab pb Inv Sh) (λτ=>mu τ.2.1 τ.2.2) z o ?_ ?_ ?_ s0 l K W w B D g
 .rintro τ W ⟨a,C,k,N,_,m⟩;exact⟨_,a,k,N,b _ _ m,h.tab _ _ _ C,h.box _ _ _ C⟩
 .rintro⟨s,y,c⟩ W a ⟨j,C,k,N,d,m⟩ f;obtain⟨rfl,_⟩:=NK k f;exact⟨C,d,m⟩
 rintro⟨s,y,c⟩ W f a x j i ⟨a,C,k,N,d,m⟩ q F r U u;obtain⟨rfl,_⟩:=NK k q.ag;exact⟨j,h.keep _ _ _ _ _ C u (λk e=>aP e) (λk o e p=>by subst e;rw[q.ag]at p;cases p;exact aR ⟨_,_,rfl⟩),r,U,d,m,F⟩
end
def OA{σ:Type}(S:Nat->Prop)(C:σ->p'->Prop)(rb B N fk pb:Nat)(R:RS)(caps:Array y')(pa:t')(pl pc:Nat)(w:p')(nx:σ->Nat->BS->BS->σ)(Inv:σ->List BS->BS->Prop)(s0:σ)
  (f:∀W,Kx S w W->vg W B rb R) (u:Lf R N) (r:1<=N) (hP:SnS R N (R? R N) nx Inv s0) (D:ChS S C w R N fk pb caps nx Inv) (hT:lV w) (z:jC w pb<|g' pa pl pc) (t:C s0 w):
  Cl 151 #[du rb N,g' pa pl pc,.func (.func fk) #[] caps] w λe w'=>∃s hs,e=n' (g' (z'<|O (δ w.1+1+1) 0) N N)/\w'.1[δ w.1+1+1]?=z' (i' (θ<|di hs) 267 (0,0))/\C s w'/\Kx S w w'/\Inv s hs (0,0)/\ζ hs=N/\∀s∈hs,b! s:=by
 have hm:=u.most;refine(j? (n:=6)).1 ?_;refine callsIn_of_wp_marks func151 rfl trivial ?_ rfl;simp only[du,ntmps151,kT,bU,eY,Nat.reduceAdd,Nat.reduceSub,qX,qW,qV,qU,gg,fW];have HU:=hid λW=>ou N W I
 have HR:J (∀W,Kx S w W->Cl 225 #[du rb N] W λe w'=>∃g,e=n' (cG g N)/\δ W.1<=g/\b' w' g (θ<|di<|R? R N) 267/\Bl W w'):=by
  intro W hW;obtain⟨rl,h1,h2⟩:=f W hW;have X:ζ rl=N:=by have:=cZ length h2;simp[Jw]at this;rw[this,u.len]
  have ed:DJ rl=R.map λr=>r.2.map (·.1):=by have:=cZ (List.map λr=>r.2.map (·.1)) h2;simpa[Jw,DJ,fS,qY]using this
  refine(CW rb B N rl W h1 X hm λr hr=>?_).mono ?_;rotate_left
  .rintro e w' ⟨g,rfl,a,b,c⟩;rw[ed]at b;exact⟨g,rfl,a,b,c⟩
  obtain⟨k,hk⟩:=gF.1 hr;have h3:=cZ (λl=>l[k]?) h2;simp only[Jw,a!,hk,gK]at h3;cases hq:R[k]? with
  |none=>rw[hq]at h3;simp at h3
  |some q=>rw[hq]at h3;simp at h3;have VA:=u.each q<|aO hq;refine⟨by rw[h3.2];simp;exact VA.2.1,⟨q.1,h3.1⟩,λe he=>?_⟩;rw[h3.2]at he;obtain⟨x,hx,rfl⟩:=bG.1 he;exact⟨(VA.2.2 x hx).2,_,_,_,rfl⟩
 obtain⟨X,hi,o,r,m⟩:=cI td;have HJ:J (_/\_/\_/\_):=⟨hi,o,r,m⟩;have H0:=hid<|Aa f<|Aa u<|Aa hP<|Aa D<|Aa hT<|Aa z t;clear hi o r m f u hP D hT z t;simp only[cW,du]at HU HR;refine oe.2 ?_;go_upto_region 1 with(fail)
 refine gnB (F:=Code.wp _ _ _ _) λW0 U=>?_;obtain⟨E,x2⟩:=A U.b;have o:=U.C;go_upto_region 2 with(at_make;refine gL _ rfl (.tmp 15) (.tmp 15) 264 rfl W0.1.size 267 X _ 2 underlying264 HJ.a HJ.b HJ.c .i64 .i64 N N N rfl rfl rfl rfl (by rw[HJ.C];omega) (by unfold maxLen;omega) ak ?_;intro t r f;have z:=hid<|Aa r f;clear r f)
 have u:J (t.1[δ w.1+1+1]?=z' (i' (θ<|di<|replicate N (0,0)) 267 (0,0))/\Bl W0 t):=by have h1:=z.a;rw[dF _ 2 (by simp[Value.cells]) N]at h1;refine⟨?_,aQ.grown z.A aK (λq e=>by cases e)⟩;rw[<-o,(eJ h1).1,<-DM];rfl
 clear z E x2;refine qo (F:=Code.wp _ _ _ _) λF EI=>?_;go_upto_region 3 with(fail)
 refine qo (F:=Code.wp _ _ _ _) λW3 D=>?_;have m:=EI.B;have hbl:=blt u.a;have r:=aq EI.a D.a;have f:=aq u.A r;have T:=D.b;have L:=D.B;rw[m]at T L;have z:=hid<|Aa (aq U.a f)<|Aa (aG f U.b)<|Aa (aG f U.c)<|Aa (aG r u.a)<|Aa (aG D.a EI.b)<|Aa T L;rw[m];clear U u EI D o m r f T L;generalize δ t.1=bx at *;obtain⟨E,x2⟩:=A z.b;go_upto_region 4 with(go_at_call 225;refine(HR.o _<|Kx.of z.a).mono ?_;rintro e W4 ⟨g,rfl,h1,h2,h3⟩;have H4:=hid<|Aa h1<|Aa h2 h3;clear h1 h2 h3 E x2)
 refine qo (F:=Code.wp _ _ _ _) λW5 T=>?_;have U:=aq H4.B T.a;obtain⟨E,x2⟩:=A<|aG U z.b;go_upto_region 5 with(go_at_call 208;refine(HU.o _).mono ?_;rintro e W6 ⟨rfl,h1⟩;have H6:=hid h1;clear h1 E x2)
 refine qo (F:=Code.wp _ _ _ _) λY L=>?_;have HN:J (∀W,Cl 209 (cB W6.1.size) W λe w'=>e=n' (.func (.func 268) #[]<|cB W.1.size)/\w'=W.alloc (i' (cB W6.1.size) 379)):=λW=>vZ _ W;go_wp2_with (go_at_call 209;refine(HN.o _).mono ?_;rintro e W8 ⟨rfl,rfl⟩);refine qo (F:=Code.wp _ _ _ _) λW8 m=>?_;have r:δ W6.1<δ Y.1:=by rw[L.B];omega
 have f:=aq U<|aq H6.o<|aq L.a m.a;have hab:=H6.o.size;have hrx:=T.B;have X:=blt H4.b;have hg2:=H4.a;have r:=z.F;have f8:=m.b
 have H8:J (RiS S C w rb N fk caps (R? R N) bx g W4.1.size Y.1.size W6.1.size s0 (replicate N (0,0)) W8/\W8.1[δ W6.1]?=z' (AE (jK N)<|g' pa pl pc)/\δ W8.1=δ Y.1+1):=
  ⟨⟨Kx.of<|aq z.a f,H0.d.NR _ _ _ H0.F λk hk=>(aq z.a f).block k<|H0.d.low k hk,H0.e.below<|aq z.a f,aG f z.b,aG f z.c,aG f z.d,aG f z.e,aG f z.f,aG (aq T.a<|aq H6.o<|aq L.a m.a) H4.b,aG (aq H6.o<|aq L.a m.a) T.b,f8,hbl,I,X,I,I⟩,aG m.a L.b,m.B⟩
 have X:=H0.d.pbl;have X:=z.a.size;have hP8:=hid (H0.f.keep λo u h=>aB h<|aq z.a f);have X:bx+1<g:=I;have X:δ W4.1<δ W6.1:=I;clear T L m H6 H4 z U f HN HR HU f8 hrx r hg2 hab;generalize δ W4.1=JT at *;generalize δ W6.1=ab at *;generalize δ Y.1=qb at *;obtain⟨Rs,f⟩:=Ea<|RiS S C w rb N fk caps (R? R N) bx g JT qb ab;rw[<-f]at H8;have HK:J (RsK Rs ab qb):=by rw[f];exact⟨λs hs W W' X h hk m _=>h.keep H0.d.low H0.d.NR (dW<|H0.e 0 aj) hk m,λs hs W h=>h.tab,λs hs W h=>h.box⟩
 have YL:=hid f;have m:qb<δ W8.1:=by rw[H8.B];omega
 clear f;refine(oe (n:=6)).1 ?_
 refine Mh (σ:=σ×List BS×BS) (α:=Nat) rfl I (gf:=268) (lb:=(cB qb)) rfl trivial (λm w=>Tryz.call268 m w) (PU:=λx=>#[G x]) (λ_=>rfl)
  (Qv Rs ab pb Inv<|Qu N) (IfS Rs Inv<|Qu N) (IyS Rs ab pb Inv<|Qu N) (ltS muA) (Qv.own HK.o I I I) (IfS.own HK.o I) (IyS.own HK.o I I I) (s0:=(s0,replicate N (0,0),jK N)) ⟨_,H8.a,H8.b,hP8.o,H0.c.start,⟨ak,λs hs=>by rw[fB hs];exact⟨aj,aj⟩,oz N I,LS I⟩⟩
  (Qv.it HK.o (λ_ _ h=>h.wi) 5 I I I _)
  (λx=>{tmps:=#[j'<|eu rb N,g' pa pl pc,.func (.func fk) #[] caps,m'<|cV w.1.size,undef,m'<|z'<|O (δ w.1+1) 0,g' A' 0 0,m'<|z'<|O bx 0,m'<|z'<|O (bx+1) 0,m'<|z'<|O JT 0,m'<|z'<|O ab 0,G x,undef,m'<|cV w.1.size,g' (z'<|O rb 0) N N,G N,g' (z'<|O (δ w.1+1+1) 0) N N,.func (.func 224) #[]<|cB bx,j'<|eu rb N,g' (z'<|O g 0) N N,m'<|cV w.1.size,g' (z'<|O rb 0) N N,G N,j' #[Z ((jK N).1:Int),Z ((jK N).2:Int)],g' pa pl pc,j' #[Z ((jK N).1:Int),Z ((jK N).2:Int),g' pa pl pc],.func (.func 268) #[]<|cB qb,G x,undef,undef,undef,undef,undef,undef,undef,undef,undef,undef,undef,undef,undef,undef,undef,undef,undef,undef,undef,undef,undef,undef,undef,undef,undef,undef,undef,undef,undef,undef,undef,undef,undef,undef,undef,undef,undef],defers:=[]}) ?assign ?body ?done
 case assign=>
  intro l x W K hK
  gi_wp2
  exact hK
 case body=>
  rintro l ⟨s,hs,wt⟩ x W ⟨pv,h1,h2,h3,h4,h5,U⟩;simp only at h1 h2 h3 h4 h5 U;rw[YL.o]at h1;have Ty:=h5.low x U;have r:(x:Int)<N:=I;have r:=iR h5.each x;have f:=Js H0.b (iR h5.each) x;have z:J (∀W',Bl W W'->Cl 226 #[du rb N,G x,.func (.func 224) #[]<|cB bx] W' (Rb W'<|cW<|lx R (cT hs) x)):=by intro W' hW;refine Oh rb B N x _ R _ (cT hs) W' (H0.a W'<|h1.k.trans<|Kx.of hW) H0.b Ty (iR h5.each) (λm w=>Tryz.call224 m w) λm L F B=>?_;exact Af bx m _ N N hs F (aG B<|aG hW h1.uS) h5.len hm L<|U8<|aG B<|aG hW h1.held
  have Y:=hid λW'=>Kn _ _ W' f r;have cd:=hid λX b T c1 c2 m=>gu X b _ _ r f T c1 c2 m;have B:=hid λ(b:K2 (fI (lx R (cT hs) x)<|cT hs x)=O') W' (L:C s W') (hT:lV W')=>H0.d.call s hs wt W' x h4 h5 U b L hT;have HAd:J (∀W' b,W'.1[ab]?=z' (AE (fI wt<|de [x]) b)->Cl 211 #[m'<|z'<|O ab 0,cW ((R? R N).getD x (0,0))] W' λe w'=>(∃v,e=n' v)/\w'.1[ab]?=z' (AE (fU (fI wt<|de [x]) ((R? R N).getD x (0,0))) b)/\Kx (·=ab) W' w'):=λW' b h=>NN ab _ _ b W' h po<|C8 hm x;have HSk:=hid<|H0.c.skip s hs wt x h4 h5 U;have HSt:=hid<|H0.c.step s hs wt x h4 h5 U;have L:=hid λh=>MN (hs:=hs) (x:=x) (said:=lx R (cT hs) x) (by rw[h5.len];exact Ty) r h;have HX:=hid<|Aa h1<|Aa h2<|Aa h3<|Aa h5<|Aa U<|Aa r f;obtain⟨T,c1,c2,m⟩:=ig h1.held (k:=x) (by rw[h5.len];exact Ty);rw[show hs.getD x (0,0)=cT hs x from rfl]at T c1;obtain⟨E,x2⟩:=A h1.sys;obtain⟨y1,y2⟩:=A h1.hold;clear h1 h2 h3 h4 h5 U r f c2 m;simp only[cW,du]at z Y cd HAd B
  gi_wp2_with (refine⟨trivial,?_⟩;gi_at_call 226;refine(CallsIn.inRound l<|j?.2<|z.o _ aQ).mono ?_;rintro e t ⟨rfl,b⟩;have r:=hid b;clear b T c1 E x2 y1 y2)
  refine qo (F:=λV=>Code.wpIn _ _ _ _ _ _ V) λU HU=>?_;have m:=hid λW' (b:Bl U W')=>Aa (aG b<|aG HU.a<|aG r.o HX.a.sys)<|Aa (aG b<|aG HU.a<|aG r.o HX.a.uS)<|Aa (aG b<|aG HU.a<|aG r.o HX.a.held)<|aG b HU.b;have HCe:J (∀W':p',W'.1[δ w.1+1+1]?=z' (i' (θ<|di hs) 267 (0,0))->χ W' (O (δ w.1+1+1)<|x*2)=z' (Z ((cT hs x).1:Int))/\χ W' (O (δ w.1+1+1)<|x*2+1)=z' (Z ((cT hs x).2:Int))/\W'.frozen? (O (δ w.1+1+1)<|x*2)=O'/\W'.frozen? (O (δ w.1+1+1)<|x*2+1)=O'):=λW' h=>ig h (k:=x) (by rw[HX.d.len];exact Ty);refine stR (l:=l) (λW'=>Bl U W') 8 (hS:=aQ.drew) (h:=λaC=>?_);refine tt 0 (m'<|z'<|O w.1.size 2) (h:=?_);refine tt 1 r8 (y:=λW' aW=>by have k1:=(A (m.o _ aW).1).1;clear aC aW;go_simp) (h:=?_);refine tt 2 (j' #[Z ((lx R (cT hs) x).1:Int),Z ((lx R (cT hs) x).2:Int)]) (y:=λW' aW=>by have k1:=(A (m.o _ aW).2.2.2).1;clear aC aW;go_simp) (h:=?_);refine tt 3 (g' (z'<|O (δ w.1+1+1) 0) N N) (y:=λW' aW=>by have k1:=(A (m.o _ aW).2.1).1;clear aC aW;go_simp) (h:=?_);refine tt 4 (G x) (h:=?_);refine tt 5 (m'<|z'<|O (δ w.1+1+1)<|x*2) (h:=?_);refine tt 6 (j' #[Z ((cT hs x).1:Int),Z ((cT hs x).2:Int)]) (y:=λW' aW=>by obtain⟨k1,k2,_,_⟩:=HCe.o _ (m.o _ aW).2.2.1;clear aC aW;go_simp) (h:=?_);refine rt 7 (h:=λK hK=>?_);go_simp;refine bP (Y.o _) ?_;rintro e F ⟨rfl,X⟩;have EI:=hid<|aq aC X;clear X aC;refine hK.out _ _ (λ_=>EI.o) ?_;clear hK K;refine pt ?_;refine dt (h:=?_);have T:=hid<|aq r.o<|aq HU.a EI.o;cases f:K2 (fI (lx R (cT hs) x)<|cT hs x)with
  |true=>
   gi_wp2
   refine⟨jU T.o,s,hs,(fI wt<|de [x]).1,(fI wt<|de [x]).2,?_,pv,HK.o.keep _ _ _ _ (λ_=>False) (by rw[YL.o];exact HX.a) (Kx.of T.o) (λ_ h=>h.elim) λ_ _ h=>h.elim,aG T.o HX.b,HX.c.keep λo u h=>aB h T.o,HSk.o f,HX.d.skip x I⟩;have:=YT HX.d.wi HX.e;show muA hs (fI wt<|de [x])<muA hs wt;unfold muA;omega
  |false=>
   have Eu:J (∀k,δ w.1<=k->¬S k):=λk h e=>by have:=H0.d.low k e;omega
   have lW:=hid λW' (b:Kx S F W')=>Aa (b.box (aG T.o HX.a.sys)<|Eu.o _ I)<|Aa (b.box (aG T.o HX.a.chg)<|Eu.o _ I)<|Aa (b.box (aG T.o HX.a.held)<|Eu.o _ I)<|Aa (b.box (aG T.o HX.a.uS)<|Eu.o _ I)<|b.box (aG EI.o HU.b)<|Eu.o _ (by have:=HX.a.k.size;have:=r.o.size;omega);have b:J (∀W',Bl W W'->C s W'/\lV W'):=λW' h=>⟨H0.d.NR _ _ _ HX.a.c λk hk=>h.block k<|eh (H0.d.low k hk) HX.a.k.size,HX.a.tab.below h⟩;have HC3:=hid λW' (h:Bl W W')=>B.o f W' (b.o W' h).1 (b.o W' h).2;have adC:=hid<|HSt.o f;have adD:=hid<|L.o f;have r:=H0.d.fn;have fi:=hid<|ib HX.f HX.F;clear B HSt L HSk m Y z f b;generalize lx R (cT hs) x=sa at *;generalize cT hs x=ho at *;generalize fU ho sa=z at *
   gi_wp2
   refine stR (l:=l) (λW'=>Kx S F W') 18 (hS:=vf.drewN 1) (h:=λaC=>?_);refine tt 0 (g' (z'<|O (δ w.1+1+1) 0) N N) (y:=λW' aW=>by have k1:=(A (lW.o _ aW).2.2.2.1).1;clear aC aW;go_simp) (h:=?_);refine tt 1 (G x) (h:=?_);refine tt 2 (.func (.func fk) #[] caps) (y:=λW' aW=>by have k1:=(A (lW.o _ aW).2.1).1;clear aC aW;go_simp) (h:=?_);refine tt 3 (G x) (h:=?_);refine tt 4 (g' (z'<|O (δ w.1+1+1) 0) N N) (y:=λW' aW=>by have k1:=(A (lW.o _ aW).2.2.2.1).1;clear aC aW;go_simp) (h:=?_);refine tt 5 (G x) (h:=?_);refine tt 6 (m'<|z'<|O (δ w.1+1+1)<|x*2) (h:=?_);refine tt 7 (kU ho.1 ho.2) (y:=λW' aW=>by obtain⟨k1,k2,_,_⟩:=HCe.o _ (lW.o _ aW).2.2.1;clear aC aW;go_simp) (h:=?_);refine tt 8 (xR w.1.size) (h:=?_);refine tt 9 kX (y:=λW' aW=>by have k1:=(A (lW.o _ aW).1).1;clear aC aW;go_simp) (h:=?_);refine tt 10 (g' (z'<|O (δ w.1+1+1) 0) N N) (y:=λW' aW=>by have k1:=(A (lW.o _ aW).2.2.2.1).1;clear aC aW;go_simp) (h:=?_);refine tt 11 (G x) (h:=?_);refine tt 12 (m'<|z'<|O (δ w.1+1+1)<|x*2) (h:=?_);refine tt 13 (kU ho.1 ho.2) (y:=λW' aW=>by obtain⟨k1,k2,_,_⟩:=HCe.o _ (lW.o _ aW).2.2.1;clear aC aW;go_simp) (h:=?_);refine tt 14 (kU sa.1 sa.2) (y:=λW' aW=>by have k1:=(A (lW.o _ aW).2.2.2.2).1;clear aC aW;go_simp) (h:=?_);refine rt 15 (h:=λK hK=>?_);go_simp;refine hK.out _ _ (λ_=>aC.trans<|Kx.of bA) ?_;clear hK K;refine pt ?_;refine rt 16 (h:=λK hK=>?_);go_simp;refine bP (cd.o _ _ ak ak ak ak) ?_;rintro e W3 ⟨rfl,Y⟩;have D:=hid<|aq (aq aQ.drew bA) Y;clear Y aC;refine hK.out _ _ (λ_=>Kx.of D.o) ?_;clear hK K;refine pt ?_;refine rt 17 (h:=λK hK=>?_);go_simp;refine bP (HC3.o _<|aq T.o D.o) ?_;rintro e W4 ⟨rfl,b,f⟩;have H4:=hid<|Aa b ((Kx.of (S:=S) D.o).trans f);clear b f;refine hK.out _ _ (λ_=>H4.A) ?_;clear hK K;refine pt ?_;refine rt 18 (h:=λK hK=>?_);go_simp;refine hK.out _ _ (λh=>absurd h aj) ?_;clear hK K;refine pt ?_;refine rt 19 (h:=λK hK=>?_);obtain⟨U,k1,k2,f⟩:=HCe.o _ (lW.o _ H4.A).2.2.1;go_simp;refine hK.out _ _ (λh=>absurd h aj) ?_;clear hK K U k1 k2 f;refine pt ?_;refine dt (h:=?_);have XF:=(Kx.of T.o).trans H4.A;generalize PF:κ (κ W4 (O (δ w.1+1+1)<|x*2)<|Z z.1) (O (δ w.1+1+1)<|x*2+1) (Z z.2)=W5;have hk5:Kx (λk=>S k\/k=δ w.1+1+1\/k=ab) W W5:=by rw[<-PF];refine Kx.set (Kx.set (XF.mono λk _ h=>aP h) ?_ _ _) ?_ _ _<;>exact aP<|aR<|aP rfl
   have XC:∀q,δ w.1<=q->q≠δ w.1+1+1->∀o,W.1[q]?=z' o->W5.1[q]?=z' o:=λq h1 h2 o h=>by rw[<-PF,aJ h2,aJ h2];exact XF.box h<|Eu.o q h1
   have b:=HX.a.hl;have f:=hid<|Aa (show b' W5 (δ w.1+1+1) (θ<|di<|hs.set x z) 267by rw[<-PF];exact Ed (s:=z) (lW.o _ H4.A).2.2.1 (k:=x) (by rw[HX.d.len];exact Ty))<|Aa hk5<|Aa (H0.d.NR _ _ W5 H4.a (λk hk=>by have:=H0.d.low k hk;have b:k≠δ w.1+1+1:=I;rw[<-PF,aJ b,aJ b]))<|Aa (XC ab I I _ HX.b)<|Aa (XC JT I I _ HX.a.rbc)<|Aa (XC g I I _ HX.a.rdr) (HX.c.keep (w':=W5) λo u h=>by rw[<-PF];exact(bh (by have b:pb≠δ w.1+1+1:=I;rw[aJ b,aJ b])).trans<|XF.cell h H0.d.pk);have hrl:ζ (R? R N)=N:=pM _ _ _;obtain⟨U,k1,_,_⟩:=ig f.f (k:=x) (by rw[hrl];exact Ty);obtain⟨y1,y2⟩:=A f.e;have HRd:=hid<|Aa (C8 (R:=R) hm x)<|Wp H0.b x;generalize(R? R N).getD x (0,0)=rx at *;clear PF hk5 XC XF hrl HC3 cd lW
   gi_wp2_with (refine⟨trivial,?_⟩;gi_at_call 211;refine(CallsIn.inRound l<|j?.2<|HAd.o _ _ f.d).mono ?_;rintro e W6 ⟨⟨v,rfl⟩,b,ca⟩;have H6:=hid<|Aa b ca;clear b ca)
   have ca:Kx (λk=>S k\/k=δ w.1+1+1\/k=ab) W W6:=f.b.trans (H6.A.mono λk _ h=>aR<|aR h);refine⟨ca.others ?_,nx s x ho z,hs.set x z,(fU (fI wt<|de [x]) rx).1,(fU (fI wt<|de [x]) rx).2,?_,pv,?_,H6.a,?_,adC.o,HX.d.step x I fi.o HRd.a HRd.A⟩
   .rintro k o (h|h|h) hk
    .exact H0.d.cel s W k o HX.a.c h hk
    .subst h;rw[HX.a.held]at hk;cases hk;rfl
    subst h;rw[HX.b]at hk;cases hk;rfl
   .have:=nB<|fU (fI wt<|de [x]) rx;have V:=adD.o;show muA (hs.set x z) (fU (fI wt<|de [x]) rx)<muA hs wt;unfold muA;omega
   .rw[YL.o];refine HX.a.z! H0.d.low H0.d.tab ca (H0.d.NR _ _ _ f.c λk hk=>?_) (dW<|H0.e 0 aj)<|H6.A.box f.a I;have:=H0.d.low k hk;exact H6.A.keep k (by have:=f.b.size;have:=HX.a.k.size;omega) I
   exact f.F.keep λo u h=>H6.A.cell h I
 rintro D ⟨s,hs,wt⟩ W t ⟨h1,h2,h3⟩ hK;simp only at h1 h2 h3;rw[YL.o]at h1;have b:D≠bx:=by have:=h1.gl;have:=h1.rl;have:=h1.al;have:=h1.ql;omega
 obtain⟨E,x2⟩:=A h1.uS;go_wp2_with fail;refine⟨ak,.inl ⟨_,_,rfl,run_takeDeferred hK,?_⟩⟩;have b:=grownBy_putObj' W D<|.deferred A';have hx:Kx (λk=>k=D) W (W.putObj D<|.deferred A'):=⟨b.os,b.tape,b.output,b.size,λk hk f=>b.block k hk λe=>f (by cases e;rfl)⟩;have h1':=h1.keep H0.d.low H0.d.NR (dW<|H0.e 0 aj) hx (λk e=>by subst e;right;omega);exact⟨g' (z'<|O (δ w.1+1+1) 0) N N,by simp[results151,go_sem],s,hs,rfl,h1'.held,h1'.c,h1'.k,h2,h3.len,h3.each⟩
end
def sF(rs:List<|List Int):List y':=rs.flatMap (·.map G)
def nV(r:List Int)(fs:List Nat)(v:Int):List Int:=fs.foldl (λr f=>r.set f v) r
def Oe(r:List Int)(o:List Nat)(f:Nat)(v:Int):nV r (o++[f]) v=(nV r o v).set f v:=by simp[nV]
def sw(v:Int):∀(o:List Nat)(r:List Int),ζ (nV r o v)=ζ r
 |[],_=>rfl
 |f::o,r=>by show(nV (r.set f v) o v).length=_;rw[sw v o,dh]
def yi(v:Int)(g:Nat):∀(o:List Nat)(r:List Int),g<ζ r->(nV r o v).getD g 0=if g∈o then v else r.getD g 0
 |[],_,_=>by simp[nV]
 |f::o,r,h=>by
  show(nV (r.set f v) o v).getD g 0=_;rw[yi v g o _<|H' h];by_cases C:g∈o
  .simp[C]
  by_cases a:g=f
  .subst a;simp[C,bN,h]
  have:f≠g:=λe=>a e.symm;simp[C,a,bN,e5,this]
def CV:∀(y:List<|List Int)(k f:Nat)(r:List Int),(∀r∈y,ζ r=68)->y[k]?=z' r->f<68->(sF y)[k*68+f]?=z' (G<|r.getD f 0)
 |[],k,f,r,_,h,_=>by simp at h
 |a::q,0,f,r,d,h,hf=>by simp at h;subst h;have D:=d a ak;simp only[sF,bW,e6,bH];rw[gI G',a!,bN,bj I];rfl
 |a::q,k+1,f,r,d,h,hf=>by have D:=d a ak;have B:=CV q k f r (λx F=>d x<|by simp[F]) (H' h) hf;simp only[sF,bW]at B|-;rw[eB G',<-B];congr 1;simp;omega
def Fu:∀(y:List<|List Int)(k f:Nat)(r:List Int)(v:Int),(∀r∈y,ζ r=68)->y[k]?=z' r->f<68->(sF y).set (k*68+f) (G v)=sF (y.set k<|r.set f v)
 |[],k,f,r,v,_,h,_=>by simp at h
 |a::q,0,f,r,v,d,h,hf=>by simp at h;subst h;have D:=d a ak;simp only[sF,dm,bW,e6,bH];rw[xI _ _ G',uh]
 |a::q,k+1,f,r,v,d,h,hf=>by have D:=d a ak;have B:=Fu q k f r v (λx F=>d x<|by simp[F]) (H' h) hf;simp only[sF,cO,bW]at B|-;rw[lY _ _ G',<-B];congr 2;simp;omega
def J3{β:Type}{S:Nat->Prop}{B:Nat}{w:p'}(v:δ w.1<=B):OwnFrom B (λ(_:β) W=>Kx S w W):=λ_ W a q y a c=>
 ⟨a.os.trans y.os,a.tape.trans y.tape,a.output.trans y.output,bX y.size a.size,λk b K=>(a.block k (eh b y.size) λe=>I' ((c k e.symm).1)).trans<|y.keep k b K⟩
section
attribute [local go_sem] Oper.semAt_some
def nxR(s:Nat×List (List Int))(x:Nat)(old next:BS):Nat×List (List Int):=(s.1+1,s.2.set x<|nV (s.2.getD x []) (ef<|fI next old) (s.1:Int))
structure CkR(cb xb rb N:Nat)(s:Nat×List (List Int))(W:p'):Prop where
  c:W.1[cb]?=z' (i' #[G s.1] 3 (0,0))
  x:W.1[xb]?=z' (i' (mG rb N) 263 (0,0))
  r:W.1[rb]?=z' (i' (θ<|sF s.2) 272 (0,0))
  len:ζ s.2=N
  each:∀r∈s.2,ζ r=68
def RH{α:Type}{l:List α}{i:Nat}{x:α}(h:l[i]?=z' x):l.set i x=l:=by obtain⟨S,rfl⟩:=aX.1 h;exact set_getElem_self S
def KE(cb xb u N x:Nat)(s:Nat×List (List Int))(old next:BS)(w:p')(m:CkR cb xb u N s w)(r:lV w)(hx:x<N)(o:N<=60)(g:b! old)(hn:b! next)(Y:∀f∈ef next,f<68)(hs:s.1<=100000)(h1:cb≠xb)(h2:cb≠u)(h3:xb≠u)(hg:0<u):
  Cl 152 #[G x,cW old,cW next,m'<|z'<|O cb 0,m'<|z'<|O xb 0] w λe o=>e=n' (cW next)/\CkR cb xb u N (nxR s x old next) o/\Kx (λk=>k=cb\/k=xb\/k=u) w o:=by
 refine(j? (n:=6)).1 ?_;refine callsIn_of_wp_marks func152 rfl trivial ?_ rfl;simp only[cW,ntmps152,kT,bU,eY,Nat.reduceAdd,Nat.reduceSub,qX,qW,qV,qU,gg,fW];have D:J (∀X,Cl 153 #[cW next,cW old] X<|Rb X<|cW<|fI next old):=λX=>jJ next old X hn g
 have E:J (∀X,Cl 154 #[cW<|fI next old] X λe o=>e=n' (.func (.func 227) #[]<|cB X.1.size)/\o=X.alloc (i' #[Z ((fI next old).1:Int),Z ((fI next old).2:Int)] 267)):=λX=>En (fI next old) X;have HF:J (∀f∈ef (fI next old),f<68):=λf h=>by obtain⟨a,b⟩:=(df _ po f).1 h;rw[lU g a,aY]at b;exact Y f ((df _ hn f).2 ⟨a,b.1⟩)
 have HI:=hid<|I! next old;have C:=hid<|Aa m r;have z:=blt m.c;have o:=blt m.x;have o:=blt m.r;have o:=dW<|r 0 aj;have B:J (nxR s x old next=(s.1+1,s.2.set x<|nV (s.2.getD x []) (ef<|fI next old) (s.1:Int))):=rfl;generalize fI next old=d at *;simp only[cW]at D E;clear m r g hn Y;refine oe.2 ?_
 go_upto_region 1 with(fail)
 refine gnD (F:=Code.wp _ _ _ _) λo U=>?_;obtain⟨m,t⟩:=A U.c;obtain⟨W,o⟩:=A U.d;go_wp2_with (first|(go_at_call 153;refine(D.o _).mono ?_;rintro e W1 ⟨rfl,g⟩;have r:=hid g;clear g m t W o)|(go_at_call 154;refine(E.o _).mono ?_;rintro e F ⟨rfl,rfl⟩));refine qo (F:=Code.wp _ _ _ _) λF o=>?_;have b2:=aq r.o o.a;have g:=aq U.a b2;have z:=U.E;have z:=r.o.size;have r:=o.B;obtain⟨hr,m⟩:=La (l:=s.2) (i:=x) (by rw[C.a.len];exact hx);have dd:=C.a.each hr<|aO m;have t:=B.o;rw[bN,m,xH]at t;have HE:=hid<|Aa t m;clear B t m D E;refine(oe (n:=6)).1 ?_
 refine wpIn_rangeFunc_ownF rfl I (gf:=227) (lb:=(cB W1.1.size)) rfl trivial (λr w=>Tryz.call227 r w)
  (rS 5 I d W1.1.size (0+1) F HI.o (by rw[(A o.b).1];rfl) (by rw[(A o.b).1];rfl) (C.A.below g) I I) belowK_t (belowK_b I) aQ (λ_=>rfl)
  (λB W=>(W.1[u]?=z' (i' (θ<|sF<|s.2.set x<|nV hr (vP B) (s.1:Int)) 272 (0,0)))/\Kx (λk=>k=u) F W)
  (λ_ _ _=>False)
  (OwnFrom.and (TL (λB=>i' (θ<|sF<|s.2.set x<|nV hr (vP B) (s.1:Int)) 272 (0,0)) I)<|J3 aK)
  (λ_ _ _ _ _ hs _ _=>hs)
  ⟨by rw[show nV hr (vP ([]:List<|mC d)) (s.1:Int)=hr from rfl,RH HE.A];exact aG g C.a.r,vf⟩
  (λf=>{tmps:=#[G x,j' #[Z old.1,Z old.2],j' #[Z next.1,Z next.2],m'<|z'<|O cb 0,m'<|z'<|O xb 0,m'<|cV w.1.size,m'<|z'<|O (δ w.1+1) 0,m'<|z'<|O (δ w.1+1+1) 0,m'<|z'<|O (δ w.1+1+1+1) 0,G f.1,j' #[Z next.1,Z next.2],j' #[Z old.1,Z old.2],j' #[Z d.1,Z d.2],.func (.func 227) #[]<|cB W1.1.size,G f.1,undef,undef,undef,undef,undef,undef,undef,undef,undef],defers:=[]}) ?assign ?body ?done ?stop
 case assign=>
  intro l f W K hK
  gi_wp2
  exact hK
 case body=>
  rintro l B ⟨f,Y⟩ W ⟨hW,hk⟩ _;have R:=HF.o f Y;have o:(f:Int)<68:=I;have o:(x:Int)<N:=I;have o:=hid λW' (h:Kx (λk=>k=u) W W')=>Aa (h.box (hk.box (aG g C.a.x) h3) h3)<|Aa (h.box (hk.box (aG b2 U.b) I) I)<|h.box (hk.box (aG g C.a.c) h2) h2;have m:=hid<|Aa hW hk;clear hW hk
  gi_wp2
  refine stR (l:=l) (λW'=>Kx (λk=>k=u) W W') 7 (hQ:=by rintro⟨_,_,h⟩;exact h) (hS:=vf.drewN 1) (h:=λaC=>?_);refine tt 0 (cG u N) (y:=λW' aW=>by have k1:=(A (o.o _ aW).1).1;clear aC aW;go_simp) (h:=?_);refine tt 1 (G x) (y:=λW' aW=>by have k1:=(A (o.o _ aW).2.1).1;clear aC aW;go_simp) (h:=?_);refine tt 2 (G f) (h:=?_);refine tt 3 (G s.1) (y:=λW' aW=>by have k1:=(A (o.o _ aW).2.2).1;clear aC aW;go_simp) (h:=?_);refine tt 4 (m'<|z'<|O u<|x*68) (h:=?_);refine tt 5 (m'<|z'<|O u<|x*68+f) (h:=?_);refine rt 6 (h:=λK hK=>?_)
  have hl:∀q∈s.2.set x (nV hr (vP B) (s.1:Int)),ζ q=68:=λq hq=>by
   rcases gJ hq with hq|rfl
   .exact C.a.each q hq
   rw[sw];exact dd
  have hg:(s.2.set x<|nV hr (vP B) (s.1:Int))[x]?=z' (nV hr (vP B) (s.1:Int)):=by rw[e5,aD rfl,aD<|by rw[C.a.len];exact hx]
  have o:χ W (O u<|x*68+f)=z' (G ((nV hr (vP B) (s.1:Int)).getD f 0)):=by rw[(A m.a).1,cL,CV _ x f _ hl hg R]
  have k1:=(A m.a).2<|x*68+f;go_simp;have E:Kx (λk=>k=u) W (κ W.drew (O u<|x*68+f)<|G s.1):=oY (vf.drewN 1) _ _;refine hK.out _ _ (λ_=>E) ?_;clear hK K aC;refine pt ?_;refine dt (h:=?_);have ff:(κ W.drew (O u<|x*68+f)<|G s.1).1[u]?=z' (i' (θ<|sF<|s.2.set x<|nV hr (vP<|B++[(⟨f,Y⟩:mC d)]) (s.1:Int)) 272 (0,0)):=by rw[H<|show W.drew.1[u]?=_ from m.a,cj,Fu _ x f _ _ hl hg R,set_set,tp,Oe]
  gi_wp2
  exact⟨E.others (λk o e h=>by subst e;rw[m.a]at h;cases h;rfl),E.below (I' m.A.size) λk e=>I,ff,m.A.trans E⟩
 case done=>
  rintro D z W t hS ⟨hW,hk⟩ hK;have E:vP z=ef d:=hS;rw[E]at hW;have T:=hk.box (aG g C.a.c) h2;have t:=hk.box (aG g C.a.x) h3;have o:=hk.box (aG b2 U.d) (show ¬δ w.1+1+1=u by omega);have r:=hk.box (aG b2 U.e) (show ¬δ w.1+1+1+1=u by omega);obtain⟨R,z⟩:=A T;obtain⟨z,R⟩:=A o;obtain⟨z,z⟩:=A r;have z:δ w.1+1+1≠cb:=I;have n2:δ w.1+1+1+1≠cb:=I;have F:=z.symm;have n4:=n2.symm;have m:=hid<|Aa hW<|Aa hk<|Aa T<|Aa t<|Aa o<|Aa r hK;have z:δ w.1+1+1+1<D:=I;clear hW hk T t o r hK hS E;go_wp2_with fail;obtain⟨X,T⟩:=Ea<|κ (κ (κ W (O cb 0)<|G ((s.1:Int)+1)) (O (δ w.1+1+1+1) 0)<|Z next.1) (O (δ w.1+1+1+1) 1)<|Z next.2;rw[<-T];have L:∀k,k≠cb->k≠δ w.1+1+1+1->X.1[k]?=W.1[k]?:=λk a b=>by rw[T,aJ b,aJ b,aJ a]
  have r:X.1[cb]?=z' (i' #[G ((s.1+1:Nat):Int)] 3 (0,0)):=by rw[T,aJ n4,aJ n4,H m.c];rfl
  have b:X.1[δ w.1+1+1+1]?=z' (i' #[Z next.1,Z next.2] 267 (0,0)):=by rw[T,H (H ((aJ n2).trans m.f) _) _];rfl
  have ee:δ X.1=δ W.1:=by rw[T];simp[World.setCell]
  have o:X.1[D]?=z' (.deferred<|z' []):=(L D I I).trans m.F;refine⟨ak,.inl ⟨_,_,rfl,run_takeDeferred o,?_⟩⟩;have hY:∀k,k≠D->(X.putObj D<|.deferred A').1[k]?=X.1[k]?:=λk hk=>World.putObj_heap_other hk;have o:=A ((hY _ I).trans b);refine⟨cW next,by simp[results152,go_sem,cW,o.1],rfl,⟨?_,?_,?_,?_,?_⟩,?_⟩
  .rw[HE.a];exact(hY _ I).trans r
  .exact(hY _ I).trans ((L _ h1.symm I).trans m.d)
  .rw[HE.a];exact(hY _ I).trans ((L _ h2.symm I).trans m.a)
  .rw[HE.a];simp;exact C.a.len
  .rw[HE.a];intro q hq;rcases gJ hq with hq|rfl
   .exact C.a.each q hq
   rw[sw];exact dd
  have hg:=grownBy_putObj' X D<|.deferred A';have hk:=(Kx.of (S:=λk=>k=cb\/k=xb\/k=u) g).trans (m.b.mono λk _ h=>aR<|aR h);refine⟨hg.os.trans<|by rw[T];exact hk.os,hg.tape.trans<|by rw[T];exact hk.tape,hg.output.trans<|by rw[T];exact hk.output,bX hk.size<|by rw[<-ee];exact hg.size,λk tY hn=>?_⟩;rw[hY k I,L k (λe=>hn<|aP e) I];exact hk.keep k tY hn
 rintro D c B W _ _ h _;exact h.elim
end
section
attribute [local go_sem] Oper.semAt_some
end
section
variable {c:List Nat}
attribute [local go_sem] Oper.semAt_some
def mkD(D:Nat):Deferred:={target:=.collected D,args:=#[]}
structure NZ(B:Nat)(Ds:List Nat)(W:p'):Prop where
  nd:Ds.Nodup
  at_:∀D∈Ds,B<=D/\W.1[D]?=z' (.deferred<|z' [])
def NZ.nil(B:Nat)(W:p'):NZ B [] W:=⟨Ll,λD h=>by cases h⟩
def NZ.keeps{a:p'}(h:NZ B c W)(b:KeepsOthers W a):NZ B c a:=⟨h.nd,λD t=>⟨(h.at_ D t).1,b.same D _ (h.at_ D t).2 rfl⟩⟩
def NZ.cons{D:Nat}(h:NZ B c W)(t:W.1[D]?=z' (.deferred<|z' []))(v:B<=D)(K:D∉c):NZ B (D::c) W:=
 ⟨Cm.2 ⟨K,h.nd⟩,λE a=>by rcases cM.1 a with rfl|a;(· exact⟨v,t⟩);exact h.at_ E a⟩
def sY{F:Fence}{n:Nat}{P:Program}{g:Func}{r:Array y'}{R:Ending->p'->Prop}{B:Nat}(a:p'->Prop)(b:∀W D,a W->B<=D->W.1[D]?=z' (.deferred<|z' [])->a (W.putObj D<|.deferred A'))(d:∀W,a W->LeavesInM F n P g r R [] .returning W):∀(c:List Nat)(W:p'),NZ B c W->a W->LeavesInM F n P g r R (c.map mkD) .returning W
 |[],W,_,hW=>d W hW
 |D::c,W,h,hW=>by have C:=h.at_ D ak;have e:=Cm.1 h.nd;refine⟨ak,.inl ⟨_,_,rfl,run_takeDeferred C.2,?_⟩⟩;refine sY a b d c _ ⟨e.2,λE a=>⟨(h.at_ E<|by simp[a]).1,?_⟩⟩<|b W D hW C.1 C.2;rw[World.putObj_heap_other (by rintro rfl;exact e.1 a)];exact(h.at_ E<|by simp[a]).2
def Xa{β:Type}{f:Nat}(c:List Nat)(t:∀D∈c,D<B):OwnFrom B λ(_:β) W=>NZ f c W:=λs W a q y b a=>⟨y.nd,λD d=>⟨(y.at_ D d).1,(b.block D (blt (y.at_ D d).2) (λe=>by have:=(a D e.symm).1;have:=t D d;omega)).trans (y.at_ D d).2⟩⟩
end
abbrev Stp:=Nat×y'×List Int
def V7(l:List Stp):List y':=l.flatMap λs=>[G s.1,s.2.1]
def agn(l:List Stp):List (Nat×List Int):=l.map λs=>(s.1,s.2.2)
structure Fit(pl:List PN)(ps:List<|bI×Nat)(nv:Nat):Prop where
  Pa:∀p∈pl,NY nv p.n
  edge:∀(j:Nat)(p:PN)(aM:List Int),pl[j]?=z' p->p.n.aH≠6->∃t:Nat,(jh ps p.nc j)[(af6 p.n aM).toNat]?=z' (t:Int)/\t<ζ pl
section
variable {p:Prop}{S:List (bI×Nat)}
def LL(E:List bI)(v:bI):eS E v<ζ (cy E v):=by
 unfold eS cy;split
 .rename_i h;have:=qu h;omega
 simp only[bg,e4];omega
def A6(E:List bI)(v:bI):ζ E<=ζ (cy E v):=by unfold cy;split<;>simp
def kP(E:List bI)(s:x'):ζ E<=ζ (bS E s):=by
 unfold bS;split
 .exact A6 _ _
 exact aK
def uE(E:List bI)(s:x'):yR (ζ<|bS E s) (nW E s):=by
 unfold yR nW bS;split
 .intro _;exact⟨pC _ _,LL _ _⟩
 intro h;cases h
def yR.mono{o:lz}(h:yR n o)(d:n<=m):yR m o:=λe=>⟨(h e).1,I' ((h e).2)⟩
def NY.mono{x:SN}(h:NY n x)(d:n<=m):NY m x:=⟨h.aH,λe=>⟨(h.var e).1,I' ((h.var e).2)⟩,λe=>(h.a e).mono d,λe=>(h.b e).mono d⟩
def agw(n:Nat):NY n ⟨6,0,0,0,o0,o0,emp⟩:=⟨ak,ak,ak,ak⟩
def Rx(E:List bI)(R:List x'):ζ E<=ζ (iz E R).2.2/\((iz E R).2.1=N'->NY (ζ (iz E R).2.2) (iz E R).1):=by
 have e:∀R,ζ E<=ζ (oO E R).2.2/\((oO E R).2.1=N'->NY (ζ (oO E R).2.2) (oO E R).1):=by
  intro R;unfold oO;split
  .rename_i b;exact⟨kP _ _,λ_=>⟨ak,ak,λ_=>uE _ _,ak⟩⟩
  exact⟨aK,λh=>by cases h⟩
 have c:∀R,ζ E<=ζ (jX E R).2.2/\((jX E R).2.1=N'->NY (ζ (jX E R).2.2) (jX E R).1):=by
  intro R;unfold jX;split
  .exact⟨aK,λ_=>⟨ak,ak,ak,ak⟩⟩
  exact⟨aK,λh=>by cases h⟩
 have S:∀R,ζ E<=ζ (z7 E R).2.2/\((z7 E R).2.1=N'->NY (ζ (z7 E R).2.2) (z7 E R).1):=by
  intro R;unfold z7;split
  .rename_i _ b W i Y p;split
   .exact⟨bX (kP E b)<|kP _ i,λ_=>⟨ak,ak,λ_=>(uE E b).mono<|kP _ i,λ_=>uE _ i⟩⟩
   exact⟨aK,λh=>by cases h⟩
  exact⟨aK,λh=>by cases h⟩
 have f:∀R,ζ E<=ζ (fp E R).2.2/\((fp E R).2.1=N'->NY (ζ (fp E R).2.2) (fp E R).1):=by
  intro R;unfold fp;split;rotate_left
  .exact⟨aK,λh=>by cases h⟩
  rename_i u b W q;have C:=A6 E u.1.1;have a:=LL E u.1.1;have N:=pC E u.1.1;have d:=kP (cy E u.1.1) W;split;rotate_left
  .exact⟨aK,λh=>by cases h⟩
  split
  .split
   .exact⟨C,λ_=>⟨ak,λ_=>⟨N,a⟩,ak,ak⟩⟩
   exact⟨by simp only;omega,λ_=>⟨ak,λ_=>⟨N,by simp only;omega⟩,λ_=>uE _ _,ak⟩⟩
  .rename_i i Y;have l:=kP (bS (cy E u.1.1) W) Y;exact⟨by simp only;omega,λ_=>⟨ak,λ_=>⟨N,by simp only;omega⟩,λ_=>(uE _ _).mono l,λ_=>uE _ _⟩⟩
  exact⟨by simp only;omega,λh=>by cases h⟩
 unfold iz;split
 .exact⟨aK,λh=>by cases h⟩
 split
 .exact e _
 split
 .exact S _
 split
 .exact c _
 split
 .exact⟨aK,λ_=>agw _⟩
 exact f _
def acd(E:List bI)(R:List x'):ζ E<=ζ (jS E R).2.2.2.2/\((jS E R).2.2.2.1=N'->NY (ζ (jS E R).2.2.2.2) (jS E R).2.2.1):=by
 unfold jS;split
 .exact⟨aK,λh=>by cases h⟩
 split
 .split
  .split
   .exact⟨aK,λh=>by cases h⟩
   exact Rx _ _
  exact⟨aK,λh=>by cases h⟩
 exact Rx _ _
def afS(h:p:=by
 split at h
 .exact B E V b a c h
 split at h;rotate_left
 .cases h
 rename_i o;refine B _ _ b a ?_ h;intro p U;rcases iF.1 U with U|U
 .exact(c p U).mono C
 simp at U;subst U;exact d o):p:=h
def abu:∀(L:List<|List x')(E:List bI)(V b:List PN)(a:List bI),(∀p∈V,NY (ζ E) p.n)->nN E V L=z' (b,a)->∀p∈b,NY (ζ a) p.n:=by
 intro L;induction L with
 |nil=>intro E V b a c h;simp[nN]at h;rw[<-h.1,<-h.2];exact c
 |cons R r B=>intro E V b a c h;rw[nN]at h;obtain⟨C,d⟩:=acd E R;exact afS
def Sn:∀(a:List x')(i:Nat)(S b:List<|bI×Nat),kC i S a=z' b->∀p∈b,p∈S\/p.2<i+ζ a:=by
 intro a;induction a with
 |nil=>intro i S b h p U;simp[kC]at h;subst h;exact aP U
 |cons x r B=>
  intro i S b h p U;rw[kC]at h;split at h
  .rcases B _ _ _ h p U with a|a
   .exact aP a
   exact aR G'
  split at h
  .cases h
  rcases B _ _ _ h p U with a|a
  .rcases iF.1 a with N|N
   .exact aP N
   simp at N;subst N;exact aR ak
  exact aR G'
def LN(h:∀p∈S,p.2<n)(D:0<n)(v:bI):∃t:Nat,mZ S v=(t:Int)/\t<n:=by
 unfold mZ;split
 .rename_i p U;exact⟨p.2,rfl,h p (by have:=mem_of_find?_eq_some U;simpa using this)⟩
 exact⟨0,rfl,D⟩
def afW(h:p:=by
 by_cases a:j+1=ζ c;rotate_left
 .omega
 exfalso;have h:=b.2;unfold rF at h;have i:(c.map PN.nc).getLast?=z' p.nc:=by rw[IG,b9,a!,show ζ c-1=j by omega,f];rfl
 rw[i]at h;simp only[b9,jo,<-a]at h;have:(jh S p.nc<|j+1-1).contains ((j+1:Nat):Int)=N':=by
  unfold jh Hb;have V:p.nc.n.aH=p.n.aH:=rfl;rw[V];by_cases d:p.n.aH=4
  .simp[d]
  simp[d,g,e]
 rw[this]at h
 cases h):p:=h
def acR{s:x'}{c:List PN}{E:List bI}(h:iD s=Pr.ok c E)(U:kC 0 [] (c.map PN.bB)=z' S):Fit c S (ζ E):=by
 obtain⟨_,D,o,a,_⟩:=yK h;simp only[ia,aY]at o;have b:=o.2;unfold dX at b;rw[w8,U]at b;simp only[aY]at b;have L:∀p∈S,p.2<ζ c:=by
  intro p B;rcases Sn _ _ _ _ U p B with C|C
  .cases C
  simpa using C
 refine⟨abu _ [] [] c E ak a,?_⟩;intro j p P f e;have r:=(aX.1 f).1;obtain⟨t,U,k⟩:=LN L D p.n.bD.1.1;have q:p.n.aH≠5->j+1<ζ c:=by intro g;exact afW
 unfold jh Hb af6;have V:p.nc.n.aH=p.n.aH:=rfl;have u:p.nc.n.bD=p.n.bD:=rfl;rw[V,u,U];by_cases d:p.n.aH=4
 .simp only[d,n!];by_cases y:oC p.n.test (opW P p.n.a) (opW P p.n.b)=O'
  .rw[aD y];exact⟨j+1,ak,q I⟩
  rw[aA y];exact⟨t,ak,k⟩
 rw[aA<|by simp[d]];by_cases l:p.n.aH=5
 .exact⟨t,by simp[l],k⟩
 exact⟨j+1,by simp[d,l,e],q l⟩
end
section
variable {a s b:x'}{E f:List bI}{o:lz}{p:PN}
namespace Wm
def Ye(l:u'):∀a,iZ a l=a*10 ^ ζ l+dL l:=by
 induction l with
 |nil=>intro a;simp[iZ,dL]
 |cons c r B=>intro a;have C:=B<|a*10+(c.toNat-48);have b:=B<|0*10+(c.toNat-48);have V:iZ a (c::r)=iZ (a*10+(c.toNat-48)) r:=kR a c r;have u:dL (c::r)=iZ (0*10+(c.toNat-48)) r:=kR 0 c r;rw[V,u,C,b,bU,CJ,lZ,e6,bH,Nat.mul_assoc,qZ 10,iH]
def p9(c:UInt8)(r:u'):dL (c::r)=(c.toNat-48)*10 ^ ζ r+dL r:=by have u:dL (c::r)=iZ (0*10+(c.toNat-48)) r:=kR 0 c r;rw[u,Ye];simp
def tF:∀l:u',l.all gS=N'->dL l<10 ^ ζ l
 |[],_=>by simp[dL,iZ]
 |c::r,h=>by simp only[vk,aY]at h;have T:=(gn c).1 h.1;have a:=tF r h.2;rw[p9,bU,CJ];have:(c.toNat-48)*10 ^ ζ r<=9*10 ^ ζ r:=xP _ I;omega
def B?:∀l P:u',ζ l=ζ P->l.all gS=N'->P.all gS=N'->dL l=dL P->l=P
 |[],[],_,_,_,_=>rfl
 |[],_::_,h,_,_,_=>by simp at h
 |_::_,[],h,_,_,_=>by simp at h
 |c::r,d::q,X,C,a,he=>by
  simp only[vk,aY]at C a;have T:=(gn c).1 C.1;have Q:=(gn d).1 a.1;simp only[bU,Nat.add_right_cancel_iff]at X;rw[p9,p9,X]at he;have N:=tF r C.2;have e:=tF q a.2;rw[X]at N;have b:(c.toNat-48)=(d.toNat-48):=by have V:=cZ (· / 10 ^ ζ q) he;rw[qZ,I6<|xO I,qZ<|d.toNat-48,I6<|xO I,Lm N,Lm e]at V;omega
  rw[b]at he;have b:=B? r q X C.2 a.2 I;have:c=d:=by apply xN.1;omega
  rw[this,b]
def p8{c:UInt8}{r:u'}(T:48<c.toNat):10 ^ ζ r<=dL (c::r):=by rw[p9];have:1*10 ^ ζ r<=(c.toNat-48)*10 ^ ζ r:=xP _ I;omega
def pS{a:Bool}{d:u'}(h:kE a d=N'):(d=[48]/\a=O')\/∃c r,d=c::r/\48<c.toNat/\d.all gS=N':=by
 match d,h with
 |[],h=>simp[kE]at h
 |c::r,h=>
  simp only[kE,aY]at h;obtain⟨C,a⟩:=h;have T:=(gn c).1 (by simp only[vk,aY]at C;exact C.1);by_cases f:c.toNat=48
  .left;rw[aD<|by simp[f]]at a;simp only[aY,bM,jo]at a;refine⟨?_,a.2⟩;have:c=48:=by apply xN.1;rw[f];rfl
   rw[this,fT.1 a.1]
  right;exact⟨c,r,rfl,I,C⟩
def WQ{s x:Bool}{Y a:u'}(C:kE s Y=N')(b:kE x a=N')(l:dL Y=dL a):Y=a:=by
 have z:dL [48]=0:=aj;have f:∀(c:UInt8)(r:u'),48<c.toNat->0<dL (c::r):=λc r T=>eh (xO I)<|p8 (r:=r) T;rcases pS C with⟨rfl,_⟩|⟨c,r,rfl,T,e⟩
 .rcases pS b with⟨rfl,_⟩|⟨d,q,rfl,Q,a⟩
  .rfl
  have:=f d q Q;omega
 rcases pS b with⟨rfl,_⟩|⟨d,q,rfl,Q,a⟩
 .have:=f c r T;omega
 have N:=tF _ e;have b:=tF _ a;have c:=p8 (r:=r) T;have o:=p8 (r:=q) Q;refine B? _ _ ?_ e a l;simp only[bU]at N b|-;rcases Nat.lt_trichotomy (ζ r) (ζ q) with X|X|X
 .have:=CH (n:=10) I (show ζ r+1<=ζ q by omega);omega
 .omega
 have:=CH (n:=10) I (show ζ q+1<=ζ r by omega);omega
def aai{l:u'}:l=if ng l then 45::dg l else dg l:=by
 cases l with
 |nil=>rfl
 |cons c r=>
  by_cases h:c=45
  .subst h;rw[Dr,D2];rfl
  rw[y0 c r h,zE c r h];rfl
def Yk{d P:u'}{x:Int}(C:f? d=z' x)(f:f? P=z' x):d=P:=by
 have b:∀l y,f? l=z' y->oS l=N'/\((ng l=N'/\y=-(dL (dg l):Int)/\0<dL (dg l))\/(ng l=O'/\y=(dL (dg l):Int))):=by
  intro l y h;unfold f? at h;split at h;rotate_left
  .cases h
  rename_i K;refine⟨K,?_⟩;split at h;rotate_left
  .rename_i a;split at h
   .refine aR ⟨H' a,?_⟩;cases h;rfl
   cases h
  rename_i a;split at h;rotate_left
  .cases h
  refine aP ⟨a,?_,?_⟩
  .cases h;rfl
  unfold oS at K;rw[a]at K;rcases pS K with⟨_,e⟩|⟨c,r,e,T,_⟩
  .cases e
  rw[e];exact eh (xO I)<|p8 (r:=r) T
 obtain⟨s,Q⟩:=b _ _ C;obtain⟨x,p⟩:=b _ _ f;have a:ng d=ng P/\dL (dg d)=dL (dg P):=by rcases Q with⟨N,V,F⟩|⟨N,V⟩<;>rcases p with⟨k,u,b⟩|⟨k,u⟩<;>rw[N,k]<;>constructor<;>first|rfl|omega
 rw[aai (l:=d),aai (l:=P),a.1,WQ s x a.2]
end Wm
def tO(vs:List bI)(o:lz)(s:x'):Prop:=(Wm.nm s=N'/\s.1.1∈vs/\o=⟨N',(vs.idxOf s.1.1:Int),0⟩)\/(Wm.nm s=O'/\∃c,Wm.f? s.1.1=z' c/\o=⟨O',0,c⟩)
def BD{f:lz}{d:x'}(h:tO E o s)(e:tO E f d):s=d↔jT o=jT f:=by
 rcases h with⟨a,b,rfl⟩|⟨a,c,b,rfl⟩<;>rcases e with⟨c,o,rfl⟩|⟨c,p,o,rfl⟩
 .simp only[jT,eR,n!,and_true];constructor
  .rintro rfl;rfl
  intro e;have L:E.idxOf s.1.1=E.idxOf d.1.1:=I;have:s.1.1=d.1.1:=by rw[<-(AQ<|qu b),<-(AQ<|qu o)];simp only[L]
  exact data_inj this
 .constructor
  .rintro rfl;rw[a]at c;cases c
  intro e;simp[jT]at e
 .constructor
  .rintro rfl;rw[a]at c;cases c
  intro e;simp[jT]at e
 simp only[jT,eR,n!];constructor
 .rintro rfl;rw[b]at o;cases o;rfl
 rintro rfl;exact data_inj<|Wm.Yk b o
def Xu{r:List bI}{v:bI}(h:v∈E):(E++r).idxOf v=E.idxOf v:=by rw[xM,aD h]
def tO.mono(h:tO E o s)(U:E <+: f):tO f o s:=by
 obtain⟨r,rfl⟩:=U;rcases h with⟨a,b,c⟩|h
 .exact aP ⟨a,mem_append_left _ b,by rw[Xu b];exact c⟩
 exact aR h
def ot(E:List bI)(v:bI):E <+: cy E v:=by
 unfold cy;split
 .exact iG
 exact Qz _ _
def SC(E:List bI)(s:x'):E <+: bS E s:=by
 unfold bS;split
 .exact ot _ _
 exact iG
def v8{a b}:=@SC a b
def BA(E:List bI)(s:x')(h:bZ s=N'):tO (bS E s) (nW E s) s:=by
 unfold tO bS nW;cases K:Wm.nm s with
 |true=>
  simp only[dQ];refine aP ⟨trivial,?_,?_⟩
  .unfold cy;split
   .assumption
   simp
  unfold eS cy;by_cases d:s.1.1∈E
  .simp[d]
  simp only[d,eV];rw[xM,aA d];simp
 |false=>
  have T:iA s.1.1=N':=by unfold bZ at h;rw[K]at h;simpa using h
  unfold iA at T;obtain⟨c,T⟩:=Option.isSome_iff_exists.1 T;refine aR ⟨rfl,c,T,?_⟩;simp[i?,T]
structure VF(vs:List bI)(p:PN):Prop where
  wd:p.n.aH=1->∃w0 w1 w2 w3 w4,p.ws=[w0,w1,w2,w3,w4]/\tO vs p.n.a w2/\tO vs p.n.b w4/\p.n.op=Wm.tV w3.1.1/\Wm.wX w3.1.1=N'
def VF.mono(h:VF E p)(U:E <+: f):VF f p:=
 ⟨λe=>let ⟨u,f,W,i,Y,a,b,c,d⟩:=h.wd e;⟨u,f,W,i,Y,a,b.mono U,c.mono U,d⟩⟩
def Rw(E:List bI)(R:List x')(a:x'):E <+: (iz E R).2.2/\((iz E R).2.1=N'->VF (iz E R).2.2 ⟨a,R,(iz E R).1⟩):=by
 match R with
 |[]=>exact⟨iG,λh=>by cases h⟩
 |u::r=>
  unfold iz;simp only;split
  .unfold oO;split
   .exact⟨v8,λ_=>⟨λe=>by simp at e⟩⟩
   exact⟨iG,λh=>by cases h⟩
  split
  .unfold z7;split
   .split
    .exact⟨v8.trans v8,λ_=>⟨λe=>by simp at e⟩⟩
    exact⟨iG,λh=>by cases h⟩
   exact⟨iG,λh=>by cases h⟩
  split
  .unfold jX;split
   .exact⟨iG,λ_=>⟨λe=>by simp at e⟩⟩
   exact⟨iG,λh=>by cases h⟩
  split
  .exact⟨iG,λ_=>⟨λe=>by simp at e⟩⟩
  unfold fp;split;rotate_left
  .exact⟨iG,λh=>by cases h⟩
  rename_i u b W q l;cases l;split;rotate_left
  .exact⟨iG,λh=>by cases h⟩
  split
  .split
   .exact⟨ot _ _,λ_=>⟨λe=>by simp at e⟩⟩
   exact⟨(ot _ _).trans v8,λ_=>⟨λe=>by simp at e⟩⟩
  .rename_i i Y;refine⟨((ot _ _).trans v8).trans v8,λh=>⟨λ_=>⟨u,b,W,i,Y,rfl,?_,?_,rfl,?_⟩⟩⟩
   .simp only[aY]at h;exact(BA _ _ h.1.1).mono v8
   .simp only[aY]at h;exact BA _ _ h.2
   simp only[aY]at h;exact h.1.2
  exact⟨(ot _ _).trans v8,λh=>by cases h⟩
def acb(E:List bI)(R:List x'):E <+: (jS E R).2.2.2.2/\((jS E R).2.2.2.1=N'->VF (jS E R).2.2.2.2 ⟨(jS E R).1,R.drop (jS E R).2.1,(jS E R).2.2.1⟩):=by
 unfold jS;split
 .exact⟨iG,λh=>by cases h⟩
 split
 .split
  .split
   .exact⟨iG,λh=>by cases h⟩
   exact Rw _ _ _
  exact⟨iG,λh=>by cases h⟩
 exact Rw _ _ _
def abr:∀(L:List<|List x')(E:List bI)(V b:List PN)(a:List bI),(∀p∈V,VF E p)->nN E V L=z' (b,a)->∀p∈b,VF a p:=by
 intro L;induction L with
 |nil=>intro E V b a c h;simp[nN]at h;rw[<-h.1,<-h.2];exact c
 |cons R r B=>intro E V b a c h;rw[nN]at h;obtain⟨C,d⟩:=acb E R;exact afS
def WN(c:Wm.wX a.1.1=N')(d:Wm.wX b.1.1=N'):a=b↔Wm.tV a.1.1=Wm.tV b.1.1:=by
 constructor
 .rintro rfl;rfl
 intro h;refine data_inj ?_;simp only[Wm.wX,eZ,dP]at c d;rcases c with((c|c)|c)|c<;>rcases d with((d|d)|d)|d<;>rw[c,d]at h|-<;>first|rfl|(exfalso;revert h;decide)
def adZ{a:List PN}(h:iD s=Pr.ok a E):∀p∈a,VF E p:=by obtain⟨_,D,o,b,_⟩:=yK h;exact abr _ [] [] a E ak b
def N7{q:PN}(U:VF E p)(e:VF E q)(d:p.n.aH=1)(k:q.n.aH=1){P F r R i c o:x'}(V:p.ws=[P,F,a,s,b])(u:q.ws=[r,R,i,c,o]):
  (a=i/\s=c/\b=o)↔(jT p.n.a,p.n.op,jT p.n.b)=(jT q.n.a,q.n.op,jT q.n.b):=by
 obtain⟨_,_,_,_,_,K,E,l,r,S⟩:=U.wd d;obtain⟨_,_,_,_,_,B,g,d,f,j⟩:=e.wd k;rw[V]at K;rw[u]at B;simp only[xL,and_true]at K B;obtain⟨-,-,t,y,k⟩:=K;obtain⟨-,-,e,h,X⟩:=B;rw[<-t]at E;rw[<-k]at l;rw[<-y]at r S;rw[<-e]at g;rw[<-X]at d;rw[<-h]at f j;have X:(a=i/\s=c/\b=o)↔(jT p.n.a=jT q.n.a/\p.n.op=q.n.op/\jT p.n.b=jT q.n.b):=by rw[BD E g,BD l d,WN S j,<-r,<-f]
 rw[X];constructor
 .rintro⟨C,a,N⟩;rw[C,a,N]
 intro h;exact⟨cZ Prod.fst h,cZ (λx=>x.2.1) h,cZ (λx=>x.2.2) h⟩
end
def lu.fr{P:Nat->Prop}{W a:p'}{B f:Nat}{x:N5}(h:lu W B x)(Y:Fr P W a)(hP:∀j,B<=j->P j)(v:f<=B):lu a f x:=
 ⟨c8 (Y.own h.f λk a=>hP k (h.f.lt k a).1) v,c8 (Y.own h.r λk a=>hP k (h.r.lt k a).1) v,c8 (Y.own h.v λk a=>hP k (h.v.lt k a).1) v,h.ap⟩
def blks(x:N5):List Nat:=[φ x.fv,φ x.rv,φ x.vv].filterMap id
def ApL(cl:List N5):Prop:=cl.Pairwise (λa b=>∀i∈blks a,∀j∈blks b,i<j)
def lu.blks{W:p'}{B:Nat}{x:N5}(h:lu W B x):∀i∈blks x,B<=i/\i<δ W.1:=by
 intro i S;simp only[Go.Proofs.YtmipbiligijcpaaGreatDoor.blks,mem_filterMap,id,cM,dR,dz]at S;obtain⟨a,a,b⟩:=S;subst b;rcases a with a|a|a
 .exact h.f.lt i a.symm
 .exact h.r.lt i a.symm
 exact h.v.lt i a.symm
def lu.grown{W c:p'}{B k:Nat}{x:N5}(h:lu W B x)(b:ξ W c<|z' k)(a:∃Y f,W.1[k]?=z' (i' Y 96 f)):lu c B x:=
 ⟨h.f.kept b<|rh h.f (λj f=>by cases f;exact a) aj,h.r.kept b<|rh h.r (λj f=>by cases f;exact a) aj,h.v.kept b<|rh h.v (λj f=>by cases f;exact a) aj,h.ap⟩
def Tx:ga 0:=⟨I,I⟩
def uF{c:Ct}(o:qi c=N'):∀x∈c.nodes,cY c.aL c.grade x=N':=by unfold qi at o;rw[aY,bV]at o;exact o.2
def pR{c:Ct}(o:qi c=N'):(1<=c.aL/\c.aL<=6)/\(c.grade=1\/c.grade=2)/\ζ c.nodes<=60:=by
 unfold qi known at o;simp at o;refine⟨⟨o.1.1.1.1,o.1.1.1.2⟩,?_,o.1.2⟩;rcases o.1.1.2 with h|h
 .exact aR h
 exact aP h.1
def ckE(s t:x'):Int:=match iD s with
 | .inl false=>1
 | .inl true=>2
 | .inr (pl,vs)=>match dec t.1.1 with
  |none=>5
  |some c=>match kC 0 [] (pl.map PN.bB)with|some ps=>pg (l8 pl ps<|ζ vs) c|none=>0
def dq(w:p')(ao:t')(vs:List VV):Prop:=∀j v,vs[j]?=z' v->∃b o,ao=z' (O b o)/\χ w (O b<|o+j*3)=z' (h' v.any)/\χ w (O b<|o+j*3+1)=z' (G v.lo)/\χ w (O b<|o+j*3+2)=z' (G v.hi)
def dq.mono{w c:p'}{q:t'}{E:List VV}(h:dq w q E)(T:∀a v,χ w a=z' v->χ c a=z' v):dq c q E:=by intro j v f;obtain⟨b,o,e,a,Q,p⟩:=h j v f;exact⟨b,o,e,T _ _ a,T _ _ Q,T _ _ p⟩
def fR(vs:List VV)(var c:Int):VV:=if 0<=var then vs.getD var.toNat ⟨O',0,0⟩ else VV.one c
def Z3{p:Prop}(h:p:=by
 (repeat first|exact aQ|refine jI ?_ (by first|omega|(simp;omega)) _|refine lB ?_ (by first|omega|(simp;omega)|(simp;done)) _)):p:=h
def Wg(f:Bool)(z:t')(g:Nat)(E:List VV)(q c:Int)(a:x')(w:p')(h:dq w z E)(X:ζ E<=8)(R:q<ζ E):
  Cl 248 #[j' #[h' f,g' z (ζ E) g],j' #[G q,G c,k' a]] w (Rb w<|l4<|fR E q c):=by
 by_cases D:0<=q;rotate_left
 .have l:fR E q c=VV.one c:=by simp[fR,D]
  rw[l];go_enter func248,ntmps248;go_wp2_with fail;refine aE (v:=l4<|VV.one c) (by simp[results248,go_sem,l4,VV.one]) rfl ⟨rfl,?_⟩;exact Z3
 obtain⟨k,rfl⟩:∃k:Nat,q=k:=⟨q.toNat,I⟩;have b:k<ζ E:=I;have F:=bj b;obtain⟨b,o,rfl,T,Q,p⟩:=h k _ F;have l:fR E (k:Int) c=E[k]:=by simp[fR,getD,F]
 rw[l];obtain⟨x,d⟩:=Ea<|E[k];rw[<-d]at T Q p|-;have e:=mx w (i' #[h' f,g' (z'<|O b o) (ζ E) g] 133) (i' #[G k,G c,k' a] 109)<|i' oo 138;have t:=aB T e;have Y:=aB Q e;have a:=aB p e;clear d l F h T Q p e;go_enter func248,ntmps248;go_wp2_with fail;refine aE (v:=l4 x) (by simp[results248,go_sem,l4]) rfl ⟨rfl,?_⟩;exact Z3
section
variable {D z:List VV}
def dq.below{w b:p'}{q:t'}{E:List VV}(h:dq w q E)(a:Bl w b):dq b q E:=by intro j v f;obtain⟨b,o,e,T,Q,p⟩:=h j v f;exact⟨b,o,e,aB T a,aB Q a,aB p a⟩
def adh{k:Nat}{x y:VV}(F:D[k]?=z' x)(B:z[k]?=z' y)(h:VV.p5 (g! p x y) y=O'):t? p (z' D) (z' z)=O':=by show(zip D z).all _=O';rw[rZ];intro a;have d:(x,y)∈zip D z:=aO<|xk.2 ⟨F,B⟩;have:=bV.1 a _ d;simp only at this;rw[h]at this;cases this
def Ys(h:∀(j:Nat) x y,D[j]?=z' x->z[j]?=z' y->VV.p5 (g! p x y) y=N'):t? p (z' D) (z' z)=N':=by show(zip D z).all _=N';rw[bV];intro q a;obtain⟨j,f⟩:=gF.1 a;have:=xk.1 f;exact h j _ _ this.1 this.2
theorem adW {p:Prop} (h:p:=by
 have s:J (dq w aa xs/\dq w ba ys):=⟨hx,hy⟩;have C:J (xs.length=n/\ys.length=n):=hl
 first|(have _:=sZ;(have b:(List.zipWith (g! p) xs ys).length=n:=by rw[List.length_zipWith];have:=C.o;omega);obtain⟨zz,bo⟩:=Ea<|List.zipWith (g! p) xs ys;rw[<-bo]at b|-;have cc:=hid<|Aa bo b;clear hx hy hl bo b;go_enter func73,ntmps73)|(clear hx hy hl;go_enter func72,ntmps72)
 go_wp2_with fail
 first
  | (
    have _:=sZ;go_loopw[8] (λi wr=>∃(k:Nat)(oa:Option Addr)(r:Nat),k<=n/\i=G k/\J ((zz.take k).length=k)/\J (JnS w wr (.slice aa n ac) (.slice ba n bc) (zz.take k) oa r)) (λi _=>n-(intOf i).toNat)
    case atStart=>
      refine⟨0,none,0,bm,rfl,rfl,?_⟩
      refine⟨jb,Vg.1,Vg.2.1,Vg.2.2.1,Vg.2.2.2,dj,λ_=>rfl⟩)
  | (
    generalize b:(w.alloc<|.cells (fL aa n ac) 133).alloc (.cells (fL ba n bc) 133)=W0;have U:J (Bl w W0/\W0.heap[w.heap.size]?=some (.cells (fL aa n ac) 133 (0,0))/\W0.heap[w.heap.size+1]?=some (.cells (fL ba n bc) 133 (0,0))):=by subst b;exact⟨dH,(bE w _ _).1,(bE w _ _).2⟩
    clear b;go_loopw[7] (λi wr=>∃k:Nat,k<=n/\i=G k/\J (Bl W0 wr/\∀(j:Nat) x y,j<k->xs[j]?=some x->ys[j]?=some y->VV.p5 (g! p x y) y=true)) (λi _=>n-(intOf i).toNat)
    case atStart=>exact⟨0,bm,rfl,aQ,λj x y h=>by omega⟩)
 first|(have _:=sZ;obtain⟨k,oa,r,o,rfl,d,HK⟩:=hrel;have E:=A HK.o.bx0;have y1:=A HK.o.bx1;have B:J (Bl w wr):=HK.o.low)|(obtain⟨k,o,rfl,HK⟩:=hrel;have E:=A ((HK.o.1.block _ (bq.1 U.o.2.1).1).trans U.o.2.1);have y1:=A ((HK.o.1.block _ (bq.1 U.o.2.2).1).trans U.o.2.2);have B:J (Bl w wr):=aq U.o.1 HK.o.1)
 by_cases L:k<n;rotate_left
 .have q :¬(k:Int)<(n:Int):=by omega
  first
   |(
      have _:=sZ;have b:k=n:=by omega
      have K:J (zz.take k=zz):=by show _=_;rw[c! (by have:=cc.o.2;omega)]
      rw[K.o]at HK;have V:=A HK.o.bx2;have F:=A HK.o.bx3
      have X:=hid HK.o.bx2)
   |(skip)
  go_wp2_with fail
  first
   |(
      have _:=sZ;have q0:(wr.setCell (O (w.heap.size+1+1) 0)<|.bool false).cell? (O (w.heap.size+1+1) 0)=some (.bool false):=by rw[(A<|H X.o _).1];rfl
      have R:((wr.setCell (O (w.heap.size+1+1) 0)<|.bool false).setCell (O (w.heap.size+1+1) 1)<|bk oa zz.length r).cell? (O (w.heap.size+1+1) 1)=some (bk oa zz.length r):=by rw[(A<|H (H X.o _) _).1];rfl
      refine aE (v:=b? false oa zz.length r) (by simp[results,results73,go_sem,q0,R]) rfl (kJ.mk ⟨rfl,rfl,?_,HK.o.nil⟩ ?_)
      .have N:=QN HK.o.row;cases oa with
       |none=>intro j v hj;obtain⟨b,o,e,_⟩:=N j v hj;cases e
       |some b=>
        rcases HK.o.row.2 with⟨e,_⟩|⟨g,u,b,e,b,_⟩
        .simp at e
        .simp at e;obtain⟨rfl,rfl⟩:=e;exact N.heap (by rw[aJ<|by show g≠w.heap.size+1+1;omega,aJ<|by show g≠w.heap.size+1+1;omega])
      .exact(HK.o.low.setCell (by show _<=w.heap.size+1+1;omega) _).setCell (by show _<=w.heap.size+1+1;omega) _)
   |(
      go_ret;refine⟨bC (Ys λj x y hx hy=>HK.o.2 j x y ?_ hx hy).symm,B.o⟩;have:=(aX.1 hx).1;have:=C.o
      omega)
 have q:(k:Int)<(n:Int):=by omega
 obtain⟨x,hx⟩:=La (l:=xs) (i:=k) (by have:=C.o;omega);obtain⟨y,hy⟩:=La (l:=ys) (i:=k) (by have:=C.o;omega);obtain⟨b1,l,rfl,T,Q,c2⟩:=(s.o.1.below B.o) k x hx;obtain⟨b2,f,rfl,d0,d1,d2⟩:=(s.o.2.below B.o) k y hy;have HX:=hid<|Aa hx hy;clear hx hy;obtain⟨z,t⟩:=Ea<|g! p x y;have g:J (∀W,Cl 115 #[G p,l4 x,l4 y] W<|Rb W<|l4 z):=by rw[t];exact λW=>vz p x y W
 have c:=hid t;clear t;go_wp2_with fail
 first|(have _:=sZ;go_cut [9] from 16 to 40 (λb q=>∃o:Nat,b=.pointer (some<|O o 0)/\J (Bl wr q/\q.heap[o]?=some (.cells #[.bool z.any,G z.lo,G z.hi] 138 (0,0)))))|(go_cut [8] from 24 (λb q=>∃o:Nat,b=.pointer (some<|O o 0)/\J (Bl wr q/\q.heap[o]?=some (.cells #[.bool z.any,G z.lo,G z.hi] 138 (0,0)))))
 case first=>
  first|(have _:=sZ;(have b:w.heap.size+1<wr.heap.size:=by exact(bq.1 HK.o.bx1).1))|((have b:w.heap.size+1<wr.heap.size:=by have C:=(bq.1 U.o.2.2).1;have b:=HK.o.1.size;omega))
  have N:wr.cell? (O w.heap.size 1)=some (kW b1 l n ac):=by rw[E.1];rfl
  have a2:wr.cell? (O (w.heap.size+1) 1)=some (kW b2 f n bc):=by rw[y1.1];rfl
  have B:=hid<|Aa N<|Aa a2<|Aa T<|Aa Q<|Aa c2<|Aa d0<|Aa d1 d2;have b:=dW T;have P:=dW d0;have s:w.heap.size≠wr.heap.size:=by omega
  have b:wr.heap.size≠w.heap.size:=by omega
  have b:w.heap.size+1≠wr.heap.size:=by omega
  have b:wr.heap.size≠w.heap.size+1:=by omega
  have b:b1≠wr.heap.size:=by omega
  have b:wr.heap.size≠b1:=by omega
  have b:b2≠wr.heap.size:=by omega
  have b:wr.heap.size≠b2:=by omega
  clear E y1
  go_region_held3 (λw'=>w'.cell? (O w.heap.size 1)=some (kW b1 l n ac)/\w'.cell? (O (w.heap.size+1) 1)=some (kW b2 f n bc)/\w'.cell? (O b1<|l+k*3)=some (.bool x.any)/\w'.cell? (O b1<|l+k*3+1)=some (G x.lo)/\w'.cell? (O b1<|l+k*3+2)=some (G x.hi)/\w'.cell? (O b2<|f+k*3)=some (.bool y.any)/\w'.cell? (O b2<|f+k*3+1)=some (G y.lo)/\w'.cell? (O b2<|f+k*3+2)=some (G y.hi)) (go_keep) ((go_at_call 115;refine(g.o _).mono ?_;rintro e t ⟨rfl,l⟩;have b:Bl wr t:=aq ay l;have R:=aB B.o.1 b;have q2:=aB B.o.2.1 b;have i:=aB B.o.2.2.1 b;have g:=aB B.o.2.2.2.1 b;have g:=aB B.o.2.2.2.2.1 b;have g:=aB B.o.2.2.2.2.2.1 b;have g:=aB B.o.2.2.2.2.2.2.1 b;have g:=aB B.o.2.2.2.2.2.2.2 b;(first|(have bo:t.heap[wr.heap.size]?=some (.cells oo 138 (0,0)):=((l.block wr.heap.size ak).trans<|cF wr _);have W:=A bo;have i:=hid bo;clear bo)|skip);have g:=b.size;have u:t.heap.size≠w.heap.size:=I;have v:t.heap.size≠w.heap.size+1:=I;have s:t.heap.size≠b1:=I;have q:t.heap.size≠b2:=I;have g:=u.symm;have u:=v.symm;have g:=s.symm;have g:=q.symm;have gW:=hid b;clear b l;simp only[l4]))
  all_goals
   go_wp2_with fail
   go_meet
   first
     |(exact⟨t.heap.size,rfl,gW.o.alloc gW.o.size _,cF t _⟩)
     |(exact⟨wr.heap.size,rfl,((gW.o.setCell aK _).setCell aK _).setCell aK _,mP i.o _ _ _⟩)
 obtain⟨o,rfl,Y⟩:=hcut
 rename World=>t
 first
  | (
    have _:=sZ;have g:t.heap[w.heap.size+1+1+1]?=some (.cells (fL oa k r) 133 (0,0)):=by have:=HK.o.bx3;rw[d.o]at this;exact(Y.o.1.block _ (bq.1 this).1).trans this
    have l:t.ownsRow (w.heap.size+4) 138 3 (.slice oa k r) k (dx<|zz.take k):=by
      have:=aZ HK.o.row Y.o.1;rw[d.o]at this
      exact this)
  |(skip)
 have F:=A Y.o.2
 first
  | (
    have _:=sZ;have V:=A g;obtain⟨N,S,i,P,o⟩:=cI DF;have q:w.heap.size+4<=(t.alloc<|.cells #[.bool z.any,G z.lo,G z.hi] 138).heap.size:=by have:=(bq.1 g).1;simp;omega
    have b:∀(j:Nat)(u:Value),(dr z)[j]?=some u->(t.alloc<|.cells #[.bool z.any,G z.lo,G z.hi] 138).cell? (((O t.heap.size 0):Addr).add j)=some u:=by intro j u hj;rw[dY,bH,Lq];simpa[dr]using hj
    have HI:=hid<|Aa (Aa S<|Aa i<|Aa P o)<|Aa (l.alloc<|.cells #[.bool z.any,G z.lo,G z.hi] 138)<|Aa b q;have D:=hid g;clear S i P o l b q g E y1 T Q c2 d0 d1 d2;go_wp2_with (at_builtin;refine fz rfl _ _ 131 rfl (w.heap.size+4) 138 N _ 3 24 underlying131 HI.o.1.1 HI.o.1.2.1 HI.o.1.2.2.1 HI.o.1.2.2.2 rfl aj (.slice oa k r) k (dx<|zz.take k) rfl HI.o.2.1 (O t.heap.size 0) 1 1 (dr z) rfl rfl HI.o.2.2.1 (by intro u C;simp[dr]at C;rcases C with rfl|rfl|rfl<;>rfl) (by simp only[maxLen];omega) I HI.o.2.2.2 ?_;clear V F;intro b l S F _;obtain⟨a9,c9,rfl⟩:=aV S;have V:=A ((F.block (w.heap.size+1+1+1) (by have:=(bq.1 D.o).1;simp;omega) (by intro e;have:=(HI.o.2.1.lt _ e.symm).1;omega)).trans ((bR (bq.1 D.o).1).trans D.o));have W:=hid<|Aa S F;clear S F);have b:=HK.o.next (z:=z) (Y.o.1.alloc Y.o.1.size _) (by rw[d.o];exact W.o.2) (by rw[d.o];exact W.o.1);have g:zz.take (k+1)=zz.take k++[z]:=by rw[cc.o.1,c.o];exact QE HX.o.1 HX.o.2
    rw[d.o,<-g]at b;clear g;go_roundw
    case rel=>
      refine⟨k+1,a9,c9,by omega,by go_num,?_,b⟩;show(zz.take<|k+1).length=k+1;rw[jk];have:=cc.o.2;omega
    case measure=>simp[intOf];omega)
  | (
    have a2:wr.cell? (O (w.heap.size+1) 1)=some (kW b2 f n bc):=by rw[y1.1];rfl
    have u:=aB a2 Y.o.1;have q0:=aB d0 Y.o.1;have R:=aB d1 Y.o.1;have q2:=aB d2 Y.o.1;clear E y1 a2 T Q c2 d0 d1 d2;have K:J (Bl W0 t):=aq HK.o.1 Y.o.1;cases d:VV.p5 z y
    · have S:=hid d
      clear d;have f:z.any≠y.any∨(z.any=y.any/\z.lo≠y.lo)∨(z.any=y.any/\z.lo=y.lo/\z.hi≠y.hi):=by
       have:=S.o;simp only[VV.p5]at this;by_cases V:z.any=y.any
       .by_cases u:z.lo=y.lo
        .by_cases g:z.hi=y.hi
         .simp[V,u,g]at this
         .exact aR<|aR ⟨V,u,g⟩
        .exact aR<|aP ⟨V,u⟩
       .exact aP V
      have b:J (t? p (some xs) (some ys)=false):=adh HX.o.1 HX.o.2 (by rw[<-c.o];exact S.o);rcases f with V|⟨V,u⟩|⟨V,u,g⟩
      all_goals
       go_wp2_with fail;go_quiet (fail);go_wp2_with fail;go_ret;exact⟨bC b.o.symm,below_drewN (aq U.o.1 K.o) _⟩
    · have E:z=y:=(VV.fX z y).1 d
      have S:=hid d;have b:=hid E;clear d;subst E;go_wp2_with fail;go_quiet (fail);go_wp2_with fail;go_roundw
      case rel=>exact⟨k+1,by omega,by go_num,below_drewN K.o _,λj T Q hj E F=>by
       by_cases e:j=k
       .subst e;rw[HX.o.1]at E;rw[HX.o.2]at F;cases E;cases F;rw[<-c.o];exact S.o
       .exact HK.o.2 j T Q I E F⟩
      case measure=>simp[intOf];omega)):p:=h
def OQ(p:Int)(aa ba:t')(ac bc:Nat)(xs ys:List VV)(w:p')(hx:dq w aa xs)(hy:dq w ba ys)(n:Nat)(hl:ζ xs=n/\ζ ys=n)(a:n<=8):
  Cl 72 #[G p,j'<|fL aa n ac,j'<|fL ba n bc] w (Rb w<|h'<|t? p (z' xs)<|z' ys):=by
 exact adW
def Z1{p:Prop}(h:p:=by
 go_enter func72,ntmps72;go_wp2_with fail;go_ret
 exact⟨rfl,dH⟩):p:=h
def FN(p:Int)(z a:y')(b:Bool)(w:p'):
  Cl 72 #[G p,j' #[h' N',z],j' #[h' b,a]] w (Rb w<|h' N'):=by
 exact Z1
def FM(p:Int)(z a:y')(w:p'):
  Cl 72 #[G p,j' #[h' O',z],j' #[h' N',a]] w (Rb w<|h' O'):=by
 exact Z1
end
section
variable {E:List VV}{b:p'}{a:t'}{c g:Nat}{d:Bool}{e:EV}
def DF:(Tryz.prog.info? 138).map (λi=>(i.zero,i.size,i.bytes))=z' (z'<|j' oo,3,24):=M
def dr(v:VV):List y':=[h' v.any,G v.lo,G v.hi]
def dx(vs:List VV):List y':=vs.flatMap dr
def pB:∀(E:List VV),ζ (dx E)=ζ E*3
 |[]=>rfl
 |v::r=>by have:=pB r;simp only[dx,bW,bg,bU]at this|-;simp[dr]at this|-;omega
def x4:∀(E:List VV)(j:Nat)(v:VV),E[j]?=z' v->∀i x,(dr v)[i]?=z' x->(dx E)[j*3+i]?=z' x
 |[],j,v,h,i,x,hx=>by simp at h
 |a::r,0,v,h,i,x,hx=>by simp at h;subst h;have S:=(aX.1 hx).1;simp only[dx,bW,e6,bH];rw[gI S];exact hx
 |a::r,j+1,v,h,i,x,hx=>by have:=x4 r j v (H' h) i x hx;simp only[dx,bW]at this|-;rw[eB<|by simp[dr];omega,<-this];congr 1;simp[dr];omega
def A2:∀(E:List VV)(j:Nat)(x:y'),(dx E)[j]?=z' x->∃v i,E[j / 3]?=z' v/\(dr v)[j % 3]?=z' x/\i=j % 3
 |[],j,x,h=>by simp[dx]at h
 |a::r,j,x,h=>by
  by_cases f:j<3
  .refine⟨a,j % 3,by rw[Lm f];rfl,?_,rfl⟩;rw[AP f];simp only[dx,bW]at h;rw[gI<|by simp[dr];omega]at h;exact h
  simp only[dx,bW]at h;rw[eB<|by simp[dr];omega]at h;obtain⟨v,i,C,a,N⟩:=A2 r (j-3) x (by simpa[dx,dr]using h);refine⟨v,j % 3,?_,?_,rfl⟩
  .rw[show j / 3=(j-3) / 3+1 by omega];simpa using C
  rw[show j % 3=(j-3) % 3 by omega];exact a
def N8:∀u∈dx E,u.oneCell'=N':=by intro u C;simp[dx,dr]at C;obtain⟨v,_,h⟩:=C;rcases h with rfl|rfl|rfl<;>rfl
def WU{a:Addr}(h:dq w (z' a) E):∀(j:Nat)(u:y'),(dx E)[j]?=z' u->χ w (a.add j)=z' u:=by
 intro j u f;obtain⟨v,i,C,h2,_⟩:=A2 E j u f;obtain⟨b,o,e,T,Q,p⟩:=h _ v C;cases e;rw[dY];have a:o+j=o+j / 3*3+j % 3:=I;rw[a];have N:j % 3<3:=AU _ I;generalize j % 3=m at h2 N|-
 match m,N,h2 with
 |0,_,h2=>simp[dr]at h2;subst h2;exact T
 |1,_,h2=>simp[dr]at h2;subst h2;exact Q
 |2,_,h2=>simp[dr]at h2;subst h2;exact p
def QN{B:Nat}(h:ρ w B 138 3 (g' a n c) (ζ E)<|dx E):dq w a E:=by
 intro j v f;have r:=(aX.1 f).1;rcases h.2 with⟨_,e⟩|⟨g,a,Y,R,_⟩
 .omega
 simp at R;obtain⟨rfl,rfl,rfl⟩:=R;have T:=h.cells (g:=g) rfl;have X:∀i x,(dr v)[i]?=z' x->χ w (O g<|0+(j*3+i))=z' x:=by intro i x F;have:=T _ _<|x4 E j v f i x F;rwa[dY]at this
 refine⟨g,0,rfl,?_,?_,?_⟩
 .simpa using X 0 _ rfl
 .simpa[iH]using X 1 _ rfl
 simpa[iH]using X 2 _ rfl
def VL{b:Array Oper}{q:List Oper}{o:Oper}{a:Act}{Q:Exit->Act->p'->Prop}(V:o.guard=A')(s x:Operand)
  (j:o.op=.call {callee:=.builtin .append,args:=#[s,x],argTypes:=#[131,131]})
  (B:Nat) (k:a.eval s=g' A' 0 0)
  (c:t') (f:Nat) (m:List VV) (F:a.eval x=g' c (ζ m) f) (W:c=A'->f=0) (d:dq w c m)
  (L:ζ m*24<=140737488355328) (v:B<=δ w.1)
  (h:∀z g e,ρ e B 138 3 (g' z (ζ m) g) (ζ m) (dx m)->ξ w e A'->(z=A'->g=0)->wpList Tryz.prog b Q q (a.put o.dst<|g' z (ζ m) g) e):
  wpList Tryz.prog b Q (o::q) a w:=by
 obtain⟨N,S,D,P,a⟩:=cI DF;cases c with
 |none=>
  have T:=W rfl;subst T;have i:m=[]:=by
   cases m with
   |nil=>rfl
   |cons y r=>obtain⟨b,o,e,_⟩:=d 0 y rfl;cases e
  subst i;refine wpList_append_own_none V s x 131 j B 138 N 3 underlying131 S (g' A' 0 0) 0 [] k dj F ?_;exact h A' 0 w dj (QB _ _) λ_=>rfl
 |some b=>
  refine Lp w V s x 131 j B 138 N _ 3 24 underlying131 S D P a rfl aj (g' A' 0 0) 0 [] k dj b (ζ m) f (dx m) F (pB m) (WU d) N8 (by simp only[maxLen];omega) I v ?_;intro R F f k j;rw[bH,gg]at f;obtain⟨a,p,rfl⟩:=aV f;refine h a p F f k λe=>?_;subst e;rcases f.2 with⟨R,_⟩|⟨g,u,Y,R,_⟩
  .simp at R;exact R.2
  simp at R
def aaN{W:p'}{Y:Array y'}{t:TypeId}{k:Nat}{x:VV}(h:W.1[g]?=z' (cU Y t))(U:Y.toList.take (ζ E*3)=dx E)(b:k<ζ E):
  dq (κ (κ (κ W (O g<|k*3)<|h' x.any) (O g<|k*3+1)<|G x.lo) (O g<|k*3+2)<|G x.hi) (z'<|O g 0) (E.set k x):=by
 have a:=(A<|H (o:=k*3+2) (H (o:=k*3+1) (H (o:=k*3) h<|h' x.any)<|G x.lo)<|G x.hi).1;have c:ζ E*3<=Y.size:=by have:=cZ length U;rw[pB,jk]at this;simp at this;omega
 intro j v f;have r:=(aX.1 f).1;rw[dh]at r;refine⟨g,0,rfl,?_⟩;rw[e5]at f;by_cases e:k=j
 .subst e;rw[aD rfl,aD b]at f;cases f;refine⟨?_,?_,?_⟩
  all_goals
   rw[a];simp only[bH,Array.getElem?_setIfInBounds,Array.size_setIfInBounds]
   repeat(first|rw[aD (by first|trivial|omega)]|rw[aA I])
 rw[aA e]at f;have X:∀i y,(dr v)[i]?=z' y->i<3->Y[j*3+i]?=z' y:=by intro i y B S;have C:=x4 E j v f i y B;rw[<-U,xj,aD I]at C;simpa using C
 refine⟨?_,?_,?_⟩
 all_goals
  rw[a];simp only[bH,Array.getElem?_setIfInBounds,Array.size_setIfInBounds]
  repeat(rw[aA I])
 .exact X 0 _ rfl I
 .exact X 1 _ rfl I
 exact X 2 _ rfl I
def dq.heap{a:World}{o:Nat}(h:dq w (some<|O g o) E)(V:a.heap[g]?=w.heap[g]?):dq a (some<|O g o) E:=by intro j v f;obtain⟨b,q,e,T,Q,p⟩:=h j v f;cases e;exact⟨g,o,rfl,(bh V).trans T,(bh V).trans Q,(bh V).trans p⟩
def cR(w:p')(nb:Bool)(a:t')(n c:Nat)(e:EV):Prop:=match e with|none=>nb=N'|some vs=>nb=O'/\n=ζ vs/\dq w a vs/\(a=A'->c=0)
def cR.below(h:cR w d a n c e)(f:Bl w b):cR b d a n c e:=by
 cases e with
 |none=>exact h
 |some E=>exact⟨h.1,h.2.1,h.2.2.1.below f,h.2.2.2⟩
abbrev b?(nb:Bool)(a:t')(n c:Nat):y':=j'<|fe nb a n c
def kJ(w:p')(ev:EV)(e:Ending)(w':p'):Prop:=∃nb a n c,e=n' (b? nb a n c)/\cR w' nb a n c ev/\Bl w w'
def kJ.mk(h:cR b d a n c e)(f:Bl w b):kJ w e (n'<|b? d a n c) b:=⟨d,a,n,c,rfl,h,f⟩
def RZ(c:Bool)(z:Option Addr)(b:Nat)(E:List VV)(k:Nat)(x:VV)(w:World)(h:dq w z E)(W:z=none->b=0)(X:ζ E<=8)(y:k<ζ E):
  Cl 247 #[b? c z (ζ E) b,G k,l4 x] w (kJ w<|some<|E.set k x):=by
 have s:=hid<|Aa h W;clear h W;simp only[l4,b?];go_enter func247,ntmps247;go_upto_region 2 with(fail)
 generalize j:((((w.alloc<|.cells #[.bool c,.slice z (ζ E) b] 133).alloc<|.cells (cD x.any x.lo x.hi) 138).alloc<|.cells uo 133).alloc<|.cells uo 133)=a;have U:J (Below w.heap.size w a/\a.heap[δ w.heap]?=some (.cells #[.bool c,.slice z (ζ E) b] 133 (0,0))/\a.heap[δ w.heap+1]?=some (.cells (cD x.any x.lo x.hi) 138 (0,0))/\a.heap[δ w.heap+1+1]?=some kV/\a.heap[δ w.heap+1+1+1]?=some kV):=by subst j;exact⟨jb,Vg⟩
 clear j;obtain⟨j,h⟩:=A U.b;obtain⟨X,d⟩:=A U.D;go_upto_region 3 with(at_builtin;refine VL rfl _ _ rfl a.heap.size rfl z b E rfl s.A (s.a.below U.a) I aK ?_;clear j h X d;intro c p F f b r;obtain⟨j,h⟩:=A ((b.block _ (bq.1 U.D).1 ak).trans U.D);have u:=hid<|Aa f<|Aa b r;clear f b r)
 obtain⟨g,Y,b,v,t,V⟩:∃g Y,c=some ⟨g,0,none⟩/\δ a.heap<=g/\F.heap[g]?=some (.cells Y 138 (0,0))/\Y.toList.take (ζ E*3)=dx E:=by
  rcases u.a.2 with⟨_,e⟩|⟨g,a,Y,e,C,a,_,_,_,N⟩
  .omega
  simp at e;exact⟨g,Y,e.1,C,a,N⟩
 subst b;have D:=(bq.1 U.D).1;have i:=(bq.1 U.c).1;have P:=(bq.1 U.d).1;have a:=(u.b.block _ i ak).trans U.c;have o:=(u.b.block _ P ak).trans U.d;have b:=(u.b.block _ D ak).trans U.D;have l:Below w.heap.size w F:=U.a.grown u.b U.a.size (λq e=>by cases e);have L:δ w.heap<=g:=by have:=U.a.size;omega
 have c:g≠δ w.heap+1+1+1:=I;have f:g≠δ w.heap+1+1:=I;have s:g≠δ w.heap+1:=I;have q:ζ E*3<=Y.size:=by have:=cZ length V;rw[pB,jk]at this;simp at this;omega
 have B:J (Below w.heap.size w (κ F (O (δ w.heap+1+1+1) 1)<|gX g (ζ E) p)/\(κ F (O (δ w.heap+1+1+1) 1)<|gX g (ζ E) p).heap[δ w.heap+1+1+1]?=some (.cells #[.bool false,.slice (some<|O g 0) (ζ E) p] 133 (0,0))/\(κ F (O (δ w.heap+1+1+1) 1)<|gX g (ζ E) p).heap[δ w.heap+1]?=some (.cells (cD x.any x.lo x.hi) 138 (0,0))/\(κ F (O (δ w.heap+1+1+1) 1)<|gX g (ζ E) p).heap[δ w.heap+1+1]?=some kV/\(κ F (O (δ w.heap+1+1+1) 1)<|gX g (ζ E) p).heap[g]?=some (.cells Y 138 (0,0))):=by
  refine⟨l.setCell (by show _<=δ w.heap+1+1+1;omega) _,H b _,?_,?_,?_⟩
  .rw[aJ<|by show δ w.heap+1≠δ w.heap+1+1+1;omega];exact a
  .rw[aJ<|by show δ w.heap+1+1≠δ w.heap+1+1+1;omega];exact o
  rw[aJ c];exact t
 clear j h a o b l t i P D;generalize κ F (O (δ w.heap+1+1+1) 1) (gX g (ζ E) p)=a at B;obtain⟨j,h⟩:=A B.b;obtain⟨X,d⟩:=A B.c;obtain⟨W,l⟩:=A B.D;have T:∃u,χ a (O g<|k*3)=some u:=⟨_,(W _).trans<|rX I⟩;have Q:∃u,χ a (O g<|k*3+1)=some u:=⟨_,(W _).trans<|rX I⟩;have b:∃u,χ a (O g<|k*3+2)=some u:=⟨_,(W _).trans<|rX I⟩;obtain⟨i,T⟩:=T;obtain⟨R,Q⟩:=Q;obtain⟨i,b⟩:=b;clear W;have K:(k:Int)<(ζ E:Int):=I;go_upto_region 4 with(fail)
 have S:J (Below w.heap.size w (κ (κ (κ a (O g<|k*3)<|.bool x.any) (O g<|k*3+1)<|G x.lo) (O g<|k*3+2)<|G x.hi)/\(κ (κ (κ a (O g<|k*3)<|.bool x.any) (O g<|k*3+1)<|G x.lo) (O g<|k*3+2)<|G x.hi).heap[δ w.heap+1+1+1]?=some (.cells #[.bool false,.slice (some<|O g 0) (ζ E) p] 133 (0,0))/\(κ (κ (κ a (O g<|k*3)<|.bool x.any) (O g<|k*3+1)<|G x.lo) (O g<|k*3+2)<|G x.hi).heap[δ w.heap+1+1]?=some kV/\dq (κ (κ (κ a (O g<|k*3)<|.bool x.any) (O g<|k*3+1)<|G x.lo) (O g<|k*3+2)<|G x.hi) (some<|O g 0) (E.set k x)):=by
  refine⟨((B.a.setCell (by show _<=g;omega) _).setCell (by show _<=g;omega) _).setCell (by show _<=g;omega) _,?_,?_,aaN B.D V y⟩
  .rw[aJ<|jH c,aJ<|jH c,aJ<|jH c];exact B.b
  rw[aJ<|jH f,aJ<|jH f,aJ<|jH f];exact B.d
 clear j h X d l T Q b;generalize(κ (κ (κ a (O g<|k*3)<|.bool x.any) (O g<|k*3+1)<|G x.lo) (O g<|k*3+2)<|G x.hi)=y at S;obtain⟨j,h⟩:=A S.b;obtain⟨X,d⟩:=A S.c;go_wp2_with fail;have r:χ (κ y (O (δ w.heap+1+1) 0)<|.bool false) (O (δ w.heap+1+1) 0)=some (.bool false):=by rw[(A<|H S.c _).1];rfl
 have R:χ (κ (κ y (O (δ w.heap+1+1) 0)<|.bool false) (O (δ w.heap+1+1) 1)<|gX g (ζ E) p) (O (δ w.heap+1+1) 1)=some (gX g (ζ E) p):=by rw[(A<|H (H S.c _) _).1];rfl
 refine aE (v:=b? false (some<|O g 0) (ζ E) p) (by simp[results,results247,go_sem,r,R]) rfl (kJ.mk ⟨rfl,ak,?_,λe=>by cases e⟩ ?_)
 .exact S.C.heap (by rw[aJ f,aJ f])
 (repeat first|exact S.a|refine jI ?_ (by first|omega|(simp;omega)) _)
end
def xZ(l:List VV)(x:VV):dx (l++[x])=dx l++dr x:=by simp[dx]
def QE{p:Int}{D z:List VV}{k:Nat}{x y:VV}(F:D[k]?=z' x)(B:z[k]?=z' y):(zipWith (g! p) D z).take (k+1)=(zipWith (g! p) D z).take k++[g! p x y]:=by
 have h:(zipWith (g! p) D z)[k]?=z' (g! p x y):=by rw[QA,F,B]
 have X:=(aX.1 h).1;rw[ep X,(aX.1 h).2]
structure JnS(w wr:p')(av bv:y')(zs:List VV)(oa:t')(oc:Nat):Prop where
  low:Bl w wr
  bx0:wr.1[δ w.1]?=z' (i' #[h' O',av] 133 (0,0))
  bx1:wr.1[δ w.1+1]?=z' (i' #[h' O',bv] 133 (0,0))
  bx2:wr.1[δ w.1+1+1]?=z' kV
  bx3:wr.1[δ w.1+1+1+1]?=z' (i' (fL oa (ζ zs) oc) 133 (0,0))
  row:ρ wr (δ w.1+4) 138 3 (bk oa (ζ zs) oc) (ζ zs) (dx zs)
  nil:oa=A'->oc=0
def JnS.next{w wr X c:p'}{f D:y'}{b:List VV}{j e:t'}{r a:Nat}{z:VV}(h:JnS w wr f D b j r)(d:Bl wr X)(F:ξ X c<|φ<|g' j (ζ b) r)
  (k:ρ c (δ w.1+4) 138 3 (g' e (ζ b+1) a) (ζ b+1)<|dx b++dr z):
  JnS w (κ c (O (δ w.1+1+1+1) 1)<|g' e (ζ b+1) a) f D (b++[z]) e a:=by
 have l:∀q,φ (g' j (ζ b) r)=z' q->δ w.1+4<=q:=λq e=>(h.row.lt q e).1;have a:∀q o,q<δ w.1+4->wr.1[q]?=z' o->c.1[q]?=z' o:=by intro q o b b;have f:=(bq.1 b).1;have C:=(d.block q f).trans b;refine(F.block q (bq.1 C).1 ?_).trans C;intro e;have:=l q e.symm;omega
 have BV:Bl w c:=(aq h.low d).grown F (aq h.low d).size λq e=>I'<|l q e;refine⟨BV.setCell G' _,?_,?_,?_,?_,?_,?_⟩
 .rw[aJ G'];exact a _ _ I h.bx0
 .rw[aJ G'];exact a _ _ I h.bx1
 .rw[aJ G'];exact a _ _ I h.bx2
 .rw[bg,e4];exact H (a _ _ I h.bx3) _
 .rw[bg,e4,xZ];refine⟨k.1,?_⟩;rcases k.2 with e|⟨g,a,Y,e,C,b,N⟩
  .exact aP e
  refine aR ⟨g,a,Y,e,C,?_,N⟩;rw[aJ G'];exact b
 intro e;subst e;rcases k.2 with⟨R,_⟩|⟨g,u,Y,R,_⟩
 .simp at R
 simp at R
theorem R5(p:Int)(aa ba:Option Addr)(ac bc:Nat)(xs ys:List VV)(w:World)(hx:dq w aa xs)(hy:dq w ba ys)(n:Nat)(hl:xs.length=n/\ys.length=n)(a:n<=8):
  Cl 73 #[G p,.agg<|fL aa n ac,.agg<|fL ba n bc] w (kJ w<|some<|List.zipWith (g! p) xs ys):=by
 have sZ:=True.intro;exact adW
def JG(p:Int)(P l:t')(f b a X:Nat)(c:Bool)(d:EV)(w:p')(h:cR w c l a X d):
  Cl 73 #[G p,b? N' P f b,b? c l a X] w (kJ w d):=by
 go_enter func73,ntmps73;go_wp2_with fail;refine aE (v:=b? c l a X) (by simp[results73,go_sem]) rfl (kJ.mk (h.below ?_) ?_)
 all_goals(repeat first|exact aQ|refine jI ?_ (by first|omega|(simp;omega)) _|refine lB ?_ (by first|omega|(simp;omega)|(simp;done)) _)
def Fw(p:Int)(P l:t')(f b a X:Nat)(c:EV)(w:p')(h:cR w O' P f b c):
  Cl 73 #[G p,b? O' P f b,b? N' l a X] w (kJ w c):=by
 go_enter func73,ntmps73;go_wp2_with fail;refine aE (v:=b? O' P f b) (by simp[results73,go_sem]) rfl (kJ.mk (h.below ?_) ?_)
 all_goals(repeat first|exact aQ|refine jI ?_ (by first|omega|(simp;omega)) _|refine lB ?_ (by first|omega|(simp;omega)|(simp;done)) _)
def N2(nv:Nat)(e:EV):Prop:=match e with|none=>True|some vs=>ζ vs=nv
def Bi(p:Int)(Q:Nat)(T c:Bool)(P l:t')(f b a X:Nat)(x y:EV)(w:p')(F:cR w T P f b x)(B:cR w c l a X y)(W:Q<=8)(v:N2 Q x)(ny:N2 Q y):
  Cl 73 #[G p,b? T P f b,b? c l a X] w (kJ w<|qD p x y):=by
 match x,y,F,B,v,ny with
 |none,y,F,B,_,_=>obtain rfl:T=N':=F;exact JG p P l f b a X c y w B
 |some D,none,F,B,_,_=>obtain rfl:c=N':=B;obtain⟨rfl,c⟩:=F;exact Fw p P l f b a X _ w ⟨rfl,c⟩
 |some D,some z,F,B,v,ny=>obtain⟨rfl,rfl,c,_⟩:=F;obtain⟨rfl,rfl,d,_⟩:=B;have V:ζ D=Q:=v;have u:ζ z=Q:=ny;rw[V,u];exact R5 p P l b X D z w c d Q ⟨V,u⟩ W
def yu(p:Int)(Q:Nat)(T c:Bool)(P l:t')(f b a X:Nat)(x y:EV)(w:p')(F:cR w T P f b x)(B:cR w c l a X y)(W:Q<=8)(v:N2 Q x)(ny:N2 Q y):
  Cl 72 #[G p,b? T P f b,b? c l a X] w (Rb w<|h'<|t? p x y):=by
 match x,y,F,B,v,ny with
 |none,y,F,B,_,_=>obtain rfl:T=N':=F;exact FN p _ _ c w
 |some D,none,F,B,_,_=>obtain rfl:c=N':=B;obtain⟨rfl,a⟩:=F;exact FM p _ _ w
 |some D,some z,F,B,v,ny=>obtain⟨rfl,rfl,a,_⟩:=F;obtain⟨rfl,rfl,d,_⟩:=B;have V:ζ D=Q:=v;have u:ζ z=Q:=ny;rw[V,u];exact OQ p P l b X D z w a d Q ⟨V,u⟩ W
section
variable {X:p'}{o:Obj}
def jV(h:n=δ X.1):(X.alloc o).1[n]?=z' o:=by subst h;exact cF X o
def lK{b:Obj}(h:X.1[n]?=z' o)(K:n<δ X.1):(X.alloc b).1[n]?=z' o:=(rY X b n K).trans h
def dq.put{w:p'}{j e:t'}{c:List VV}{q a s:Nat}{d:Bool}{L b:y'}{t:TypeId}(h:dq w j c)(i:w.1[q]?=z' (i' (fe d e a s) t (0,0))):dq (κ (κ w (O q 0) L) (O q 1) b) j c:=by
 intro j v f;obtain⟨g,o,e,T,c1,p⟩:=h j v f;have a:g≠q:=by
  rintro rfl;obtain⟨E,_⟩:=A i;rw[E]at T c1;generalize o+j*3=i at T c1
  match i,T,c1 with
  |0,_,c1=>simp at c1
  |1,T,_=>simp at T
  |i+2,T,_=>simp at T
 have V:(κ (κ w (O q 0) L) (O q 1) b).1[g]?=w.1[g]?:=by rw[aJ a,aJ a]
 exact⟨g,o,e,(bh V).trans T,(bh V).trans c1,(bh V).trans p⟩
def eT(n:Nat)(z:t')(x:Nat)(E:List VV)(k:Nat)(f:Bool)(j S:Int)(w:p')(h:dq w z E)(W:z=A'->x=0)(K:ζ E=n)(X:ζ E<=8)(c:k<ζ E):
  Cl 247 #[j' #[h' O',g' z n x],G k,j'<|cD f j S] w λe a=>∃b r,e=n' (j'<|fL b n r)/\dq a b (E.set k ⟨f,j,S⟩)/\(b=A'->r=0)/\Bl w a:=by
 subst K;refine(RZ O' z x E k ⟨f,j,S⟩ w h W X c).mono ?_;rintro e a ⟨a,a,n,c,rfl,⟨rfl,i,R,T⟩,b⟩;rw[dh]at i;subst i;exact⟨a,c,rfl,R,T,b⟩
def abx(f:Bool)(j S l h:Int)(w:p'):
  Cl 297 #[j'<|cD f j S,G l,G h] w λe a=>∃z:VV,e=n' (j' #[h' z.any,G z.lo,G z.hi])/\J (z=cA ⟨f,j,S⟩ l h)/\Bl w a:=
 (FI ⟨f,j,S⟩ l h w).mono λe a V=>⟨_,V.1,rfl,V.2⟩
end
def QZ{p:Prop}(h:p:=by
 go_enter func56,ntmps56;go_wp2
 all_goals
  go_ret2;have V:=s.o
  refine⟨fg ?_ ?_,rfl⟩<;>simp_all[jQ,wo,Wm.tV,Wm.wX,LI]):p:=h
def I?(c:x')(a b:Int)(w:p')(h:Wm.wX c.1.1=N'):
  Cl 56 #[k' c,G a,G b] w λe d=>e=n' (o' #[G<|jQ (Wm.tV c.1.1) a b,h'<|wo (Wm.tV c.1.1) b])/\d=w:=by
 rw[<-eM]at h|-;have U:a.tdiv (-1)=-a:=by rw[Cq,Lr]
 have X:=hid U;have s:=hid h;clear U h;by_cases a:b=0
 .subst a;exact QZ
 have D:(b==0)=O':=by simp[a]
 by_cases d:b=-1
 .subst d;go_enter func56,ntmps56;go_wp2
  all_goals
   go_ret2;have V:=s.o;have U:=X.o;refine⟨fg ?_ ?_,rfl⟩<;>simp_all[jQ,wo,Wm.tV,Wm.wX,LI]
 have C:(b==-1)=O':=by simp[d]
 exact QZ
def aaX(c:x')(a b:Int)(w:p')(h:Wm.x! c.1.1=N'):
  Cl 55 #[k' c,G a,G b] w λe d=>e=n' (h'<|oC (Wm.uu c.1.1) a b)/\d=w:=by
 rw[<-eM]at h|-;have s:=hid h;clear h;go_enter func55,ntmps55;go_wp2
 all_goals
  go_ret;have V:=s.o;refine⟨bC ?_,rfl⟩<;>simp_all[oC,Wm.uu,Wm.x!]
 .exact S? a b
 omega
section
variable {a:EV}{P:y'}{m:RN}{z:t'}{F:Nat}
structure KB(w W:p')(wv:y')(m:RN)(va:t')(vn vc:Nat):Prop where
  low:Bl w W
  b0:W.1[δ w.1]?=z' (i' (aI wv m) 111 (0,0))
  b1:W.1[δ w.1+1]?=z' (i' (fL va vn vc) 133 (0,0))
  b2:W.1[δ w.1+1+1]?=z' kV
def KB.below{a:p'}(h:KB w W P m z F x)(b:Bl W a):KB w a P m z F x:=by have k:∀{q:Nat}{o:Obj},W.1[q]?=z' o->a.1[q]?=z' o:=λe=>(b.block _ (bq.1 e).1).trans e;exact⟨aq h.low b,k h.b0,k h.b1,k h.b2⟩
def KB.start(w:p')(P:y')(m:RN)(z:t')(F x:Nat):KB w (((w.alloc<|i' (aI P m) 111).alloc<|i' #[h' O',g' z F x] 133).alloc<|i' uo 133) P m z F x:=by
 refine⟨eD,?_,?_,?_⟩
 .exact lK (lK (jV rfl) ak) G'
 .exact lK (jV ak) ak
 exact jV ak
def KB.done{j:t'}{r:Nat}{c:List VV}(h:KB w W P m z F x)(R:dq W j c)(K:j=A'->r=0)(X:ζ c=F)(l:a=z' c):
  kJ w a (n'<|b? O' j F r) (κ (κ W (O (δ w.1+1+1) 0)<|h' O') (O (δ w.1+1+1) 1)<|g' j F r):=by
 subst l;exact kJ.mk ⟨rfl,X.symm,R.put h.b2,K⟩ ((h.low.setCell G' _).setCell G' _)
def KB.no(h:KB w W P m z F x)(l:a=A'):
  kJ w a (n'<|b? N' A' 0 0) (κ (κ W (O (δ w.1+1+1) 0)<|h' N') (O (δ w.1+1+1) 1)<|g' A' 0 0):=by
 subst l;exact kJ.mk (show cR _ N' A' 0 0 A' from rfl) ((h.low.setCell G' _).setCell G' _)
def KB.q(h:KB w W P m z F x)(L a:y'):χ (κ W (O (δ w.1+1+1) 0) L) (O (δ w.1+1+1) 0)=z' L/\χ (κ (κ W (O (δ w.1+1+1) 0) L) (O (δ w.1+1+1) 1) a) (O (δ w.1+1+1) 1)=z' a:=
 ⟨by rw[(A<|H h.b2 _).1];rfl,by rw[(A<|H (H h.b2 _) _).1];rfl⟩
def sD(b:t')(x n:Nat)(E:List VV)(q c:Int)(a:x')(w:p')(h:dq w b E)(K:ζ E=n)(X:ζ E<=8)(R:q<ζ E):
  Cl 248 #[j'<|fL b n x,j' #[G q,G c,k' a]] w λe d=>∃z:VV,e=n' (j' #[h' z.any,G z.lo,G z.hi])/\J (z=fR E q c)/\Bl w d:=by
 subst K;exact(Wg O' b x E q c a w h X R).mono λe d V=>⟨_,V.1,rfl,V.2⟩
def C?(b:y')(m:RN)(k:Int)(t:Nat)(z:t')(x:Nat)(E:List VV)(w:p')(R:dq w z E)(W:z=A'->x=0)(X:ζ E<=8)(j:m.does=⟨vo⟩)(U:m.target=t)(e:t<ζ E):
  Cl 181 #[j'<|aI b m,G k,b? O' z (ζ E) x] w (kJ w<|z'<|E.set t VV.dT):=by
 have k:=hid<|KB.start w b m z (ζ E) x;have B:=hid<|Aa R W;clear R W;obtain⟨b,b,b,⟨f,b,y⟩,⟨D,b,c⟩,ops,b,g⟩:=m;simp only at j U;subst j;subst U;simp only[aI,b?]at k|-;obtain⟨b,L⟩:=Ea<|z'<|E.set t VV.dT;rw[<-L];have c:=hid L;clear L;go_enter func181,ntmps181;go_upto_region 2 with(fail)
 generalize((w.alloc _).alloc _).alloc _=b at k|-;obtain⟨s,b⟩:=A k.o.b0;simp only[aI]at s;obtain⟨V,u⟩:=A k.o.b1;obtain⟨r1,q⟩:=A k.o.b2;go_wp2_with (go_at_call 247;refine(eT (ζ E) z x E t N' 0 0 _ (B.a.below k.o.low) B.A rfl X e).mono ?_;clear s b V u r1 q;rintro e o ⟨j,r,rfl,v,b,Y⟩;have p:=hid<|Aa (k.o.below Y)<|Aa v b;obtain⟨r1,q⟩:=A p.a.b2;clear v b Y);obtain⟨b,R⟩:=p.a.q (h' O')<|bk j (ζ E) r;refine aE (v:=b? O' j (ζ E) r) (by simp[results181,go_sem,b,R]) rfl (p.a.done p.b p.B (by rw[dh]) c.o)
structure KA(w W:p')(wv:y')(m:RN)(va:t')(vn vc:Nat)(q:Nat)(z:VV):Prop where
  kb:KB w W wv m va vn vc
  bx:W.1[q]?=z' (i' #[h' z.any,G z.lo,G z.hi] 138 (0,0))
  low:δ w.1+1+1<q
def KA.below{c:p'}{a:t'}{F x q:Nat}{z:VV}(h:KA w W P m a F x q z)(b:Bl W c):KA w c P m a F x q z:=
 ⟨h.kb.below b,(b.block _ (bq.1 h.bx).1).trans h.bx,h.low⟩
def KB.box{a:t'}(h:KB w W P m a F x)(z:VV):KA w (W.alloc<|i' #[h' z.any,G z.lo,G z.hi] 138) P m a F x W.1.size z:=
 ⟨h.below bA,cv,(bq.1 h.b2).1⟩
def FK(b:y')(m:RN)(k:Int)(t:Nat)(j:t')(x:Nat)(E:List VV)(w:p')(R:dq w j E)(W:j=A'->x=0)(X:ζ E<=8)(l:m.does=⟨#[61]⟩)(p:m.ops=1)(U:m.target=t)(o:t<ζ E)(e:m.a.var<ζ E):
  Cl 181 #[j'<|aI b m,G k,b? O' j (ζ E) x] w (kJ w<|z'<|E.set t<|fR E m.a.var m.a.c):=by
 have k:=hid<|KB.start w b m j (ζ E) x;have B:=hid<|Aa R W;clear R W;obtain⟨b,b,b,⟨f,b,y⟩,⟨D,c,c⟩,ops,c,g⟩:=m;simp only at l U p e|-;subst l;subst U;subst p;simp only[aI,b?]at k|-;obtain⟨c,L⟩:=Ea<|z'<|E.set t<|fR E f b;rw[<-L];have D:=hid L;clear L;go_enter func181,ntmps181;go_upto_region 3 with(fail)
 generalize((w.alloc _).alloc _).alloc _=c at k|-;obtain⟨s,g⟩:=A k.o.b0;obtain⟨V,u⟩:=A k.o.b1;simp only[aI]at s;go_upto_region 4 with(go_at_call 248;refine(sD j x (ζ E) E f b y _ (B.a.below k.o.low) rfl X e).mono ?_;clear s g V u;rintro e b ⟨z,rfl,c,l⟩;have R:=hid<|k.o.below l;clear l)
 have T:=hid<|R.o.box z;generalize δ b.1=C at T|-;generalize b.alloc _=F at T|-;obtain⟨s,g⟩:=A T.o.kb.b0;obtain⟨V,u⟩:=A T.o.kb.b1;obtain⟨r1,q⟩:=A T.o.kb.b2;obtain⟨N,b⟩:=A T.o.bx;simp only[aI]at s;go_wp2_with (go_at_call 247;refine(eT (ζ E) j x E t z.any z.lo z.hi _ (B.a.below T.o.kb.low) B.A rfl X o).mono ?_;clear s g V u r1 q N b;rintro e o ⟨j,r,rfl,v,b,Y⟩;have p:=hid<|Aa (T.o.kb.below Y)<|Aa v b;obtain⟨r1,q⟩:=A p.a.b2;clear v b Y);obtain⟨b,R⟩:=p.a.q (h' O')<|bk j (ζ E) r;refine aE (v:=b? O' j (ζ E) r) (by simp[results181,go_sem,b,R]) rfl (p.a.done p.b p.B (by rw[dh])<|by rw[D.o,<-c.o])
end
section
variable {o e:Nat}{u:y'}
def kF(x:N5):Array y':=(vp x.fa (ζ x.n.facts) x.fc x.ra (ζ x.n.bf) x.rc x.n.aF x.n.rank x.va (ζ x.n.aM) x.vc)
def nE(b:Bool)(k:Int):N5:=⟨A',0,A',0,A',0,⟨[],[],b,k,[]⟩⟩
def aak(W:p')(B:Nat)(b:Bool)(k:Int):lu W B (nE b k):=⟨dj,dj,dj,aP rfl⟩
structure rU(W w:p')(p g:Int)(na:t')(nl nc rb:Nat)(s:x')(x:N5)(l:u'):Prop where
  b0:W.1[δ w.1]?=z' (i' #[G p,G g,g' na nl nc] 51 (0,0))
  b1:W.1[δ w.1+1]?=z' (i' (kF<|nE O' 0) 96 (0,0))
  b2:W.1[δ w.1+2]?=z' (i' (kF x) 96 (0,0))
  rd:AJ w W rb s l
  lt:rb<δ w.1
  ok:lu W (δ w.1+3) x
section
variable {W W' w:p'}{p g:Int}{na:t'}{nl nc rb:Nat}{s:x'}{x:N5}{l l':u'}{F:p'->Prop}
def lu.kept{q:Nat}(h:lu W B x)(c:ξ W W'<|z' q)(a:q<B):lu W' B x:=
 ⟨h.f.kept c<|dE h.f a,h.r.kept c<|dE h.r a,h.v.kept c<|dE h.v a,h.ap⟩
def rU.call(h:rU W w p g na nl nc rb s x l)(Q:AJ W W' rb s l'):rU W' w p g na nl nc rb s x l':=by have:=h.lt;exact⟨j4 h.b0 Q.2 I,j4 h.b1 Q.2 I,j4 h.b2 Q.2 I,⟨Q.1,h.rd.2.trans Q.2⟩,h.lt,h.ok.kept Q.2 I⟩
def rU.put(D:W.1[δ w.1]?=z' (i' #[G p,G g,g' na nl nc] 51 (0,0)))(C:W.1[δ w.1+1]?=z' (i' (kF<|nE O' 0) 96 (0,0)))(e:W.1[δ w.1+2]?=z' (i' (kF x) 96 (0,0)))(Q:AJ w W rb s l)(c:rb<δ w.1)(i:N5)(d:(kF x).setIfInBounds o u=kF i)(a:lu W (δ w.1+3) i):rU (κ W (O (δ w.1+2) o) u) w p g na nl nc rb s i l:=
 ⟨(aJ G').trans D,(aJ G').trans C,by rw[H e,d],Q.far c I u,c,a.kept (cQ W (δ w.1+2) o u) I⟩
def rU.set(h:rU W w p g na nl nc rb s x l)(b:Bool)(i:Int)(a:(kF x).setIfInBounds o u=kF (nE b i))(k:∀V,J (rU V w p g na nl nc rb s (nE b i) l)->F V):F (κ W (O (δ w.1+2) o) u):=
 k _ (rU.put h.b0 h.b1 h.b2 h.rd h.lt _ a<|aak _ _ _ _)
def rU.lt3(h:rU W w p g na nl nc rb s x l):δ w.1+3<=δ W.1:=blt h.b2
def rU.app{o:Obj}{v:y'}{a:Nat}{E:List y'}(h:rU W w p g na nl nc rb s x l)(B:ρ W (δ w.1+3) e a v m E)(c:ξ (W.alloc o) W'<|φ v){i:Nat}(j:N5)(n:(kF x).setIfInBounds i u=kF j)(o:lu W' (δ w.1+3) j):W'.1[δ w.1+2]?=z' (i' (kF x) 96 (0,0))/\rU (κ W' (O (δ w.1+2) i) u) w p g na nl nc rb s j l:=by
 have f:=h.lt3;have L:=h.lt;have X:∀k,k<δ w.1+3->W'.1[k]?=W.1[k]?:=by intro k f;refine(c.block k G' ?_).trans<|bR I;intro e;have:=(B.lt k e.symm).1;omega
 obtain⟨⟨a,C,e⟩,N⟩:=h.rd;have d:=c.size;refine⟨(X _ I).trans h.b2,rU.put ((X _ I).trans h.b0) ((X _ I).trans h.b1) ((X _ I).trans h.b2) ⟨⟨a,(X _ I).trans C,e⟩,c.os.trans N.os,c.tape.trans N.tape,c.output.trans N.output,by simp at d;omega,λk f z=>?_⟩ h.lt j n o⟩;exact(X k I).trans<|N.block k f z
def rU.start(p g:Int)(na:t')(nl nc:Nat)(h:H! w rb s l)(k:∀V,J (rU V w p g na nl nc rb s (nE O' 0) l)->F V):F (((w.alloc<|i' #[G p,G g,g' na nl nc] 51).alloc<|i' r? 96).alloc<|i' r? 96):=by
 refine k _ ⟨?_,?_,?_,((AJ.alloc ⟨h,tm w _⟩ _).alloc _).alloc _,h.lt,aak _ _ _ _⟩
 .rw[bR G',bR ak,cF]
 .rw[bR ak];exact(bE w _ _).2
 have:=cF ((w.alloc<|i' #[G p,G g,g' na nl nc] 51).alloc<|i' r? 96)<|i' r? 96;simpa[kF,nE]using this
end
def NdA(w W':p')(rb:Nat)(s:x')(n:Nd)(r:u')(e:Ending):Prop:=∃x:N5,x.n=n/\e=n' (WW x)/\j5 W' w.1.size x/\AJ w W' rb s r
def rU.fin{w:p'}{p g:Int}{na:t'}{nl nc rb:Nat}{s:x'}{x:N5}{n:Nd}{l:u'}(h:rU W w p g na nl nc rb s x l)(K:x.n=n):
  NdA w (κ (κ (κ (κ (κ W (O (δ w.1+1) 0)<|bk x.fa (ζ x.n.facts) x.fc) (O (δ w.1+1) 1)<|bk x.ra (ζ x.n.bf) x.rc) (O (δ w.1+1) 2)<|h' x.n.aF) (O (δ w.1+1) 3)<|G x.n.rank) (O (δ w.1+1) 4)<|bk x.va (ζ x.n.aM) x.vc) rb s n l (n'<|WW x):=by
 have N:=h.lt;have d:=ud w.1.size;have k:∀{V:p'} (o:Nat) (v:y'),lu V (δ w.1+3) x->lu (κ V (O (δ w.1+1) o) v) (δ w.1+3) x:=λo v h=>h.kept (cQ _ (δ w.1+1) o v) I;exact⟨x,K,rfl,(k _ _<|k _ _<|k _ _<|k _ _<|k _ _ h.ok).own.mono I,((((h.rd.far N d _).far N d _).far N d _).far N d _).far N d _⟩
def Ub(D:List Int):ζ D<=ζ (D.flatMap dS):=by
 induction D with
 |nil=>simp
 |cons x D B=>have:0<ζ (dS x):=D! _;simp only[bW,bg,bU];omega
def ab1{z:Nat}{f r x:y'}{a:List y'}{o:Obj}(Y:ρ W B e z f m a)(h:φ f=A'\/φ f≠φ r)(B:φ x=φ r\/φ x=z' (W.alloc o).1.size):φ f=A'\/φ f≠φ x:=by
 rcases B with e|e
 .rw[e];exact h
 right;rw[e];intro u;have:=(Y.lt _ u).2;simp at this;omega
def Us(p:Int)(t:p<=4)(na:t')(nl nc:Nat)(rb:Nat)(s:x')(n:Nd)(r:u')(w:p')(h:H! w rb s<|setB n++r)(k:gH 1 n=N')(hs:s.size<=60000):
  Cl 65 #[m'<|z'<|O rb 0,j' #[G p,G 1,g' na nl nc]] w λe t=>NdA w t rb s n r e:=by
 obtain⟨o,rs,b,rk,t⟩:=n;simp[gH,iL]at k;obtain⟨⟨⟨⟨rfl,rfl⟩,rfl⟩,f⟩,j,c⟩:=k;simp only[setB,fK]at h;have t:ζ o<=60000:=by obtain⟨a,_,_,e⟩:=h;have h1:=cZ length e;have V:=Ub<|eU 0 o;have N:ζ s.1.1=s.size:=rfl;rw[rM]at V;simp only[xA,bg]at h1;omega
 have v:=hid<|Aa f<|Aa j c;clear f j c;obtain⟨i1,hi,D,f,c⟩:=cI lJ;have n:=hid<|Aa hi<|Aa D<|Aa f c;clear hi D f c;go_enter func65,ntmps65;go_upto_region 2 with(fail)
 refine rU.start (F:=Code.wp _ _ _ _) p 1 na nl nc h λV N=>?_;clear h;have E:=A N.o.b0;go_wp2_with fail;clear E;generalize c:ζ o=k at t N;refine(gD rb k 60000 s _ V N.o.rd.1 t I hs).mono ?_;rintro e t ⟨rfl,Y⟩;have t:=hid<|N.o.call Y;have HK:=hid c;clear Y c;go_wp2_with fail;go_loopw[7,8] (λN B wr=>∃(i:Nat)(fa:t')(q:Nat)(D z:List Int)(c:Int),i<=k/\B=G i/\N=G c/\-1<=c/\c<=100000/\J (ζ D=i/\o=D++z/\dI (c+1) z=N')/\J (rU wr w p 1 na nl nc rb s ⟨fa,q,A',0,A',0,⟨D,[],O',0,[]⟩⟩ ((eU (c+1) z).flatMap dS++(rs.flatMap dS++r)))) (λ_ B _=>k-(intOf B).toNat)
 case atStart=>exact⟨0,A',0,[],o,-1,I,rfl,rfl,I,I,⟨rfl,rfl,v.a⟩,t.o⟩
 obtain⟨i,fa,q,D,z,c,t,rfl,rfl,XE,hl2,HX,HS⟩:=hrel;obtain⟨a,ha,-⟩:=HS.o.rd.1;have z1:=A ha;clear ha;have tY:=HK.o;obtain⟨e1,L,j⟩:=HX.o;rw[L,bg,e1]at tY;cases z with
 |cons y z=>
  simp[dI]at j;obtain⟨d,Y⟩:∃d:Nat,y=c+1+(d:Int):=⟨(y-c-1).toNat,I⟩;have t:i<k:=by simp at tY;omega
  have jy:(i:Int)<k:=I;subst Y;have T:=hid<|Aa e1<|Aa L j.2;have k:J (rU wr w p 1 na nl nc rb s ⟨fa,q,A',0,A',0,⟨D,[],O',0,[]⟩⟩<|fJ d++((eU (c+1+(d:Int)+1) z).flatMap dS++(rs.flatMap dS++r))):=by have:=HS.o;rwa[eU,bW,fK,show c+1+(d:Int)-(c+1)=(d:Int)by omega]at this
  have t:=j.1.2;clear e1 L j tY HX HS;go_wp2_with fail;clear z1;refine(gD rb d 100000 s _ wr k.o.rd.1 I I hs).mono ?_;rintro e W2 ⟨rfl,Y⟩;have f:=hid<|k.o.call Y;clear Y;have R:=A f.o.b2;simp only[kF]at R;have HO:J (ρ (W2.alloc<|i' #[G<|c+1+(d:Int)] 3) (δ w.1+3) 3 1 (g' fa (ζ D) q) (ζ D) (D.map G)/\δ w.1+3<=δ (W2.alloc<|i' #[G<|c+1+(d:Int)] 3).1/\ζ D+1<=maxLen/\(ζ D+1)*8<=140737488355328):=⟨f.o.ok.f.alloc _,by have:=f.o.lt3;simp;omega,by have:=T.a;simp only[maxLen];omega,I' T.a⟩;go_wp2_with (at_builtin;refine qN _ rfl _ _ 36 rfl (δ w.1+3) 3 i1 (G 0) 1 8 underlying36 n.a n.b n.c n.C rfl aj (g' fa (ζ D) q) (ζ D) (D.map G) rfl HO.a (O W2.1.size 0) 1 1 [G<|c+1+(d:Int)] rfl rfl (zH W2 _ _) (by intro u C;simp at C;subst C;rfl) HO.c HO.C HO.b ?_;intro U W9 o9 g9 _ w9;obtain⟨a9,c9,rfl⟩:=aV o9;have H3:=hid<|f.o.app f.o.ok.f g9 (i:=0) (u:=g' a9 (ζ D+1) c9) ⟨a9,c9,A',0,A',0,⟨D++[c+1+(d:Int)],[],O',0,[]⟩⟩ (by simp[kF]) ⟨by simpa[N5.fv]using o9,dj,dj,by show _\/_≠A';exact Classical.em _⟩;clear R o9 g9 w9;have R:=A H3.a;simp only[kF]at R);exact⟨⟨i+1,a9,c9,D++[c+1+(d:Int)],z,c+1+(d:Int),I,e',rfl,I,I,⟨by rw[bg,T.a];rfl,by rw[T.b];simp,T.B⟩,H3.A⟩,by simp[intOf];omega⟩
 |nil=>
  simp at L tY;subst L tY;have jy:¬(i:Int)<i:=I;clear e1 j HX;go_wp2_with fail;clear z1;go_loopw[10] (λB c=>∃(j:Nat)(ra:t')(rc:Nat)(D z:List Int),j<=i/\B=G j/\J (ζ D=j/\rs=D++z)/\J (rU c w p 1 na nl nc rb s ⟨fa,q,ra,rc,A',0,⟨o,D,O',0,[]⟩⟩<|z.flatMap dS++r)) (λB _=>i-(intOf B).toNat)
  case atStart=>exact⟨0,A',0,[],rs,I,rfl,⟨rfl,rfl⟩,HS.o⟩
  obtain⟨j,ra,rc,D,z,c,rfl,HX,X⟩:=hrel;obtain⟨a,ha,-⟩:=X.o.rd.1;have z1:=A ha;have E:=A X.o.b0;have tY:=HK.o;obtain⟨e1,L⟩:=HX.o;clear ha;rw[<-v.b,L,bg,e1]at tY;cases z with
  |cons y z=>
   have B:=v.B y (by rw[L];simp);simp[rk]at B;obtain⟨d,rfl⟩:∃d:Nat,y=(d:Int):=⟨y.toNat,I⟩;have jy:(j:Int)<i:=by simp at tY;omega
   have T:=hid<|Aa e1 L;have c:J (rU wr w p 1 na nl nc rb s ⟨fa,q,ra,rc,A',0,⟨o,D,O',0,[]⟩⟩<|fJ d++(z.flatMap dS++r)):=by have:=X.o;rwa[bW,fK]at this
   clear e1 L tY HX X;go_wp2_with fail;clear z1 E;refine(gD rb d 100000 s _ wr c.o.rd.1 I I hs).mono ?_;rintro e W2 ⟨rfl,Y⟩;have f:=hid<|c.o.call Y;clear Y;have R:=A f.o.b2;simp only[kF]at R;have HO:J (ρ (W2.alloc<|i' #[G d] 3) (δ w.1+3) 3 1 (g' ra (ζ D) rc) (ζ D) (D.map G)/\δ w.1+3<=δ (W2.alloc<|i' #[G d] 3).1/\ζ D+1<=maxLen/\(ζ D+1)*8<=140737488355328):=⟨f.o.ok.r.alloc _,by have:=f.o.lt3;simp;omega,by have:=T.a;simp only[maxLen];omega,I' T.a⟩;go_wp2_with (at_builtin;refine qN _ rfl _ _ 36 rfl (δ w.1+3) 3 i1 (G 0) 1 8 underlying36 n.a n.b n.c n.C rfl aj (g' ra (ζ D) rc) (ζ D) (D.map G) rfl HO.a (O W2.1.size 0) 1 1 [G d] rfl rfl (zH W2 _ _) (by intro u C;simp at C;subst C;rfl) HO.c HO.C HO.b ?_;intro U W9 o9 g9 _ w9;obtain⟨a9,c9,rfl⟩:=aV o9;have H3:=hid<|f.o.app f.o.ok.r g9 (i:=1) (u:=g' a9 (ζ D+1) c9) ⟨fa,q,a9,c9,A',0,⟨o,D++[(d:Int)],O',0,[]⟩⟩ (by simp[kF]) ⟨(f.o.ok.f.alloc _).kept g9 f.o.ok.ap,by simpa[N5.rv]using o9,dj,by show _\/_≠φ (g' a9 (ζ<|D++[(d:Int)]) c9);rw[bg];exact ab1 f.o.ok.f f.o.ok.ap w9⟩;clear R o9 g9 w9;have R:=A H3.a;simp only[kF]at R);exact⟨⟨j+1,a9,c9,D++[(d:Int)],z,I,e',⟨by rw[bg,T.a];rfl,by rw[T.A];simp⟩,H3.A⟩,by simp[intOf];omega⟩
  |nil=>simp at L tY;subst L tY;have r1:=A X.o.b1;have R:=A X.o.b2;simp only[kF,nE]at r1 R;clear e1 HX;go_wp2_with fail;refine aE (v:=WW ⟨fa,q,ra,rc,A',0,⟨o,rs,O',0,[]⟩⟩) (by simp[results65,go_sem,r1.1,WW]) rfl ?_;exact X.o.fin rfl
end
section
variable {g:Int}
def B5{n:Nd}(U:¬p<=4)(h:cY p g n=N')(r:u'):∃(y:Nat)(l:u'),d! p g n++r=fJ y++l/\y<=1/\((y=0/\n=⟨[],[],O',0,[]⟩/\l=r)\/(y=1/\∃(k:Nat)(E:List Vl),n=⟨[],[],N',(k:Int),E⟩/\k<=100000/\ζ E<=8/\(g=1\/k=0)/\(∀v∈E,gG p g (k:Int) v=N')/\l=(if g=1 then fJ k else[])++(fJ (ζ E)++(E.flatMap (fD p g)++r)))):=by
 obtain⟨o,y,b,a,E⟩:=n;cases b with
 |false=>simp[cY,U,l!]at h;obtain⟨⟨⟨rfl,rfl⟩,rfl⟩,rfl⟩:=h;exact⟨0,r,by rw[en I];simp[d!,U],I,aP ⟨rfl,rfl,rfl⟩⟩
 |true=>simp[cY,U,jR,rk]at h;obtain⟨⟨⟨⟨⟨rfl,rfl⟩,C⟩,c⟩,N⟩,d⟩:=h;obtain⟨k,rfl⟩:∃k:Nat,a=k:=⟨a.toNat,I⟩;exact⟨1,_,by rw[en<|show 1<128 by omega];simp[d!,U,rL,dS],I,aR ⟨rfl,k,E,rfl,I,C,I,d,rfl⟩⟩
def ab0(W:p')(v:Vl):∀(j:Nat)(u:y'),(jq v)[j]?=z' u->χ (W.alloc<|i' (nJ v.aH v.lo v.hi v.bY v.first v.rank) 73) (((O W.1.size 0):Addr).add j)=z' u:=by intro j u f;rw[dY,bH,Lq];simpa[jq]using f
def rU.alloc{F:p'->Prop}{W w:p'}{T:t'}{D r a:Nat}{s:x'}{x:N5}{l:u'}{o:Obj}(h:rU W w p g T D r a s x l)(k:∀V,J (rU V w p g T D r a s x l/\V.1[δ W.1]?=z' o)->F V):F (W.alloc o):=by have X:∀{k:Nat}{c:Obj},W.1[k]?=z' c->(W.alloc o).1[k]?=z' c:=λa=>(bR<|blt a).trans a;exact k _ ⟨⟨X h.b0,X h.b1,X h.b2,h.rd.alloc o,h.lt,h.ok.f.alloc o,h.ok.r.alloc o,h.ok.v.alloc o,h.ok.ap⟩,cv⟩
def Uz(p g:Int)(U:¬p<=4)(hg:p=6\/g=1)(T:t')(N R:Nat)(C:Nat)(s:x')(n:Nd)(r:u')(w:p')(h:H! w C s<|d! p g n++r)(c:cY p g n=N')(hi:lA n)(hs:s.size<=60000):
  Cl 65 (EK C p g T N R) w λe l=>NdA w l C s n r e:=by
 obtain⟨y,l,e,t,k⟩:=B5 U c r;rw[e]at h;have Y:=hid<|Aa k hi.aM;clear e k c hi;obtain⟨i1,hi,D,f,c⟩:=cI Tp;have HI:=hid<|Aa hi<|Aa D<|Aa f c;clear hi D f c;go_enter func65,ntmps65;go_upto_region 2 with(fail)
 refine rU.start (F:=Code.wp _ _ _ _) p g T N R h λn l=>?_;clear h;have F:=A l.o.b0;go_wp2_with fail;clear F;refine(gD C y 1 s _ n l.o.rd.1 t I hs).mono ?_;rintro e t ⟨rfl,j⟩;have c:=hid<|l.o.call j;clear j;have F:=A c.o.b0;have L:=A c.o.b2;have r1:=A c.o.b1;simp only[kF,nE]at L r1;obtain⟨k,f⟩:=Y.o;rcases k with⟨rfl,rfl,rfl⟩|⟨rfl,k,E,rfl,hk,Py,q,o,rfl⟩
 .clear Y f;go_wp2_with fail;refine aE (v:=WW<|nE O' 0) (by simp[results65,go_sem,r1.1,WW,nE]) rfl ?_;exact c.o.fin rfl
 have B:=hid<|Aa o<|Aa f q;clear Y o f q;go_upto_region 20 with fail
 go_upto_region 21 with fail
 refine c.o.set (F:=Code.wp _ _ _ _) N' 0 rfl λq u=>?_;clear F L r1;have F:=A u.o.b0
 go_upto_if 79 with fail
 go_cut [] from 75 λc=>J<|rU c w p g T N R C s (nE N' (k:Int))<|fJ (ζ E)++(E.flatMap (fD p g)++r)
 case first=>
  by_cases f:g=1
  .rw[aD f]at u;have c:(g==1)=N':=by rw[dP];exact f
   clear f;go_wp2_with fail;refine(gD C k 100000 s _ q u.o.rd.1 hk I hs).mono ?_;rintro e l ⟨rfl,j⟩;have H3:=hid<|u.o.call j;clear j F;have L:=A H3.o.b2;go_wp2_with fail
   go_meet
   exact H3.o.set (F:=λV=>J<|rU V w p g T N R C s _ _) N' (k:Int) rfl (λ_ h=>h)
  rw[aA f]at u;have c:(g==1)=O':=by rw[dB];exact f
  have:=B.B;obtain rfl:k=0:=I;clear f;go_wp2_with fail
  go_meet
  exact u.o
 rename p'=>c
 have H3:=hcut;clear hcut F u;go_wp2_with fail;refine(gD C (ζ E) 8 s _ c H3.o.rd.1 Py I hs).mono ?_;rintro e n ⟨rfl,j⟩;have f:=hid<|H3.o.call j;clear j;go_wp2_with fail;go_loopw[14] (λy wr=>∃(i:Nat)(o:t')(x:Nat)(D z:List Vl),i<=ζ E/\y=G i/\J (ζ D=i/\E=D++z)/\J (rU wr w p g T N R C s ⟨A',0,A',0,o,x,⟨[],[],N',(k:Int),D⟩⟩<|z.flatMap (fD p g)++r)) (λy _=>ζ E-(intOf y).toNat)
 case atStart=>exact⟨0,A',0,[],E,I,rfl,⟨rfl,rfl⟩,f.o⟩
 obtain⟨i,o,x,D,z,n,rfl,HY,X⟩:=hrel;obtain⟨a,c,-⟩:=X.o.rd.1;have W:=A c;have F:=A X.o.b0;obtain⟨e1,e2⟩:=HY.o;have tY:=cZ length e2;clear c;rw[bg,e1]at tY;cases z with
 |cons v z=>
  have c:v∈E:=by rw[e2];simp
  have f:=hid<|Aa (B.a v c)<|B.b v c;have Y:(i:Int)<(ζ E:Int):=by simp at tY;omega
  rw[bW,fK]at X;clear e1 e2 tY c;go_wp2_with fail;clear W F;refine(Up p g (k:Int) T N R C s v _ wr X.o.rd.1 f.a I f.A hg hs).mono ?_;rintro e U ⟨rfl,j⟩;have c:=hid<|X.o.call j;clear j;simp only[Vs];go_upto_region 28 with(fail)
  refine c.o.alloc (F:=Code.wp _ _ _ _) λc j=>?_;have W:J (ρ (c.alloc<|i' (nJ v.aH v.lo v.hi v.bY v.first v.rank) 73) (δ w.1+3) 73 6 (g' o (ζ D) x) (ζ D) (kd D)/\δ w.1+3<=δ (c.alloc<|i' (nJ v.aH v.lo v.hi v.bY v.first v.rank) 73).1/\ζ D+1<=maxLen/\(ζ D+1)*48<=140737488355328):=⟨j.a.ok.v.alloc _,by have:=j.a.lt3;simp;omega,by have:=HY.a;simp only[maxLen];omega,I' HY.a⟩;have q2:=A j.A;have L:=A j.a.b2;simp only[kF]at L;go_wp2_with (at_builtin;refine qN _ rfl _ _ 71 rfl (δ w.1+3) 73 i1 (j' nL) 6 48 underlying71 HI.a HI.b HI.c HI.C rfl aj (g' o (ζ D) x) (ζ D) (kd D) rfl W.a (O c.1.size 0) 1 1 (jq v) rfl rfl (ab0 c v) (by intro u C;simp[jq]at C;rcases C with rfl|rfl|rfl|rfl|rfl|rfl<;>rfl) W.c W.C W.b ?_;intro U l o9 F _ w9;obtain⟨a9,c9,rfl⟩:=aV o9;have c:=hid<|j.a.app j.a.ok.v F (i:=4) (u:=g' a9 (ζ D+1) c9) ⟨A',0,A',0,a9,c9,⟨[],[],N',(k:Int),D++[v]⟩⟩ (by simp[kF]) ⟨dj,dj,by simpa[N5.vv,kd]using o9,aP rfl⟩;clear L q2 o9 F w9;have L:=A c.a;simp only[kF]at L);exact⟨⟨i+1,a9,c9,D++[v],z,I,e',⟨by rw[bg,HY.a];rfl,by rw[HY.A];simp⟩,c.A⟩,by simp[intOf];omega⟩
 |nil=>simp at e2;subst e2;have Y:¬(i:Int)<(ζ E:Int):=I;have r1:=A X.o.b1;have L:=A X.o.b2;simp only[kF,nE]at r1 L;clear e1 tY;go_wp2_with fail;refine aE (v:=WW ⟨A',0,A',0,o,x,⟨[],[],N',(k:Int),E⟩⟩) (by simp[results65,go_sem,r1.1,WW]) rfl ?_;exact X.o.fin rfl
end
def kK(x:Int)(F:0<=x/\x<=100000)(w:p'):Cl 178 #[G x] w λe a=>e=n' (h' N')/\a=w:=by obtain⟨C,a⟩:=F;go_enter func178,ntmps178;go_wp2;go_ret;exact⟨rfl,rfl⟩
def Fy:∀(o:List Int)(f:Int),dI f o=N'->∀(k:Nat)(x:Int),o[k]?=z' x->f<=x/\x<=100000/\∀j y,k=j+1->o[j]?=z' y->y<x
 |[],_,_,_,_,hx=>by simp at hx
 |a::o,f,h,k,x,hx=>by
  simp[dI]at h;cases k with
  |zero=>simp at hx;subst hx;exact⟨h.1.1,h.1.2,λj y f _=>I⟩
  |succ k=>
   obtain⟨C,c,N⟩:=Fy o (a+1) h.2 k x hx;refine⟨I,c,λj y f B=>?_⟩;obtain rfl:k=j:=I;cases k with
   |zero=>simp at B;omega
   |succ i=>exact N i y rfl B
def CS(j l z:t')(q rc r:Nat)(n:Nd)(w:p')(h:tP w j l z q rc r n)(K:gH 1 n=N'):
  Cl 110 #[j' #[g' j (ζ n.facts) q,g' l (ζ n.bf) rc,h' n.aF,G n.rank,g' z (ζ n.aM) r],G 1] w (Rb w<|h' N'):=by
 obtain⟨o,v,b,rk,j⟩:=n;simp[gH,iL]at K;obtain⟨⟨⟨⟨rfl,rfl⟩,rfl⟩,g⟩,c,a⟩:=K;have s:=hid<|Aa h.facts<|Aa h.bf<|Aa (Fy o 0 g) a;have j:=pL g;simp only at c|-;rw[c];have j:((ζ o:Int) !=(ζ o:Int))=O':=ak;have HL:=hid c;clear h g a c;go_enter func110,ntmps110;go_wp2_with fail;refine TX (F:=Code.wp _ _ _ _) λt U=>?_;go_loopw[6] (λi wr=>∃k:Nat,k<=ζ o/\i=G k/\J (Bl t wr)) (λi _=>ζ o-(intOf i).toNat)
 case atStart=>exact⟨0,bm,rfl,aQ⟩
 obtain⟨k,u,rfl,g⟩:=hrel;have E:=A<|aG g.o U.a;have h:=hid<|aq U.A g.o;by_cases L:k<ζ o;rotate_left
 .obtain rfl:k=ζ o:=I;have c:¬(ζ o:Int)<(ζ o:Int):=I;go_wp2_with fail;clear E;go_loopw[8] (λi q=>∃(k:Nat),k<=ζ o/\i=G k/\J (Bl t q)) (λi _=>ζ o-(intOf i).toNat)
  case atStart=>exact⟨0,bm,rfl,g⟩
  rename_i q _ _;obtain⟨k,u,rfl,g⟩:=hrel;have E:=A<|aG g.o U.a;have h:=hid<|aq U.A g.o;by_cases L:k<ζ o
  .have c:(k:Int)<(ζ o:Int):=I;obtain⟨x,F⟩:=La (l:=v) (i:=k) (by rw[HL.o];exact L);have C:=s.C x<|aO F;obtain⟨f,p,rfl,Q⟩:=(s.b.below h.o) k x F;simp[Go.Proofs.YtmipbiligijcpaaGreatDoor.rk]at C;clear F;go_wp2_with (go_at_call 178;refine(kK _ C _).mono ?_;rintro e W ⟨rfl,rfl⟩);exact⟨⟨k+1,I,e',g⟩,by simp[intOf];omega⟩
  have c:¬(k:Int)<(ζ o:Int):=I;go_wp2_with fail;go_ret;exact⟨rfl,h.o⟩
 have c:(k:Int)<(ζ o:Int):=I;obtain⟨x,F⟩:=La L;obtain⟨C,n,N⟩:=s.c k x F;obtain⟨f,p,S,Q⟩:=(s.a.below h.o) k x F;cases k with
 |zero=>
  subst S;have T:χ wr (O f p)=z' (G x):=Q;clear F N;go_wp2_with (go_at_call 178;refine(kK _ ⟨C,n⟩ _).mono ?_;rintro e W ⟨rfl,rfl⟩);go_quiet (fail);go_wp2_with fail;go_roundw
  case rel=>exact⟨1,I,e',below_drewN g.o _⟩
  exact F'
 |succ k=>
  obtain⟨y,B⟩:=La (l:=o) (i:=k) I;have d:=N k y rfl B;obtain⟨o,f,a,p⟩:=(s.a.below h.o) k y B;rw[S]at a;cases a;subst S;have a:decide (0<((k+1:Nat):Int))=N':=by rw[bM];omega
  have a:((k+1:Nat):Int)-1=(k:Int):=I;have l:¬x<=y:=I;clear F B N d;go_wp2_with (go_at_call 178;refine(kK _ ⟨C,n⟩ _).mono ?_;rintro e W ⟨rfl,rfl⟩);go_quiet (fail);go_wp2_with fail;go_roundw
  case rel=>exact⟨k+1+1,I,e',below_drewN g.o _⟩
  exact F'
def R9(p g:Int)(U:p=6/\g=2\/p=5/\g=1)(a l z:t')(q rc x:Nat)(n:Nd)(w:p')(h:tP w a l z q rc x n)(K:lA n)(c:cY p g n=N'):
  Cl 111 #[j' #[g' a (ζ n.facts) q,g' l (ζ n.bf) rc,h' n.aF,G n.rank,g' z (ζ n.aM) x],G p,G g] w (Rb w<|h' N'):=by
 obtain⟨_,_,-,-,T⟩:=B5 I c [];rcases T with⟨-,rfl,-⟩|⟨-,k,E,rfl,D,B,d,o,-⟩
 .clear h K c U;simp only[eY];go_enter func111,ntmps111;go_wp2_with (go_at_call 178;refine(kK _ I _).mono ?_;rintro e W ⟨rfl,rfl⟩);go_loopw[8] (λi wr=>i=G 0/\wr=w.alloc (i' #[g' a 0 q,g' l 0 rc,h' O',G 0,g' z 0 x] 96)) (λ_ _=>0)
  case atStart=>exact⟨rfl,rfl⟩
  obtain⟨rfl,rfl⟩:=hrel;go_wp2_with fail;go_ret;exact⟨rfl,bA⟩
 have f:(p=6/\g=2/\k=0)\/(p=5/\g=1/\((k:Int) !=0)=O')\/(p=5/\g=1/\((k:Int) !=0)=N'):=by cases ((k:Int) !=0)<;>simp<;>omega
 have a:(ζ E:Int)<=8:=I;simp only[eY];rcases f with⟨rfl,rfl,rfl⟩|⟨rfl,rfl,t⟩|⟨rfl,rfl,t⟩
 all_goals
  have s:=hid (Aa h.aM λv R=>A4 (o v R) I (K.aM v R) I);clear h K c U o d;go_enter func111,ntmps111;go_wp2_with (go_at_call 178;refine(kK _ I _).mono ?_;rintro e W ⟨rfl,rfl⟩);refine TX (F:=Code.wp _ _ _ _) λt d=>?_;go_loopw[8] (λi wr=>∃(k:Nat),k<=ζ E/\i=G k/\J (Bl t wr)) (λi _=>ζ E-(intOf i).toNat)
  case atStart=>exact⟨0,bm,rfl,aQ⟩
  obtain⟨k,D,rfl,c⟩:=hrel;have a:=A<|aG c.o d.a;have u:=hid<|aq d.A c.o;have V:=eh (blt d.a) c.o.size;by_cases L:k<ζ E;rotate_left
  .have a:¬(k:Int)<(ζ E:Int):=I;go_wp2_with fail;go_ret;exact⟨rfl,u.o⟩
  have a:(k:Int)<(ζ E:Int):=I;obtain⟨v,o⟩:=La L;obtain⟨a,a,rfl,T,Q,F,K,P,N⟩:=(s.a.below u.o) k v o;have R:=s.A v<|aO o;clear o s;rcases R with⟨U,j,n,rfl,-,C,h⟩|⟨U,-,⟨j,rfl,-,-⟩|⟨rfl,-⟩|⟨f,r,rfl,-,h,-⟩⟩
  all_goals first
   |exact absurd rfl U
   |exact absurd U aj
   |(
    simp only at T Q F K P N
    try(have N:j<=GY j n:=by rw[aar C h];omega)
    clear U;go_wp2_with (go_at_call 178;refine(kK _ I _).mono ?_;rintro e W ⟨rfl,rfl⟩)
    exact⟨⟨k+1,I,e',aq c.o bA⟩,by simp[intOf];omega⟩)
def KF(T:t')(r:Nat)(p g:Int)(v:List Nd)(w:p')(h:cw w T v)(f:rV ⟨p,g,v⟩)(a:qi ⟨p,g,v⟩=N')(d:p=6/\g=2\/p<=5/\g=1):
  Cl 66 #[j' #[G p,G g,g' T (ζ v) r]] w (Rb w<|h' N'):=by
 simp[qi,known]at a;have K:¬(60<(ζ v:Int)):=I;have s:=hid (Aa h λn K=>Aa (f.nodes n K)<|a.2 n K);have c:p=6/\g=2\/p=5/\g=1\/1<=p/\p<=4/\g=1:=I;clear h f a d;rcases c with⟨rfl,rfl⟩|⟨rfl,rfl⟩|⟨Y,D,rfl⟩
 all_goals
  try
   have R:(p==6)=O':=by rw[dB];omega
   have c:decide (p<1)=O':=by rw[e9];omega
   have P:decide (6<p)=O':=by rw[e9];omega
  go_enter func66,ntmps66;go_wp2_with fail;refine TX (F:=Code.wp _ _ _ _) λt U=>?_;go_loopw[3] (λi wr=>∃k:Nat,k<=ζ v/\i=G k/\J (Bl t wr)) (λi _=>ζ v-(intOf i).toNat)
  case atStart=>exact⟨0,bm,rfl,aQ⟩
  obtain⟨k,c,rfl,f⟩:=hrel;have c:=A<|aG f.o U.a;have d:=hid<|aq U.A f.o;have u:=eh (blt U.a) f.o.size;by_cases L:k<ζ v;rotate_left
  .have c:¬(k:Int)<(ζ v:Int):=I;go_wp2_with fail;go_ret;exact⟨rfl,d.o⟩
  have c:(k:Int)<(ζ v:Int):=I;obtain⟨n,C⟩:=La L;obtain⟨c,c,a,l,z,q,rc,x,rfl,y,Q,h,j,o,W⟩:=(s.a.below d.o) k n C;have B:=hid<|Aa (s.A n<|aO C) W;clear C W
  first
  |have _:=D
   have p:J (gH 1 n=N'):=by have:=B.a.2;rwa[cY,aD D]at this
   go_wp2_with (go_at_call 110;refine(CS a l z q rc x n _ (B.A.below bA) p.o).mono ?_;rintro e F ⟨rfl,X⟩)
  |go_wp2_with (go_at_call 111;refine(R9 _ _ aj a l z q rc x n _ (B.A.below bA) B.a.1 B.a.2).mono ?_;rintro e F ⟨rfl,X⟩)
  exact acJ
section
structure Qh(W w:p')(s:x')(p g:Int)(l:u')(na:t')(nc:Nat)(cl:List N5):Prop where
  res:W.1[δ w.1]?=z' (i' #[G 0,G 0,g' A' 0 0] 51 (0,0))
  box:W.1[δ w.1+1]?=z' (i' #[G p,G g,g' na (ζ cl) nc] 51 (0,0))
  rd:H! W (δ w.1+2) s l
  bel:Bl w W
  row:ρ W (δ w.1+3) 96 5 (g' na (ζ cl) nc) (ζ cl) (rD cl)
  own:∀x∈cl,j5 W (δ w.1+3) x
def j5.off{W W':p'}{B q:Nat}{x:N5}(h:j5 W B x)(c:ξ W W'<|z' q)(a:q<B):j5 W' B x:=
 ⟨h.f.kept c<|dE h.f a,h.r.kept c<|dE h.r a,h.v.kept c<|dE h.v a,h.fn,h.rn,h.vn⟩
section
variable {F:p'->Prop}{W W' w:p'}{s:x'}{p g:Int}{l l':u'}{na a9:t'}{nc c9:Nat}{cl:List N5}{x:N5}{o:Obj}
def Qh.lt(h:Qh W w s p g l na nc cl):δ w.1+3<=δ W.1:=h.rd.lt
def Qh.call(h:Qh W w s p g l na nc cl)(Q:AJ W W' (δ w.1+2) s l'):Qh W' w s p g l' na nc cl:=
 ⟨j4 h.res Q.2 I,j4 h.box Q.2 I,Q.1,h.bel.grown Q.2 h.bel.size (λk a=>by cases a;omega),h.row.kept Q.2<|dE h.row I,λx a=>(h.own x a).off Q.2 I⟩
def Qh.alloc(h:Qh W w s p g l na nc cl)(d:j5 W (δ w.1+3) x)(k:∀V,J (Qh V w s p g l na nc cl/\j5 V (δ w.1+3) x/\V.1[δ W.1]?=z' o)->F V):F (W.alloc o):=by have X:∀{k:Nat}{c:Obj},W.1[k]?=z' c->(W.alloc o).1[k]?=z' c:=λa=>(bR<|blt a).trans a;obtain⟨a,C,c⟩:=h.rd;exact k _ ⟨⟨X h.res,X h.box,⟨a,X C,c⟩,h.bel.alloc h.bel.size o,h.row.alloc o,λx d=>(h.own x d).below bA⟩,d.below bA,cv⟩
def Qh.app(h:Qh W w s p g l na nc cl)(n:j5 W (δ w.1+3) x)(j:ρ W' (δ w.1+3) 96 5 (g' a9 (ζ cl+1) c9) (ζ cl+1)<|rD cl++k? x)(i:ξ (W.alloc o) W'<|φ<|g' na (ζ cl) nc):
  W'.1[δ w.1+1]?=z' (i' #[G p,G g,g' na (ζ cl) nc] 51 (0,0))/\Qh (κ W' (O (δ w.1+1) 2)<|g' a9 (ζ cl+1) c9) w s p g l a9 c9 (cl++[x]):=by
 have f:=h.lt;have u:∀k,φ (g' na (ζ cl) nc)=z' k->δ w.1+3<=k:=λk d=>(h.row.lt k d).1;have X:∀k,k<δ w.1+3->W'.1[k]?=W.1[k]?:=by intro k d;refine(i.block k G' ?_).trans<|bR I;intro e;have:=u k e.symm;omega
 have c:=eK<|h.row.alloc o;have q:=cQ W' (δ w.1+1) 2<|g' a9 (ζ cl+1) c9;obtain⟨a,C,e⟩:=h.rd;refine⟨(X _ I).trans h.box,(aJ G').trans ((X _ I).trans h.res),?_,H!.far ⟨a,(X _ I).trans C,e⟩ I _,((h.bel.alloc h.bel.size o).grown i G' λk d=>I'<|u k d).setCell (p:=(O (δ w.1+1) 2)) G' _,?_,?_⟩
 .rw[H ((X _ I).trans h.box)];simp
 .have:=j.kept q<|dE j I;rw[bg,e4];simpa[rD]using this
 intro y B;have:j5 W (δ w.1+3) y:=by
  rcases iF.1 B with B|B
  .exact h.own y B
  simp at B;subst B;exact n
 exact((this.below<|cf W o).kept i c).off q I
end
def PY(p g:Int)(d:p=6\/g=1)(na:t')(D nc:Nat)(a:Nat)(s:x')(n:Nd)(r:u')(w:p')(h:H! w a s<|d! p g n++r)(K:cY p g n=N'/\lA n)(y:s.size<=60000):
  Cl 65 #[m'<|z'<|O a 0,j' #[G p,G g,g' na D nc]] w λe c=>NdA w c a s n r e:=by
 by_cases U:p<=4
 .obtain rfl:g=1:=I;have C:=K.1;rw[cY,aD U]at C;rw[d!,aD U]at h;exact Us p U na D nc a s n r w h C y
 exact Uz p g U d na D nc a s n r w h K.1 K.2 y
def vU(c:Ct)(w:p')(f:qi c=N')(B:rV c)(hl:ζ (kH c)<=60000)(L:c.aL=6/\c.grade=2\/c.aL<=5/\c.grade=1):
  Cl 37 #[k' ⟨θ<|kH c⟩] w λe W'=>(∃U R,e=n' (o' #[j' #[G c.aL,G c.grade,g' U (ζ c.nodes) R],G 0])/\cw W' U c.nodes)/\Bl w W':=by
 obtain⟨i1,S,D,P,a⟩:=cI Ts;have n:=hid<|Aa S<|Aa D<|Aa P a;clear S D P a;obtain⟨p,g,v⟩:=c;obtain⟨s,y⟩:=Ea (⟨θ<|kH ⟨p,g,v⟩⟩:x');have HO:=hid<|Aa f B;simp[qi,known]at f;simp only at L;have c:s.1.1=[87,67,1,UInt8.ofNat p.toNat,UInt8.ofNat g.toNat]++(fJ (ζ v)++v.flatMap (d! p g)):=by rw[y];simp[kH,o4]
 have Q:s.size=ζ (kH ⟨p,g,v⟩):=by rw[y];simp[ByteArray.size]
 have d:=uX (s:=s) (fr:=0) c bm;have t:=d.1;obtain⟨R,E⟩:=byte_at (s:=s) (fr:=0) c 3 I ak;obtain⟨R,D⟩:=byte_at (s:=s) (fr:=0) c 4 I ak;have a:(s[3].toNat:Int)=p:=by rw[E];simp;omega
 have h:(s[4].toNat:Int)=g:=by rw[D];simp;omega
 have i:((s.extract 0 3).toList==[87,67,1])=N':=by rw[Lib.extract_toList,c];simp
 have r:J (s.1.1.drop 5=fJ (ζ v)++v.flatMap (d! p g)/\∀x∈v,cY p g x=N'/\lA x):=⟨d.2,λx q=>⟨f.2 x q,B.nodes x q⟩⟩;have R:¬(60000:Int)<(s.size:Int):=I;have R:¬(s.size:Int)<5:=I;have z:(3:Int)<=(s.size:Int):=I;have C:(3:Int)<(s.size:Int):=I;have u:(4:Int)<(s.size:Int):=I;have N:¬(s[3].toNat:Int)<1:=I;have k:¬(6:Int)<(s[3].toNat:Int):=I;have j:¬(s[4].toNat:Int)<1:=I;have P:¬(2:Int)<(s[4].toNat:Int):=I;have K:=f.1.2;have zR:=hid<|Aa a h;rw[<-y];clear f B y c Q d E D a h hl;go_enter func37,ntmps37;go_wp2_with fail
 all_goals try(exfalso;omega)
 rw[zR.a,zR.A];obtain⟨S,X⟩:=Ea ((((w.alloc<|i' #[G 0,G 0,g' A' 0 0] 51).alloc<|i' #[G p,G g,g' A' 0 0] 51).alloc<|i' #[k' s,G 5,h' O'] 124));rw[<-X];have y:J (Qh S w s p g (fJ (ζ v)++v.flatMap (d! p g)) A' 0 []):=by
  rw[X];refine⟨?_,?_,⟨5,?_,t,r.a⟩,eD,dj,λx q=>by cases q⟩
  .rw[bR G',bR ak,cF]
  .rw[bR ak];exact(bE w _ _).2
  have:=cF ((w.alloc<|i' #[G 0,G 0,g' A' 0 0] 51).alloc<|i' #[G p,G g,g' A' 0 0] 51)<|i' #[k' s,G 5,h' O'] 124;simpa[DRd]using this
 clear X N k j P i z C u;refine(gD (δ w.1+2) (ζ v) 60 s _ S y.o.rd K I I).mono ?_;rintro e t ⟨rfl,Q⟩;have c:=hid<|y.o.call Q;clear Q;go_wp2_with fail;go_loopw[7] (λy wr=>∃(i:Nat)(na:t')(nc:Nat)(cl:List N5)(z:List Nd),i<=ζ v/\y=G i/\J (ζ cl=i/\v=cl.map N5.n++z)/\J (Qh wr w s p g (z.flatMap<|d! p g) na nc cl)) (λy _=>ζ v-(intOf y).toNat)
 case atStart=>exact⟨0,A',0,[],v,I,rfl,⟨rfl,rfl⟩,c.o⟩
 obtain⟨i,na,nc,cl,z,c,rfl,P,d⟩:=hrel;obtain⟨a,h,has,c⟩:=d.o.rd;have z1:=A h;have E:=A d.o.box;have HD:=hid<|Aa h c;obtain⟨X,N⟩:=P.o;have tY:=cZ length N;clear h c;rw[bg,b9,X]at tY;cases z with
 |cons y z=>
  have c:=hid (r.A y<|by rw[N];simp);have D:(i:Int)<(ζ v:Int):=by simp at tY;omega
  rw[bW]at d;clear X N tY HD has;go_wp2_with fail;clear z1 E;refine(PY p g I na (ζ cl) nc (δ w.1+2) s y _ wr d.o.rd c.o I).mono ?_;rintro e c ⟨x,c,rfl,f,Q⟩;have Y:=hid<|Aa (d.o.call Q)<|Aa (f.mono d.o.lt) c;clear Q f c;simp only[WW];go_upto_region 14 with(fail)
  refine Y.a.alloc (F:=Code.wp _ _ _ _) Y.b λc B=>?_;have h:J (ρ (c.alloc<|i' (vp x.fa (ζ x.n.facts) x.fc x.ra (ζ x.n.bf) x.rc x.n.aF x.n.rank x.va (ζ x.n.aM) x.vc) 96) (δ w.1+3) 96 5 (g' na (ζ cl) nc) (ζ cl) (rD cl)/\δ w.1+3<=δ (c.alloc<|i' (vp x.fa (ζ x.n.facts) x.fc x.ra (ζ x.n.bf) x.rc x.n.aF x.n.rank x.va (ζ x.n.aM) x.vc) 96).1/\(ζ cl+1<=maxLen/\(ζ cl+1)*88<=140737488355328)/\∀(j:Nat)(u:y'),(k? x)[j]?=z' u->χ (c.alloc<|i' (vp x.fa (ζ x.n.facts) x.fc x.ra (ζ x.n.bf) x.rc x.n.aF x.n.rank x.va (ζ x.n.aM) x.vc) 96) (((O c.1.size 0):Addr).add j)=z' u):=by refine⟨B.a.row.alloc _,by have:=B.a.lt;simp;omega,by have:=P.a;simp only[maxLen];omega,λj u f=>?_⟩;rw[dY,bH,Lq];simpa[k?]using f
  have q1:=A B.B;have T:=A B.a.box;go_wp2_with (at_builtin;refine qN _ rfl _ _ 46 rfl (δ w.1+3) 96 i1 (j' r?) 5 88 underlying46 n.a n.b n.c n.C rfl aj (g' na (ζ cl) nc) (ζ cl) (rD cl) rfl h.a (O c.1.size 0) 1 1 (k? x) rfl rfl h.C (by intro u C;simp[k?]at C;rcases C with rfl|rfl|rfl|rfl|rfl<;>rfl) h.c.1 h.c.2 h.b ?_;intro U c k C _ Q;obtain⟨a9,c9,rfl⟩:=aV k;have c:=hid<|B.a.app B.b k C;clear T q1 k C Q;have T:=A c.a);exact⟨⟨i+1,a9,c9,cl++[x],z,I,e',⟨by rw[bg,P.a];rfl,by rw[P.A,<-Y.B];simp⟩,c.A⟩,by simp[intOf];omega⟩
 |nil=>
  have D:¬(i:Int)<(ζ v:Int):=by simp at tY;omega
  obtain rfl:a=s.size:=by have:=cZ length HD.A;have hl:ζ s.1.1=s.size:=rfl;simp at this;omega
  have C:ζ cl=ζ v:=by simp at tY;omega
  have a:cw wr na v:=by have:=uH d.o.row d.o.own;rw[N,iE];exact this
  have u:=KF na nc p g v wr a HO.A HO.a L;rw[<-C]at u;have Y:=hid u;have K:=hid C;clear X N tY a u C;go_wp2_with fail;refine bP Y.o ?_;clear z1 E;rintro e C ⟨rfl,z⟩;have a:Fr (λ_=>True) wr C:=Fr.bJ z;have z1:=A<|a.box HD.a trivial;have E:=A<|a.box d.o.box trivial;have T:=A<|a.box d.o.res trivial;have f:J (Bl wr C/\Bl w C):=⟨z,aq d.o.bel z⟩;have c:((s.size:Int) !=(s.size:Int))=O':=ak;clear a z;go_wp2_with fail;refine aE (v:=o' #[j' #[G p,G g,g' na (ζ cl) nc],G 0]) (by simp[results37,go_sem,T]) rfl ?_
  have U:∀{V:p'} (o:Nat) (v:y'),(ρ V (δ w.1+3) 96 5 (g' na (ζ cl) nc) (ζ cl) (rD cl)/\(∀x∈cl,j5 V (δ w.1+3) x)/\Bl w V)->(ρ (κ V (O w.1.size o) v) (δ w.1+3) 96 5 (g' na (ζ cl) nc) (ζ cl) (rD cl)/\(∀x∈cl,j5 (κ V (O w.1.size o) v) (δ w.1+3) x)/\Bl w (κ V (O w.1.size o) v)):=fun {V} o v h=>
   have L:=cQ V w.1.size o v
   ⟨h.1.kept L<|dE h.1 I,λx q=>(h.2.1 x q).off L I,h.2.2.setCell aK v⟩
  have a:=U 2 (g' na (ζ cl) nc)<|U 1 (G g)<|U 0 (G p) ⟨aZ d.o.row f.a,λx q=>(d.o.own x q).below f.a,f.A⟩;refine⟨⟨na,nc,by rw[K.o],?_⟩,a.2.2⟩;rw[P.A,iE];exact uH a.1 a.2.1
end
def Ac(U u:t')(W V:Nat)(v:List Nd)(w:p')(C:cw w U v)(a:cw w u v)(K:∀n∈v,lA n)(X:ζ v*88<=140737488355328):
  Cl 30 #[g' U (ζ v) W,g' u (ζ v) V] w (Rb w<|h' N'):=by
 have s:=hid<|Aa C<|Aa a K;clear C a K;have D:((ζ v:Int) !=(ζ v:Int))=O':=ak;go_enter func30,ntmps30;go_wp2_with fail;go_loopw[5] (λi wr=>∃k:Nat,k<=ζ v/\i=G k/\J (Bl w wr)) (λi _=>ζ v-(intOf i).toNat)
 case atStart=>exact⟨0,bm,rfl,aQ⟩
 obtain⟨k,a,rfl,w⟩:=hrel;by_cases L:k<ζ v;rotate_left
 .have a:¬(k:Int)<(ζ v:Int):=I;go_wp2_with fail;go_ret;exact⟨rfl,w.o⟩
 have a:(k:Int)<(ζ v:Int):=I;obtain⟨n,F⟩:=La L;obtain⟨i,a,q,y,h,N,r,l,rfl,T,Q,p,D,P,c⟩:=(s.a.below w.o) k n F;obtain⟨o,f,E,u,d,g,S,R,rfl,t,Y,v,C,K,b⟩:=(s.b.below w.o) k n F;have x:=hid<|Aa c<|Aa b<|s.B n<|aO F;have B:=hid<|Aa T<|Aa Q<|Aa p<|Aa D<|Aa P<|Aa t<|Aa Y<|Aa v<|Aa C K;clear F c b;go_wp2_with fail
 go_region_held3 (λj=>χ j (O i<|a+k*5)=z' (g' q (ζ n.facts) N)/\χ j (O i<|a+k*5+1)=z' (bk y (ζ n.bf) r)/\χ j (O i<|a+k*5+2)=z' (h' n.aF)/\χ j (O i<|a+k*5+3)=z' (G n.rank)/\χ j (O i<|a+k*5+4)=z' (bk h (ζ n.aM) l)/\χ j (O o<|f+k*5)=z' (bk E (ζ n.facts) g)/\χ j (O o<|f+k*5+1)=z' (bk u (ζ n.bf) S)/\χ j (O o<|f+k*5+2)=z' (h' n.aF)/\χ j (O o<|f+k*5+3)=z' (G n.rank)/\χ j (O o<|f+k*5+4)=z' (bk d (ζ n.aM) R)) (go_keep) ((go_at_call 57;refine(CQ q y h E u d N r l g S R n _ (x.a.below (AW wr.1.size wr).drew) (x.b.below (AW wr.1.size wr).drew) x.B).mono ?_;rintro e o ⟨rfl,x⟩;have j:=aq (AW wr.1.size wr).drew x;have T:=aB B.a j;have Q:=aB B.b j;have p:=aB B.c j;have D:=aB B.d j;have P:=aB B.e j;have t:=aB B.f j;have Y:=aB B.g j;have v:=aB B.h j;have C:=aB B.i j;have K:=aB B.I j;have z:=hid<|aq w.o j;clear x j))
 all_goals
  clear T Q p D P t Y v C K;go_wp2_with fail;go_roundw
  case rel=>exact⟨k+1,I,e',z⟩
  exact F'
end Go.Proofs.YtmipbiligijcpaaGreatDoor
