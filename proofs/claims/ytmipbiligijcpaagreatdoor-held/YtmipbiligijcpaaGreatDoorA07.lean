import Derived.Test.YtmipbiligijcpaaGreatDoorA05
import Derived.Test.YtmipbiligijcpaaGreatDoorA06
import Derived.Deep.CutBlock
namespace Go.Proofs.YtmipbiligijcpaaGreatDoor
set_option linter.all false
set_option maxHeartbeats 0
set_option maxRecDepth 99999
open Go.RowKit Go.Proofs Go.Maps Tryz List Go.Shelf open List renaming length->ζ,toArray->θ open _root_.Array renaming size->δ open World renaming setCell->κ,ownsRow->ρ,cell?->χ,grownBy->ξ,setCells->ψ open Value renaming ownBlock->φ open Value renaming slice->h',bool->i',agg->k',string->m',pointer->n' open Obj renaming cells->j' open Ending renaming returned->o' open Option renaming some->C',none->D' open Bool renaming true->P',false->Q'
variable {B N Q c f i k m n o t:Nat}{D:List A'}{F:t'->Prop}{W d w:t'}{a:Obj}{g:Bool}{p:Prop}{y:A'}
section
variable {e size:Nat}
def dH{k t:Nat}{v:A'}{L:Array A'}{f:Nat×Nat}(h:ρ w B e size v n D)(a:w.1[k]?=C' (j' L t f))(U:e≠t):φ v≠C' k:=λo=>by obtain⟨Q,K,C⟩:=eZ h k o;rw[C]at a;simp at a;exact U a.2.1
def dY{w':t'}{v:A'}(h:ρ w B e size v n D)(c:∀k,φ v=C' k->w'.1[k]?=w.1[k]?):ρ w' B e size v n D:=by
 refine⟨h.1,?_⟩;rcases h.2 with a|⟨g,b,Y,e,Q,p,m⟩
 .exact aI a
 exact aH ⟨g,b,Y,e,Q,(c g<|by rw[e];rfl).trans p,m⟩
structure UM where
  a:u'
  c:Nat
  us:List Int
def UM.v(u:UM):A':=h' u.a (ζ u.us) u.c
def E4(w:t')(B:Nat)(u:UM):Prop:=ρ w B 3 1 u.v (ζ u.us)<|u.us.map G
structure LM where
  wa:u'
  wl:Nat
  wc:Nat
  lM:Int
  u:UM
  own:Int
def LM.cells(x:LM):List A':=[h' x.wa x.wl x.wc,G x.lM,x.u.v,G x.own]
def jr(l:List LM):List A':=l.flatMap LM.cells
structure Tg(w:t')(tb:Nat)(lm:List LM)(im:List UM)(vs es:List bD)(lv ev iv:A')(vb:Option Nat):Prop where
  tp:Tp w tb (tb+1) lv ev iv vs vb
  lines:ρ w (tb+1) 188 4 lv (ζ lm) (jr lm)
  kB:ρ w (tb+1) 9 1 ev (ζ es) (es.map strOf)
  ins:ρ w (tb+1) 36 1 iv (ζ im) (im.map UM.v)
  uses:∀x∈lm,E4 w (tb+1) x.u
  qT:∀u∈im,E4 w (tb+1) u
  ne:∀k,vb=C' k->φ ev≠C' k
structure TgK(w w':t')(tb:Nat)(lm:List LM)(im:List UM)(lv ev iv:A'):Prop where
  lines:∀k,φ lv=C' k->w'.1[k]?=w.1[k]?
  kB:∀k,φ ev=C' k->w'.1[k]?=w.1[k]?
  ins:∀k,φ iv=C' k->w'.1[k]?=w.1[k]?
  uses:∀x∈lm,∀k,φ x.u.v=C' k->w'.1[k]?=w.1[k]?
  qT:∀u∈im,∀k,φ u.v=C' k->w'.1[k]?=w.1[k]?
section
variable {w w':t'}{tb:Nat}{lm:List LM}{im:List UM}{vs rR es:List bD}{lv ev iv:A'}{vb FA:Option Nat}
def Tg.keep(h:Tg w tb lm im vs es lv ev iv vb)(a:TgK w w' tb lm im lv ev iv)(U:Tp w' tb (tb+1) lv ev iv rR FA)(K:∀k,FA=C' k->φ ev≠C' k):Tg w' tb lm im rR es lv ev iv FA:=
 ⟨U,dY h.lines a.lines,dY h.kB a.kB,dY h.ins a.ins,λx F=>dY (h.uses x F)<|a.uses x F,λu C=>dY (h.qT u C)<|a.qT u C,K⟩
def Tg.below(h:Tg w tb lm im vs es lv ev iv vb)(b:Bl w w'):Tg w' tb lm im vs es lv ev iv vb:=
 h.keep ⟨λk a=>b.block k (h.lines.lt k a).2,λk a=>b.block k (h.kB.lt k a).2,λk a=>b.block k (h.ins.lt k a).2,λx F k a=>b.block k ((h.uses x F).lt k a).2,λu C k a=>b.block k ((h.qT u C).lt k a).2⟩ (h.tp.below b) h.ne
def Tg.var(h:Tg w tb lm im vs es lv ev iv vb)(Y:RF tb vb w w')(U:Tp w' tb (tb+1) lv ev iv rR FA)(K:mU w vb FA):Tg w' tb lm im rR es lv ev iv FA:=by
 obtain⟨u,r,d,g⟩:=h.tp.box;have b:∀{e size n:Nat} {v:A'} {D:List A'},ρ w (tb+1) e size v n D->e≠103->(∀k,φ v=C' k->some k≠vb)->∀k,φ v=C' k->w'.1[k]?=w.1[k]?:=λf l z k c=>Y.block k (f.lt k c).2 (λo=>by have:=dH f r l;rw[c,o]at this;exact this rfl)<|z k c
 have a:∀{e size n:Nat} {v:A'} {D:List A'},ρ w (tb+1) e size v n D->e≠9->∀k,φ v=C' k->some k≠vb:=λf l k c o=>by
  rcases bY f d l with C|C
  .rw[c]at C;cases C
  rw[c,g]at C;exact C o
 refine h.keep ⟨b h.lines aj<|a h.lines aj,b h.kB aj λk c o=>h.ne k o.symm c,b h.ins aj<|a h.ins aj,λx F=>b (h.uses x F) aj<|a (h.uses x F) aj,λu C=>b (h.qT u C) aj<|a (h.qT u C) aj⟩ U λk c o=>?_;rcases K with rfl|⟨q,rfl,i⟩
 .exact h.ne k c o
 cases c;have:=(h.kB.lt _ o).2;omega
end
end
section
variable {σ:Type}
attribute [local go_sem] Oper.semAt_some
def P1{p:Nat->Prop}(h:∃n,p n):∃n,p n/\∀m,p m->n<=m:=by
 obtain⟨n,K⟩:=h;induction n using Nat.strongRecOn with
 |_ n B=>
  by_cases d:∃m,m<n/\p m
  .obtain⟨m,C,a⟩:=d;exact B m C a
  exact⟨n,K,λm h=>Nat.le_of_not_lt λa=>d ⟨m,a,h⟩⟩
def acS(a:σ->t'->Prop)(μ:σ->Nat):∃b:t'->Nat,(∀s w,a s w->b w<=μ s)/\∀w,(∃s,a s w)->∃s,a s w/\μ s=b w:=by
 have h:∀w:t',∃m:Nat,(∀s,a s w->m<=μ s)/\((∃s,a s w)->∃s,a s w/\μ s=m):=by
  intro w;by_cases y:∃s,a s w
  .obtain⟨s,y⟩:=y;obtain⟨m,⟨c,C,d⟩,N⟩:=P1 (p:=λm=>∃s,a s w/\μ s=m) ⟨_,s,y,rfl⟩;exact⟨m,λt U=>N _ ⟨t,U,rfl⟩,λ_=>⟨c,C,d⟩⟩
  exact⟨0,λs h=>absurd ⟨s,h⟩ y,λh=>absurd h y⟩
 exact⟨λw=>Classical.choose<|h w,λs w y=>(Bn<|h w).1 s y,λw y=>(Bn<|h w).2 y⟩
def wy(u:Nat)(w:t'):
  Cl 209 (bM u) w λe a=>e=o' (.func (.func 268) #[]<|bM w.1.size)/\a=w.alloc (j' (bM u) 379):=by
 go_enter func209,ntmps209;go_wp2_with fail;go_ret;exact⟨rfl,rfl⟩
def adr{s:BS}(y:bQ s)(h:s≠(0,0)):dj s≠[]:=by intro e;refine h (VH y ⟨aj,aj⟩ λf Y=>?_);rw[ji,vD];intro a;have:=(qq s y f).2 ⟨Y,a⟩;rw[e]at this;cases this
structure ķ(W:t')(ab pb qb:Nat)(wt:BS)(pv:A'):Prop where
  ag:W.1[ab]?=C' (Bi wt pv)
  pk:jQ W pb pv
  wi:bQ wt
  tab:kU W
  box:W.1[qb]?=C' (j' (bM ab) 379 (0,0))
def PL(n:Nat)(K:1<=n)(u N b:Nat)(g P:σ->t'->Prop)(r:Nat->σ->t'->Prop)(μ:σ->Nat)(z:u≠N)(a:u≠b)
  (a:∀s W,g s W->∃c j,ķ W u N b c j)
  (E:∀s W j,g s W->W.1[u]?=C' (Bi (0,0) j)->P s W)
  (L:∀s W c j x h i,g s W->ķ W u N b c j->x∈dj c->i.1[u]?=C' (Bi (eP c<|cJ [x]) h)->jQ i N h->Kx (·=u) W i->r x s i)
  (s0:σ) (l:Nat) (K:t'->Prop) (W:t') (k:∀d B,K d->KeepsOthers d B->K B)
  (o:∀s x t,r x s t->K t->YieldAt Fence.wide (n-1) Tryz.prog l #[G x] t λe i=>e=o' (i' P')/\(∃q,μ q<μ s/\g q i)/\K i) (D:g s0 W) (f:K W):
  CallsIn Fence.wide n Tryz.prog 268 (#[.func (.yield l) #[] #[]]++(bM b)) W λe i=>(∃v,e=o' v)/\(∃s,P s i)/\K i:=by
 refine callsIn_of_wp func268 rfl trivial ?_ rfl;simp only[ntmps268,kH,bR,de,Nat.reduceAdd,Nat.reduceSub,sF,sE,sD,sC,c!,dA];obtain⟨b,d,i⟩:=acS (λs w=>g s w/\K w) μ;have m:=ſ<|M a<|M E<|M L<|M k<|M o<|M d i;have l:=ſ<|M D f;clear a E L k o d i D f
 gi_wp2
 gi_loopw[] (λwr=>J (∃s,g s wr/\K wr)) (λwr=>b wr)
 case atStart=>exact⟨s0,l.o⟩
 obtain⟨s,y,d⟩:=m.F wr hrel.o;obtain⟨c,j,a⟩:=m.a s wr y.1;have p:=ſ<|M y<|M d a;obtain⟨E,g⟩:=A a.ag;obtain⟨b,b⟩:=A a.box;clear y d a hrel;by_cases f:c=(0,0)
 .subst f;have a:=λw=>Nf 0 0 0 0 w
  gi_wp2
  go_end0
  exact⟨⟨_,rfl⟩,⟨s,m.b s wr j p.a.1 p.B.ag⟩,p.a.2⟩
 have a:∀w,(binOp .neq 267 (lj c.1 c.2)<|k' #[Z 0,Z 0]).run Tryz.prog w=.ok (i' P') w:=by intro w;rw[Nf];congr 2;obtain⟨a,b⟩:=c;simp at f|-;omega
 have X:=ſ<|Sd u N c j wr p.B.ag p.B.pk z p.B.wi (adr p.B.wi f) p.B.tab
 gi_wp2_with (refine⟨trivial,?_⟩;gi_at_call 269;refine(gw.2 X.o).mono ?_;rintro e b ⟨x,h,F,rfl,C,D,y⟩;obtain⟨g,r,a,a,B,Q⟩:=m.e s x b (m.c s wr c j x h b p.a.1 p.B F C D y)<|m.d _ _ p.a.2 (y.others λk o e L=>by subst e;rw[p.B.ag]at L;cases L;rfl);clear F C D y)
 refine Q.mono ?_;rintro e o ⟨rfl,⟨q,L,a⟩,j⟩
 gi_wp2
 go_roundw
 case rel=>exact⟨q,a,j⟩
 have l:=m.f q o ⟨a,j⟩;have c:=p.b;omega
end
section
variable {l:List BS}{r:RR}
def QZ(m:Nat)(l:List BS)(f:Nat):List BS:=l.set f<|e7 (l.getD f (0,0))<|cJ [m]
def IK(m:Nat)(l:List BS)(fs:List Nat):List BS:=fs.foldl (QZ m) l
def ug(E:List<|List Nat)(N k:Nat):List BS:=(range k).foldl (λl m=>IK m l<|E.getD m [])<|replicate N (0,0)
def MN(m f:Nat)(l:List BS):ζ (QZ m l f)=ζ l:=by simp[QZ]
def xg(m:Nat):∀(o:List Nat)(l:List BS),ζ (IK m l o)=ζ l
 |[],_=>rfl
 |f::r,l=>(xg m r<|QZ m l f).trans<|MN m f l
def Gb(m f:Nat)(o:List Nat)(l:List BS):IK m l (o++[f])=QZ m (IK m l o) f:=by simp[IK]
def px(E:List<|List Nat)(N k:Nat):ug E N (k+1)=IK k (ug E N k) (E.getD k []):=by simp[ug,kI]
def p!(E:List<|List Nat)(N:Nat):∀k,ζ (ug E N k)=N
 |0=>by simp[ug]
 |k+1=>by rw[px,xg,p! E N k]
def m?{α:Type}(l:List α)(i j:Nat)(x d:α)(S:i<ζ l):(l.set i x).getD j d=if i=j then x else l.getD j d:=by
 simp only[cy,eQ];by_cases h:i=j
 .subst h;simp[S]
 simp[h]
def ab3(d:m<128)(h:∀j,bQ<|l.getD j (0,0))(j:Nat):bQ ((QZ m l f).getD j (0,0)):=by
 unfold QZ;by_cases Y:f<ζ l
 .rw[m? _ _ _ _ _ Y];split
  .exact gG (h f)<|ie _<|J' d
  exact h j
 rw[set_eq_of_length_le I];exact h j
def DQ{m:Nat}(d:m<128):∀(o:List Nat)(l:List BS),(∀j,bQ<|l.getD j (0,0))->∀j,bQ ((IK m l o).getD j (0,0))
 |[],_,h=>h
 |f::r,l,h=>DQ d r (QZ m l f)<|ab3 d h
def yN(E:List<|List Nat)(N:Nat):∀k,k<=128->∀j,bQ ((ug E N k).getD j (0,0))
 |0,_,j=>by simp only[ug,range_zero,rP,cy,jy];split<;>exact⟨aj,aj⟩
 |k+1,h,j=>by rw[px];exact DQ I _ _ (yN E N k I) j
def adY(d:m<128)(Y:f<ζ l)(j x:Nat)(F:x<128):bt ((QZ m l f).getD j (0,0)) x=(bt (l.getD j (0,0)) x||(decide (j=f)&&decide (x=m))):=by
 rw[QZ,m? _ _ _ _ _ Y];by_cases h:f=j
 .subst h;rw[aB rfl,gT,lI _ _ F<|J' d];simp
 rw[ax h];have:decide (j=f)=Q':=by simp;omega
 rw[this];simp
def VB{m:Nat}(d:m<128)(j x:Nat)(F:x<128):∀(o:List Nat)(l:List BS),(∀f∈o,f<ζ l)->bt ((IK m l o).getD j (0,0)) x=(bt (l.getD j (0,0)) x||(decide (j∈o)&&decide (x=m)))
 |[],l,_=>by simp[IK]
 |f::r,l,h=>by show bt ((IK m (QZ m l f) r).getD j (0,0)) x=_;rw[VB d j x F r (QZ m l f) λg a=>by rw[MN];exact h g<|by simp[a],adY d (h f ak) j x F];by_cases C:j=f<;>by_cases a:j∈r<;>by_cases N:x=m<;>simp[C,a,N]
def ER(E:List<|List Nat)(N:Nat)(j x:Nat)(F:x<128)(a:∀m f,f∈E.getD m []->f<N):∀k,k<=128->bt ((ug E N k).getD j (0,0)) x=(decide (x<k)&&decide (j∈E.getD x []))
 |0,_=>by simp only[ug,range_zero,rP,cy,jy];split<;>simp[ji]
 |k+1,h=>by
  rw[px,VB I j x F _ _ λf Y=>by rw[p!];exact a k f Y,ER E N j x F a k I];by_cases C:x=k
  .subst C;simp
  have:(x<k+1)=(x<k):=by simp;omega
  simp[C,this]
def Ev(rl:List RR):List (List Nat):=rl.map λr=>r.es.map (·.1)
def US{c:List RR}(h:c[k]?=C' r):(Ev c).getD k []=r.es.map (·.1):=by simp[Ev,cy,h]
def iq{g t:Nat}(h:W.1[g]?=C' (j' (θ<|cI l) t (0,0)))(a:k<ζ l):χ W (O g<|k*2)=C' (Z ((l.getD k (0,0)).1:Int))/\χ W (O g<|k*2+1)=C' (Z ((l.getD k (0,0)).2:Int))/\W.frozen? (O g<|k*2)=Q'/\W.frozen? (O g<|k*2+1)=Q':=by obtain⟨E,g⟩:=A h;have:=tX l k (l.getD k (0,0)) (by rw[cy,aQ a];rfl);exact⟨by rw[E,cz];exact this.1,by rw[E,cz];exact this.2,g _,g _⟩
def EE{B p:Nat}{x:Nat×A'}(h:ρ W B p 2 r.ev (ζ r.es)<|iB r.es)(a:r.es[k]?=C' x):∃g,r.ea=C' (O g 0)/\χ W (O g<|k*2)=C' (G x.1)/\χ W (O g<|k*2+1)=C' x.2:=by
 have Bb:=(aV.1 a).1;obtain⟨X,d⟩:=tS r.es k x a;rcases h.2 with⟨_,e⟩|⟨g,a,Y,R,_⟩
 .omega
 simp[RR.ev]at R;refine⟨g,R.1,?_,?_⟩
 .have:=h.cells (g:=g) (by simp[RR.ev,Value.ownBlock,R.1]) (k*2) _ X;rwa[fH,bW]at this
 have:=h.cells (g:=g) (by simp[RR.ev,Value.ownBlock,R.1]) (k*2+1) _ d;rwa[fH,bW]at this
def DB(m B N:Nat)(W:List RR)(w:t')(hS:Sys w B m 2 393 404 W)(hl:ζ W=N)(X:N<=60)(l:∀r∈W,ζ r.es<=200/\(∃s:BS,r.st=eN s)/\∀e∈r.es,e.1<N/\∃fk X fb,e.2=.func (.func fk) X fb):
  Cl 225 #[cP m N] w λe w'=>∃g,e=o' (cw g N)/\δ w.1<=g/\w'.1[g]?=C' (j' (θ<|cI<|ug (Ev W) N N) 267 (0,0))/\Bl w w':=by
 obtain⟨X,hi,D,t,f⟩:=cG qy;have HI:J (_/\_/\_/\_):=⟨hi,D,t,f⟩;clear hi D t f;have HH:=ſ<|M hS<|M hl l;clear hS hl l;simp only[cP];go_enter func225,ntmps225;go_upto_region 1 with(fail)
 have HB:J (Bl w (w.alloc<|j' (dB m N) 260)/\(w.alloc<|j' (dB m N) 260).1[δ w.1]?=C' (j' (dB m N) 260 (0,0))):=⟨aY,bj _ _⟩;generalize w.alloc (j' (dB m N) 260)=x at HB|-;obtain⟨E,u⟩:=A HB.A;go_upto_region 2 with(at_make;refine eK _ rfl (.tmp 10) (.tmp 10) 264 rfl x.1.size 267 X _ 2 underlying264 HI.a HI.b HI.c .i64 .i64 N N N rfl rfl rfl rfl (by rw[HI.C];omega) (by unfold maxLen;omega) ak ?_;intro t l f;have HO:=ſ<|M l f;clear l f)
 have f:J (t.1[δ x.1]?=C' (j' (θ<|cI<|ug (Ev W) N 0) 267 (0,0))/\Below x.1.size x t):=by have h1:=HO.a;rw[d! _ 2 (by simp[Value.cells]) N]at h1;refine⟨?_,(aP _ _).grown HO.A (aD _) (λq e=>by cases e)⟩;rw[(fB h1).1];congr 2;rw[show ug (Ev W) N 0=replicate N (0,0)by simp[ug],<-xr];rfl
 have R:δ x.1<δ t.1:=À f.a;obtain⟨g,Y⟩:=Ea x.1.size;rw[<-Y]at f R;have m:=ſ Y;simp only[<-Y];have m:δ w.1<g:=by rw[Y];exact À HB.A
 obtain⟨l,z⟩:=A<|aF (by have k:=f.A;rw[Y]at k;exact k) HB.A;clear HO E u Y;go_wp2_with fail;go_loopw[15] (λm wr=>∃k:Nat,k<=N/\m=G k/\J (wr.1[g]?=C' (j' (θ<|cI<|ug (Ev W) N k) 267 (0,0))/\Below g x wr)) (λm _=>N-(intOf m).toNat)
 case atStart=>exact⟨0,bq _,rfl,f.o⟩
 clear f R l z;obtain⟨k,hk,rfl,HK⟩:=hrel;have X:Bl w wr:=HB.a.trans<|HK.A.mono I;by_cases L:k<N;rotate_left
 .have m:¬(k:Int)<N:=I;have hkN:k=N:=I;go_wp2_with fail;go_ret;refine⟨g,rfl,I,?_,X⟩;have:=HK.a;rwa[hkN]at this
 have m:(k:Int)<N:=I;obtain⟨r,hr⟩:=La (l:=W) (i:=k) (by rw[HH.b];exact L);have hS:=HH.a.below X;obtain⟨m,R⟩:=(HH.B r<|aK hr).2.1;have T:=hS.cell (j:=0) (v:=Z m.1) hr (by simp[oU,R,eN]);have c1:=hS.cell (j:=1) (v:=Z m.2) hr (by simp[oU,R,eN]);have z:=hS.cell (j:=2) (v:=h' r.ea (ζ r.es) r.ec) hr (by simp[oU,R,eN]);simp only[Nat.reduceAdd,k!]at T c1 z;have HR:=ſ<|M (hS.row r<|aK hr)<|M (HH.B r<|aK hr) hr;clear hS hr R;go_upto_region 5 with(fail)
 obtain⟨V,l⟩:=Ea<|wr.alloc<|j' #[Z m.1,Z m.2,h' r.ea (ζ r.es) r.ec] 393;have f:Bl wr V:=by rw[l];exact aY
 obtain⟨E,u⟩:=A (show V.1[δ wr.1]?=_ by rw[l];exact bj _ _);rw[<-l];have HV:=ſ f;clear l f T c1 z;go_wp2_with fail;have m:=À HK.a;have m:=HR.b.1;go_loopw[23] (λm V=>∃j:Nat,j<=ζ r.es/\m=G j/\J (V.1[g]?=C' (j' (θ<|cI<|IK k (ug (Ev W) N k)<|(r.es.take j).map (·.1)) 267 (0,0))/\Below g x V)) (λm _=>ζ r.es-(intOf m).toNat)
 case atStart=>exact⟨0,bq _,rfl,aF HV.o HK.a,HK.A.trans<|HV.o.mono I⟩
 clear E u;obtain⟨j,hj,rfl,HJ⟩:=hrel;by_cases E:j<ζ r.es;rotate_left
 .have m:¬(j:Int)<(ζ r.es:Int):=I;go_wp2_with fail;go_roundw
  case rel=>
   refine⟨k+1,L,f',?_,HJ.A⟩;have:=HJ.a;rwa[b! I,<-US HR.B,<-px]at this
  exact H'
 have m:(j:Int)<(ζ r.es:Int):=I;obtain⟨⟨f,m⟩,F⟩:∃x,r.es[j]?=C' x:=⟨_,aQ E⟩;have l:Bl w wr:=HB.a.trans<|HJ.A.mono I;obtain⟨X,heg,z,C⟩:=EE ((HH.a.below l).row r<|aK HR.B) F;obtain⟨hfN,fk,õ,T,u⟩:=HR.b.2.2 _<|aK F;simp only at hfN u z C;subst u;rw[heg];have HX:=ſ<|M F l;clear F l;go_upto_region 8 with(fail)
 obtain⟨U,l⟩:=Ea<|wr.alloc<|j' #[G f,.func (.func fk) õ T] 404;have HU:J (Bl wr U/\U.1[δ wr.1]?=C' (j' #[G f,.func (.func fk) õ T] 404 (0,0))):=by rw[l];exact⟨aY,bj _ _⟩
 rw[<-l];clear l z C;obtain⟨l,hl⟩:=Ea<|IK k (ug (Ev W) N k)<|(r.es.take j).map (·.1);have F:ζ l=N:=by rw[hl,xg,p!]
 have hgb:U.1[g]?=C' (j' (θ<|cI l) 267 (0,0)):=by rw[hl];exact aF HU.a HJ.a
 have YE:bQ (l.getD f (0,0)):=by rw[hl];exact DQ I _ _ (yN _ _ k I) f
 have HN:J (IK k (ug (Ev W) N k) ((r.es.take<|j+1).map (·.1))=l.set f (e7 (l.getD f (0,0))<|cJ [k])):=by show _=_;rw[cX E,(aV.1 HX.a).2,eR,Jv,Gb,<-hl];rfl
 obtain⟨u,C⟩:=Ea<|l.getD f (0,0);have HO:J (∀X b,χ X (O b 0)=C' (G k)->Cl 241 (mL b) X (Rb X<|cn<|cJ [k])):=λX b T=>kz X b k I T;have D:J (∀(X:t') b,χ X (O b 0)=C' (Z u.1)->χ X (O b 1)=C' (Z u.2)->χ X (O b 2)=C' (Z ((cJ [k]).1:Int))->χ X (O b 3)=C' (Z ((cJ [k]).2:Int))->Cl 267 (rf b) X (Rb X<|cn<|e7 u<|cJ [k])):=λX b h0 h1 h2 h3=>by have:=fA X b u (cJ [k]) (by rw[C];exact YE) (ie _ λg Y=>by rw[eX.1 Y];omega) h0 h1 h2 h3;exact this
 have R:J (∀W,Bl U W->χ W (O g<|f*2)=C' (Z u.1)/\χ W (O g<|f*2+1)=C' (Z u.2)/\W.frozen? (O g<|f*2)=Q'/\W.frozen? (O g<|f*2+1)=Q'):=λW hW=>by rw[C];exact iq (aF hW hgb) (by rw[F];exact hfN)
 rw[<-C]at HN;obtain⟨l,uj⟩:=Ea<|cJ [k];obtain⟨z,hz⟩:=Ea<|e7 u<|cJ [k];rw[<-hz]at HN D;rw[<-uj]at HO D;have HL:=ſ<|M F hgb;clear uj hz YE C hl F hgb;have m:(f:Int)<N:=I;simp only[cn]at HO D;refine st (λW'=>Bl U W') 13 (hS:=(aP _ _).drew) (h:=λaE=>?_);refine tt 0 (cw g N) (h:=?_);refine tt 1 (n'<|cA wr.1.size) (h:=?_);refine tt 2 (G f) (y:=λW' bm=>by have m:=(A<|aF bm HU.A).1;clear aE bm;go_simp) (h:=?_);refine tt 3 (cw g N) (h:=?_);refine tt 4 (n'<|cA wr.1.size) (h:=?_);refine tt 5 (G f) (y:=λW' bm=>by have m:=(A<|aF bm HU.A).1;clear aE bm;go_simp) (h:=?_);refine tt 6 (n'<|C'<|O g<|f*2) (h:=?_);refine tt 7 (lj u.1 u.2) (y:=λW' bm=>by have m:=(R.o _ bm).1;have g:=(R.o _ bm).2.1;clear aE bm;go_simp) (h:=?_);refine tt 8 (G k) (h:=?_);refine rt 9 (h:=λK hK=>?_);go_simp;refine hK.out _ _ (λ_=>aq aE aY) ?_;clear hK K;refine pt ?_;refine rt 10 (h:=λK hK=>?_);go_simp;refine bE (HO.o _ _ ak) ?_;rintro e t ⟨rfl,l⟩;have r:J (Bl U t):=aq (aq aE aY) l;clear l;refine hK.out _ _ (λ_=>r.o) ?_;clear hK K;refine pt ?_;refine rt 11 (h:=λK hK=>?_);go_simp;refine hK.out _ _ (λ_=>aq r.o aY) ?_;clear hK K;refine pt ?_;refine rt 12 (h:=λK hK=>?_);go_simp;refine bE (D.o _ _ ak ak ak ak) ?_;rintro e F ⟨rfl,X⟩;have e:J (Bl U F):=aq (aq r.o aY) X;clear X;refine hK.out _ _ (λ_=>e.o) ?_;clear hK K aE;refine pt ?_;refine rt 13 (h:=λK hK=>?_);go_simp;refine hK.out _ _ (λh=>absurd h aj) ?_;clear hK K;refine pt ?_;refine rt 14 (h:=λK hK=>?_);obtain⟨r,m,g,l⟩:=R.o _ e.o;go_simp;refine hK.out _ _ (λh=>absurd h aj) ?_;clear hK K r m g l;refine pt ?_;refine dt (h:=?_);go_wp2_with fail;go_roundw
 case rel=>
  refine⟨j+1,E,f',?_,?_⟩
  .rw[HN.o];exact xC (s:=z) (aF e.o HL.A) (k:=f) (by rw[HL.a];exact hfN)
  exact((HJ.A.trans<|(aq HU.a e.o).mono<|L'<|À HJ.a).setCell (aD _) _).setCell (aD _) _
 exact H'
end
section
attribute [local go_sem] Oper.semAt_some
def AW(q m:Nat)(a:u')(N c:Nat)(hs:List BS)(w:t')(e:w.1[q]?=C' (j' #[h' a N c] 264 (0,0)))(X:ζ hs=N)(p:N<=60)(d:m<N)(u:lK w a hs):
  Cl 224 (ya m q) w (Rb w<|cn<|cv hs m):=by
 have F:hs[m]?=C' (cv hs m):=by rw[cv,getD,aQ I];rfl
 obtain⟨b,o,rfl,T,Q⟩:=u m _ F;have a:(m:Int)<N:=I;generalize cv hs m=z at *;obtain⟨E,a⟩:=A e;have a:=cE w fj;have t:=aA T a;have Y:=aA Q a;have L:=À e;have b:q≠δ w.1:=I;clear u F X e T Q a;go_enter func224,ntmps224;go_wp2_with fail;refine aC (v:=cn z) (by simp[results224,go_sem,cn]) rfl ⟨rfl,?_⟩;exact Ĵ
structure Rg(N:Nat)(hs:List BS)(wt:BS):Prop where
  len:ζ hs=N
  each:∀s∈hs,bQ s
  wi:bQ wt
  low:∀x∈dj wt,x<N
structure RiS{σ:Type}(S:Nat->Prop)(C:σ->t'->Prop)(w:t')(rb N fk:Nat)(caps:Array A')(rd:List BS)(bx g J? qb ab:Nat)(s:σ)(hs:List BS)(W:t'):Prop where
  k:Kx S w W
  c:C s W
  tab:kU W
  sys:W.1[δ w.1]?=C' (j' (dB rb N) 260 (0,0))
  chg:W.1[δ w.1+1]?=C' (j' #[.func (.func fk) #[] caps] 273 (0,0))
  held:W.1[δ w.1+1+1]?=C' (j' (θ<|cI hs) 267 (0,0))
  wI:W.1[bx]?=C' (j' #[h' (C'<|O (δ w.1+1+1) 0) N N] 264 (0,0))
  hold:W.1[bx+1]?=C' (j' #[.func (.func 224) #[]<|bM bx] 321 (0,0))
  rdr:W.1[g]?=C' (j' (θ<|cI rd) 267 (0,0))
  rbc:W.1[J?]?=C' (j' (kL g N) 264 (0,0))
  box:W.1[qb]?=C' (j' (bM ab) 379 (0,0))
  hl:δ w.1+1+1<bx
  gl:bx+1<g
  rl:g<J?
  al:J?<ab
  ql:ab<qb
section
variable {σ:Type}{S:Nat->Prop}{C:σ->t'->Prop}{w:t'}{rb N fk:Nat}{caps:Array A'}{rd:List BS}{bx g J? qb ab:Nat}{s:σ}{hs:List BS}{W W':t'}
def RiS.keep(h:RiS S C w rb N fk caps rd bx g J? qb ab s hs W)(u:∀k,S k->k<δ w.1)(m:∀s W W',C s W->(∀k,S k->W'.1[k]?=W.1[k]?)->C s W')(U:0<δ w.1){X:Nat->Prop}(b:Kx X W W')(a:∀k,X k->k=ab\/qb<k):RiS S C w rb N fk caps rd bx g J? qb ab s hs W':=by
 have D:=h.hl;have i:=h.gl;have c:=h.rl;have j:=h.al;have d:=h.ql;have f:=br h.k.size b.size;have v:∀k,k<qb+1->k≠ab->¬X k:=λk b K F=>by rcases a k F with e|e<;>omega
 refine⟨⟨b.os.trans h.k.os,b.tape.trans h.k.tape,b.output.trans h.k.output,f,λk a K=>(b.keep k (ep a h.k.size)<|v k I I).trans<|h.k.keep k a K⟩,m s W W' h.c λk hs=>?_,b.tab h.tab<|v _ I I,b.box h.sys<|v _ I I,b.box h.chg<|v _ I I,b.box h.held<|v _ I I,b.box h.wI<|v _ I I,b.box h.hold<|v _ I I,b.box h.rdr<|v _ I I,b.box h.rbc<|v _ I I,b.box h.box<|v _ I I,D,i,c,j,d⟩;have:=u k hs;exact b.keep k (ep this h.k.size)<|v _ I I
def RiS.OE{c:σ}{a:List BS}(h:RiS S C w rb N fk caps rd bx g J? qb ab s hs W)(u:∀k,S k->k<δ w.1)(U:¬S 0)(b:Kx (λk=>S k\/k=δ w.1+1+1\/k=ab) W W')(T:C c W')(d:0<δ w.1)(V:W'.1[δ w.1+1+1]?=C' (j' (θ<|cI a) 267 (0,0))):RiS S C w rb N fk caps rd bx g J? qb ab c a W':=by
 have D:=h.hl;have e:=h.gl;have c:=h.rl;have i:=h.al;have d:=h.ql;have f:=br h.k.size b.size;have v:∀k,δ w.1<=k->k≠δ w.1+1+1->k≠ab->¬(S k\/k=δ w.1+1+1\/k=ab):=λk e c i d=>by rcases d with d|d|d;(· have:=u k d;omega);all_goals omega
 exact⟨⟨b.os.trans h.k.os,b.tape.trans h.k.tape,b.output.trans h.k.output,f,λk a K=>(b.keep k (ep a h.k.size) (by rintro(h|h|h);(· exact K h);all_goals omega)).trans<|h.k.keep k a K⟩,T,b.tab h.tab (by rintro(h|h|h);(· exact U h);all_goals omega),b.box h.sys<|v _ I I I,b.box h.chg<|v _ I I I,V,b.box h.wI<|v _ I I I,b.box h.hold<|v _ I I I,b.box h.rdr<|v _ I I I,b.box h.rbc<|v _ I I I,b.box h.box<|v _ I I I,D,e,c,i,d⟩
end
end
section
variable {s t c:BS}{x:Nat}
def Ez{α:Type}{p q:α->Bool}:∀(l:List α),(∀x∈l,p x=P'->q x=P')->ζ (l.filter p)<=ζ (l.filter q)
 |[],_=>aD _
 |a::l,h=>by
  have B:=Ez l λx F=>h x (by simp[F]);have D:=h a ak;rw[nD,nD];cases U:p a<;>cases b:q a
  .simpa using B
  .simp;omega
  .rw[D U]at b;cases b
  simp;omega
def xt{α:Type}{p q:α->Bool}:∀(l:List α),(∀x∈l,p x=P'->q x=P')->(∃x∈l,p x=Q'/\q x=P')->ζ (l.filter p)<ζ (l.filter q)
 |[],_,h=>by obtain⟨x,F,_⟩:=h;cases F
 |a::l,h,he=>by
  have B:=Ez l λx F=>h x (by simp[F]);have D:=h a ak;rw[nD,nD];cases U:p a<;>cases b:q a
  .have:∃x∈l,p x=Q'/\q x=P':=by
    obtain⟨x,F,C,c⟩:=he;rcases cO.1 F with rfl|F
    .rw[c]at b;cases b
    exact⟨x,F,C,c⟩
   simpa using xt l (λx F=>h x<|by simp[F]) this
  .simp;omega
  .rw[D U]at b;cases b
  have:∃x∈l,p x=Q'/\q x=P':=by
   obtain⟨x,F,C,c⟩:=he;rcases cO.1 F with rfl|F
   .rw[C]at U;cases U
   exact⟨x,F,C,c⟩
  simpa using xt l (λx F=>h x<|by simp[F]) this
def UR(h:∀f,f<128->bt s f=P'->bt t f=P')(l:∃f,f<128/\bt s f=Q'/\bt t f=P'):ζ (dj s)<ζ (dj t):=by rw[vi,vi];obtain⟨f,C,a,N⟩:=l;exact xt _ (λx F=>h x<|cq.1 F) ⟨f,cq.2 C,a,N⟩
def Ab{f:Nat}(F:x<128)(Y:f<128):bt (cJ [x]) f=decide (f=x):=by rw[lI _ _ Y<|J' F];simp
def lZ(F:x<128):bQ (cJ [x]):=ie _<|J' F
def ZR(S:bQ c)(F:x∈dj c):ζ (dj<|eP c<|cJ [x])<ζ (dj c):=by
 obtain⟨C,a⟩:=(qq c S x).1 F;refine UR (λf Y h=>?_) ⟨x,C,?_,a⟩
 .rw[oM (lZ C) Y,aS]at h;exact h.1
 rw[oM (lZ C) C,Ab C C];simp
def ë(hs:List BS):Nat:=(hs.map λs=>128-ζ (dj s)).sum
def Mv{f:BS->Nat}:∀(l:List BS)(i:Nat)(s:BS),i<ζ l->f s<f (l.getD i (0,0))->((l.set i s).map f).sum<(l.map f).sum
 |[],i,s,h,_=>by simp at h
 |a::l,0,s,_,h=>by simp at h|-;exact h
 |a::l,i+1,s,h,h2=>by have:=Mv l i s (J' h)<|J' h2;rw[da,dX,dX,lh,lh];omega
def TD(U:bQ t)(h:Bf (eP s t)=Q'):∃f,f<128/\bt s f=P'/\bt t f=Q':=by
 have C:¬∀f,f<128->bt s f=P'->bt t f=P':=λa=>by rw[(mS U).2 a]at h;cases h
 simp only[Classical.not_forall]at C;obtain⟨f,C,a,N⟩:=C;exact⟨f,C,a,J' N⟩
def Np{hs:List BS}{said:BS}(F:x<ζ hs)(S:bQ<|cv hs x)(h:Bf (eP said<|cv hs x)=Q'):ë (hs.set x<|e7 (cv hs x) said)<ë hs:=by refine Mv (f:=λs=>128-ζ (dj s)) hs x _ F ?_;obtain⟨f,C,a,N⟩:=TD S h;have L:ζ (dj<|cv hs x)<ζ (dj<|e7 (cv hs x) said):=UR (λg _ b=>by rw[gT,b];rfl) ⟨f,C,N,by rw[gT,a];simp⟩;have:=nY<|e7 (cv hs x) said;show 128-_<128-ζ (dj<|cv hs x);omega
def ã(hs:List BS)(wt:BS):Nat:=ë hs*200+ζ (dj wt)
def Rg.skip{y:List BS}(h:Rg N y c)(x:Nat)(F:x<128):Rg N y (eP c<|cJ [x]):=by refine⟨h.len,h.each,pS,λy B=>h.low y ?_⟩;obtain⟨b,a⟩:=(fz pS y).1 B;rw[oM (lZ F) b,aS]at a;exact(qq c h.wi y).2 ⟨b,a.1⟩
def Rg.step{a:List BS}{z r:BS}(h:Rg N a c)(x:Nat)(F:x<128)(f:bQ z)(e:bQ r)(X:∀y∈dj r,y<N):Rg N (a.set x z) (e7 (eP c<|cJ [x]) r):=by
 have b:=h.skip x F;refine⟨by rw[jn];exact h.len,λs a=>?_,gG b.wi e,λy B=>?_⟩
 .rcases hU a with a|rfl
  .exact h.each s a
  exact f
 obtain⟨N,d⟩:=(fz (gG b.wi e) y).1 B;rw[gT,eS]at d;rcases d with d|d
 .exact b.low y<|(fz b.wi y).2 ⟨N,d⟩
 exact X y<|(fz e y).2 ⟨N,d⟩
def Ms(p:N<=128):∀x∈dj (j5 N),x<N:=λx F=>by obtain⟨C,a⟩:=(fz (o? N p) x).1 F;rw[wm N x p C]at a;simpa using a
end
section
variable {b:Obj}{R:RS}
attribute [local go_sem] Oper.semAt_some
structure SnS{σ:Type}(R:RS)(N:Nat)(rd:List BS)(nx:σ->Nat->BS->BS->σ)(Inv:σ->List BS->BS->Prop)(s0:σ):Prop where
  start:Inv s0 (replicate N (0,0)) (j5 N)
  skip:∀s hs wt x,Inv s hs wt->Rg N hs wt->x∈dj wt->Bf (eP (kg R (cv hs) x)<|cv hs x)=P'->Inv s hs (eP wt<|cJ [x])
  step:∀s hs wt x,Inv s hs wt->Rg N hs wt->x∈dj wt->Bf (eP (kg R (cv hs) x)<|cv hs x)=Q'->Inv (nx s x (cv hs x)<|e7 (cv hs x)<|kg R (cv hs) x) (hs.set x<|e7 (cv hs x)<|kg R (cv hs) x) (e7 (eP wt<|cJ [x])<|rd.getD x (0,0))
structure ChS{σ:Type}(S:Nat->Prop)(C:σ->t'->Prop)(w:t')(R:RS)(N fk pb:Nat)(caps:Array A')(nx:σ->Nat->BS->BS->σ)(Inv:σ->List BS->BS->Prop):Prop where
  low:∀k,S k->k<δ w.1
  cel:∀s W k o,C s W->S k->W.1[k]?=C' o->o.isCells=P'
  Oq:∀s W W',C s W->(∀k,S k->W'.1[k]?=W.1[k]?)->C s W'
  tab:¬S 0
  pk:¬S pb
  pbl:pb<δ w.1
  fn:∀xs w,(callFunc fk xs).run Tryz.prog w=.ok (.enter fk xs) w
  call:∀s hs wt W x,Inv s hs wt->Rg N hs wt->x∈dj wt->Bf (eP (kg R (cv hs) x)<|cv hs x)=Q'->C s W->kU W->Cl fk (#[G x,cn<|cv hs x,cn<|e7 (cv hs x)<|kg R (cv hs) x]++caps) W λe w'=>e=o' (cn<|e7 (cv hs x)<|kg R (cv hs) x)/\C (nx s x (cv hs x)<|e7 (cv hs x)<|kg R (cv hs) x) w'/\Kx S W w'
def å(h:∀V,J (Bl w V/\V.1[δ w.1]?=C' a/\V.1[δ w.1+1]?=C' b/\δ V.1=δ w.1+1+1)->F V):F ((w.alloc a).alloc b):=h _ ⟨cU,eO.1,eO.2,ak⟩
def gnD{c d:Obj}(h:∀V,J (Bl w V/\V.1[δ w.1]?=C' a/\V.1[δ w.1+1]?=C' b/\V.1[δ w.1+1+1]?=C' c/\V.1[δ w.1+1+1+1]?=C' d/\δ V.1=δ w.1+1+1+1+1)->F V):F ((((w.alloc a).alloc b).alloc c).alloc d):=h _ (by obtain⟨C,e,N,f⟩:=qL w a b c d;exact⟨oe,C,e,N,f,ak⟩)
def NZ(h:∀V,J (V.1[δ w.1]?=C' a/\Bl w V)->F V):F (w.alloc a).drew:=h _ ⟨bj w a,(cE w a).drew⟩
def oP(h:∀V,J (Bl w V/\V.1[δ w.1]?=C' a/\δ V.1=δ w.1+1)->F V):F (w.alloc a):=h _ ⟨aY,bj _ _,ak⟩
abbrev SU(R:RS)(N:Nat):List BS:=ug (R.map λr=>r.2.map (·.1)) N N
def DP(h:N<=60)(x:Nat):bQ ((SU R N).getD x (0,0)):=yN _ N N I x
def Xr(h:E5 R N)(x:Nat):∀y∈dj ((SU R N).getD x (0,0)),y<N:=λy B=>by
 have d:=h.most;obtain⟨C,a⟩:=(fz (DP d x) y).1 B;rw[ER _ N x y C (λm f Y=>?_) N I,aS]at a
 .simpa using a.1
 rw[cy,bH]at Y;cases a:R[m]? with
 |none=>rw[a]at Y;simp at Y
 |some r=>rw[a]at Y;simp at Y;obtain⟨b,b⟩:=Y;exact((h.each r<|aK a).2.2 _ b).2
section
variable {σ H:Type} (Rs:σ->H->t'->Prop) (ab pb qb:Nat) (Inv:σ->H->BS->Prop) (Sh:H->BS->Prop) (mu:H->BS->Nat)
def Rh(τ:σ×H×BS)(W:t'):Prop:=∃pv,Rs τ.1 τ.2.1 W/\W.1[ab]?=C' (Bi τ.2.2 pv)/\jQ W pb pv/\Inv τ.1 τ.2.1 τ.2.2/\Sh τ.2.1 τ.2.2
def IfS(τ:σ×H×BS)(W:t'):Prop:=Rs τ.1 τ.2.1 W/\Inv τ.1 τ.2.1 (0,0)/\Sh τ.2.1 (0,0)
def IyS(x:Nat)(τ:σ×H×BS)(W:t'):Prop:=∃pv,Rs τ.1 τ.2.1 W/\W.1[ab]?=C' (Bi (eP τ.2.2<|cJ [x]) pv)/\jQ W pb pv/\Inv τ.1 τ.2.1 τ.2.2/\Sh τ.2.1 τ.2.2/\x∈dj τ.2.2
def Đ(a b:σ×H×BS):Prop:=mu a.2.1 a.2.2<mu b.2.1 b.2.2
def Ol{W:t'}{ab:Nat}{s t:BS}{p q:A'}(h:W.1[ab]?=C' (Bi s p))(k:W.1[ab]?=C' (Bi t q)):s=t/\p=q:=by rw[h]at k;simp only[Bi,dq,Obj.cells.injEq]at k;have C:=k.1;simp at C;exact⟨Prod.ext (Dg C.1)<|Dg C.2.1,C.2.2⟩
structure í:Prop where
  keep:∀s hs W W' X,Rs s hs W->Kx X W W'->(∀k,X k->k=ab\/qb<k)->(∀k o,X k->W.1[k]?=C' o->o.isCells=Q'\/∃c f,o=j' c 323 f)->Rs s hs W'
  tab:∀s hs W,Rs s hs W->kU W
  box:∀s hs W,Rs s hs W->W.1[qb]?=C' (j' (bM ab) 379 (0,0))
variable {Rs ab pb qb Inv Sh mu}
def aa1{p:Prop}(h:p:=by
 intro τ W e q y b f;obtain⟨a,C,c,N,d⟩:=y;have F:Kx (λk=>q=C' k) W e:=⟨b.os,b.tape,b.output,b.size,λk g K=>b.block k g λe=>K e.symm⟩;have K:∀k,k<B->¬q=C' k:=λk g e=>by have:=(f k e).1;omega
 exact⟨a,h.keep _ _ _ _ _ C F (λk e=>L'<|(f k e).1) (λk o e i=>by obtain⟨_,b,C,c⟩:=f k e;rw[C]at i;cases i;exact aI c),F.box c<|K _ l,N.keep λo u T=>F.cell T<|K _ j,d⟩):p:=h
def Rh.own(h:í Rs ab qb)(j:pb<B)(a:qb<B)(l:ab<B):OwnFrom B (Rh Rs ab pb Inv Sh):=by exact aa1
def IfS.own(h:í Rs ab qb)(a:qb<B):OwnFrom B (IfS Rs Inv Sh):=by intro τ W b q y a d;have F:Kx (λk=>q=C' k) W b:=⟨a.os,a.tape,a.output,a.size,λk b K=>a.block k b λe=>K e.symm⟩;exact⟨h.keep _ _ _ _ _ y.1 F (λk e=>L'<|(d k e).1) (λk o e c=>by obtain⟨_,b,C,f⟩:=d k e;rw[C]at c;cases c;exact aI f),y.2⟩
def IyS.own(h:í Rs ab qb)(j:pb<B)(a:qb<B)(l:ab<B)(x:Nat):OwnFrom B (IyS Rs ab pb Inv Sh x):=by exact aa1
def Rh.it(h:í Rs ab qb)(b:∀h c,Sh h c->bQ c)(n:Nat)(E:1<=n)(z:ab≠pb)(o:ab≠qb)(s0:σ×H×BS)(l:Nat)(K:t'->Prop)(W:t')(w:∀g B,K g->KeepsOthers g B->K B)
  (B:∀s x t,IyS Rs ab pb Inv Sh x s t->K t->YieldAt Fence.wide (n-1) Tryz.prog l #[G x] t λe i=>e=o' (i' P')/\(∃g,Đ mu g s/\Rh Rs ab pb Inv Sh g i)/\K i) (D:Rh Rs ab pb Inv Sh s0 W) (g:K W):
  CallsIn Fence.wide n Tryz.prog 268 (#[.func (.yield l) #[] #[]]++(bM qb)) W λe i=>(∃v,e=o' v)/\(∃s,IfS Rs Inv Sh s i)/\K i:=by
 refine PL n E ab pb qb (Rh Rs ab pb Inv Sh) (IfS Rs Inv Sh) (IyS Rs ab pb Inv Sh) (λτ=>mu τ.2.1 τ.2.2) z o ?_ ?_ ?_ s0 l K W w B D g
 .rintro τ W ⟨a,C,k,N,_,m⟩;exact⟨_,a,k,N,b _ _ m,h.tab _ _ _ C,h.box _ _ _ C⟩
 .rintro⟨s,y,c⟩ W a ⟨j,C,k,N,d,m⟩ f;obtain⟨rfl,_⟩:=Ol k f;exact⟨C,d,m⟩
 rintro⟨s,y,c⟩ W f a x j i ⟨a,C,k,N,d,m⟩ q F r U u;obtain⟨rfl,_⟩:=Ol k q.ag;exact⟨j,h.keep _ _ _ _ _ C u (λk e=>aI e) (λk o e p=>by subst e;rw[q.ag]at p;cases p;exact aH ⟨_,_,rfl⟩),r,U,d,m,F⟩
end
def O9{σ:Type}(S:Nat->Prop)(C:σ->t'->Prop)(rb B N fk pb:Nat)(R:RS)(caps:Array A')(pa:u')(pl pc:Nat)(w:t')(nx:σ->Nat->BS->BS->σ)(Inv:σ->List BS->BS->Prop)(s0:σ)
  (f:∀W,Kx S w W->og W B rb R) (u:E5 R N) (r:1<=N) (hP:SnS R N (SU R N) nx Inv s0) (D:ChS S C w R N fk pb caps nx Inv) (hT:kU w) (z:jQ w pb<|h' pa pl pc) (t:C s0 w):
  Cl 151 #[cP rb N,h' pa pl pc,.func (.func fk) #[] caps] w λe w'=>∃s hs,e=o' (h' (C'<|O (δ w.1+1+1) 0) N N)/\w'.1[δ w.1+1+1]?=C' (j' (θ<|cI hs) 267 (0,0))/\C s w'/\Kx S w w'/\Inv s hs (0,0)/\ζ hs=N/\∀s∈hs,bQ s:=by
 have hm:=u.most;refine(gw (n:=6)).1 ?_;refine callsIn_of_wp_marks func151 rfl trivial ?_ rfl;simp only[cP,ntmps151,kH,bR,de,Nat.reduceAdd,Nat.reduceSub,sF,sE,sD,sC,c!,dA];have HU:J (∀W,Cl 208 #[G N] W<|Rb W<|cn<|j5 N):=λW=>o8 N W I
 have HR:J (∀W,Kx S w W->Cl 225 #[cP rb N] W λe w'=>∃g,e=o' (cw g N)/\δ W.1<=g/\w'.1[g]?=C' (j' (θ<|cI<|SU R N) 267 (0,0))/\Bl W w'):=by
  intro W hW;obtain⟨rl,h1,h2⟩:=f W hW;have X:ζ rl=N:=by have:=cQ length h2;simp[JU]at this;rw[this,u.len]
  have hfr:Ev rl=R.map λr=>r.2.map (·.1):=by have:=cQ (List.map λr=>r.2.map (·.1)) h2;simpa[JU,Ev,fF,xG]using this
  refine(DB rb B N rl W h1 X hm λr hr=>?_).mono ?_;rotate_left
  .rintro e w' ⟨g,rfl,a,b,c⟩;rw[hfr]at b;exact⟨g,rfl,a,b,c⟩
  obtain⟨k,hk⟩:=dN.1 hr;have h3:=cQ (λl=>l[k]?) h2;simp only[JU,bH,hk,gD]at h3;cases hq:R[k]? with
  |none=>rw[hq]at h3;simp at h3
  |some q=>rw[hq]at h3;simp at h3;have Hp:=u.each q<|aK hq;refine⟨by rw[h3.2];simp;exact Hp.2.1,⟨q.1,h3.1⟩,λe he=>?_⟩;rw[h3.2]at he;obtain⟨x,hx,rfl⟩:=bp.1 he;exact⟨(Hp.2.2 x hx).2,_,_,_,rfl⟩
 obtain⟨X,hi,o,r,m⟩:=cG qy;have HJ:J (_/\_/\_/\_):=⟨hi,o,r,m⟩;have H0:=ſ<|M f<|M u<|M hP<|M D<|M hT<|M z t;clear hi o r m f u hP D hT z t;simp only[cn,cP]at HU HR;refine nE.2 ?_;go_upto_region 1 with(fail)
 refine å (F:=Code.wp _ _ _ _) λW0 U=>?_;obtain⟨E,x2⟩:=A U.b;have o:=U.C;go_upto_region 2 with(at_make;refine eK _ rfl (.tmp 15) (.tmp 15) 264 rfl W0.1.size 267 X _ 2 underlying264 HJ.a HJ.b HJ.c .i64 .i64 N N N rfl rfl rfl rfl (by rw[HJ.C];omega) (by unfold maxLen;omega) ak ?_;intro t r f;have z:=ſ<|M r f;clear r f)
 have u:J (t.1[δ w.1+1+1]?=C' (j' (θ<|cI<|replicate N (0,0)) 267 (0,0))/\Bl W0 t):=by have h1:=z.a;rw[d! _ 2 (by simp[Value.cells]) N]at h1;refine⟨?_,(aP _ _).grown z.A (aD _) (λq e=>by cases e)⟩;rw[<-o,(fB h1).1,<-xr];rfl
 clear z E x2;refine oP (F:=Code.wp _ _ _ _) λF Ff=>?_;go_upto_region 3 with(fail)
 refine oP (F:=Code.wp _ _ _ _) λW3 D=>?_;have m:=Ff.B;have hbl:δ w.1+1+1<δ t.1:=À u.a;have r:=aq Ff.a D.a;have f:=aq u.A r;have T:=D.b;have L:=D.B;rw[m]at T L;have z:=ſ<|M (aq U.a f)<|M (aF f U.b)<|M (aF f U.c)<|M (aF r u.a)<|M (aF D.a Ff.b)<|M T L;rw[m];clear U u Ff D o m r f T L;generalize δ t.1=bx at *;obtain⟨E,x2⟩:=A z.b;go_upto_region 4 with(go_at_call 225;refine(HR.o _<|Kx.of z.a).mono ?_;rintro e W4 ⟨g,rfl,h1,h2,h3⟩;have H4:=ſ<|M h1<|M h2 h3;clear h1 h2 h3 E x2)
 refine oP (F:=Code.wp _ _ _ _) λW5 T=>?_;have U:=aq H4.B T.a;obtain⟨E,x2⟩:=A<|aF U z.b;go_upto_region 5 with(go_at_call 208;refine(HU.o _).mono ?_;rintro e W6 ⟨rfl,h1⟩;have H6:=ſ h1;clear h1 E x2)
 refine oP (F:=Code.wp _ _ _ _) λY L=>?_;have HN:J (∀W,Cl 209 (bM W6.1.size) W λe w'=>e=o' (.func (.func 268) #[]<|bM W.1.size)/\w'=W.alloc (j' (bM W6.1.size) 379)):=λW=>wy _ W;go_wp2_with (go_at_call 209;refine(HN.o _).mono ?_;rintro e W8 ⟨rfl,rfl⟩);refine oP (F:=Code.wp _ _ _ _) λW8 m=>?_;have r:δ W6.1<δ Y.1:=by rw[L.B];omega
 have f:=aq U<|aq H6.o<|aq L.a m.a;have hab:δ W5.1<=δ W6.1:=H6.o.size;have hrx:=T.B;have X:=À H4.b;have hg2:=H4.a;have r:=z.F;have f8:=m.b
 have H8:J (RiS S C w rb N fk caps (SU R N) bx g W4.1.size Y.1.size W6.1.size s0 (replicate N (0,0)) W8/\W8.1[δ W6.1]?=C' (Bi (j5 N)<|h' pa pl pc)/\δ W8.1=δ Y.1+1):=
  ⟨⟨Kx.of<|aq z.a f,H0.d.Oq _ _ _ H0.F λk hk=>(aq z.a f).block k<|H0.d.low k hk,H0.e.below<|aq z.a f,aF f z.b,aF f z.c,aF f z.d,aF f z.e,aF f z.f,aF (aq T.a<|aq H6.o<|aq L.a m.a) H4.b,aF (aq H6.o<|aq L.a m.a) T.b,f8,hbl,I,X,I,I⟩,aF m.a L.b,m.B⟩
 have X:=H0.d.pbl;have X:=z.a.size;have hP8:J (jQ W8 pb<|h' pa pl pc):=H0.f.keep λo u h=>aA h<|aq z.a f;have X:bx+1<g:=I;have X:δ W4.1<δ W6.1:=I;clear T L m H6 H4 z U f HN HR HU f8 hrx r hg2 hab;generalize δ W4.1=J? at *;generalize δ W6.1=ab at *;generalize δ Y.1=qb at *;obtain⟨Rs,f⟩:=Ea<|RiS S C w rb N fk caps (SU R N) bx g J? qb ab;rw[<-f]at H8;have HK:J (í Rs ab qb):=by rw[f];exact⟨λs hs W W' X h hk m _=>h.keep H0.d.low H0.d.Oq (dh<|H0.e 0 aj) hk m,λs hs W h=>h.tab,λs hs W h=>h.box⟩
 have ZK:=ſ f;have m:qb<δ W8.1:=by rw[H8.B];omega
 clear f;refine(nE (n:=6)).1 ?_
 refine MQ (σ:=σ×List BS×BS) (α:=Nat) rfl I (gf:=268) (lb:=(bM qb)) rfl trivial (λm w=>Tryz.call268 m w) (Qy:=λx=>#[G x]) (λ_=>rfl)
  (Rh Rs ab pb Inv<|Rg N) (IfS Rs Inv<|Rg N) (IyS Rs ab pb Inv<|Rg N) (Đ ã) (Rh.own HK.o I I I) (IfS.own HK.o I) (IyS.own HK.o I I I) (s0:=(s0,replicate N (0,0),j5 N)) ⟨_,H8.a,H8.b,hP8.o,H0.c.start,⟨ak,λs hs=>by rw[iM hs];exact⟨aj,aj⟩,o? N I,Ms I⟩⟩
  (Rh.it HK.o (λ_ _ h=>h.wi) 5 I I I _)
  (λx=>{tmps:=#[k'<|dB rb N,h' pa pl pc,.func (.func fk) #[] caps,n'<|cA w.1.size,undef,n'<|C'<|O (δ w.1+1) 0,h' D' 0 0,n'<|C'<|O bx 0,n'<|C'<|O (bx+1) 0,n'<|C'<|O J? 0,n'<|C'<|O ab 0,G x,undef,n'<|cA w.1.size,h' (C'<|O rb 0) N N,G N,h' (C'<|O (δ w.1+1+1) 0) N N,.func (.func 224) #[]<|bM bx,k'<|dB rb N,h' (C'<|O g 0) N N,n'<|cA w.1.size,h' (C'<|O rb 0) N N,G N,k' #[Z ((j5 N).1:Int),Z ((j5 N).2:Int)],h' pa pl pc,k' #[Z ((j5 N).1:Int),Z ((j5 N).2:Int),h' pa pl pc],.func (.func 268) #[]<|bM qb,G x,undef,undef,undef,undef,undef,undef,undef,undef,undef,undef,undef,undef,undef,undef,undef,undef,undef,undef,undef,undef,undef,undef,undef,undef,undef,undef,undef,undef,undef,undef,undef,undef,undef,undef,undef,undef,undef],defers:=[]}) ?assign ?body ?done
 case assign=>
  intro l x W K hK
  gi_wp2
  exact hK
 case body=>
  rintro l ⟨s,hs,wt⟩ x W ⟨pv,h1,h2,h3,h4,h5,U⟩;simp only at h1 h2 h3 h4 h5 U;rw[ZK.o]at h1;have Uo:=h5.low x U;have r:(x:Int)<N:=I;have r:=fe h5.each x;have f:=yx H0.b (fe h5.each) x;have z:J (∀W',Bl W W'->Cl 226 #[cP rb N,G x,.func (.func 224) #[]<|bM bx] W' (Rb W'<|cn<|kg R (cv hs) x)):=by intro W' hW;refine uD rb B N x _ R _ (cv hs) W' (H0.a W'<|h1.k.trans<|Kx.of hW) H0.b Uo (fe h5.each) (λm w=>Tryz.call224 m w) λm L F B=>?_;exact AW bx m _ N N hs F (aF B<|aF hW h1.wI) h5.len hm L<|IB<|aF B<|aF hW h1.held
  have Y:J (∀W',Cl 296 #[cn<|kg R (cv hs) x,cn<|cv hs x] W'<|Rb W'<|i'<|Bf<|eP (kg R (cv hs) x)<|cv hs x):=λW'=>sd _ _ W' f r;have ee:J (∀(X:t') b,χ X (O b 0)=C' (Z ((cv hs x).1:Int))->χ X (O b 1)=C' (Z ((cv hs x).2:Int))->χ X (O b 2)=C' (Z ((kg R (cv hs) x).1:Int))->χ X (O b 3)=C' (Z ((kg R (cv hs) x).2:Int))->Cl 267 (rf b) X (Rb X<|cn<|e7 (cv hs x)<|kg R (cv hs) x)):=λX b T c1 c2 m=>fA X b _ _ r f T c1 c2 m;have B:=ſ λ(b:Bf (eP (kg R (cv hs) x)<|cv hs x)=Q') W' (L:C s W') (hT:kU W')=>H0.d.call s hs wt W' x h4 h5 U b L hT;have HAd:J (∀W' b,W'.1[ab]?=C' (Bi (eP wt<|cJ [x]) b)->Cl 211 #[n'<|C'<|O ab 0,cn<|(SU R N).getD x (0,0)] W' λe w'=>(∃v,e=o' v)/\w'.1[ab]?=C' (Bi (e7 (eP wt<|cJ [x])<|(SU R N).getD x (0,0)) b)/\Kx (·=ab) W' w'):=λW' b h=>Om ab _ _ b W' h pS<|DP hm x;have HSk:=ſ<|H0.c.skip s hs wt x h4 h5 U;have HSt:=ſ<|H0.c.step s hs wt x h4 h5 U;have L:=ſ λh=>Np (hs:=hs) (x:=x) (said:=kg R (cv hs) x) (by rw[h5.len];exact Uo) r h;have HX:=ſ<|M h1<|M h2<|M h3<|M h5<|M U<|M r f;obtain⟨T,c1,c2,m⟩:=iq h1.held (k:=x) (by rw[h5.len];exact Uo);rw[show hs.getD x (0,0)=cv hs x from rfl]at T c1;obtain⟨E,x2⟩:=A h1.sys;obtain⟨y1,y2⟩:=A h1.hold;clear h1 h2 h3 h4 h5 U r f c2 m;simp only[cn,cP]at z Y ee HAd B
  gi_wp2_with (refine⟨trivial,?_⟩;gi_at_call 226;refine(CallsIn.inRound l<|gw.2<|z.o _<|aP _ _).mono ?_;rintro e t ⟨rfl,b⟩;have r:=ſ b;clear b T c1 E x2 y1 y2)
  refine oP (F:=λV=>Code.wpIn _ _ _ _ _ _ V) λU HU=>?_;have m:=ſ λW' (b:Bl U W')=>M (aF b<|aF HU.a<|aF r.o HX.a.sys)<|M (aF b<|aF HU.a<|aF r.o HX.a.wI)<|M (aF b<|aF HU.a<|aF r.o HX.a.held)<|aF b HU.b;have HCe:J (∀W':t',W'.1[δ w.1+1+1]?=C' (j' (θ<|cI hs) 267 (0,0))->χ W' (O (δ w.1+1+1)<|x*2)=C' (Z ((cv hs x).1:Int))/\χ W' (O (δ w.1+1+1)<|x*2+1)=C' (Z ((cv hs x).2:Int))/\W'.frozen? (O (δ w.1+1+1)<|x*2)=Q'/\W'.frozen? (O (δ w.1+1+1)<|x*2+1)=Q'):=λW' h=>iq h (k:=x) (by rw[HX.d.len];exact Uo);refine á (l:=l) (λW'=>Bl U W') 8 (hS:=(aP _ _).drew) (h:=λaE=>?_);refine tt 0 (n'<|C'<|O w.1.size 2) (h:=?_);refine tt 1 mM (y:=λW' bm=>by have k1:=(A (m.o _ bm).1).1;clear aE bm;go_simp) (h:=?_);refine tt 2 (k' #[Z ((kg R (cv hs) x).1:Int),Z ((kg R (cv hs) x).2:Int)]) (y:=λW' bm=>by have k1:=(A (m.o _ bm).2.2.2).1;clear aE bm;go_simp) (h:=?_);refine tt 3 (h' (C'<|O (δ w.1+1+1) 0) N N) (y:=λW' bm=>by have k1:=(A (m.o _ bm).2.1).1;clear aE bm;go_simp) (h:=?_);refine tt 4 (G x) (h:=?_);refine tt 5 (n'<|C'<|O (δ w.1+1+1)<|x*2) (h:=?_);refine tt 6 (k' #[Z ((cv hs x).1:Int),Z ((cv hs x).2:Int)]) (y:=λW' bm=>by obtain⟨k1,k2,_,_⟩:=HCe.o _ (m.o _ bm).2.2.1;clear aE bm;go_simp) (h:=?_);refine rt 7 (h:=λK hK=>?_);go_simp;refine bE (Y.o _) ?_;rintro e F ⟨rfl,X⟩;have Ff:J (Bl U F):=aq aE X;clear X aE;refine hK.out _ _ (λ_=>Ff.o) ?_;clear hK K;refine pt ?_;refine dt (h:=?_);have T:=ſ<|aq r.o<|aq HU.a Ff.o;cases f:Bf (eP (kg R (cv hs) x)<|cv hs x)with
  |true=>
   gi_wp2
   refine⟨dJ T.o,s,hs,(eP wt<|cJ [x]).1,(eP wt<|cJ [x]).2,?_,pv,HK.o.keep _ _ _ _ (λ_=>False) (by rw[ZK.o];exact HX.a) (Kx.of T.o) (λ_ h=>h.elim) λ_ _ h=>h.elim,aF T.o HX.b,HX.c.keep λo u h=>aA h T.o,HSk.o f,HX.d.skip x I⟩;have:=ZR HX.d.wi HX.e;show ã hs (eP wt<|cJ [x])<ã hs wt;unfold ã;omega
  |false=>
   have E7:J (∀k,δ w.1<=k->¬S k):=λk h e=>by have:=H0.d.low k e;omega
   have xE:=ſ λW' (b:Kx S F W')=>M (b.box (aF T.o HX.a.sys)<|E7.o _ I)<|M (b.box (aF T.o HX.a.chg)<|E7.o _ I)<|M (b.box (aF T.o HX.a.held)<|E7.o _ I)<|M (b.box (aF T.o HX.a.wI)<|E7.o _ I)<|b.box (aF Ff.o HU.b)<|E7.o _ (by have:=HX.a.k.size;have:=r.o.size;omega);have b:J (∀W',Bl W W'->C s W'/\kU W'):=λW' h=>⟨H0.d.Oq _ _ _ HX.a.c λk hk=>h.block k<|ep (H0.d.low k hk) HX.a.k.size,HX.a.tab.below h⟩;have HC3:=ſ λW' (h:Bl W W')=>B.o f W' (b.o W' h).1 (b.o W' h).2;have aem:=ſ<|HSt.o f;have aen:=ſ<|L.o f;have r:=H0.d.fn;have sr:=ſ<|gG HX.f HX.F;clear B HSt L HSk m Y z f b;generalize kg R (cv hs) x=sa at *;generalize cv hs x=ho at *;generalize e7 ho sa=z at *
   gi_wp2
   refine á (l:=l) (λW'=>Kx S F W') 18 (hS:=vx.drewN 1) (h:=λaE=>?_);refine tt 0 (h' (C'<|O (δ w.1+1+1) 0) N N) (y:=λW' bm=>by have k1:=(A (xE.o _ bm).2.2.2.1).1;clear aE bm;go_simp) (h:=?_);refine tt 1 (G x) (h:=?_);refine tt 2 (.func (.func fk) #[] caps) (y:=λW' bm=>by have k1:=(A (xE.o _ bm).2.1).1;clear aE bm;go_simp) (h:=?_);refine tt 3 (G x) (h:=?_);refine tt 4 (h' (C'<|O (δ w.1+1+1) 0) N N) (y:=λW' bm=>by have k1:=(A (xE.o _ bm).2.2.2.1).1;clear aE bm;go_simp) (h:=?_);refine tt 5 (G x) (h:=?_);refine tt 6 (n'<|C'<|O (δ w.1+1+1)<|x*2) (h:=?_);refine tt 7 (lj ho.1 ho.2) (y:=λW' bm=>by obtain⟨k1,k2,_,_⟩:=HCe.o _ (xE.o _ bm).2.2.1;clear aE bm;go_simp) (h:=?_);refine tt 8 (n'<|C'<|O w.1.size 1) (h:=?_);refine tt 9 iP (y:=λW' bm=>by have k1:=(A (xE.o _ bm).1).1;clear aE bm;go_simp) (h:=?_);refine tt 10 (h' (C'<|O (δ w.1+1+1) 0) N N) (y:=λW' bm=>by have k1:=(A (xE.o _ bm).2.2.2.1).1;clear aE bm;go_simp) (h:=?_);refine tt 11 (G x) (h:=?_);refine tt 12 (n'<|C'<|O (δ w.1+1+1)<|x*2) (h:=?_);refine tt 13 (lj ho.1 ho.2) (y:=λW' bm=>by obtain⟨k1,k2,_,_⟩:=HCe.o _ (xE.o _ bm).2.2.1;clear aE bm;go_simp) (h:=?_);refine tt 14 (lj sa.1 sa.2) (y:=λW' bm=>by have k1:=(A (xE.o _ bm).2.2.2.2).1;clear aE bm;go_simp) (h:=?_);refine rt 15 (h:=λK hK=>?_);go_simp;refine hK.out _ _ (λ_=>aE.trans<|Kx.of aY) ?_;clear hK K;refine pt ?_;refine rt 16 (h:=λK hK=>?_);go_simp;refine bE (ee.o _ _ ak ak ak ak) ?_;rintro e W3 ⟨rfl,Y⟩;have D:J (Bl F W3):=aq (aq (aP _ _).drew aY) Y;clear Y aE;refine hK.out _ _ (λ_=>Kx.of D.o) ?_;clear hK K;refine pt ?_;refine rt 17 (h:=λK hK=>?_);go_simp;refine bE (HC3.o _<|aq T.o D.o) ?_;rintro e W4 ⟨rfl,b,f⟩;have H4:=ſ<|M b<|(Kx.of (S:=S) D.o).trans f;clear b f;refine hK.out _ _ (λ_=>H4.A) ?_;clear hK K;refine pt ?_;refine rt 18 (h:=λK hK=>?_);go_simp;refine hK.out _ _ (λh=>absurd h aj) ?_;clear hK K;refine pt ?_;refine rt 19 (h:=λK hK=>?_);obtain⟨U,k1,k2,f⟩:=HCe.o _ (xE.o _ H4.A).2.2.1;go_simp;refine hK.out _ _ (λh=>absurd h aj) ?_;clear hK K U k1 k2 f;refine pt ?_;refine dt (h:=?_);have YH:Kx S W W4:=(Kx.of T.o).trans H4.A;generalize Qo:κ (κ W4 (O (δ w.1+1+1)<|x*2)<|Z z.1) (O (δ w.1+1+1)<|x*2+1) (Z z.2)=W5;have hk5:Kx (λk=>S k\/k=δ w.1+1+1\/k=ab) W W5:=by rw[<-Qo];refine Kx.set (Kx.set (YH.mono λk _ h=>aI h) ?_ _ _) ?_ _ _<;>exact aI<|aH<|aI rfl
   have YG:∀q,δ w.1<=q->q≠δ w.1+1+1->∀o,W.1[q]?=C' o->W5.1[q]?=C' o:=λq h1 h2 o h=>by rw[<-Qo,bh _ _ _ _ h2,bh _ _ _ _ h2];exact YH.box h<|E7.o q h1
   have b:=HX.a.hl;have f:=ſ<|M (show W5.1[δ w.1+1+1]?=C' (j' (θ<|cI<|hs.set x z) 267 (0,0))by rw[<-Qo];exact xC (s:=z) (xE.o _ H4.A).2.2.1 (k:=x) (by rw[HX.d.len];exact Uo))<|M hk5<|M (H0.d.Oq _ _ W5 H4.a (λk hk=>by have:=H0.d.low k hk;have b:k≠δ w.1+1+1:=I;rw[<-Qo,bh _ _ _ _ b,bh _ _ _ _ b]))<|M (YG ab I I _ HX.b)<|M (YG J? I I _ HX.a.rbc)<|M (YG g I I _ HX.a.rdr) (HX.c.keep (w':=W5) λo u h=>by rw[<-Qo];exact(bF (by have b:pb≠δ w.1+1+1:=I;rw[bh _ _ _ _ b,bh _ _ _ _ b])).trans<|YH.cell h H0.d.pk);have hrl:ζ (SU R N)=N:=p! _ _ _;obtain⟨U,k1,_,_⟩:=iq f.f (k:=x) (by rw[hrl];exact Uo);obtain⟨y1,y2⟩:=A f.e;have HRd:=ſ<|M (DP (R:=R) hm x)<|Xr H0.b x;generalize(SU R N).getD x (0,0)=rx at *;clear Qo hk5 YG YH hrl HC3 ee xE
   gi_wp2_with (refine⟨trivial,?_⟩;gi_at_call 211;refine(CallsIn.inRound l<|gw.2<|HAd.o _ _ f.d).mono ?_;rintro e W6 ⟨⟨v,rfl⟩,b,hk6⟩;have H6:=ſ<|M b hk6;clear b hk6)
   have hk6:Kx (λk=>S k\/k=δ w.1+1+1\/k=ab) W W6:=f.b.trans (H6.A.mono λk _ h=>aH<|aH h);refine⟨hk6.others ?_,nx s x ho z,hs.set x z,(e7 (eP wt<|cJ [x]) rx).1,(e7 (eP wt<|cJ [x]) rx).2,?_,pv,?_,H6.a,?_,aem.o,HX.d.step x I sr.o HRd.a HRd.A⟩
   .rintro k o (h|h|h) hk
    .exact H0.d.cel s W k o HX.a.c h hk
    .subst h;rw[HX.a.held]at hk;cases hk;rfl
    subst h;rw[HX.b]at hk;cases hk;rfl
   .have:=nY<|e7 (eP wt<|cJ [x]) rx;have V:=aen.o;show ã (hs.set x z) (e7 (eP wt<|cJ [x]) rx)<ã hs wt;unfold ã;omega
   .rw[ZK.o];refine HX.a.OE H0.d.low H0.d.tab hk6 (H0.d.Oq _ _ _ f.c λk hk=>?_) (dh<|H0.e 0 aj)<|H6.A.box f.a I;have:=H0.d.low k hk;exact H6.A.keep k (by have:=f.b.size;have:=HX.a.k.size;omega) I
   exact f.F.keep λo u h=>H6.A.cell h I
 rintro D ⟨s,hs,wt⟩ W t ⟨h1,h2,h3⟩ hK;simp only at h1 h2 h3;rw[ZK.o]at h1;have b:D≠bx:=by have:=h1.gl;have:=h1.rl;have:=h1.al;have:=h1.ql;omega
 obtain⟨E,x2⟩:=A h1.wI;go_wp2_with fail;refine⟨ak,.inl ⟨_,_,rfl,run_takeDeferred hK,?_⟩⟩;have b:=grownBy_putObj' W D<|.deferred D';have hx:Kx (λk=>k=D) W (W.putObj D<|.deferred D'):=⟨b.os,b.tape,b.output,b.size,λk hk f=>b.block k hk λe=>f (by cases e;rfl)⟩;have h1':=h1.keep H0.d.low H0.d.Oq (dh<|H0.e 0 aj) hx (λk e=>by subst e;right;omega);exact⟨h' (C'<|O (δ w.1+1+1) 0) N N,by simp[results151,go_sem],s,hs,rfl,h1'.held,h1'.c,h1'.k,h2,h3.len,h3.each⟩
end
section
variable {i:u'}{m:List z'}
def Q6(s:z'):Bool:=match s.1.1 with|c::_=>Wm.mV c|[]=>Q'
def uW(s:z')(h:0<s.size):Q6 s=Wm.mV s[0]:=by
 have e:s.1.1=s[0]::s.1.1.drop 1:=by have:=N? s 0 h;rwa[C6]at this
 rw[Q6,e]
def ă(ws:List z')(lP:Bool)(os:List z'):Prop:=
 (∃x e i,ws=[x,e,i]/\lP=P'/\(e.toList==[61])=P'/\(i.toList==[105,110,112,117,116])=P'/\os=[])\/
 (∃x e a,ws=[x,e,a]/\lP=P'/\(e.toList==[61])=P'/\(a.toList==[105,110,112,117,116])=Q'/\os=[a])\/
 (∃x e a o b,ws=[x,e,a,o,b]/\lP=P'/\(e.toList==[61])=P'/\(a.toList==[105,110,112,117,116])=Q'/\os=[a,b])\/
 (∃o a,ws=[o,a]/\lP=Q'/\(a.toList==[61])=Q'/\(o.toList==[111,117,116,112,117,116])=P'/\os=[a])\/
 (∃f a t b d l,ws=[f,a,t,b,d,l]/\lP=Q'/\(a.toList==[61])=Q'/\(f.toList==[111,117,116,112,117,116])=Q'/\(f.toList==[105,102])=P'/\os=[a,b])\/
 (∃o a,ws=[o,a]/\lP=Q'/\(a.toList==[61])=Q'/\(o.toList==[111,117,116,112,117,116])=Q'/\(o.toList==[105,102])=Q'/\os=[])\/
 (∃o,ws=[o]/\lP=Q'/\(o.toList==[111,117,116,112,117,116])=Q'/\(o.toList==[105,102])=Q'/\os=[])
def E?(vs:List bD)(lP:Bool)(ws:List z'):List bD×Int:=match lP,ws with|true,x::_=>(cZ vs x.1.1,fY vs x.1.1)|_,_=>(vs,-1)
def Bk(w:t')(la:u')(os:List z')(vb:Option Nat)(ev:A'):Prop:=os=[]\/∃ob,la=C' (O ob 0)/\Ws w ob 0 os/\vb≠C' ob/\φ ev≠C' ob
structure oN(w wx:t')(tb xb g off c:Nat)(ws:List z')(lm:List LM)(im:List UM)(vs es:List bD)(lv ev iv:A')(vb:Option Nat)(tg:Int)(uv:A')(ow:Int):Prop where
  tx:Tg wx tb lm im vs es lv ev iv vb
  box:wx.1[xb]?=C' (j' #[h' (C'<|O g off) (ζ ws) c,G tg,uv,G ow] 188 (0,0))
  kf:Ws wx g off ws
  gv:vb≠C' g
  ge:φ ev≠C' g
  low:Below tb w wx
  nx:δ w.1<=xb
  Wb:tb<=xb
  lb:∀k,φ lv=C' k->k<xb
section
variable {w W W':t'}{tb xb g off c:Nat}{ws:List z'}{lm:List LM}{im:List UM}{vs rR es:List bD}{lv ev iv:A'}{vb FA:Option Nat}{tg:Int}{uv:A'}{ow:Int}
def oN.Wa(h:oN w W tb xb g off c ws lm im vs es lv ev iv vb tg uv ow):tb<δ W.1:=h.tx.tp.lt
def oN.var(h:oN w W tb xb g off c ws lm im vs es lv ev iv vb tg uv ow)(Y:RF tb vb W W')(U:Tp W' tb (tb+1) lv ev iv rR FA)(K:mU W vb FA):oN w W' tb xb g off c ws lm im rR es lv ev iv FA tg uv ow:=by
 obtain⟨u,r,o,z⟩:=h.tx.tp.box;have s:xb≠tb:=λe=>by have:=h.box;rw[e,r]at this;simp at this
 have x:some xb≠vb:=λe=>dH o h.box aj<|z.trans e.symm;have b:g≠tb:=λe=>by obtain⟨a,T,_⟩:=h.kf;rw[e,r]at T;simp at T
 refine⟨h.tx.var Y U K,(Y.block xb (À h.box) s x).trans h.box,h.kf.of_block<|Y.block g h.kf.lt b λe=>h.gv e.symm,λe=>mU.ne K h.kf.lt (λe=>h.gv e.symm) e.symm,h.ge,?_,h.nx,h.Wb,h.lb⟩;refine⟨Y.os.trans h.low.os,Y.tape.trans h.low.tape,Y.output.trans h.low.output,br h.low.size Y.size,λk a=>(Y.block k (L' h.Wa) I λe=>?_).trans<|h.low.block k a⟩;have:=(o.lt k<|z.trans e.symm).1;omega
def oN.below(h:oN w W tb xb g off c ws lm im vs es lv ev iv vb tg uv ow)(a:Bl W W'):oN w W' tb xb g off c ws lm im vs es lv ev iv vb tg uv ow:=
 ⟨h.tx.below a,aF a h.box,o5 a _ _ _ h.kf,h.gv,h.ge,h.low.trans<|a.mono<|L' h.Wa,h.nx,h.Wb,h.lb⟩
def oN.gx(h:oN w W tb xb g off c ws lm im vs es lv ev iv vb tg uv ow):g≠xb/\xb≠g:=by
 have a:g≠xb:=λe=>by obtain⟨Y,T,_⟩:=h.kf;rw[e,h.box]at T;simp at T
 exact⟨a,a.symm⟩
def oN.os(h:oN w W tb xb g off c ws lm im vs es lv ev iv vb tg uv ow)(l:List z')(a:Array A')(k:Nat)(d:a.toList=l.map m')(b:k=δ W.1):Bk (W.alloc<|j' a 9) (C'<|O k 0) l vb ev:=by
 subst b;refine aH ⟨_,rfl,⟨a,bj _ _,by rw[C6,d];exact b! ak⟩,λe=>?_,λe=>?_⟩
 .have:=(h.tx.tp.vlt _ e).2;omega
 have:=(h.tx.kB.lt _ e).2;omega
def oN.put(h:oN w W tb xb g off c ws lm im vs es lv ev iv vb tg uv ow){b:Int}{bl:A'}{f:Int}(o:Nat)(v:A')(e:(#[h' (C'<|O g off) (ζ ws) c,G tg,uv,G ow]:Array A').setIfInBounds o v=#[h' (C'<|O g off) (ζ ws) c,G b,bl,G f]):oN w (κ W (O xb o) v) tb xb g off c ws lm im vs es lv ev iv vb b bl f:=by
 obtain⟨u,r,d,z⟩:=h.tx.tp.box;have s:tb≠xb:=λe=>by have:=h.box;rw[<-e,r]at this;simp at this
 have f:g≠xb:=λe=>by obtain⟨Y,T,_⟩:=h.kf;rw[e,h.box]at T;simp at T
 have y:∀k,k≠xb->(κ W (O xb o) v).1[k]?=W.1[k]?:=λk b=>bh _ _ _ _ b;have a:∀{e size n:Nat} {u:A'} {D:List A'},ρ W (tb+1) e size u n D->e≠188->∀k,φ u=C' k->(κ W (O xb o) v).1[k]?=W.1[k]?:=λi l k b=>y k (λo=>dH i h.box l<|by rw[b,o]);refine⟨h.tx.keep ⟨λk b=>y k<|L'<|h.lb k b,a h.tx.kB aj,a h.tx.ins aj,λx F=>a (h.tx.uses x F) aj,λu C=>a (h.tx.qT u C) aj⟩ (h.tx.tp.jJ (y tb s) λk b=>a d aj k<|z.trans b) h.tx.ne,?_,h.kf.of_block<|y g f,h.gv,h.ge,h.low.setCell h.Wb v,h.nx,h.Wb,h.lb⟩;rw[aw h.box,e]
def oN.grow{n:Nat}{q:A'}{D:List A'}(h:oN w W tb xb g off c ws lm im vs es lv ev iv vb tg uv ow)(C:ρ W B 3 1 q n D)(d:ξ W W'<|φ q)(v:tb<B)(i:∀x∈lm,∀k,φ x.u.v=C' k->some k≠φ q)(S:∀u∈im,∀k,φ u.v=C' k->some k≠φ q):oN w W' tb xb g off c ws lm im vs es lv ev iv vb tg uv ow:=by
 obtain⟨m,r,o,z⟩:=h.tx.tp.box
 have a:∀{e size n:Nat} {u:A'} {D:List A'},ρ W (tb+1) e size u n D->e≠3->∀k,φ u=C' k->W'.1[k]?=W.1[k]?:=λi l k b=>d.block k (i.lt k b).2 (λj=>by
  rcases bY i C l with f|f
  .rw[b]at f;cases f
  .exact f<|b.trans j)
 have m:∀{k t:Nat} {L:Array A'} {f:Nat×Nat},W.1[k]?=C' (j' L t f)->3≠t->W'.1[k]?=W.1[k]?:=λb l=>d.block _ (À b) λj=>dH C b l j.symm;obtain⟨Y,T,_⟩:=h.kf;refine⟨h.tx.keep ⟨a h.tx.lines aj,a h.tx.kB aj,a h.tx.ins aj,λx F k b=>d.block k ((h.tx.uses x F).lt k b).2<|i x F k b,λu C k b=>d.block k ((h.tx.qT u C).lt k b).2<|S u C k b⟩ (h.tx.tp.jJ (m r aj) λk b=>a o aj k<|z.trans b) h.tx.ne,(m h.box aj).trans h.box,h.kf.of_block<|m T aj,h.gv,h.ge,?_,h.nx,h.Wb,h.lb⟩;refine⟨d.os.trans h.low.os,d.tape.trans h.low.tape,d.output.trans h.low.output,br h.low.size d.size,λk b=>(d.block k (L' h.Wa) λe=>?_).trans<|h.low.block k b⟩;have:=(C.lt k e.symm).1;omega
def E4.var{u:UM}(h:E4 W B u)(b:oN w W tb xb g off c ws lm im vs es lv ev iv vb tg uv ow)(Y:RF tb vb W W'):E4 W' B u:=by
 obtain⟨u,r,o,z⟩:=b.tx.tp.box;refine dY h λk a=>Y.block k (h.lt k a).2 (λe=>dH h r aj<|by rw[a,e]) λe=>?_;rcases bY h o aj with C|C
 .rw[a]at C;cases C
 rw[a,z]at C;exact C e
def Bk.var(h:Bk W i m vb ev)(e:oN w W tb xb g off c ws lm im vs es lv ev iv vb tg uv ow)(j:RF tb vb W W')(K:mU W vb FA):Bk W' i m FA ev:=by
 rcases h with h|⟨b,C,a,N,d⟩
 .exact aI h
 obtain⟨u,r,o,z⟩:=e.tx.tp.box;have f:b≠tb:=λe=>by obtain⟨Y,T,_⟩:=a;rw[e,r]at T;simp at T
 exact aH ⟨b,C,a.of_block<|j.block b a.lt f λe=>N e.symm,λe=>mU.ne K a.lt (λe=>N e.symm) e.symm,d⟩
def Bk.keep(h:Bk W i m vb ev)(e:∀(k:Nat)(L:Array A')(f:Nat×Nat),W.1[k]?=C' (j' L 9 f)->W'.1[k]?=W.1[k]?):Bk W' i m vb ev:=by
 rcases h with h|⟨b,C,a,N,d⟩
 .exact aI h
 obtain⟨Y,T,_⟩:=id a;exact aH ⟨b,C,a.of_block<|e b _ _ T,N,d⟩
end
def Gy(q:List bD×List Int)(s:z'):List bD×List Int:=if Q6 s then(cZ q.1 s.1.1,q.2++[fY q.1 s.1.1]) else q
def i7(q:List bD×List Int)(os:List z'):List bD×List Int:=os.foldl Gy q
def PB(q:List bD×List Int){i:Nat}{s:z'}(h:m[i]?=C' s):i7 q (m.take<|i+1)=Gy (i7 q<|m.take i) s:=by obtain⟨X,e⟩:=aV.1 h;rw[i7,cX X,uz,e];rfl
def XL(q:List bD×List Int)(s:z'):ζ (Gy q s).1<=ζ q.1+1/\ζ (Gy q s).2<=ζ q.2+1:=by
 unfold Gy;split
 .exact⟨j4 _ _,ak⟩
 exact⟨I,I⟩
def ti:∀(m:List z')(q:List bD×List Int),ζ (i7 q m).1<=ζ q.1+ζ m/\ζ (i7 q m).2<=ζ q.2+ζ m
 |[],q=>⟨aD _,aD _⟩
 |s::r,q=>by have C:=XL q s;have a:=ti r<|Gy q s;have e:i7 q (s::r)=i7 (Gy q s) r:=rfl;rw[e,bR];omega
end
section
variable {q v d:A'}{u:UM}
section
variable {w W W4:t'}{tb xb g off c:Nat}{ws:List z'}{lm:List LM}{im:List UM}{vs es:List bD}{lv ev iv:A'}{vb:Option Nat}{tg:Int}{uv:A'}{ow:Int}
def nX(d:ξ W W4<|φ q):∀k,k<δ W.1->k≠tb->some k≠φ q->(κ W4 (O tb o) v).1[k]?=W.1[k]?:=λk a C b=>(bh _ _ _ _ C).trans<|d.block k a b
def cW{B e size n:Nat}{u:A'}{D:List A'}{L:Array A'}(f:ξ W W4<|φ q)(d:W.1[tb]?=C' (j' L 103 (0,0)))(h:ρ W B e size u n D)(l:e≠103)(K:φ u=D'\/φ u≠φ q):ρ (κ W4 (O tb o) v) B e size u n D:=
 dY h λk a=>nX f k (h.lt k a).2 (λb=>dH h d l<|by rw[a,b]) (λb=>by
  rcases K with C|C
  .rw[a]at C;cases C
  .exact C<|a.trans b)
def R8{p:Prop}(h:p:=by
 exact dY t λk m=>bh _ _ _ _ λo=>dH t v aj<|by rw[m];exact cQ C' o):p:=h
def oN.exp{b:A'}{e:z'}(h:oN w W tb xb g off c ws lm im vs es lv ev iv vb tg uv ow)(j:ξ W W4<|φ ev)(t:ρ W4 (tb+1) 9 1 b (ζ es+1)<|es.map strOf++[m' e])(X:φ b=φ ev\/∃q,φ b=C' q/\δ W.1<=q):oN w (κ W4 (O tb 2) b) tb xb g off c ws lm im vs (es++[e.1.1]) lv b iv vb tg uv ow:=by
 obtain⟨u,r,p,z⟩:=h.tx.tp.box;have U:=À r;have l:some tb≠φ ev:=λo=>dH h.tx.kB r aj o.symm;have v:=(j.block tb U l).trans r;have f:=nX (tb:=tb) (o:=2) (v:=b) j;have i:xb≠tb:=λe=>by have:=h.box;rw[e,r]at this;simp at this
 have ng:g≠tb:=λe=>by obtain⟨Y,T,_⟩:=h.kf;rw[e,r]at T;simp at T
 have a:∀k,k<δ W.1->φ ev≠C' k->φ b≠C' k:=λk m C o=>by
  rcases X with s|⟨q,s,N⟩
  .exact C<|s.symm.trans o
  rw[s]at o;cases o;omega
 have d:(es++[e.1.1]).map strOf=es.map strOf++[m' e]:=by simp[strOf]
 refine⟨⟨⟨⟨u,?_,cW j r p aj ?_,z⟩,h.tx.tp.nodup⟩,cW j r h.tx.lines aj<|bY h.tx.lines h.tx.kB aj,?_,cW j r h.tx.ins aj<|bY h.tx.ins h.tx.kB aj,λx F=>cW j r (h.tx.uses x F) aj<|bY (h.tx.uses x F) h.tx.kB aj,λu b=>cW j r (h.tx.qT u b) aj<|bY (h.tx.qT u b) h.tx.kB aj,λk m=>a k (h.tx.tp.vlt k m).2<|h.tx.ne k m⟩,(f xb (À h.box) i λo=>dH h.tx.kB h.box aj o.symm).trans h.box,h.kf.of_block<|f g h.kf.lt ng λo=>h.ge o.symm,h.gv,a g h.kf.lt h.ge,?_,h.nx,h.Wb,h.lb⟩
 .rw[aw v];rfl
 .rw[z];cases R:vb with
  |none=>exact aI rfl
  |some k=>exact aH λo=>h.tx.ne k R o.symm
 .rw[d,aW];exact R8
 refine⟨j.os.trans h.low.os,j.tape.trans h.low.tape,j.output.trans h.low.output,?_,λk m=>(f k I I λo=>?_).trans<|h.low.block k m⟩
 .have C:=h.low.size;have s:=j.size;simp only[World.setCell,Jm];omega
 have:=(h.tx.kB.lt k o.symm).1;omega
def oN.inr(h:oN w W tb xb g off c ws lm im vs es lv ev iv vb tg uv ow)(a:ξ W W4<|φ iv)(t:ρ W4 (tb+1) 36 1 d (ζ im+1)<|im.map UM.v++[u.v])(p:E4 W (tb+1) u):oN w (κ W4 (O tb 3) d) tb xb g off c ws lm (im++[u]) vs es lv ev d vb tg uv ow:=by
 obtain⟨u,r,b,z⟩:=h.tx.tp.box;have U:=À r;have l:some tb≠φ iv:=λo=>dH h.tx.ins r aj o.symm;have v:=(a.block tb U l).trans r;have f:=nX (tb:=tb) (o:=3) (v:=d) a;have i:xb≠tb:=λe=>by have:=h.box;rw[e,r]at this;simp at this
 obtain⟨Y,T,_⟩:=id h.kf;have ng:g≠tb:=λe=>by rw[e,r]at T;simp at T
 refine⟨⟨⟨⟨u,?_,cW a r b aj<|bY b h.tx.ins aj,z⟩,h.tx.tp.nodup⟩,cW a r h.tx.lines aj<|bY h.tx.lines h.tx.ins aj,cW a r h.tx.kB aj<|bY h.tx.kB h.tx.ins aj,?_,λx F=>cW a r (h.tx.uses x F) aj<|bY (h.tx.uses x F) h.tx.ins aj,λq b=>?_,h.tx.ne⟩,(f xb (À h.box) i λo=>dH h.tx.ins h.box aj o.symm).trans h.box,h.kf.of_block<|f g h.kf.lt ng λo=>dH h.tx.ins T aj o.symm,h.gv,h.ge,?_,h.nx,h.Wb,h.lb⟩
 .rw[aw v];rfl
 .rw[aW,eR];exact R8
 .rcases eC.1 b with C|C
  .exact cW a r (h.tx.qT q C) aj<|bY (h.tx.qT q C) h.tx.ins aj
  simp at C;subst C;exact cW a r p aj<|bY p h.tx.ins aj
 refine⟨a.os.trans h.low.os,a.tape.trans h.low.tape,a.output.trans h.low.output,?_,λk m=>(f k I I λo=>?_).trans<|h.low.block k m⟩
 .have C:=h.low.size;have b:=a.size;simp only[World.setCell,Jm];omega
 have:=(h.tx.ins.lt k o.symm).1;omega
def oN.line(h:oN w W tb xb g off c ws lm im vs es lv ev iv vb tg u.v ow)(a:ξ W W4<|φ lv)(t:ρ W4 (tb+1) 188 4 d (ζ lm+1)<|jr lm++LM.cells ⟨C'<|O g off,ζ ws,c,tg,u,ow⟩)(j:E4 W (tb+1) u):Tg (κ W4 (O tb 0) d) tb (lm++[⟨C'<|O g off,ζ ws,c,tg,u,ow⟩]) im vs es d ev iv vb/\Below tb w (κ W4 (O tb 0) d):=by
 obtain⟨b,r,e,z⟩:=h.tx.tp.box;have U:=À r;have l:some tb≠φ lv:=λo=>dH h.tx.lines r aj o.symm;have v:=(a.block tb U l).trans r;have f:=nX (tb:=tb) (o:=0) (v:=d) a;refine⟨⟨⟨⟨b,?_,cW a r e aj<|bY e h.tx.lines aj,z⟩,h.tx.tp.nodup⟩,?_,cW a r h.tx.kB aj<|bY h.tx.kB h.tx.lines aj,cW a r h.tx.ins aj<|bY h.tx.ins h.tx.lines aj,λx F=>?_,λq d=>cW a r (h.tx.qT q d) aj<|bY (h.tx.qT q d) h.tx.lines aj,h.tx.ne⟩,?_⟩
 .rw[aw v];rfl
 .rw[aW,show jr (lm++[(⟨C'<|O g off,ζ ws,c,tg,u,ow⟩:LM)])=jr lm++LM.cells ⟨C'<|O g off,ζ ws,c,tg,u,ow⟩by simp[jr]];exact R8
 .rcases eC.1 F with C|C
  .exact cW a r (h.tx.uses x C) aj<|bY (h.tx.uses x C) h.tx.lines aj
  simp at C;subst C;exact cW a r j aj<|bY j h.tx.lines aj
 refine⟨a.os.trans h.low.os,a.tape.trans h.low.tape,a.output.trans h.low.output,?_,λk m=>(f k I I λo=>?_).trans<|h.low.block k m⟩
 .have C:=h.low.size;have d:=a.size;simp only[World.setCell,Jm];omega
 have:=(h.tx.lines.lt k o.symm).1;omega
end
end
section
variable {f l:t'}{a g:Nat}{R:List z'}{P:List UM}{E:List bD}{r d:A'}{b:Int}{u:UM}
def ada:(Tryz.prog.info? 36).map (λi=>(i.zero,i.size,i.bytes))=C' (C'<|h' D' 0 0,1,24):=H
def ac9:(Tryz.prog.info? 188).map (λi=>(i.zero,i.size,i.bytes))=C' (C'<|k' #[h' D' 0 0,G 0,h' D' 0 0,G 0],4,64):=H
def FJ{e size:Nat}{q:A'}{D:List A'}{L:Array A'}(b:W.1[a]?=C' (j' L 103 (0,0)))(c:ρ W B e size q n D)(d:e≠103)(B:Bl W f)(e:ξ f l<|φ q):l.1[a]?=C' (j' L 103 (0,0)):=
 (e.block a (ep (À b) B.size) λo=>dH c b d o.symm).trans (aF B b)
def adf{p:List LM}{m:List bD}{e:A'}{k:Option Nat}{o:Int}(h:oN w W a i g t c R p P E m r e y k b u.v o)(C:E4 W (i+1) u)(B:Bl W f)(j:ξ f l<|φ y)(s:ρ l (a+1) 36 1 d (ζ P+1)<|P.map UM.v++[h' u.a (ζ u.us) u.c])(F:a<=i):oN w (κ l (O a 3) d) a i g t c R p (P++[u]) E m r e d k b u.v o/\E4 (κ l (O a 3) d) (i+1) u:=by have a:=h.below B;have e:E4 f (i+1) u:=dY C λq b=>B.block q (C.lt q b).2;obtain⟨u,r,_,_⟩:=a.tx.tp.box;exact⟨a.inr j s<|bC e I,cW j r e aj<|bY e a.tx.ins aj⟩
def EO(W:t')(a b c d:A')(t:TypeId)(k:Nat)(e:k=δ W.1):∀j u,[a,b,c,d][j]?=C' u->χ (W.alloc<|j' #[a,b,c,d] t) (((O k 0):Addr).add j)=C' u:=by subst e;intro j u f;obtain⟨E,_⟩:=A<|bj W<|j' #[a,b,c,d] t;rw[fH,bW,E,<-f];simp
def acN{e:List LM}{o:List bD}{k:A'}{m:Option Nat}{j:Int}(h:oN w W a i g t c R e P E o r k y m b u.v j)(C:E4 W (i+1) u)(B:Bl W f)(p:ξ f l<|φ r)(r:ρ l (a+1) 188 4 d (ζ e+1)<|jr e++[h' (C'<|O g t) (ζ R) c,G b,h' u.a (ζ u.us) u.c,G j]):Tg (κ l (O a 0) d) a (e++[⟨C'<|O g t,ζ R,c,b,u,j⟩]) P E o d k y m/\Below a w (κ l (O a 0) d):=by have a:=h.below B;have e:E4 f (i+1) u:=dY C λq b=>B.block q (C.lt q b).2;exact a.line p r<|bC e<|L' h.Wb
def XJ{b k:Nat}{a:u'}{l:List bD}{y:bD}(h:ρ w B 9 1 (h' a n b) n<|l.map strOf)(c:l[k]?=C' y):∃g,a=C' (O g 0)/\χ w (O g k)=C' (strOf y):=by
 have X:=h.1;have Bb:=(aV.1 c).1;rw[bA,rJ]at X;rcases h.2 with⟨_,e⟩|⟨g,u,Y,R,_⟩
 .omega
 simp at R;obtain⟨rfl,rfl⟩:=R;refine⟨g,rfl,?_⟩;rw[h.cellAt k I,bH,c];rfl
def Ib(ws:List z'):bD:=match ws with|[_,_,a,o,b]=>a.1.1++[32]++o.1.1++[32]++b.1.1|_=>[]
def ExR(bb:Bool)(e:bD)(es:List bD)(im:List UM)(u:UM)(ow:Int)(Qx:List bD)(ah:List UM):Prop:=
 (bb=Q'/\Qx=es/\ah=im/\ow=-1)\/(bb=P'/\((Qx=es/\ah=im/\∃k:Nat,es[k]?=C' e/\ow=(k:Int))\/(e∉es/\Qx=es++[e]/\ah=im++[u]/\ow=(ζ es:Int))))
structure Ķ(ws os:List z')(lP:Bool)(vs es:List bD)(im:List UM)(x:LM)(rR Qx:List bD)(ah:List UM):Prop where
  vss:rR=(i7 ((E? vs lP ws).1,[]) os).1
  us:x.u.us=(i7 ((E? vs lP ws).1,[]) os).2
  lM:x.lM=(E? vs lP ws).2
  ex:ExR (lP&&decide (ζ os=2)&&decide (0<ζ x.u.us)) (Ib ws) es im x.u x.own Qx ah
def UE(tb g off c:Nat)(R m:List z')(lP:Bool)(lm:List LM)(im:List UM)(E es:List bD)(lv ev iv:A')(vb:Option Nat)(w:t')(b:Tg w tb lm im E es lv ev iv vb)(hW:Ws w g off R)(h:vb≠C' g)(u:φ ev≠C' g)(z:ă R lP m)(a:∀s∈R,0<s.size/\s.size<=3000)(F:lP=P'->∀x r,R=x::r->Q6 x=P')(v:ζ E<10000)(v:ζ es<9000)(v:ζ im<9000)(v:ζ lm<9000):
  Cl 100 (ko tb g off (ζ R) c) w λe w'=>(∃v,e=o' v)/\Below tb w w'/\∃x v Qx N mw S P? FA,Tg w' tb (lm++[x]) N v Qx mw S P? FA/\Ķ R m lP E es im x v Qx N:=by
 have v:=b.tp.lt;have HH:=ſ<|M b<|M hW<|M h<|M u<|M a F;clear b hW h u a F;go_enter func100,ntmps100
 go_upto_block 0 with fail
 refine oP (F:=Code.wp _ _ _ _) λV B=>?_
 have T:J (oN w V tb w.1.size g off c R lm im E es lv ev iv vb (-1) (h' D' 0 0)<|-1):=
  ⟨HH.a.below B.a,B.b,o5 B.a _ _ _ HH.b,HH.c,HH.d,B.a.mono I,aD _,I,λk hk=>(HH.a.lines.lt k hk).2⟩
 clear B;generalize j:δ w.1=xb at T|-
 go_cut [5] from 10 (λl wx=>∃(la:u')(lc:Nat)(B:Option Nat),l=h' la (ζ m) lc/\J (oN w wx tb xb g off c R lm im (E? E lP R).1 es lv ev iv B (E? E lP R).2 (h' D' 0 0) (-1)/\Bk wx la m B ev))
 case first=>
  rcases z with⟨x,e,i,rfl,rfl,Q,t2,rfl⟩|⟨x,e,a,rfl,rfl,Q,t2,rfl⟩|⟨x,e,a,o,b,rfl,rfl,Q,t2,rfl⟩|⟨o,a,rfl,rfl,Q,t2,rfl⟩|⟨f,a,t,b,d,l,rfl,rfl,Q,t2,t3,rfl⟩|⟨o,a,rfl,rfl,Q,t2,t3,rfl⟩|⟨o,rfl,rfl,Q,t2,rfl⟩
  .have c0:=T.o.kf.cell 0 x rfl;rw[k!]at c0;have Q:=T.o.kf.cell 1 e rfl;have t:=T.o.gx;have U:=HH.e x ak;have l:=HH.E rfl x _ rfl;rw[uW x U.1]at l;have d:=ſ<|wX x tb (tb+1) lv ev iv E vb V I (L' T.o.Wa) I T.o.tx.tp U.1 l;clear l U;go_wp2_with (go_at_call 174;refine d.o.mono ?_;rintro r W1 ⟨rfl,B,ht,Y,K⟩;have H1:=ſ<|T.o.var Y ht K;clear ht Y K c0 Q;have y2:=A H1.o.box;have p:=H1.o.kf.cell 2 i rfl)
   go_meet
   exact⟨D',0,B,rfl,H1.o.put 1 _ rfl,aI rfl⟩
  .have c0:=T.o.kf.cell 0 x rfl;rw[k!]at c0;have Q:=T.o.kf.cell 1 e rfl;have t:=T.o.gx;have U:=HH.e x ak;have l:=HH.E rfl x _ rfl;rw[uW x U.1]at l;have d:=ſ<|wX x tb (tb+1) lv ev iv E vb V I (L' T.o.Wa) I T.o.tx.tp U.1 l;clear l U;go_wp2_with (go_at_call 174;refine d.o.mono ?_;rintro r W1 ⟨rfl,B,ht,Y,K⟩;have H1:=ſ<|T.o.var Y ht K;clear ht Y K c0 Q;have y2:=A H1.o.box;have p:=H1.o.kf.cell 2 a rfl)
   go_meet
   exact⟨_,1,B,rfl,(H1.o.put 1 _ rfl).below aY,(H1.o.put 1 _ rfl).os [a] _ _ rfl (by simp[World.setCell])⟩
  .have c0:=T.o.kf.cell 0 x rfl;rw[k!]at c0;have Q:=T.o.kf.cell 1 e rfl;have t:=T.o.gx;have U:=HH.e x ak;have l:=HH.E rfl x _ rfl;rw[uW x U.1]at l;have d:=ſ<|wX x tb (tb+1) lv ev iv E vb V I (L' T.o.Wa) I T.o.tx.tp U.1 l;clear l U;go_upto_region 7 with(go_at_call 174;refine d.o.mono ?_;rintro r W1 ⟨rfl,B,ht,Y,K⟩;have H1:=ſ<|T.o.var Y ht K;clear ht Y K c0 Q;have y2:=A H1.o.box;have p:=H1.o.kf.cell 2 a rfl)
   have l:=ſ<|(H1.o.put 1 (G<|fY E x.1.1) rfl).below<|cE _<|j' #[m' a] 9;clear y2 p d H1 t;generalize(κ W1 (O xb 1)<|G<|fY E x.1.1).alloc (j' #[m' a] 9)=W2 at l|-;have d2:=l.o.kf.cell 2 a rfl;have d:=l.o.kf.cell 4 b rfl
   go_region_held3 (λw'=>χ w' (O g<|off+2)=C' (m' a)/\χ w' (O g<|off+4)=C' (m' b)) (go_keep) (fail)
   all_goals
    go_wp2_with fail
    go_meet
    exact⟨_,2,B,rfl,l.o.below aY.drew,l.o.os [a,b] _ _ rfl rfl⟩
  .have c0:=T.o.kf.cell 0 o rfl;rw[k!]at c0;have Q:=T.o.kf.cell 1 a rfl;go_wp2_with fail
   go_meet
   exact⟨_,1,vb,rfl,T.o.below aY,T.o.os [a] _ _ rfl rfl⟩
  .have c0:=T.o.kf.cell 0 f rfl;rw[k!]at c0;have Q:=T.o.kf.cell 1 a rfl;go_upto_region 11 with fail
   have d:=T.o.kf.cell 3 b rfl;clear c0
   go_region_held3 (λw'=>χ w' (O g<|off+1)=C' (m' a)/\χ w' (O g<|off+3)=C' (m' b)) (go_keep) (fail)
   all_goals
    go_wp2_with fail
    go_meet
    exact⟨_,2,vb,rfl,T.o.below aY.drew,T.o.os [a,b] _ _ rfl rfl⟩
  .have c0:=T.o.kf.cell 0 o rfl;rw[k!]at c0;have Q:=T.o.kf.cell 1 a rfl;go_wp2_with fail
   go_meet
   exact⟨D',0,vb,rfl,T.o,aI rfl⟩
  have c0:=T.o.kf.cell 0 o rfl;rw[k!]at c0;go_wp2_with fail
  go_meet
  exact⟨D',0,vb,rfl,T.o,aI rfl⟩
 obtain⟨la,lc,B,rfl,C⟩:=hcut
 rename t'=>W1
 obtain⟨X,h⟩:=Ea<|(E? E lP R).1;obtain⟨tg,q⟩:=Ea<|(E? E lP R).2;rw[<-h,<-q]at C;have HE:=ſ<|M h q;have d:ζ X<=10001:=by
  rw[h];unfold E?;split
  .have:=j4 E ‹z'›.data.toList;simp only;omega
  simp only;omega
 have d:ζ m<=2:=by rcases z with⟨_,_,_,_,_,_,_,rfl⟩|⟨_,_,_,_,_,_,_,rfl⟩|⟨_,_,_,_,_,_,_,_,_,rfl⟩|⟨_,_,_,_,_,_,rfl⟩|⟨_,_,_,_,_,_,_,_,_,_,_,rfl⟩|⟨_,_,_,_,_,_,_,rfl⟩|⟨_,_,_,_,_,rfl⟩<;>simp
 have y:∀s∈m,0<s.size:=λs hs=>by have U:=HH.e;rcases z with⟨_,_,_,rfl,_,_,_,rfl⟩|⟨_,_,_,rfl,_,_,_,rfl⟩|⟨_,_,_,_,_,rfl,_,_,_,rfl⟩|⟨_,_,rfl,_,_,_,rfl⟩|⟨_,_,_,_,_,_,rfl,_,_,_,_,rfl⟩|⟨_,_,rfl,_,_,_,_,rfl⟩|⟨_,rfl,_,_,_,rfl⟩<;>simp at hs<;>first|(subst hs;exact(U _ ak).1)|(rcases hs with rfl|rfl<;>exact(U _ ak).1)
 have ir:J ((∀x∈lm,∀k,φ x.u.v=C' k->k<xb)/\∀u∈im,∀k,φ u.v=C' k->k<xb):=⟨λx F k hk=>by rw[<-j];exact((HH.a.uses x F).lt k hk).2,λu hu k hk=>by rw[<-j];exact((HH.a.qT u hu).lt k hk).2⟩;have ue:=ſ y;have hA:=ſ z;have d:=ſ j;clear h q y T z j;obtain⟨i0,d,D,P,h⟩:=cG nW;have HI:J (_/\_/\_/\_):=⟨d,D,P,h⟩;clear d D P h;obtain⟨i1,d,D,P,h⟩:=cG Uj;have ZL:J (_/\_/\_/\_):=⟨d,D,P,h⟩;clear d D P h;obtain⟨i2,d,D,P,h⟩:=cG ada;have au:J (_/\_/\_/\_):=⟨d,D,P,h⟩;clear d D P h;obtain⟨i3,d,D,P,h⟩:=cG ac9;have ar:J (_/\_/\_/\_):=⟨d,D,P,h⟩;clear d D P h;go_wp2_with fail;go_loopw[6] (λi wr=>∃(j:Nat)(RH:Option Nat)(u:UM),j<=ζ m/\i=G j/\J (oN w wr tb xb g off c R lm im (i7 (X,[])<|m.take j).1 es lv ev iv RH tg u.v (-1)/\Bk wr la m RH ev/\E4 wr (xb+1) u/\u.us=(i7 (X,[])<|m.take j).2)) (λi _=>ζ m-(intOf i).toNat)
 case atStart=>exact⟨0,B,⟨D',0,[]⟩,bq _,rfl,C.a,C.A,cY _ _ _ _,rfl⟩
 clear C;obtain⟨j,RH,u,hj,rfl,z⟩:=hrel;by_cases dd:j<ζ m
 .have sf:(j:Int)<(ζ m:Int):=I
  obtain⟨s,hs⟩:=La dd;have ae:=ue.o s<|aK hs;have NN:=PB (X,[]) hs;obtain⟨ob,rfl,uj,ho2,fy⟩:∃ob,la=C' ⟨ob,0,D'⟩/\Ws wr ob 0 m/\RH≠C' ob/\φ ev≠C' ob:=by
   rcases z.b with h|h
   .rw[h]at dd;simp at dd
   exact h
  have c0:=uj.cell j s hs;rw[bW]at c0;have Wo:=ti (m.take j) (X,[]);rw[dG]at Wo;simp only[de]at Wo;cases lG:Q6 s with
  |false=>
   have I1:=lG;rw[uW s ae]at I1;have HCo:=ſ<|Zp s tb wr ae I1;have HN:J (i7 (X,[]) (m.take<|j+1)=i7 (X,[]) (m.take j)):=by show _=_;rw[NN];rw[Gy,lG];rfl
   clear NN hs ae I1 lG uj ho2 fy Wo;go_wp2_with (go_at_call 174;refine HCo.o.mono ?_;rintro r W ⟨rfl,rfl⟩);go_roundw
   case rel=>exact⟨j+1,RH,u,I,f',by rw[HN.o];exact z.o⟩
   exact H'
  |true=>
   have I1:=lG;rw[uW s ae]at I1;have HCo:=ſ<|wX s tb (tb+1) lv ev iv (i7 (X,[])<|m.take j).1 RH wr I (L' z.a.Wa) I z.a.tx.tp ae I1;have HN:J (i7 (X,[]) (m.take<|j+1)=(cZ (i7 (X,[])<|m.take j).1 s.1.1,(i7 (X,[])<|m.take j).2++[fY (i7 (X,[])<|m.take j).1 s.1.1])):=by show _=_;rw[NN];rw[Gy,lG];rfl
   have my:ζ u.us<=2:=by rw[z.C];omega
   have d:=wW (i7 (X,[])<|m.take j).1 s.1.1;clear NN hs ae I1 lG uj ho2 fy Wo;generalize(i7 (X,[])<|m.take j).1=vj at *;generalize d:fY vj s.1.1=num at *;go_upto_region 17 with(go_at_call 174;refine HCo.o.mono ?_;rintro r W ⟨rfl,kv,ht,Y,K⟩;have H1:=ſ<|M (z.a.var Y ht K)<|M (z.b.var z.a Y K)<|z.c.var z.a Y;clear ht Y K c0)
   have y2:=A H1.a.box;have T:=H1.B;have d:=À H1.a.box;simp only[UM.v]at y2;go_wp2_with (at_builtin;refine iK _ rfl (.tmp 82) (.tmp 84) 36 rfl (xb+1) 3 i0 (G 0) 1 8 underlying36 HI.a HI.b HI.c HI.C rfl aj _ _ _ rfl (T.alloc _) (O W.1.size 0) 1 1 [G num] rfl rfl Ap (by intro u hu;simp at hu;subst hu;rfl) (by unfold maxLen;omega) I I' ?_;intro v4 d pL D _;clear y2;obtain⟨a4,P,rfl⟩:=aX pL;have B:=ſ<|M ((H1.a.below aY).grow (T.alloc _) D (L' z.a.Wb) (λx F k hk e=>by have C:=ir.a x F k hk;have h2:=(T.lt k e.symm).1;omega) (λu hu k hk e=>by have C:=ir.A u hu k hk;have h2:=(T.lt k e.symm).1;omega))<|M (Bk.keep (H1.b.keep λk d f hk=>(cE W _).block k<|À hk) λk d f hk=>D.block k (À hk) λe=>dH (T.alloc _) hk aj e.symm) pL;clear pL D;have l:=A B.a.box);go_roundw
   case rel=>
    refine⟨j+1,kv,⟨a4,P,u.us++[num]⟩,I,f',?_,?_,?_,?_⟩
    .rw[HN.o];have:=B.a.put (bl:=UM.v ⟨a4,P,u.us++[num]⟩) 2 (UM.v ⟨a4,P,u.us++[num]⟩) rfl;simp only[UM.v,aW,bR,de]at this|-;exact this
    .exact B.b.keep λk d f hk=>bh _ _ _ _ (λe=>by have h2:k=xb:=e;have h3:=B.a.box;rw[<-h2,hk]at h3;simp at h3)
    .have C:=B.B;have e:(u.us++[num]).map G=u.us.map G++[G num]:=ak;simp only[E4,UM.v,aW,bR,de];rw[e];refine dY C λk hk=>bh _ _ _ _ λe=>?_;have h2:k=xb:=e;have:=(C.lt k hk).1;omega
    rw[HN.o];show u.us++[num]=_;rw[z.C]
   exact H'
 have sf:¬(j:Int)<(ζ m:Int):=I;obtain rfl:j=ζ m:=I;have L:=z.o;rw[nB]at L;have HX:=ſ L;have Wo:=ti m (X,[]);simp only[de]at Wo;have my:ζ u.us<=2:=by rw[L.2.2.2];omega
 have y2:=A HX.a.box;simp only[UM.v]at y2;have y:decide (0<=tg)=lP:=by rw[HE.A];unfold E?;rcases hA.o with⟨_,_,_,rfl,rfl,_,_,rfl⟩|⟨_,_,_,rfl,rfl,_,_,rfl⟩|⟨_,_,_,_,_,rfl,rfl,_,_,rfl⟩|⟨_,_,rfl,rfl,_,_,rfl⟩|⟨_,_,_,_,_,_,rfl,rfl,_,_,_,rfl⟩|⟨_,_,rfl,rfl,_,_,_,rfl⟩|⟨_,rfl,rfl,_,_,rfl⟩<;>simp[wW]
 have h2:((ζ m:Int)==2)=decide (ζ m=2):=by rw[cK];simp;omega
 have h3:decide (0<(ζ u.us:Int))=decide (0<ζ u.us):=by rw[cK];simp
 obtain⟨bb,q⟩:=Ea<|(lP&&decide (ζ m=2)&&decide (0<ζ u.us));have s8:=ſ L.2.2.2;clear z L;go_upto_region 18 with fail
 go_cut [100] from 67 λd wx=>d=i' bb/\wx=wr
 case first=>
  cases lP with
  |false=>
   have L:bb=Q':=by rw[q];rfl
   subst L;have ht:=gZ y;clear q h2 h3 y;go_wp2_with fail
   go_meet
   exact⟨rfl,rfl⟩
  |true=>
   have ht:=xV y;cases hd:decide (ζ m=2)with
   |false=>
    rw[hd]at h2 q;have L:bb=Q':=by rw[q];rfl
    subst L;clear q h3 y hd;go_wp2_with fail
    go_meet
    exact⟨rfl,rfl⟩
   |true=>
    rw[hd]at h2 q;cases he:decide (0<ζ u.us)with
    |false=>
     rw[he]at q;have L:bb=Q':=by rw[q];rfl
     have fo:=ſ he;subst L;clear q y hd he h3;go_wp2_with fail
     go_meet
     exact⟨by rw[fo.o],rfl⟩
    |true=>
     rw[he]at q;have L:bb=P':=by rw[q];rfl
     have fo:=ſ he;subst L;clear q y hd he h3;go_wp2_with fail
     go_meet
     exact⟨by rw[fo.o],rfl⟩
 obtain⟨rfl,rfl⟩:=hcut
 rename t'=>W2
 have iS:=ſ q;clear q y h2 h3
 go_upto_if 100 with fail
 go_cut [] from 67 (λwx=>∃(ow:Int)(Qx:List bD)(N:List UM)(S P?:A'),J<|oN w wx tb xb g off c R lm N (i7 (X,[]) m).1 Qx lv S P? RH tg u.v ow/\E4 wx (xb+1) u/\ExR bb (Ib R) es im u ow Qx N)
 case first=>
  cases bb with
  |false=>
   go_wp2_with fail
   go_meet
   exact⟨-1,es,im,ev,iv,HX.a,HX.c,aI ⟨rfl,rfl,rfl,rfl⟩⟩
  |true=>
   have q:∃x e a o b,R=[x,e,a,o,b]:=by
    have C:=iS.o.symm;simp only[aS,bw]at C;rcases hA.o with⟨_,_,_,rfl,rfl,_,_,rfl⟩|⟨_,_,_,rfl,rfl,_,_,rfl⟩|⟨x,e,a,o,b,rfl,rfl,_,_,rfl⟩|⟨_,_,rfl,rfl,_,_,rfl⟩|⟨_,_,_,_,_,_,rfl,rfl,_,_,_,rfl⟩|⟨_,_,rfl,rfl,_,_,_,rfl⟩|⟨_,rfl,rfl,_,_,rfl⟩
    .simp at C
    .simp at C
    .exact⟨x,e,a,o,b,rfl⟩
    .simp at C
    .simp at C
    .simp at C
    simp at C
   obtain⟨x,e,a,o,b,rfl⟩:=q;have p:=HX.a.kf.cell 2 a rfl;have y:=HX.a.kf.cell 3 o rfl;have P:=HX.a.kf.cell 4 b rfl;have z2:=(HH.e a ak).2;have z:=(HH.e o ak).2;have q:=(HH.e b ak).2;clear y2;go_upto_region 19 with fail
   go_quiet (fail);go_upto_region 20 with fail
   revert nq;intro q1;generalize hW:W2.drewN q1=W3;have HY:J (oN w W3 tb xb g off c [x,e,a,o,b] lm im (i7 (X,[]) m).1 es lv ev iv RH tg u.v (-1)/\E4 W3 (xb+1) u):=by subst hW;exact⟨HX.a.below<|below_drewN (aP _ _) _,HX.c⟩
   have d:(a++⟨#[32]⟩++o++⟨#[32]⟩++b).1.1=Ib [x,e,a,o,b]:=by simp[Ib]
   generalize a++⟨#[32]⟩++o++⟨#[32]⟩++b=et at d|-;have fi:=ſ d;clear hW HX p y P z2 z q d;go_wp2_with fail;go_loopw[9] (λi wr=>∃(k:Nat)(ow:Int),k<=ζ es/\i=G k/\J (oN w wr tb xb g off c [x,e,a,o,b] lm im (i7 (X,[]) m).1 es lv ev iv RH tg u.v ow/\E4 wr (xb+1) u)/\J ((ow=-1/\∀(j:Nat)(y:bD),j<k->es[j]?=C' y->y≠et.1.1)\/∃j:Nat,j<10000/\es[j]?=C' et.1.1/\ow=(j:Int))) (λi _=>ζ es-(intOf i).toNat)
   case atStart=>exact⟨0,-1,bq _,rfl,HY,aI ⟨rfl,λj y h _=>I⟩⟩
   clear HY;obtain⟨k,ow,hk,rfl,HY,HO⟩:=hrel;obtain⟨d,wI,_,_⟩:=HY.a.tx.tp.box;obtain⟨ea,ec,p⟩:=aX HY.a.tx.kB;subst p;have y1:=A wI;have y2:=A HY.a.box;simp only[UM.v]at y2;by_cases Bb:k<ζ es
   .have sq:(k:Int)<(ζ es:Int):=I;obtain⟨y,p⟩:=La Bb;obtain⟨d,rfl,nf⟩:=XJ HY.a.tx.kB p;have gz:=ſ p;clear p;unfold strOf at nf;by_cases heq:y=et.1.1
    .have l:(y==et.toList)=P':=by rw[eT,heq];simp
     have an:J (∃j:Nat,j<10000/\es[j]?=C' et.1.1/\((k:Nat):Int)=(j:Int)):=⟨k,I,by rw[gz.o,heq],rfl⟩;clear heq;go_wp2_with fail;go_roundw
     case rel=>exact⟨k+1,(k:Int),I,f',⟨HY.a.put 3 _ rfl,dY HY.A λq hq=>bh _ _ _ _ (λe0=>by have C:=(HY.A.lt q hq).1;have h2:q=xb:=e0;omega)⟩,aH an.o⟩
     exact H'
    have l:(y==et.toList)=Q':=by rw[eT];simpa using heq
    have an:J ((ow=-1/\∀(j:Nat)(y:bD),j<k+1->es[j]?=C' y->y≠et.1.1)\/∃j:Nat,j<10000/\es[j]?=C' et.1.1/\ow=(j:Int)):=by
     rcases HO.o with⟨C,h2⟩|C
     .refine aI ⟨C,λj z hj hz=>?_⟩;by_cases p:j=k
      .subst p;rw[gz.o]at hz;cases hz;exact heq
      exact h2 j z I hz
     exact aH C
    clear heq;go_wp2_with fail;go_roundw
    case rel=>exact⟨k+1,ow,I,f',HY.o,an.o⟩
    exact H'
   have sq:¬(k:Int)<(ζ es:Int):=I;obtain rfl:k=ζ es:=I;rcases HO.o with⟨rfl,hno⟩|⟨j,hj1,gh,rfl⟩;rotate_left
   .have d:(0:Int)<=j:=I;have d:=ſ gh;clear gh HO;go_wp2_with fail
    go_meet
    exact⟨(j:Int),es,im,_,iv,HY.a,HY.A,aH ⟨rfl,aI ⟨rfl,rfl,j,by rw[<-fi.o];exact d.o,rfl⟩⟩⟩
   have an:J (Ib [x,e,a,o,b]∉es):=λd=>by rw[<-fi.o]at d;obtain⟨j,hj⟩:=dN.1 d;exact hno j _ (aV.1 hj).1 hj rfl
   clear hno HO;go_upto_region 27 with fail
   have H1:J (oN w (κ wr (O xb 3)<|G<|ζ es) tb xb g off c [x,e,a,o,b] lm im (i7 (X,[]) m).1 es lv (bk ea (ζ es) ec) iv RH tg u.v (ζ es:Int)/\E4 (κ wr (O xb 3)<|G<|ζ es) (xb+1) u):=⟨HY.a.put 3 _ rfl,dY HY.A λq hq=>bh _ _ _ _ (λe0=>by have C:=(HY.A.lt q hq).1;have h2:q=xb:=e0;omega)⟩;generalize κ wr (O xb 3) (G<|ζ es)=W5 at H1|-;clear y1 y2 HY wI;obtain⟨a,wI,_,_⟩:=H1.a.tx.tp.box;have y1:=A wI;have T:=H1.a.tx.kB;have Qc:=H1.a.Wa;go_upto_region 28 with(at_builtin;refine wpList_append_own_at _ rfl (.tmp 147) (.tmp 149) 101 rfl (tb+1) 9 i1 (m' ⟨#[]⟩) 1 16 underlying101 ZL.a ZL.b ZL.c ZL.C rfl aj _ _ _ rfl (T.alloc _) (O W5.1.size 0) 1 1 [m' et] rfl rfl Ap (by intro u hu;simp at hu;subst hu;rfl) (by unfold maxLen;omega) I I' ?_;intro v4 W6 pL D _ gm;obtain⟨a4,P,rfl⟩:=aX pL;clear y1;have gk:=(D.block tb I' λe0=>dH T wI aj e0.symm).trans<|aF aY wI;have H6:=ſ (M ((H1.a.below aY).exp D pL (by rcases gm with h|h;(· exact aI h);exact aH ⟨_,h,aD _⟩))<|dY (dY H1.A λq hq=>(cE W5 _).block q (H1.A.lt q hq).2) λq hq=>(bh W6 (O tb 2) (h' a4 (ζ es+1) P) q λe0=>dH H1.A wI aj<|by rw[hq];exact cQ C' e0).trans<|D.block q (by have:=(H1.A.lt q hq).2;simp;omega) (λe0=>by rcases bY H1.A T aj with h|h;(· rw[hq]at h;cases h);exact h<|hq.trans e0));clear pL D gm;have a:=A gk)
   generalize κ W6 (O tb 2) (h' a4 (ζ es+1) P)=D at H6|-;clear a gk T Qc wI H1;obtain⟨js,Eo,_,_⟩:=H6.a.tx.tp.box;obtain⟨ja,jc,ed⟩:=aX H6.a.tx.ins;subst ed;have s:=H6.a.tx.ins;have Qc:=H6.a.Wa;have hxl:=À H6.a.box;have d3:χ D (O tb 3)=C' (bk ja (ζ im) jc):=by rw[(A Eo).1];rfl
   have f3:=(A Eo).2;have d2:χ D (O xb 2)=C' (bk u.a (ζ u.us) u.c):=by rw[(A H6.a.box).1];rfl
   have n1:tb≠δ D.1:=I;have n2:=n1.symm;have n3:xb≠δ D.1:=I;have n4:=n3.symm;have g1:∀(o1:Obj)(j:Nat),χ (D.alloc o1) (O tb j)=χ D (O tb j):=λo1 j=>bF<|(cE D o1).block tb Qc;have g2:∀(o1:Obj)(j:Nat),(D.alloc o1).frozen? (O tb j)=D.frozen? (O tb j):=λo1 j=>by simp only[World.frozen?,(cE D o1).block tb Qc]
   have aa:=ſ<|M Eo s;clear Eo s
   go_region_law (refine dS rfl (.tmp 157) (.tmp 160) 25 rfl (tb+1) 36 i2 (h' D' 0 0) 1 24 underlying25 au.a au.b au.c au.C rfl aj (bk ja (ζ im) jc) (ζ im) (im.map UM.v) (by simp[Act.eval,Act.put]) (cS aa.A ay) (O D.1.size 0) 1 1 [h' u.a (ζ u.us) u.c] (by simp[Act.eval,Act.put]) rfl (wk _ _ _ _ ak) (by intro u hu;simp at hu;subst hu;rfl) (by unfold maxLen;omega) I I' ?_;intro v9 W9 Hn zO rp;obtain⟨a9,c9,rfl⟩:=aX Hn;have y9:=A<|FJ aa.a aa.A aj ay zO)
   all_goals
    go_wp2_with fail
    go_meet
    have q1:=adf H6.a H6.A ay zO Hn H6.a.Wb;exact⟨(ζ es:Int),es++[et.1.1],im++[u],_,_,q1.1,q1.2,aH ⟨rfl,aH ⟨an.o,by rw[fi.o],rfl,rfl⟩⟩⟩
 obtain⟨ow,Qx,N,S,P?,HR⟩:=hcut
 rename t'=>W3
 obtain⟨js,Eo,_,_⟩:=HR.a.tx.tp.box;obtain⟨ja,jc,ed⟩:=aX HR.a.tx.lines;subst ed;have Qc:=HR.a.Wa;have hxl:=À HR.a.box;have d3:χ W3 (O tb 0)=C' (bk ja (ζ lm) jc):=by rw[(A Eo).1];rfl
 have f3:=(A Eo).2;have a:χ W3 (O xb 0)=C' (h' (C'<|O g off) (ζ R) c):=by rw[(A HR.a.box).1];rfl
 have a:χ W3 (O xb 1)=C' (G tg):=by rw[(A HR.a.box).1];rfl
 have a:χ W3 (O xb 2)=C' (bk u.a (ζ u.us) u.c):=by rw[(A HR.a.box).1];rfl
 have a:χ W3 (O xb 3)=C' (G ow):=by rw[(A HR.a.box).1];rfl
 have n1:tb≠δ W3.1:=I;have n2:=n1.symm;have n3:xb≠δ W3.1:=I;have n4:=n3.symm;have g1:∀(o1:Obj)(j:Nat),χ (W3.alloc o1) (O tb j)=χ W3 (O tb j):=λo1 j=>bF<|(cE W3 o1).block tb Qc;have g2:∀(o1:Obj)(j:Nat),(W3.alloc o1).frozen? (O tb j)=W3.frozen? (O tb j):=λo1 j=>by simp only[World.frozen?,(cE W3 o1).block tb Qc]
 have aa:=ſ<|M Eo HR.a.tx.lines;clear Eo;go_upto_region 29 with fail
 go_region_law (refine dS rfl (.tmp 168) (.tmp 170) 100 rfl (tb+1) 188 i3 (k' #[h' D' 0 0,G 0,h' D' 0 0,G 0]) 4 64 underlying100 ar.a ar.b ar.c ar.C rfl aj (bk ja (ζ lm) jc) (ζ lm) (jr lm) (by simp[Act.eval,Act.put]) (cS aa.A ay) (O W3.1.size 0) 1 1 [h' (C'<|O g off) (ζ R) c,G tg,h' u.a (ζ u.us) u.c,G ow] (by simp[Act.eval,Act.put]) rfl (EO _ _ _ _ _ _ _ ak) (by intro u hu;simp at hu;rcases hu with rfl|rfl|rfl|rfl<;>rfl) (by unfold maxLen;omega) I I' ?_;intro v9 W9 Hn zO rp;obtain⟨a9,c9,rfl⟩:=aX Hn;have y9:=A<|FJ aa.a aa.A aj ay zO)
 all_goals
  go_wp2_with fail;refine bodyPost_end (xX rfl _ _ _) rfl ?_;have q1:=acN HR.a HR.b ay zO Hn;exact⟨⟨_,rfl⟩,q1.2,⟨C'<|O g off,ζ R,c,tg,u,ow⟩,_,Qx,N,⟨_,S,P?,RH,q1.1⟩,⟨by rw[HE.a],by have h:=s8.o;rw[HE.a]at h;exact h,HE.A,by have h:=HR.B;rw[iS.o]at h;exact h⟩⟩
end
def jA(n:SN)(aG ins outs:List Int):Int×List Int×List Int×List Int:=
 if n.aO=0 then(0,aG.set n.var.toNat<|kh aG n.a,ins,outs)
 else if n.aO=1 then(if qQ n.op (kh aG n.b) then(0,aG.set n.var.toNat<|lA n.op (kh aG n.a)<|kh aG n.b,ins,outs) else(2,aG,ins,outs))
 else if n.aO=2 then(match ins with|[]=>(3,aG,ins,outs)|x::r=>(0,aG.set n.var.toNat x,r,outs))
 else if n.aO=3 then(0,aG,ins,outs++[kh aG n.a])
 else if n.aO=6 then(1,aG,ins,outs)
 else(0,aG,ins,outs)
structure wV(nv:Nat)(n:SN):Prop where
  aO:0<=n.aO/\n.aO<=6
  var:n.aO<=2->0<=n.var/\n.var<nv
  a:n.aO=0\/n.aO=1\/n.aO=3\/n.aO=4->oD nv n.a
  b:n.aO=1\/n.aO=4->oD nv n.b
def aho(w:t')(sb B:Nat)(vv ov:A')(r:Int×List Int×List Int×List Int)(e:Ending)(w':t'):Prop:=
 e=o' (G r.1)/\VF sb (φ vv) (φ ov) w w'/\∃P? bo,MS w' sb B r.2.1 r.2.2.1 r.2.2.2 vv P? bo/\(φ bo=φ ov\/∃q,φ bo=C' q/\δ w.1<=q)
def OB(o B:Nat)(u y f p m:A')(P F l:List Int)(k:z')(n:SN)(w:t')(hM:MS w o B P F l u y f)(K:wV (ζ P) n)(t:ζ l<20000):
  Cl 98 #[n'<|C'<|O o 0,k'<|aJ k p n m] w (aho w o B u f<|jA n P F l):=by
 obtain⟨x,q,i,j,a,b,g⟩:=n;obtain⟨r,R,s,d⟩:=K;simp only at r R s d;have c:x=0\/x=1\/x=2\/x=3\/x=4\/x=5\/x=6:=I;rcases c with rfl|rfl|rfl|rfl|rfl|rfl|rfl
 .exact(JE o B u y f p m P F l k g q i j a b w hM (s ak)<|R ak).mono λe c h=>⟨h.1,h.2.2,y,f,h.2.1,aI rfl⟩
 .refine(AL o B u y f p m P F l k g q i j a b w hM (s ak) (d ak)<|R ak).mono λe c h=>?_;simp only[jA,show ¬((1:Int)=0)by decide,bB,b8];cases d:qQ i (kh P b)with
  |true=>rw[d]at h;exact⟨h.1,h.2.2,y,f,h.2.1,aI rfl⟩
  |false=>rw[d]at h;exact⟨h.1,h.2.2,y,f,h.2.1,aI rfl⟩
 .match F,hM with
  |[],hM=>exact(AK o B u y f p m P [] l k g q i j a b w hM rfl).mono λe c h=>⟨h.1,h.2.2,y,f,h.2.1,aI rfl⟩
  |x::r,hM=>refine(Fy o B u y f p m P (x::r) l k g q i j a b w hM x r rfl (R ak)).mono λe c h=>?_;obtain⟨C,r,D,N⟩:=h;exact⟨C,r,D,f,N,aI rfl⟩
 .refine(Dk o B u y f p m P F l k g q i j a b w hM (s ak) t).mono λe c h=>?_;obtain⟨C,r,E,N,d⟩:=h;exact⟨C,r,y,E,N,d⟩
 .exact(RG o B u y f p m P F l k g q i j a b w hM).mono λe c h=>⟨h.1,h.2.2,y,f,h.2.1,aI rfl⟩
 .exact(JD o B u y f p m P F l k g q i j a b w hM).mono λe c h=>⟨h.1,h.2.2,y,f,h.2.1,aI rfl⟩
 exact(Dj o B u y f p m P F l k g q i j a b w hM).mono λe c h=>⟨h.1,h.2.2,y,f,h.2.1,aI rfl⟩
def kD(n:SN)(aG:List Int):Int:=if n.aO=4/\o! n.test (kh aG n.a) (kh aG n.b)=Q' then 1 else 0
def ů{p:Prop}(h:p:=by
 go_enter func99,ntmps99;go_wp2_with fail
 go_region_held3 (λm=>χ m (O w.1.size 2)=C' (G 4)/\χ m (O w.1.size 5)=C' (G c)/\χ m (O w.1.size 6)=C' (i' a.aN)/\χ m (O w.1.size 7)=C' (G a.var)/\χ m (O w.1.size 8)=C' (G a.bJ)/\χ m (O w.1.size 9)=C' (i' b.aN)/\χ m (O w.1.size 10)=C' (G b.var)/\χ m (O w.1.size 11)=C' (G b.bJ)) (go_keep) (first|(go_at_call_of 171 (k' #[i' a.aN,G a.var,G a.bJ]);refine(iu o B u y f P a _ (by exact(r.o.below ay).box) (by exact(r.o.below ay).aG) j).mono ?_;rintro e s ⟨rfl,nq,rfl⟩)|(go_at_call_of 171 (k' #[i' b.aN,G b.var,G b.bJ]);refine(iu o B u y f P b _ (by exact(r.o.below ay).box) (by exact(r.o.below ay).aG) d).mono ?_;rintro e s ⟨rfl,nq,rfl⟩)|(go_at_call 173;refine(Co _ _ _ _).mono ?_;rintro e s ⟨rfl,rfl⟩))
 go_wp2_with fail;go_ret;rw[p.o]
 exact⟨rfl,ay⟩):p:=h
def U?(o B:Nat)(u y f x k:A')(P F l:List Int)(h:z')(n:SN)(w:t')(d:MS w o B P F l u y f)(K:wV (ζ P) n):
  Cl 99 #[n'<|C'<|O o 0,k'<|aJ h x n k] w (Rb w<|G<|kD n P):=by
 obtain⟨x,q,i,c,a,b,g⟩:=n;obtain⟨v,R,t,s⟩:=K;simp only at v R t s;have r:=ſ d;have h:=d.lt;clear d;simp only[aJ];by_cases d:x=4;rotate_left
 .have k:(x==4)=Q':=by simp[d]
  have p:J (kD ⟨x,q,i,c,a,b,g⟩ P=0):=by show _=_;simp[kD,d]
  clear d;go_enter func99,ntmps99;go_wp2_with fail
  go_region
  all_goals
   go_wp2_with fail;go_ret;rw[p.o];exact⟨rfl,ay⟩
 subst d;have j:=t ak;have d:=s ak;clear t s R v;cases t:o! c (kh P a) (kh P b)with
 |true=>
  have p:J (kD ⟨4,q,i,c,a,b,g⟩ P=0):=by show _=_;simp[kD,t]
  exact ů
 |false=>
  have p:J (kD ⟨4,q,i,c,a,b,g⟩ P=1):=by show _=_;simp[kD,t]
  exact ů
def QF(B g d:Nat)(P:List Int)(w:t')(R:ρ w B 2 1 (eu g (ζ P) d) (ζ P)<|P.map G)(W:ζ P<=8):
  Cl 97 #[h' (C'<|O g 0) (ζ P) d] w λe a=>Bl w a/\∃h,e=o' h/\ρ a w.1.size 2 1 h (ζ P) (P.map G)/\h≠h' D' 0 0:=by
 have b:∀(w:t')(a:u')(n c b e:Nat),(binOp .eql 23 (h' a n c)<|h' D' b e).run Tryz.prog w=.ok (i' a.isNone) w:=λw a n c b e=>Lib.run_eql_slice_nil w _ _ a n c b e underlying23;obtain⟨X,S,D,a,b⟩:=cG K9;have f:J (Tryz.prog.info? 2=C' X/\X.zero=C' (G 0)/\X.size=1/\X.bytes=8):=⟨S,D,a,b⟩;clear S D a b;have Y:=ſ<|R.cells (g:=g) rfl;have V:J (∀u∈P.map G,u.oneCell'=P'):=by show ∀_∈_,_;intro u C;obtain⟨x,_,rfl⟩:=bp.1 C;rfl
 clear R;go_enter func97,ntmps97;go_wp2_with (at_builtin;refine iK _ rfl _ _ 23 rfl w.1.size 2 X (G 0) 1 8 underlying23 f.a f.b f.c f.C rfl aj _ _ _ rfl (World.ownsRow_made w #[] 0 (aD _) (bq _) ak) (O g 0) (ζ P) d (P.map G) rfl ?mo ?mn ?mm ?ml ?mj ?mi ?_)
 case mo=>simp
 case mn=>
  intro j u f;have:=Y.o j u f;rw[fH]at this|-;exact Lib.cell?_alloc_some _ this
 case mm=>exact V.o
 case ml=>unfold maxLen;omega
 case mj=>omega
 case mi=>simp
 intro h b o F W;go_wp2;go_ret;refine⟨((aP _ w).alloc (aD _) _).grown F ak (by intro k a;simp[Value.ownBlock]at a;omega),h,rfl,J' o,W⟩
section
variable {P F l a b:List Int}{u f v g:A'}
abbrev CM:=Nat×A'×List Int
def fI(l:List CM):List A':=l.flatMap λs=>[G s.1,s.2.1]
def Dt(l:List CM)(s:CM):fI (l++[s])=fI l++[G s.1,s.2.1]:=by simp[fI]
def wE(l:List CM):List (Nat×List Int):=l.map λs=>(s.1,s.2.2)
def h! (pl:List PN) (ps:List<|bD×Nat):Nat->Nat->List Int->List Int->List Int->List (Nat×List Int)->Int×List Int×List (Nat×List Int)
 |0,_,_,_,outs,st=>(4,outs,st)
 |f+1,k,aG,ins,outs,st=>
  match pl[k]? with
  |none=>(4,outs,st++[(k,aG)])
  |some p=>
   if (jA p.n aG ins outs).1=0 then
    h! pl ps f ((fK ps p.nc k).getD (kD p.n (jA p.n aG ins outs).2.1).toNat 0).toNat (jA p.n aG ins outs).2.1 (jA p.n aG ins outs).2.2.1 (jA p.n aG ins outs).2.2.2 (st++[(k,aG)])
   else((jA p.n aG ins outs).1,(jA p.n aG ins outs).2.2.2,st++[(k,aG)])
structure Fit(pl:List PN)(ps:List<|bD×Nat)(nv:Nat):Prop where
  nin:∀p∈pl,wV nv p.n
  edge:∀(j:Nat)(p:PN)(aG:List Int),pl[j]?=C' p->p.n.aO≠6->∃t:Nat,(fK ps p.nc j)[(kD p.n aG).toNat]?=C' (t:Int)/\t<ζ pl
structure pU(w W:t')(sb nv:Nat)(aG ins outs:List Int)(vv iv ov sv:A')(Dp:List CM):Prop where
  ms:MS W sb w.1.size aG ins outs vv iv ov
  row:ρ W w.1.size 113 2 sv (ζ Dp) (fI Dp)
  each:∀s∈Dp,ρ W w.1.size 2 1 s.2.1 (ζ s.2.2) (s.2.2.map G)/\ζ s.2.2=nv/\∃q,φ s.2.1=C' q/\some q≠φ vv/\some q≠φ ov
  nodup:(Dp.map λs=>φ s.2.1).Nodup
  low:Bl w W
  Fw:ζ aG=nv
  XO:ζ outs<=ζ Dp
def Ô(v:A'):Nat:=match v with | .slice _ n _=>n|_=>0
def Ū(w:t')(nv:Nat)(r:Int×List Int×List (Nat×List Int))(e:Ending)(w':t'):Prop:=
 Bl w w'/\∃ov sv Dp,e=o' (k' #[G r.1,ov,sv])/\ρ w' w.1.size 2 1 ov (ζ r.2.1) (r.2.1.map G)/\ρ w' w.1.size 113 2 sv (ζ Dp) (fI Dp)/\wE Dp=r.2.2/\(∀s∈Dp,ρ w' w.1.size 2 1 s.2.1 (ζ s.2.2) (s.2.2.map G)/\ζ s.2.2=nv/\∃q,φ s.2.1=C' q/\some q≠φ ov)/\(Dp.map λs=>φ s.2.1).Nodup
def Ui:(Tryz.prog.info? 113).map (λi=>(i.zero,i.size,i.bytes))=C' (C'<|k' #[G 0,h' D' 0 0],2,32):=H
def pU.below{c:A'}{a:List CM}(h:pU w W o Q P F l u y f c a)(b:Bl W d):pU w d o Q P F l u y f c a:=
 ⟨h.ms.below b,cS h.row b,λs y=>⟨cS (h.each s y).1 b,(h.each s y).2⟩,h.nodup,h.low.trans<|b.mono h.low.size,h.Fw,h.XO⟩
def Tc{a b:Option Nat}{e size:Nat}(h:ρ w B e size v n D)(j:VF o a b w d)(i:φ v=D'\/φ v≠C' o)(C:φ v=D'\/φ v≠a)(f:φ v=D'\/φ v≠b):ρ d B e size v n D:=by
 have L:=h.lt;refine⟨h.1,?_⟩;rcases h.2 with o|⟨g,c,Y,V,Q,p,m⟩
 .exact aI o
 subst V;refine aH ⟨g,c,Y,rfl,Q,(j.block g (L g rfl).2 ?_ ?_ ?_).trans p,m⟩
 .rcases i with h|h
  .cases h
  intro e;exact h (by rw[e];rfl)
 .rcases C with h|h
  .cases h
  exact h
 rcases f with h|h
 .cases h
 exact h
def B8{L:Array A'}(h:ρ w B 113 2 v n D)(a:w.1[o]?=C' (j' L 182 (0,0))):φ v=D'\/φ v≠C' o:=by exact ţ
def MS.grown{c:t'}{d b:A'}(h:MS w o B P F l u d f)(y:ρ w B 113 2 b n D)(a:ξ w c<|φ b):MS c o B P F l u d f:=by
 have C:=B8 y h.box;refine⟨(a.block o h.lt ?_).trans h.box,h.low,h.aG.kept a<|bY h.aG y aj,h.ins.mono λk b=>a.block k (by have:=h.lt;have:=h.low;omega) ?_,h.outs.kept a<|bY h.outs y aj,h.ne⟩
 .rcases C with e|e
  .rw[e];simp
  exact λu=>e u.symm
 intro e;have:=(y.lt k e.symm).1;omega
def pU.push{Wr b:t'}{t q:Nat}{r j z:A'}{a:List CM}{o:Obj}(h:pU w Wr t Q P F l u r f j a)(m:Bl Wr W)(T:ρ W Wr.1.size 2 1 g Q<|P.map G)(p:φ g=C' q)(v:δ Wr.1<=q)(v:ξ (W.alloc o) b<|φ j)(B:ρ b w.1.size 113 2 z (ζ a+1)<|fI a++[G k,g]):pU w b t Q P F l u r f z (a++[(k,g,P)])/\ζ l+1<=ζ (a++[((k,g,P):CM)]):=by
 have c:ξ W b (φ j):=(gY W o _).trans v;have d:=h.below m;have x:=h.low.size;have l:=m.size;refine⟨⟨d.ms.grown d.row c,?_,?_,?_,?_,h.Fw,by have:=h.XO;simp;omega⟩,by have:=h.XO;simp;omega⟩
 .rw[Dt,aW];exact B
 .intro s y;rcases eC.1 y with y|y
  .obtain⟨N,a,b⟩:=d.each s y;exact⟨N.kept c<|bY N d.row aj,a,b⟩
  simp only[eX]at y;subst y;refine⟨?_,h.Fw,q,p,?_,?_⟩
  .have:=(bC T x).kept c<|bY T d.row aj;rwa[<-h.Fw]at this
  .intro e;have:=(h.ms.aG.lt q e.symm).2;omega
  intro e;have:=(h.ms.outs.lt q e.symm).2;omega
 .rw[eR,vC];refine⟨h.nodup,ak,?_⟩;intro a C b X e;simp only[dX,rI,eX]at X;subst X;obtain⟨s,y,rfl⟩:=bp.1 C;obtain⟨N,_,b,i,_⟩:=h.each s y;have L:φ s.2.1=φ g:=e;rw[i,p]at L;cases L;have:=(N.lt _ i).2;omega
 refine⟨c.os.trans d.low.os,c.tape.trans d.low.tape,c.output.trans d.low.output,br d.low.size c.size,λj f=>(c.block j I ?_).trans<|d.low.block j f⟩;intro e;have:=(h.row.lt j e.symm).1;omega
def pU.visited{C:t'}{c:List Int}{D E:A'}{e:List CM}(h:pU w W o Q P F l u y f g e)(Y:VF o (φ u) (φ f) W C)(d:MS C o w.1.size c a b u D E)(K:φ E=φ f\/∃q,φ E=C' q/\δ W.1<=q)(R:ζ c=ζ P)(i:ζ b<=ζ e):pU w C o Q c a b u D E g e:=by
 have f:=h.low.size;refine⟨d,Tc h.row Y (B8 h.row h.ms.box) (bY h.row h.ms.aG aj)<|bY h.row h.ms.outs aj,?_,h.nodup,?_,R.trans h.Fw,i⟩;rotate_left
 .refine⟨Y.os.trans h.low.os,Y.tape.trans h.low.tape,Y.output.trans h.low.output,br f Y.size,λj f=>(Y.block j I (L' h.ms.low) ?_ ?_).trans<|h.low.block j f⟩
  .intro e;have:=(h.ms.aG.lt j e.symm).1;omega
  intro e;have:=(h.ms.outs.lt j e.symm).1;omega
 intro s y;obtain⟨N,a,q,b,C,t⟩:=h.each s y;refine⟨Tc N Y (kZ N h.ms.box) (aH<|by rw[b];exact C) (aH<|by rw[b];exact t),a,q,b,C,?_⟩;rcases K with e|⟨a,e,a⟩
 .rw[e];exact t
 rw[e];have:=(N.lt q b).2;simp;omega
def pU.answer{P:List CM}(h:pU d W o Q a F l u y f g P)(B:Bl w d)(a:δ d.1=δ w.1+2)(a b c:A')(e:Int):Ū w Q (e,l,wE P) (o'<|k' #[G e,f,g]) (κ (κ (κ W (O (δ w.1+1) 0) a) (O (δ w.1+1) 1) b) (O (δ w.1+1) 2) c):=by
 have i:=B.trans<|h.low.mono B.size
 have m:∀{e size n:Nat} {v:A'} {D:List A'},ρ W d.1.size e size v n D->ρ (κ (κ (κ W (O (δ w.1+1) 0) a) (O (δ w.1+1) 1) b) (O (δ w.1+1) 2) c) w.1.size e size v n D:=λd=>
  bC (CW (CW (CW d I' a) I' b) I' c) I
 refine⟨((i.setCell I' _).setCell I' _).setCell I' _,f,g,P,rfl,m h.ms.outs,m h.row,rfl,?_,h.nodup⟩;intro s y;obtain⟨N,a,q,b,_,t⟩:=h.each s y;exact⟨m N,a,q,b,t⟩
def BH{d:List PN}{c:List (bD×Nat)}{m:Nat}{st:List (Nat×List Int)}{p:PN}(U:d[k]?=C' p)(K:n<m):h! d c (m-n) k b F l st=if (jA p.n b F l).1=0 then h! d c (m-(n+1)) ((fK c p.nc k).getD (kD p.n (jA p.n b F l).2.1).toNat 0).toNat (jA p.n b F l).2.1 (jA p.n b F l).2.2.1 (jA p.n b F l).2.2.2 (st++[(k,b)]) else((jA p.n b F l).1,(jA p.n b F l).2.2.2,st++[(k,b)]):=by rw[show m-n=(m-(n+1))+1 by omega,h!];simp only[U]
def BF(l:List CM)(s:CM):wE (l++[s])=wE l++[(s.1,s.2.2)]:=by simp[wE]
def N9(n:SN)(P:List Int):0<=kD n P:=by unfold kD;split<;>simp
def yg{n:SN}(h:(jA n P F l).1=0):n.aO≠6:=by intro e;unfold jA at h;simp[e]at h
def Fz(n:SN)(P F l:List Int):ζ (jA n P F l).2.1=ζ P/\ζ (jA n P F l).2.2.2<=ζ l+1:=by
 unfold jA
 repeat' split
 all_goals simp
def TI(g o Q:Nat)(s:u')(V:Nat)(F:List Int)(m:Nat)(nl:List NC)(pl:List PN)(S:List<|bD×Nat)(w:t')(x:Q<=8)(x:m<=2000)(h0:0<ζ pl)(x:ζ pl<=60)(t:fN w g o nl)(v:nu w nl pl)(r:∀(j:Nat)(c:NC)(p:PN),nl[j]?=C' c->pl[j]?=C' p->Er w c.ev (fK S p.nc j))(hF:Fit pl S Q)(i:CP w w.1.size (bk s (ζ F) V) F):
  Cl 48 #[k' #[h' (C'<|O g 0) (ζ pl) o,G Q],h' s (ζ F) V,G m] w (Ū w Q<|h! pl S m 0 (replicate Q 0) F [] []):=by
 obtain⟨x,hi,D,Em,Cn⟩:=cG K9;have N:J (Tryz.prog.info? 2=C' x/\x.zero=C' (G 0)/\x.size=1/\x.bytes=8):=⟨hi,D,Em,Cn⟩;clear hi D Em Cn;obtain⟨i2,hi,D,Em,Cn⟩:=cG Ui;have E:J (Tryz.prog.info? 113=C' i2/\i2.zero=C' (k' #[G 0,h' D' 0 0])/\i2.size=2/\i2.bytes=32):=⟨hi,D,Em,Cn⟩;clear hi D Em Cn;go_enter func48,ntmps48;go_wp2_with (at_make;refine eK _ rfl (.tmp 13) (.tmp 13) 23 rfl (δ w.1+2) 2 x (G 0) 1 underlying23 N.a N.b N.c .i64 .i64 Q Q Q rfl rfl rfl rfl (by rw[N.C];omega) (by unfold maxLen;omega) ak ?_;intro W1 f d);obtain⟨w2,h⟩:=Ea<|(w.alloc<|j' #[h' (C'<|O g 0) (ζ pl) o,G Q] 86).alloc<|j' o4 57;rw[<-h]at d f;have Cn:δ w2.1=δ w.1+2:=by rw[h];simp
 have T:J (Below w.1.size w w2/\d' w2 w.1.size #[h' (C'<|O g 0) (ζ pl) o,G Q] 86/\d' w2 (δ w.1+1) o4 57/\fN w2 g o nl/\nu w2 nl pl/\(∀(j:Nat)(c:NC)(p:PN),nl[j]?=C' c->pl[j]?=C' p->Er w2 c.ev (fK S p.nc j))):=by subst h;refine⟨((aP _ _).alloc (aD _) _).alloc ak _,(bP w _ _).1,(bP w _ _).2,(t.alloc _).alloc _,fR (fR v _) _,λj c p a b=>?_⟩;exact(r j c p a b).aR<|((aP _ _).alloc (aD _) _).alloc ak _
 have l:=d.size;rw[show δ w2.1=δ w.1+1+1 from Cn]at f;have HS:J (pU w2 (W1.alloc<|j' #[h' (C'<|O (δ w.1+1+1) 0) Q Q,h' s (ζ F) V,h' D' 0 0] 182) W1.1.size Q (replicate Q 0) F [] (h' (C'<|O (δ w.1+1+1) 0) Q Q) (bk s (ζ F) V) (h' D' 0 0) (h' D' 0 0) []):=by
  have o:Bl w2 W1:=⟨d.os,d.tape,d.output,d.size,λk hk=>d.block k hk ak⟩;have hb2:=o.alloc o.size<|j' #[h' (C'<|O (δ w.1+1+1) 0) Q Q,h' s (ζ F) V,h' D' 0 0] 182;refine⟨⟨bj _ _,o.size,?_,?_,cY _ _ _ _,aH<|by simp[Value.ownBlock]⟩,cY _ _ _ _,ak,ak,hb2,ak,ak⟩
  .have o:=f.alloc<|j' #[h' (C'<|O (δ w.1+1+1) 0) Q Q,h' s (ζ F) V,h' D' 0 0] 182;rw[show(Value.int IntKind.i64 0).cells=#[G 0] from rfl,toList_madeCells_one,rJ]at o;rw[CV,rO,Cn];exact o
  obtain⟨x,cp,e,o,h2,N⟩:=i;refine⟨x,cp,e,o,h2,λj x hj=>?_⟩;obtain⟨b,o,e2,lG,hc⟩:=N j x hj;exact⟨b,o,e2,I,(bF<|(hb2.block b I).trans<|T.a.block b lG).trans hc⟩
 obtain⟨sb,q⟩:=Ea W1.1.size;rw[<-q]at HS|-;generalize W1.alloc (j' #[h' (C'<|O (δ w.1+1+1) 0) Q Q,h' s (ζ F) V,h' D' 0 0] 182)=o at HS|-;have o:δ w.1+2<=sb:=I;have HF:J (Fit pl S Q):=hF;clear q f d l h t v r i hF;go_loopw[8,9] (λs a wr=>∃(z A8 l:List Int)(sa:u')(sc:Nat)(P? f:A')(P:List CM)(k:Nat),a=G k/\s=h' sa (ζ P) sc/\ζ P<=m/\k<ζ pl/\J (pU w2 wr sb Q z A8 l (h' (C'<|O (δ w.1+1+1) 0) Q Q) P? f (bk sa (ζ P) sc) P)/\J (h! pl S m 0 (replicate Q 0) F [] []=h! pl S (m-ζ P) k z A8 l (wE P))) (λs _ _=>m-(Ô s))
 case atStart=>exact⟨_,F,[],D',0,_,_,[],0,rfl,rfl,ak,h0,HS,rfl⟩
 clear HS;obtain⟨z,A8,l,sa,sc,P?,f,P,k,rfl,rfl,R,hk,HS,HR⟩:=hrel;by_cases lG:ζ P<m;rotate_left
 .have lF:¬(ζ P:Int)<(m:Int):=I;have K:m-ζ P=0:=I;obtain⟨oa,oc,rfl⟩:=aX HS.o.ms.outs;obtain⟨L,t⟩:=A HS.o.ms.box;obtain⟨B,mh⟩:=A<|(HS.o.low.block (δ w.1+1) I).trans T.c;have V8:J (h! pl S m 0 (replicate Q 0) F [] []=(4,l,wE P)):=by show _=_;rw[HR.o,K,h!]
  clear K;go_wp2_with fail;refine aC (v:=k' #[G 4,h' oa (ζ l) oc,h' sa (ζ P) sc]) (by simp[results48,go_sem,B]) rfl ?_;rw[V8.o];exact HS.o.answer T.a Cn _ _ _ _
 have lF:(ζ P:Int)<(m:Int):=I;have K:(k:Int)<(ζ pl:Int):=I;obtain⟨p,U⟩:=La hk;obtain⟨c,hc⟩:=La (l:=nl) (i:=k)<|L' T.e.len;have HP:J (pl[k]?=C' p/\c.n=p.n/\Er w2 c.ev (fK S p.nc k)/\wV Q p.n):=⟨U,(T.e.each k c p hc U).n,T.E k c p hc U,HF.o.nin p<|aK U⟩;clear U;obtain⟨L,t⟩:=A HS.o.ms.box;have i:=HS.o.Fw;have a:=QF w2.1.size (δ w.1+1+1) Q z wr (by have:=HS.o.ms.aG;rw[i]at this|-;exact this) I;rw[i]at a;have Y:=ſ a;clear a i;go_wp2_with fail
 refine bE Y.o ?_;clear Y;rintro e W3 ⟨Y,a,rfl,d,r⟩;obtain⟨ca,X,rfl⟩:=aX d;obtain⟨q3,y,v⟩:∃q,φ (h' ca Q X)=C' q/\δ wr.1<=q:=by
  rcases d.2 with⟨h,_⟩|⟨q,a,a,h,hq,_⟩
  .exact absurd h r
  cases h;exact⟨q,rfl,hq⟩
 have a:J (pU w2 W3 sb Q z A8 l (h' (C'<|O (δ w.1+1+1) 0) Q Q) P? f (bk sa (ζ P) sc) P):=HS.o.below Y;have HQ:J (ρ W3 wr.1.size 2 1 (h' ca Q X) Q (z.map G)/\φ (h' ca Q X)=C' q3/\δ wr.1<=q3):=⟨d,y,v⟩;have hl1:ζ P+1<=maxLen:=by unfold maxLen;omega
 have I1:(ζ P+1)*32<=140737488355328:=I
 have HRW:J (ρ (W3.alloc<|j' #[G k,h' ca Q X] 113) w2.1.size 113 2 (bk sa (ζ P) sc) (ζ P) (fI P)/\(∀j u,[G k,h' ca Q X][j]?=C' u->χ (W3.alloc<|j' #[G k,h' ca Q X] 113) (((O W3.1.size 0):Addr).add j)=C' u)/\δ w2.1<=δ (W3.alloc<|j' #[G k,h' ca Q X] 113).1):=by
  refine⟨a.o.row.alloc _,?_,by have:=a.o.low.size;simp;omega⟩;intro j u hj
  match j,hj with
  |0,hj=>simp at hj;subst hj;simp[Addr.add]
  |1,hj=>simp at hj;subst hj;simp[Addr.add]
 clear d r y v L t;go_wp2_with (at_builtin;go_must (refine iK _ rfl (.tmp 21) (.tmp 27) 55 rfl w2.1.size 113 i2 (k' #[G 0,h' D' 0 0]) 2 32 underlying55 E.a E.b E.c E.C rfl aj _ _ _ rfl HRW.a (O W3.1.size 0) 1 1 [G k,h' ca Q X] rfl rfl HRW.b (by intro u C;simp at C;rcases C with rfl|rfl<;>rfl) hl1 I1 HRW.B ?_;intro E W4 d W r;obtain⟨a4,c4,rfl⟩:=aX d;have a:=HS.o.push Y HQ.a HQ.b HQ.B W d;have ZI:=ſ a;clear a d W r;have d:=(ZI.a.low.block w.1.size I).trans T.b;obtain⟨mq,L⟩:=A d;have a:=T.d.of_block<|ZI.a.low.block g T.d.lt;obtain⟨q0,q1,q2,q4,y,q6,q7,q8,q9,q10,q11,U,q13,t⟩:=a.all k c hc;clear d a));have W:J (pU w2 (W4.alloc<|j' #[m' c.bL,h' c.wa c.wl c.wc,G c.n.aO,G c.n.var,G c.n.op,G c.n.test,i' c.n.a.aN,G c.n.a.var,G c.n.a.bJ,i' c.n.b.aN,G c.n.b.var,G c.n.b.bJ,h' c.ea c.el c.ec,m' c.n.dz] 152) sb Q z A8 l (h' (C'<|O (δ w.1+1+1) 0) Q Q) P? f (h' a4 (ζ P+1) c4)<|P++[(k,h' ca Q X,z)]):=ZI.a.below<|(aP _ _).alloc (aD _) _;have i:=W.o.Fw;have a:=ſ<|OB sb w2.1.size (h' (C'<|O (δ w.1+1+1) 0) Q Q) P? f c.wv c.ev z A8 l c.bL c.n _ W.o.ms (by rw[i,HP.b];exact HP.C) (by have:=ZI.A;have:=W.o.XO;simp at this;omega);simp only[aJ]at a;clear i;refine bE a.o ?_;clear a;obtain⟨r,hr⟩:∃r,jA c.n z A8 l=r:=⟨_,rfl⟩;rw[hr];rintro e C ⟨rfl,d,ck,a,i,v⟩;have II:J (jA p.n z A8 l=r):=by rw[<-HP.b];exact hr
 have Wx:J (pU w2 C sb Q r.2.1 r.2.2.1 r.2.2.2 (h' (C'<|O (δ w.1+1+1) 0) Q Q) ck a (h' a4 (ζ P+1) c4)<|P++[(k,h' ca Q X,z)]):=by have a:=Fz p.n z A8 l;rw[II.o]at a;exact W.o.visited d i v a.1<|L' ZI.A
 obtain⟨cd,cc,rfl⟩:=aX Wx.o.ms.outs;have tI:d' C W4.1.size #[m' c.bL,h' c.wa c.wl c.wc,G c.n.aO,G c.n.var,G c.n.op,G c.n.test,i' c.n.a.aN,G c.n.a.var,G c.n.a.bJ,i' c.n.b.aN,G c.n.b.var,G c.n.b.bJ,h' c.ea c.el c.ec,m' c.n.dz] 152:=by
  refine(d.block W4.1.size ak ?_ ?_ ?_).trans<|bj _ _
  .have:=ZI.a.ms.lt;omega
  .intro e;have:=(ZI.a.ms.aG.lt _ e.symm).2;omega
  intro e;have:=(ZI.a.ms.outs.lt _ e.symm).2;omega
 obtain⟨mv,a⟩:=A tI;obtain⟨a,a⟩:=A Wx.o.ms.box;obtain⟨B,mh⟩:=A<|(Wx.o.low.block (δ w.1+1) I).trans T.c;have WA:J (δ W4.1<δ C.1/\sb<δ W4.1):=⟨(bG.1 tI).1,ZI.a.ms.lt⟩;clear hr d i v mq L q0 q1 q2 q4 y q6 q7 q8 q9 q10 q11 U q13 t;by_cases f:r.1=0;rotate_left
 .have D:(r.1==0)=Q':=by simp[f]
  have Em:(r.1 !=0)=P':=by simp[f]
  have V8:J (h! pl S m 0 (replicate Q 0) F [] []=(r.1,r.2.2.2,wE<|P++[((k,h' ca Q X,z):CM)])):=by show _=_;rw[HR.o,BH HP.a lG,ax<|by rw[II.o];exact f,II.o,BF]
  clear tI;go_wp2_with fail;refine aC (v:=k' #[G r.1,h' cd (ζ r.2.2.2) cc,h' a4 (ζ P+1) c4]) (by simp[results48,go_sem,B]) rfl ?_;rw[V8.o];exact Wx.o.answer T.a Cn _ _ _ _
 have D:(r.1==0)=P':=by simp[f]
 have Em:(r.1 !=0)=Q':=by simp[f]
 have fw:(jA p.n z A8 l).1=0:=by rw[II.o];exact f
 obtain⟨t,U,Qc⟩:=HF.o.edge k p r.2.1 HP.a<|yg fw;obtain⟨i,hi⟩:∃i:Nat,kD p.n r.2.1=(i:Int):=⟨(kD p.n r.2.1).toNat,L'<|N9 p.n r.2.1⟩;rw[hi,rK]at U;have d:=(aV.1 U).1;obtain⟨eb,y,v⟩:∃b,c.ev=h' (C' ⟨b,0,D'⟩) (ζ<|fK S p.nc k) (ζ<|fK S p.nc k)/\d' w2 b (θ<|(fK S p.nc k).map G) 3:=by
  rcases HP.c with⟨e,_⟩|h
  .rw[e]at d;simp at d
  exact h
 obtain⟨L,hL⟩:∃L,ζ (fK S p.nc k)=L:=⟨_,rfl⟩;rw[hL]at y d;simp only[NC.ev,Value.slice.injEq]at y;obtain⟨f,h,g⟩:=y;rw[f,h,g]at mv tI;have a:∀W,Bl w2 W->χ W (O eb i)=C' (G t):=by intro W j;have:=(A<|(j.block eb (bG.1 v).1).trans v).1 i;rw[this];simp[U]
 have d:=a C Wx.o.low;have j:J (∀W,Bl w2 W->χ W (O eb i)=C' (G t)):=a;have b:(i:Int)<L:=I;have b:=Wx.o.Fw;have d:=ſ (U? sb w2.1.size (h' (C'<|O (δ w.1+1+1) 0) Q Q) ck (bk cd (ζ r.2.2.2) cc) c.wv (cw eb L) r.2.1 r.2.2.1 r.2.2.2 c.bL c.n C.drew (Wx.o.ms.below<|(aP _ _).drew)<|by rw[b,HP.b];exact HP.C);rw[HP.b,hi,<-HP.b]at d;simp only[aJ]at d;have V8:J (h! pl S m 0 (replicate Q 0) F [] []=h! pl S (m-(ζ P+1)) t r.2.1 r.2.2.1 r.2.2.2 (wE<|P++[((k,h' ca Q X,z):CM)])):=by show _=_;rw[HR.o,BH HP.a lG,aB fw,II.o,hi,BF];simp[getD,U]
 have l:J (C.1[δ W4.1]?=_):=tI;clear U v f h g a hL b hi;go_wp2_with fail
 go_region_held3 (λa=>χ a (O W4.1.size 0)=C' (m' c.bL)/\χ a (O W4.1.size 1)=C' (bk c.wa c.wl c.wc)/\χ a (O W4.1.size 2)=C' (G c.n.aO)/\χ a (O W4.1.size 3)=C' (G c.n.var)/\χ a (O W4.1.size 4)=C' (G c.n.op)/\χ a (O W4.1.size 5)=C' (G c.n.test)/\χ a (O W4.1.size 6)=C' (i' c.n.a.aN)/\χ a (O W4.1.size 7)=C' (G c.n.a.var)/\χ a (O W4.1.size 8)=C' (G c.n.a.bJ)/\χ a (O W4.1.size 9)=C' (i' c.n.b.aN)/\χ a (O W4.1.size 10)=C' (G c.n.b.var)/\χ a (O W4.1.size 11)=C' (G c.n.b.bJ)/\χ a (O W4.1.size 12)=C' (cw eb L)/\χ a (O W4.1.size 13)=C' (m' c.n.dz)/\χ a (O eb i)=C' (G t)) (go_keep) ((go_at_call 99;refine bE d.o ?_;rintro e U ⟨rfl,E⟩;obtain⟨a,a⟩:=A<|(E.block W4.1.size WA.a).trans l.o;have a:=j.o U<|Wx.o.low.trans<|(aP C.1.size C).drew.trans E |>.mono Wx.o.low.size))
 go_wp2_with fail;refine⟨⟨r.2.1,r.2.2.1,r.2.2.2,a4,c4,ck,h' cd (ζ r.2.2.2) cc,P++[(k,h' ca Q X,z)],t,rfl,ak,I',Qc,?_,?_⟩,by simp[Ô];omega⟩
 .show pU _ _ _ _ _ _ _ _ _ _ _ _;rw[aW];exact Wx.o.below<|(aP C.1.size C).drew.trans E
 show _=_;rw[aW];exact V8.o
end
section
variable {S:List (bD×Nat)}
def Mh(E:List bD)(v:bD):fY E v<ζ (cZ E v):=by
 unfold fY cZ;split
 .rename_i h;have:=qW h;omega
 simp only[aW,fP];omega
def By(E:List bD)(v:bD):ζ E<=ζ (cZ E v):=by unfold cZ;split<;>simp
def k8(E:List bD)(s:z'):ζ E<=ζ (dx E s):=by
 unfold dx;split
 .exact By _ _
 exact aD _
def uQ(E:List bD)(s:z'):oD (ζ<|dx E s) (qP E s):=by
 unfold oD qP dx;split
 .intro _;exact⟨wW _ _,Mh _ _⟩
 intro h;cases h
def oD.mono{o:kE}(h:oD n o)(d:n<=m):oD m o:=λe=>⟨(h e).1,L'<|(h e).2⟩
def wV.mono{x:SN}(h:wV n x)(d:n<=m):wV m x:=⟨h.aO,λe=>⟨(h.var e).1,L'<|(h.var e).2⟩,λe=>(h.a e).mono d,λe=>(h.b e).mono d⟩
def agU(n:Nat):wV n ⟨6,0,0,0,o0,o0,emp⟩:=⟨ak,ak,ak,ak⟩
def Si(E:List bD)(R:List z'):ζ E<=ζ (kV E R).2.2/\((kV E R).2.1=P'->wV (ζ (kV E R).2.2) (kV E R).1):=by
 have e:∀R,ζ E<=ζ (qO E R).2.2/\((qO E R).2.1=P'->wV (ζ (qO E R).2.2) (qO E R).1):=by
  intro R;unfold qO;split
  .rename_i b;exact⟨k8 _ _,λ_=>⟨ak,ak,λ_=>uQ _ _,ak⟩⟩
  exact⟨aD _,λh=>by cases h⟩
 have c:∀R,ζ E<=ζ (kP E R).2.2/\((kP E R).2.1=P'->wV (ζ (kP E R).2.2) (kP E R).1):=by
  intro R;unfold kP;split
  .exact⟨aD _,λ_=>⟨ak,ak,ak,ak⟩⟩
  exact⟨aD _,λh=>by cases h⟩
 have S:∀R,ζ E<=ζ (Cm E R).2.2/\((Cm E R).2.1=P'->wV (ζ (Cm E R).2.2) (Cm E R).1):=by
  intro R;unfold Cm;split
  .rename_i _ b W i Y p;split
   .exact⟨br (k8 E b)<|k8 _ i,λ_=>⟨ak,ak,λ_=>(uQ E b).mono<|k8 _ i,λ_=>uQ _ i⟩⟩
   exact⟨aD _,λh=>by cases h⟩
  exact⟨aD _,λh=>by cases h⟩
 have f:∀R,ζ E<=ζ (iG E R).2.2/\((iG E R).2.1=P'->wV (ζ (iG E R).2.2) (iG E R).1):=by
  intro R;unfold iG;split;rotate_left
  .exact⟨aD _,λh=>by cases h⟩
  rename_i u b W q;have C:=By E u.1.1;have a:=Mh E u.1.1;have N:=wW E u.1.1;have d:=k8 (cZ E u.1.1) W;split;rotate_left
  .exact⟨aD _,λh=>by cases h⟩
  split
  .split
   .exact⟨C,λ_=>⟨ak,λ_=>⟨N,a⟩,ak,ak⟩⟩
   exact⟨by simp only;omega,λ_=>⟨ak,λ_=>⟨N,by simp only;omega⟩,λ_=>uQ _ _,ak⟩⟩
  .rename_i i Y;have l:=k8 (dx (cZ E u.1.1) W) Y;exact⟨by simp only;omega,λ_=>⟨ak,λ_=>⟨N,by simp only;omega⟩,λ_=>(uQ _ _).mono l,λ_=>uQ _ _⟩⟩
  exact⟨by simp only;omega,λh=>by cases h⟩
 unfold kV;split
 .exact⟨aD _,λh=>by cases h⟩
 split
 .exact e _
 split
 .exact S _
 split
 .exact c _
 split
 .exact⟨aD _,λ_=>agU _⟩
 exact f _
def acQ(E:List bD)(R:List z'):ζ E<=ζ (gK E R).2.2.2.2/\((gK E R).2.2.2.1=P'->wV (ζ (gK E R).2.2.2.2) (gK E R).2.2.1):=by
 unfold gK;split
 .exact⟨aD _,λh=>by cases h⟩
 split
 .split
  .split
   .exact⟨aD _,λh=>by cases h⟩
   exact Si _ _
  exact⟨aD _,λh=>by cases h⟩
 exact Si _ _
def Ĳ(h:p:=by
 split at h
 .exact B E V b a c h
 split at h;rotate_left
 .cases h
 rename_i o;refine B _ _ b a ?_ h;intro p U;rcases eC.1 U with U|U
 .exact(c p U).mono C
 simp at U;subst U;exact d o):p:=h
def ab0:∀(L:List<|List z')(E:List bD)(V b:List PN)(a:List bD),(∀p∈V,wV (ζ E) p.n)->rm E V L=C' (b,a)->∀p∈b,wV (ζ a) p.n:=by
 intro L;induction L with
 |nil=>intro E V b a c h;simp[rm]at h;rw[<-h.1,<-h.2];exact c
 |cons R r B=>intro E V b a c h;rw[rm]at h;obtain⟨C,d⟩:=acQ E R;exact Ĳ
def Ta:∀(a:List z')(i:Nat)(S b:List<|bD×Nat),kN i S a=C' b->∀p∈b,p∈S\/p.2<i+ζ a:=by
 intro a;induction a with
 |nil=>intro i S b h p U;simp[kN]at h;subst h;exact aI U
 |cons x r B=>
  intro i S b h p U;rw[kN]at h;split at h
  .rcases B _ _ _ h p U with a|a
   .exact aI a
   exact aH I'
  split at h
  .cases h
  rcases B _ _ _ h p U with a|a
  .rcases eC.1 a with N|N
   .exact aI N
   simp at N;subst N;exact aH ak
  exact aH I'
def Ml(h:∀p∈S,p.2<n)(D:0<n)(v:bD):∃t:Nat,Dl S v=(t:Int)/\t<n:=by
 unfold Dl;split
 .rename_i p U;exact⟨p.2,rfl,h p (by have:=mem_of_find?_eq_some U;simpa using this)⟩
 exact⟨0,rfl,D⟩
def İ(h:p:=by
 by_cases a:j+1=ζ c;rotate_left
 .omega
 exfalso;have h:=b.2;unfold u! at h;have i:(c.map PN.nc).getLast?=C' p.nc:=by rw[C7,bA,bH,show ζ c-1=j by omega,f];rfl
 rw[i]at h;simp only[bA,jY,<-a]at h;have:(fK S p.nc<|j+1-1).contains ((j+1:Nat):Int)=P':=by
  unfold fK I4;have V:p.nc.n.aO=p.n.aO:=rfl;rw[V];by_cases d:p.n.aO=4
  .simp[d]
  simp[d,g,e]
 rw[this]at h
 cases h):p:=h
def Ex{s:z'}{c:List PN}{E:List bD}(h:jG s=Pr.ok c E)(U:kN 0 [] (c.map PN.bL)=C' S):Fit c S (ζ E):=by
 obtain⟨_,D,o,a,_⟩:=kt h;simp only[i6,aS]at o;have b:=o.2;unfold ef at b;rw[D!,U]at b;simp only[aS]at b;have L:∀p∈S,p.2<ζ c:=by
  intro p B;rcases Ta _ _ _ _ U p B with C|C
  .cases C
  simpa using C
 refine⟨ab0 _ [] [] c E ak a,?_⟩;intro j p P f e;have r:=(aV.1 f).1;obtain⟨t,U,k⟩:=Ml L D p.n.dz.1.1;have q:p.n.aO≠5->j+1<ζ c:=by intro g;exact İ
 unfold fK I4 kD;have V:p.nc.n.aO=p.n.aO:=rfl;have u:p.nc.n.dz=p.n.dz:=rfl;rw[V,u,U];by_cases d:p.n.aO=4
 .simp only[d,oj];by_cases y:o! p.n.test (kh P p.n.a) (kh P p.n.b)=Q'
  .rw[aB y];exact⟨j+1,ak,q I⟩
  rw[ax y];exact⟨t,ak,k⟩
 rw[ax<|by simp[d]];by_cases l:p.n.aO=5
 .exact⟨t,by simp[l],k⟩
 exact⟨j+1,by simp[d,l,e],q l⟩
end
section
variable {a:t'}{n:SN}
def KC.qSt(aO:Int)(nb db fb fk:Nat)(caps:Array A'):Prop:=
 (aO=0/\fk=308/\caps=(rQ nb db))\/(aO=2/\fk=311/\caps=(rQ nb db))\/(aO=1/\fk=312/\caps=(rQ db nb))\/(aO=4/\fk=314/\caps=#[n'<|C'<|O db 0,n'<|C'<|O nb 0,n'<|C'<|O fb 0])\/((aO≠0/\aO≠1/\aO≠2/\aO≠4)/\fk=316/\caps=#[])
def KB.qSt(aO:Int)(nb db fb fk:Nat)(caps:Array A'):Prop:=
 (aO=0/\fk=318/\caps=(rQ nb db))\/(aO=2/\fk=321/\caps=(rQ nb db))\/(aO=1/\fk=322/\caps=(rQ db nb))\/(aO=4/\fk=324/\caps=#[n'<|C'<|O db 0,n'<|C'<|O nb 0,n'<|C'<|O fb 0])\/((aO≠0/\aO≠1/\aO≠2/\aO≠4)/\fk=326/\caps=#[])
def KC.qf(w:t')(sb:Nat)(n:SN)(so:Bool):Prop:=∃(bL:z')(wa ea:u')(wl wc el ec nb db fb fk:Nat)(caps:Array A'),w.1[db]?=C' (j' #[.iface 328<|k' #[]] 381 (0,0))/\w.1[nb]?=C' (j' (aJ bL (h' wa wl wc) n<|h' ea el ec) 152 (0,0))/\w.1[fb]?=C' (x! so)/\w.1[sb]?=C' (j' #[.func (.func fk) #[] caps] 376 (0,0))/\KC.qSt n.aO nb db fb fk caps
def KB.qf(w:t')(sb:Nat)(n:SN)(so:Bool):Prop:=∃(bL:z')(wa ea:u')(wl wc el ec nb db fb fk:Nat)(caps:Array A'),w.1[db]?=C' (j' #[.iface 331<|k' #[]] 386 (0,0))/\w.1[nb]?=C' (j' (aJ bL (h' wa wl wc) n<|h' ea el ec) 152 (0,0))/\w.1[fb]?=C' (x! so)/\w.1[sb]?=C' (j' #[.func (.func fk) #[] caps] 338 (0,0))/\KB.qSt n.aO nb db fb fk caps
def ļ(h:p:=by
 obtain⟨x,q,i,j,⟨L,f,k⟩,⟨F,D,X⟩,g⟩:=n;have K:=ſ λ(a b c d:Obj)=>sw w a b c d;simp only[aJ];cases l:(x==0);rotate_left
 .have b:J (qSt x (δ w.1+1) w.1.size (δ w.1+1+1) Xy #[n'<|C'<|O (δ w.1+1) 0,n'<|cA w.1.size]):=aI ⟨J' l,rfl,rfl⟩;go_enter Pj,Ph;go_wp2_with fail;obtain⟨s,v,a,t⟩:=IG w (j' #[.iface ib<|k' #[]] yR) (j' #[m' bL,h' wa wl wc,G x,G q,G i,G j,i' L,G f,G k,i' F,G D,G X,h' ea el ec,m' g] 152) (j' #[i' so] 4)<|j' #[.func (.func Xy) #[] #[n'<|C'<|O (δ w.1+1) 0,n'<|cA w.1.size]] Kd;refine aC (v:=.func (.func Ke) #[] #[n'<|C'<|O (δ w.1+1+1+1) 0]) (by simp[results274,results279,go_sem]) rfl ⟨δ w.1+3,rfl,I,⟨bL,wa,ea,wl,wc,el,ec,δ w.1+1,δ w.1,δ w.1+2,Xy,#[n'<|C'<|O (δ w.1+1) 0,n'<|cA w.1.size],s,v,a,t,b.o⟩,K.o _ _ _ _⟩
 cases c:(x==2);rotate_left
 .have b:J (qSt x (δ w.1+1) w.1.size (δ w.1+1+1) Xz #[n'<|C'<|O (δ w.1+1) 0,n'<|cA w.1.size]):=aH<|aI ⟨J' c,rfl,rfl⟩;go_enter Pj,Ph;go_wp2_with fail;obtain⟨s,v,a,t⟩:=IG w (j' #[.iface ib<|k' #[]] yR) (j' #[m' bL,h' wa wl wc,G x,G q,G i,G j,i' L,G f,G k,i' F,G D,G X,h' ea el ec,m' g] 152) (j' #[i' so] 4)<|j' #[.func (.func Xz) #[] #[n'<|C'<|O (δ w.1+1) 0,n'<|cA w.1.size]] Kd;refine aC (v:=.func (.func Ke) #[] #[n'<|C'<|O (δ w.1+1+1+1) 0]) (by simp[results274,results279,go_sem]) rfl ⟨δ w.1+3,rfl,I,⟨bL,wa,ea,wl,wc,el,ec,δ w.1+1,δ w.1,δ w.1+2,Xz,#[n'<|C'<|O (δ w.1+1) 0,n'<|cA w.1.size],s,v,a,t,b.o⟩,K.o _ _ _ _⟩
 cases C:(x==1);rotate_left
 .have b:J (qSt x (δ w.1+1) w.1.size (δ w.1+1+1) XA #[n'<|cA w.1.size,n'<|C'<|O (δ w.1+1) 0]):=aH<|aH<|aI ⟨J' C,rfl,rfl⟩;go_enter Pj,Ph;go_wp2_with fail;obtain⟨s,v,a,t⟩:=IG w (j' #[.iface ib<|k' #[]] yR) (j' #[m' bL,h' wa wl wc,G x,G q,G i,G j,i' L,G f,G k,i' F,G D,G X,h' ea el ec,m' g] 152) (j' #[i' so] 4)<|j' #[.func (.func XA) #[] #[n'<|cA w.1.size,n'<|C'<|O (δ w.1+1) 0]] Kd;refine aC (v:=.func (.func Ke) #[] #[n'<|C'<|O (δ w.1+1+1+1) 0]) (by simp[results274,results279,go_sem]) rfl ⟨δ w.1+3,rfl,I,⟨bL,wa,ea,wl,wc,el,ec,δ w.1+1,δ w.1,δ w.1+2,XA,#[n'<|cA w.1.size,n'<|C'<|O (δ w.1+1) 0],s,v,a,t,b.o⟩,K.o _ _ _ _⟩
 cases d:(x==4)
 .have b:J (qSt x (δ w.1+1) w.1.size (δ w.1+1+1) XC #[]):=aH<|aH<|aH<|aH ⟨by simp at l C c d;exact⟨l,C,c,d⟩,rfl,rfl⟩;go_enter Pj,Ph;go_wp2_with fail;obtain⟨s,v,a,t⟩:=IG w (j' #[.iface ib<|k' #[]] yR) (j' #[m' bL,h' wa wl wc,G x,G q,G i,G j,i' L,G f,G k,i' F,G D,G X,h' ea el ec,m' g] 152) (j' #[i' so] 4)<|j' #[.func (.func XC) #[] #[]] Kd;refine aC (v:=.func (.func Ke) #[] #[n'<|C'<|O (δ w.1+1+1+1) 0]) (by simp[results274,results279,go_sem]) rfl ⟨δ w.1+3,rfl,I,⟨bL,wa,ea,wl,wc,el,ec,δ w.1+1,δ w.1,δ w.1+2,XC,#[],s,v,a,t,b.o⟩,K.o _ _ _ _⟩
 have b:J (qSt x (δ w.1+1) w.1.size (δ w.1+1+1) XB #[n'<|cA w.1.size,n'<|C'<|O (δ w.1+1) 0,n'<|C'<|O (δ w.1+1+1) 0]):=aH<|aH<|aH<|aI ⟨J' d,rfl,rfl⟩;go_enter Pj,Ph;go_wp2_with fail;obtain⟨s,v,a,t⟩:=IG w (j' #[.iface ib<|k' #[]] yR) (j' #[m' bL,h' wa wl wc,G x,G q,G i,G j,i' L,G f,G k,i' F,G D,G X,h' ea el ec,m' g] 152) (j' #[i' so] 4)<|j' #[.func (.func XB) #[] #[n'<|cA w.1.size,n'<|C'<|O (δ w.1+1) 0,n'<|C'<|O (δ w.1+1+1) 0]] Kd
 refine aC (v:=.func (.func Ke) #[] #[n'<|C'<|O (δ w.1+1+1+1) 0]) (by simp[results274,results279,go_sem]) rfl ⟨δ w.1+3,rfl,I,⟨bL,wa,ea,wl,wc,el,ec,δ w.1+1,δ w.1,δ w.1+2,XB,#[n'<|cA w.1.size,n'<|C'<|O (δ w.1+1) 0,n'<|C'<|O (δ w.1+1+1) 0],s,v,a,t,b.o⟩,K.o _ _ _ _⟩):p:=h
open KC in
def KC.B6(bL:z')(wa ea:u')(wl wc el ec:Nat)(n:SN)(so:Bool)(w:t'):
 Cl 274 #[.iface 328<|k' #[],k'<|aJ bL (h' wa wl wc) n<|h' ea el ec,i' so] w λr e=>∃o,r=o' (.func (.func 317) #[] #[n'<|C'<|O o 0])/\δ w.1<=o/\KC.qf e o n so/\Bl w e:=by exact ļ
open KB in
def KB.B6(bL:z')(wa ea:u')(wl wc el ec:Nat)(n:SN)(so:Bool)(w:t'):
 Cl 279 #[.iface 331<|k' #[],k'<|aJ bL (h' wa wl wc) n<|h' ea el ec,i' so] w λr e=>∃o,r=o' (.func (.func 327) #[] #[n'<|C'<|O o 0])/\δ w.1<=o/\KB.qf e o n so/\Bl w e:=by exact ļ
def ZW(h:p:=by
 obtain⟨c,y,i,wl,wc,V,B,f,s,g,u,a,C,e,N,d,l⟩:=h
 exact⟨c,y,i,wl,wc,V,B,f,s,g,u,a,aF b C,aF b e,aF b N,aF b d,l⟩):p:=h
def KC.qf.below(h:KC.qf w o n g)(b:Bl w a):KC.qf a o n g:=by exact ZW
def KB.qf.below(h:KB.qf w o n g)(b:Bl w a):KB.qf a o n g:=by exact ZW
end
section
def KC.e?(e:PE)(n:SN)(so:Bool):PE:=if e.r then(if n.aO=0 then e.put n.var.toNat (jl e n.a) else if n.aO=2 then e.put n.var.toNat VV.fM else if n.aO=1 then KC.rY e n else if n.aO=4 then KC.rZ e n so else e) else PE.zero
def KB.e?(e:PE)(n:SN)(so:Bool):PE:=if e.r then(if n.aO=0 then e.put n.var.toNat (jl e n.a) else if n.aO=2 then e.put n.var.toNat VV.all else if n.aO=1 then KB.rY e n else if n.aO=4 then KB.rZ e n so else e) else PE.zero
def Ľ{p:Prop}(h:p:=by
 obtain⟨b,y,i,wl,wc,V,B,f,s,o,u,c,C,c,N,d,l⟩:=h;rcases l with⟨K,rfl,rfl⟩|⟨K,rfl,rfl⟩|⟨K,rfl,rfl⟩|⟨K,rfl,rfl⟩|⟨⟨g,l,x,k⟩,rfl,rfl⟩
 .have q:e? e n so=if e.r then e.put n.var.toNat (jl e n.a) else PE.zero:=by(first|unfold KC.e?|unfold KB.e?);simp[K]
  rw[q];exact jF e _ sb _ _ w d (λD w=>afP D w) λ_ W j=>y? e b y i wl wc V B n f s W (aF j c) (aF j C) (hv I) (ha<|by simp[dP,K])
 .first|(have _:=DU;have q:e? e n so=if e.r then e.put n.var.toNat VV.fM else PE.zero:=by(first|unfold KC.e?|unfold KB.e?);simp[K])|(have q:e? e n so=if e.r then e.put n.var.toNat VV.all else PE.zero:=by(first|unfold KC.e?|unfold KB.e?);simp[K])
  rw[q];exact jF e _ sb _ _ w d (λD w=>afO D w) λ_ W j=>y8 e b y i wl wc V B n f s W (aF j c) (aF j C)<|hv I
 .have q:e? e n so=if e.r then rY e n else PE.zero:=by(first|unfold KC.e?|unfold KB.e?);simp[K]
  rw[q];exact jF e _ sb _ _ w d (λD w=>afN D w) λ_ W j=>y7 e b y i wl wc V B n f s W (aF j c) (aF j C) (hv I) (ha<|by simp[dP,K]) (hb<|by simp[dP,K]) (En<|by simp[dP,K]) (Cp<|by simp[dP,K])
 .have q:e? e n so=if e.r then rZ e n so else PE.zero:=by(first|unfold KC.e?|unfold KB.e?);simp[K]
  rw[q];exact jF e _ sb _ _ w d (λD w=>afM D w) λ_ W j=>y5 e b y i wl wc V B n so f s o W (aF j c) (aF j C) (aF j N) (ha<|by simp[dP,K]) (hb<|by simp[dP,K]) (En<|by simp[dP,K]) (Cp<|by simp[dP,K])
 have q:e? e n so=if e.r then e else PE.zero:=by(first|unfold KC.e?|unfold KB.e?);simp[g,l,x,k]
 rw[q]
 exact jF e _ sb _ _ w d (λD w=>afL D w) λ_ W j=>y0 e W):p:=h
open KC in
def KC.BZ(e:PE)(n:SN)(so:Bool)(sb:Nat)(w:t')(h:KC.qf w sb n so)(hv:n.aO<=2->0<=n.var/\n.var<8)(a:0<=n.aO)(ha:0<dP n->n.a.aN=P'->0<=n.a.var/\n.a.var<8)(hb:1<dP n->n.b.aN=P'->0<=n.b.var/\n.b.var<8)(En:0<dP n->dD (b6<|jl e n.a))(Cp:1<dP n->dD (b6<|jl e n.b)):
 Cl 317 #[k'<|θ<|KC.aL e,n'<|C'<|O sb 0] w (Rb w<|k'<|θ<|KC.aL<|KC.e? e n so):=Ľ
open KB in
def KB.BZ(e:PE)(n:SN)(so:Bool)(sb:Nat)(w:t')(h:KB.qf w sb n so)(hv:n.aO<=2->0<=n.var/\n.var<8)(a:0<=n.aO)(ha:0<dP n->n.a.aN=P'->0<=n.a.var/\n.a.var<8)(hb:1<dP n->n.b.aN=P'->0<=n.b.var/\n.b.var<8)(En:0<dP n->dD (b6<|jl e n.a))(Cp:1<dP n->dD (b6<|jl e n.b)):
 Cl 327 #[k'<|θ<|KB.aL e,n'<|C'<|O sb 0] w (Rb w<|k'<|θ<|KB.aL<|KB.e? e n so):=Ľ
end
section
variable {e:PE}{E:List VV}
def PR(nv:Nat)(e:PE):EV->Prop
 |none=>e=PE.zero
 |some vs=>e.r=P'/\ζ vs=nv/\∀i,e.at i=vs.getD i VV.z
def oz(h:PR Q e<|C' E)(o:kE):jl e o=fO E o:=by rw[jl,fO,h.2.2];rfl
def mE(h:PR Q e<|C' E)(K:Q<=8)(a:k<Q)(x:VV):PR Q (e.put k x) (C'<|E.set k x):=by
 obtain⟨C,a,N⟩:=h;refine⟨C,by rw[jn,a],λi=>?_⟩;rw[PE.jO _ I,N,getD,getD,eQ];by_cases S:i=k
 .subst S;rw[aB rfl,aB rfl,aB I];rfl
 rw[ax S,ax λh=>S h.symm]
def XH(h:PR Q e<|C' E)(K:Q<=8)(a:k<Q):PR Q (e.put k<|e.at k) (C' E):=by
 obtain⟨C,a,N⟩:=h;refine⟨C,a,λi=>?_⟩;rw[PE.jO _ I];split
 .rename_i S;rw[S,N]
 exact N i
def M1(h:PR Q e<|C' E)(K:Q<=8)(o:kE)(a:o.aN=P'->0<=o.var/\o.var<Q)(x:VV):PR Q (KC.f? e o x) (C' E):=by
 unfold KC.f?;split
 .rename_i T;rw[aS]at T;have:=a T.2;exact XH h K I
 exact h
def S6{v:EV}(h:PR Q e v)(K:Q<=8)(n:SN)(g:Nat)(R:n.aO<=2->0<=n.var/\n.var<Q)(a:0<=n.aO)(c:n.aO=1->0<=n.op/\n.op<=3)(d:0<dP n->n.a.aN=P'->0<=n.a.var/\n.a.var<Q)(b:1<dP n->n.b.aN=P'->0<=n.b.var/\n.b.var<Q):PR Q (KC.e? e n (decide (g=0))) (AE 5 n g v):=by
 cases v with
 |none=>have D:e=PE.zero:=h;subst D;show KC.e? PE.zero n _=PE.zero;unfold KC.e?;rfl
 |some E=>
  show PR Q (KC.e? e n (decide (g=0)))<|Wh n g E;rw[KC.e?,Wh,aB h.1];by_cases U:n.aO=0
  .rw[aB U,ax I,aB U,oz h];exact mE h K (L'<|R I) _
  rw[ax U];by_cases k:n.aO=2
  .rw[aB k,aB k];exact mE h K (L'<|R I) _
  rw[ax k,ax k,ax U];by_cases a:n.aO=1;rotate_left
  .rw[ax a,ax a];by_cases w:n.aO=4;rotate_left
   .rw[ax w,ax w];exact h
   rw[aB w,aB w];rw[KC.rZ,KC.Pg,oz h,oz h];by_cases Q:((fO E n.a).any||(fO E n.b).any||o! n.test (fO E n.a).lo (fO E n.b).lo==decide (g=0))=P'
   .rw[aB Q,aB Q];exact M1 (M1 h K n.a (d<|by simp[dP,w]) _) K n.b (b<|by simp[dP,w]) _
   rw[ax Q,ax Q];rfl
  rw[aB a,ax I,aB a];rw[KC.rY,KC.XD,oz h,oz h];by_cases Q:n.op=3/\(fO E n.b).any=Q'/\(fO E n.b).lo=0
  .rw[aB Q,aB Q];rfl
  rw[ax Q,ax Q];by_cases p:((fO E n.a).any||(fO E n.b).any)=P'
  .rw[aB p,aB p];exact mE h K (L'<|R I) _
  rw[ax p,ax p];have o:qQ n.op (fO E n.b).lo=P':=by
   have:=c a;have a:(fO E n.b).any=Q':=by rw[j0,x5]at p;exact p.2
   unfold qQ;by_cases P:(fO E n.b).lo=0
   .have:n.op≠3:=λb=>Q ⟨b,a,P⟩;simp;omega
   simp[P]
  rw[aB o];exact mE h K (L'<|R I) _
end
section
variable {a b x:VV}{e:PE}{o:kE}
structure Wu(a:VV):Prop where
  any:a.any=Q'
  le:a.lo<=a.hi
  lo:-2^63<=a.lo
  hi:a.hi<=9223372036854775807
def Ÿ{p:Prop}(h:p:=by
 by_cases h:p.1<=p.2/\q.1<=q.2
 .rw[aB<|by simp[h],ax I']
 rw[ax I',aB I']):p:=h
def Nx(a b:VV)(p q:BB)(x y:VV)(F:x=xk a p)(B:y=xk b q):(if (jt p q).2.2 then C' (xk a (jt p q).1,xk b (jt p q).2.1) else D')=wH (x,y):=by subst F B;unfold jt wH xk;exact Ÿ
def Nw(a b:VV)(p q:BB)(x y:VV)(F:x=xk a q)(B:y=xk b p):(if (OI<|jt p q).2.2 then C' (xk a (OI<|jt p q).1,xk b (OI<|jt p q).2.1) else D')=wH (x,y):=by subst F B;unfold jt wH xk OI;exact Ÿ
def EK(h:Wu a)(u:Int):cx a (-9223372036854775808) u=xk a (a.lo,min a.hi u):=by unfold cx xk;have:=h.lo;rw[ax I];congr 1;split<;>simp<;>omega
def EL(h:Wu a)(u:Int):cx a u 9223372036854775807=xk a (max a.lo u,a.hi):=by unfold cx xk;have:=h.hi;rw[ax (c:=(9223372036854775807:Int)<a.hi) I];congr 1;split<;>simp<;>omega
def Zw(d:Wu a)(e:Wu b)(t:Int)(g:Bool):KB.Pg t g a b=pQ t g a b:=by
 by_cases c:t=0
 .subst c;cases g
  .have r:pQ 0 Q' a b=wH (cx a b.lo 9223372036854775807,cx b (-9223372036854775808) a.hi):=by unfold pQ xD;simp
   rw[r];exact Nw a b (b.lo,min b.hi a.hi) (max a.lo b.lo,a.hi) _ _ (by rw[EL d]) (by rw[EK e])
  by_cases T:b.hi=-9223372036854775808\/a.lo=9223372036854775807
  .have r:pQ 0 P' a b=D':=by unfold pQ xD;simp[T]
   have l:cN 0 P' (b6 a) (b6 b)=((0,0),(0,0),Q'):=by show i? (b6 a) (b6 b)=_;unfold i?;rw[aB<|by exact T]
   unfold KB.Pg;rw[r,l];rfl
  have r:pQ 0 P' a b=wH (cx a (-9223372036854775808)<|b.hi-1,cx b (a.lo+1) 9223372036854775807):=by unfold pQ xD;simp[T]
  have l:cN 0 P' (b6 a) (b6 b)=jt (a.lo,min a.hi (b.hi-1)) (max b.lo (a.lo+1),b.hi):=by show i? (b6 a) (b6 b)=_;unfold i?;rw[ax<|by exact T];rfl
  unfold KB.Pg;rw[r,l];exact Nx a b _ _ _ _ (by rw[EK d]) (by rw[EL e])
 by_cases S:t=1
 .subst S;cases g;rotate_left
  .have r:pQ 1 P' a b=wH (cx a (-9223372036854775808) b.hi,cx b a.lo 9223372036854775807):=by unfold pQ xD;simp
   rw[r];exact Nx a b (a.lo,min a.hi b.hi) (max b.lo a.lo,b.hi) _ _ (by rw[EK d]) (by rw[EL e])
  by_cases T:a.hi=-9223372036854775808\/b.lo=9223372036854775807
  .have r:pQ 1 Q' a b=D':=by unfold pQ xD;simp[T]
   have l:cN 1 Q' (b6 a) (b6 b)=((0,0),(0,0),Q'):=by show OI (i? (b6 b)<|b6 a)=_;unfold i?;rw[aB<|by exact T];rfl
   unfold KB.Pg;rw[r,l];rfl
  have r:pQ 1 Q' a b=wH (cx a (b.lo+1) 9223372036854775807,cx b (-9223372036854775808)<|a.hi-1):=by unfold pQ xD;simp[T]
  have l:cN 1 Q' (b6 a) (b6 b)=OI (jt (b.lo,min b.hi (a.hi-1)) (max a.lo (b.lo+1),a.hi)):=by show OI (i? (b6 b)<|b6 a)=_;unfold i?;rw[ax<|by exact T];rfl
  unfold KB.Pg;rw[r,l];exact Nw a b _ _ _ _ (by rw[EL d]) (by rw[EK e])
 have f:(if (kC (b6 a)<|b6 b).2.2 then C' (xk a (kC (b6 a)<|b6 b).1,xk b (kC (b6 a)<|b6 b).2.1) else D')=wH (cx a b.lo b.hi,cx a b.lo b.hi):=by
  unfold kC wH;rw[Il a b];have V:xk a (b6<|cx a b.lo b.hi)=cx a b.lo b.hi:=rfl;have u:xk b (b6<|cx a b.lo b.hi)=cx a b.lo b.hi:=by unfold xk b6 cx;rw[d.any,e.any]
  by_cases T:(b6<|cx a b.lo b.hi).1<=(b6<|cx a b.lo b.hi).2
  .have K:(cx a b.lo b.hi).lo<=(cx a b.lo b.hi).hi:=T;rw[aB<|by simpa using T,ax<|by simp;omega,V,u]
  have K:¬(cx a b.lo b.hi).lo<=(cx a b.lo b.hi).hi:=T;rw[ax<|by simpa using T,aB<|by left;simp;omega]
 have z:(if (fm (b6 a)<|b6 b).2.2 then C' (xk a (fm (b6 a)<|b6 b).1,xk b (fm (b6 a)<|b6 b).2.1) else D')=(match (if a.lo=a.hi/\VV.xw a b=P' then D' else C' (a,b))with|none=>D'|some q=>wH q):=by
  obtain⟨N,j,i⟩:=a;obtain⟨h,o,x⟩:=b;have C:=d.any;have h:=e.any;have N:=d.le;have d:=e.le;simp only at C h N d;subst C h;unfold fm b6 xk VV.xw;by_cases T:j=i/\(j=o/\i=x)
  .rw[ax<|by simp;omega,aB<|by simp;omega]
  rw[aB<|by simp;omega,ax<|by simp;omega];simp only[wH];rw[ax<|by simp;omega]
 by_cases d:t=2
 .subst d;cases g
  .have r:pQ 2 Q' a b=(match (if a.lo=a.hi/\VV.xw a b=P' then D' else C' (a,b))with|none=>D'|some q=>wH q):=by unfold pQ xD;simp;rfl
   rw[r];exact z
  have r:pQ 2 P' a b=wH (cx a b.lo b.hi,cx a b.lo b.hi):=by unfold pQ xD;simp
  rw[r];exact f
 cases g
 .have r:pQ t Q' a b=wH (cx a b.lo b.hi,cx a b.lo b.hi):=by unfold pQ xD;simp[c,S,d]
  have l:cN t Q' (b6 a) (b6 b)=kC (b6 a) (b6 b):=by unfold cN;simp[c,S,d]
  unfold KB.Pg;rw[r,l];exact f
 have r:pQ t P' a b=(match (if a.lo=a.hi/\VV.xw a b=P' then D' else C' (a,b))with|none=>D'|some q=>wH q):=by unfold pQ xD;simp[c,S,d];rfl
 have l:cN t P' (b6 a) (b6 b)=fm (b6 a) (b6 b):=by unfold cN;simp[c,S,d]
 unfold KB.Pg;rw[r,l];exact z
def ad8(e:Wu a)(f:Wu b){t:Int}{g:Bool}{q:VV×VV}(h:pQ t g a b=C' q):(a.lo<=q.1.lo/\q.1.hi<=a.hi/\q.1.lo<=q.1.hi/\q.1.any=Q')/\(b.lo<=q.2.lo/\q.2.hi<=b.hi/\q.2.lo<=q.2.hi/\q.2.any=Q'):=by
 have X:∀x y:VV,wH (x,y)=C' q->(a.lo<=x.lo/\x.hi<=a.hi/\x.any=Q')->(b.lo<=y.lo/\y.hi<=b.hi/\y.any=Q')->(a.lo<=q.1.lo/\q.1.hi<=a.hi/\q.1.lo<=q.1.hi/\q.1.any=Q')/\(b.lo<=q.2.lo/\q.2.hi<=b.hi/\q.2.lo<=q.2.hi/\q.2.any=Q'):=by
  intro x y c F B;unfold wH at c;split at c
  .cases c
  rename_i T;simp only[dq]at c;subst c;simp only[not_or,Int.not_lt]at T;exact⟨⟨F.1,F.2.1,T.1,F.2.2⟩,B.1,B.2.1,T.2,B.2.2⟩
 have c:∀(v:VV)(l u:Int),Wu v->v.lo<=(cx v l u).lo/\(cx v l u).hi<=v.hi/\(cx v l u).any=Q':=by intro v l u R;unfold cx;refine⟨?_,?_,R.any⟩<;>simp only<;>split<;>omega
 have d:b.lo<=(cx a b.lo b.hi).lo/\(cx a b.lo b.hi).hi<=b.hi:=by unfold cx;refine⟨?_,?_⟩<;>simp only<;>split<;>omega
 unfold pQ at h;cases U:xD t g a b with
 |none=>rw[U]at h;cases h
 |some z=>
  rw[U]at h;obtain⟨x,y⟩:=z;refine X x y h ?_ ?_
  .unfold xD at U;split at U
   .split at U
    .cases U
    simp only[dq,gM]at U;rw[<-U.1];exact c _ _ _ e
   split at U
   .simp only[dq,gM]at U;rw[<-U.1];exact c _ _ _ e
   split at U
   .simp only[dq,gM]at U;rw[<-U.1];exact c _ _ _ e
   split at U
   .split at U
    .cases U
    simp only[dq,gM]at U;rw[<-U.1];exact c _ _ _ e
   split at U
   .simp only[dq,gM]at U;rw[<-U.1];exact c _ _ _ e
   split at U
   .cases U
   simp only[dq,gM]at U;rw[<-U.1];exact⟨cV _,cV _,e.any⟩
  unfold xD at U;split at U
  .split at U
   .cases U
   simp only[dq,gM]at U;rw[<-U.2];exact c _ _ _ f
  split at U
  .simp only[dq,gM]at U;rw[<-U.2];exact c _ _ _ f
  split at U
  .simp only[dq,gM]at U;rw[<-U.2];exact c _ _ _ f
  split at U
  .split at U
   .cases U
   simp only[dq,gM]at U;rw[<-U.2];exact c _ _ _ f
  split at U
  .simp only[dq,gM]at U;rw[<-U.2];exact⟨d.1,d.2,(c _ _ _ e).2.2⟩
  split at U
  .cases U
  simp only[dq,gM]at U;rw[<-U.2];exact⟨cV _,cV _,f.any⟩
def adF{v:VV}(C:v.lo<=x.lo)(a:x.hi<=v.hi)(N:v.any=x.any):cx v x.lo x.hi=x:=by
 obtain⟨c,b,b⟩:=x;simp only at C a N;rw[cx,N];simp only;congr 1
 .split<;>omega
 split<;>omega
def Nl(c:e.r=P')(a:o.aN=P')(C:(e.at o.var.toNat).lo<=x.lo)(b:x.hi<=(e.at o.var.toNat).hi)(N:(e.at o.var.toNat).any=x.any)(d:x.lo<=x.hi):KB.f? e o x=e.put o.var.toNat x:=by rw[KB.f?,KB.Wf,c,a,adF C b N,aB d];rfl
def Nk(a:o.aN=Q'):KB.f? e o x=e:=by rw[KB.f?,a];simp
def afQ{b:Nat}{E:List VV}(h:PR b e<|C' E)(o:b<=8)(n:SN)(l:n.a.aN=P'->0<=n.a.var/\n.a.var<b)(f:n.b.aN=P'->0<=n.b.var/\n.b.var<b){y:VV}(F:(fO E n.a).lo<=x.lo/\x.hi<=(fO E n.a).hi/\x.lo<=x.hi/\x.any=Q')(B:(fO E n.b).lo<=y.lo/\y.hi<=(fO E n.b).hi/\y.lo<=y.hi/\y.any=Q')(j:(fO E n.a).any=Q')(k:(fO E n.b).any=Q'):PR b (KB.f? (KB.f? e n.a x) n.b y) (ö n E x y):=by
 rw[<-oz h]at F j;rw[<-oz h]at B k;have U:∀L,(n.a.aN=P'->L=e.put n.a.var.toNat x)->(n.a.aN=Q'->L=e)->PR b L (C'<|if 0<=jH n.a then E.set (jH n.a).toNat x else E):=by
  intro L C b;cases R:n.a.aN
  .rw[b R];have:jH n.a=-1:=by rw[jH,R];rfl
   rw[this];exact h
  rw[C R];have:jH n.a=n.a.var:=by rw[jH,R];rfl
  rw[this,aB (l R).1];exact mE h o (L'<|l R) x
 have T:KB.f? e n.a x=if n.a.aN then e.put n.a.var.toNat x else e:=by
  cases R:n.a.aN
  .rw[Nk R];rfl
  have q:jl e n.a=e.at n.a.var.toNat:=by rw[jl,R];rfl
  rw[q]at F j;rw[Nl h.1 R F.1 F.2.1 (by rw[j,F.2.2.2]) F.2.2.1];rfl
 have Y:=U (KB.f? e n.a x) (λR=>by rw[T,R];rfl) (λR=>by rw[T,R];rfl);unfold ö Û;cases z:n.b.aN
 .have:jH n.b=-1:=by rw[jH,z];rfl
  rw[this,ax aj,Nk z];exact Y
 have c:jH n.b=n.b.var:=by rw[jH,z];rfl
 have b:=f z;rw[c,aB b.1];have b:jl e n.b=e.at n.b.var.toNat:=by rw[jl,z];rfl
 rw[b]at B k;by_cases b:n.b.var=jH n.a;rotate_left
 .have W:(KB.f? e n.a x).at n.b.var.toNat=e.at n.b.var.toNat:=by
   rw[T];cases f:n.a.aN
   .rfl
   have g:jH n.a=n.a.var:=by rw[jH,f];rfl
   have:=l f;show(e.put n.a.var.toNat x).at _=_;rw[PE.jO _ I,ax I]
  rw[ax b,ax I,Nl Y.1 z (by rw[W];exact B.1) (by rw[W];exact B.2.1) (by rw[W,k,B.2.2.2]) B.2.2.1];exact mE Y o I _
 have f:n.a.aN=P':=by
  cases R:n.a.aN
  .have:jH n.a=-1:=by rw[jH,R];rfl
   omega
  rfl
 have g:jH n.a=n.a.var:=by rw[jH,f];rfl
 have W:(KB.f? e n.a x).at n.b.var.toNat=x:=by rw[T,f];show(e.put n.a.var.toNat x).at _=x;rw[PE.jO _<|L'<|l f,aB<|by rw[b,g]]
 rw[aB b];have p:∀V:PE,V.r=P'->V.at n.b.var.toNat=x->KB.f? V n.b y=(match KB.Wf x y with|some m=>V.put n.b.var.toNat m|none=>PE.zero):=by intro V r1 N;rw[KB.f?,r1,z,N];rfl
 rw[p _ Y.1 W];unfold KB.Wf;by_cases T:(cx x y.lo y.hi).lo<=(cx x y.lo y.hi).hi
 .rw[aB T,ax I];exact mE Y o I _
 rw[ax T,aB I];rfl
def S7{Q:Nat}{v:EV}(h:PR Q e v)(K:Q<=8)(n:SN)(g:Nat)(c:∀E,v=C' E->0<dP n->Wu (fO E n.a))(b:∀E,v=C' E->1<dP n->Wu (fO E n.b))(R:n.aO<=2->0<=n.var/\n.var<Q)(a:0<=n.aO)(i:0<dP n->n.a.aN=P'->0<=n.a.var/\n.a.var<Q)(d:1<dP n->n.b.aN=P'->0<=n.b.var/\n.b.var<Q):PR Q (KB.e? e n (decide (g=0))) (AE 6 n g v):=by
 cases v with
 |none=>have D:e=PE.zero:=h;subst D;show KB.e? PE.zero n _=PE.zero;unfold KB.e?;rfl
 |some E=>
  show PR Q (KB.e? e n (decide (g=0)))<|Wg n g E;rw[KB.e?,Wg,aB h.1];by_cases U:n.aO=0
  .rw[aB U,ax I,aB U,oz h];exact mE h K (L'<|R I) _
  rw[ax U];by_cases k:n.aO=2
  .rw[aB k,aB k];exact mE h K (L'<|R I) _
  rw[ax k,ax k,ax U];by_cases a:n.aO=1
  .rw[aB a,ax I,aB a];rw[KB.rY,oz h,oz h];have q:KB.XD n.op (fO E n.a) (fO E n.b)=Oc n.op (fO E n.a) (fO E n.b):=rfl;rw[q];cases Oc n.op (fO E n.a) (fO E n.b)with
   |none=>rfl
   |some m=>exact mE h K (L'<|R I) _
  rw[ax a,ax a];by_cases w:n.aO=4;rotate_left
  .rw[ax w,ax w];exact h
  rw[aB w,aB w];have a:0<dP n:=by simp[dP,w]
  have f:1<dP n:=by simp[dP,w]
  have l:=c E rfl a;have c:=b E rfl f;rw[KB.rZ,oz h,oz h,Zw l c];cases b:pQ n.test (decide (g=0)) (fO E n.a) (fO E n.b)with
  |none=>rfl
  |some q=>have S:=ad8 l c b;exact afQ h K n (i a) (d f) S.1 S.2 l.any c.any
end
section
def Ŕ(h:p:=by
 have Y:=ſ λW (d:Bl w W)=>B1 ao c es W (λj e l=>by obtain⟨b,o,q,f⟩:=h j e l;exact⟨b,o,q,fD f d⟩) hn Hp hj;clear h Hp hj hn;generalize es.foldl j8 PE.zero=d at Y|-;generalize ζ es=k at Y|-;go_enter afA,afk;go_upto_region 1 with fail
 generalize u:w.alloc (j' iZ bN)=V;have B:J (V.1[δ w.1]?=C' (j' iZ bN (0,0))/\Bl w V/\V.1[db]?=C' (j' #[.iface ib<|k' #[]] yR (0,0))):=by subst u;exact⟨bj _ _,aY,aF aY hd⟩
 clear u;clear hd;have W:=A B.B;go_wp2_with (first|((first|go_at_call 271 | go_at_call 276);refine(Y.o V B.b).mono ?_;rintro r j ⟨rfl,g⟩;have f:J (Bl V j):=g;clear g;have U:=b5 (n:=17) (aF f.o B.a) rfl)|(refine wpList_store_mid rfl bN (.tmp 3) (.tmp 6) rfl w.1.size 0 (θ<|aL d) rfl rfl U H (bn _) ?_));have g:=cm (cs:=qd) (aF f.o B.a) (vs:=aL d) rfl;have C:=run_loadVar_mid (P:=Tryz.prog) (ψ j w.1.size 0<|aL d) w.1.size 0 bN (aL d) _ (bf g) fX rfl H
 refine aC (v:=k'<|θ<|aL d) (by simp[results,results270,results275,C,Act.put,asAddr]) rfl ⟨rfl,cM (aD _) _ _ _<|aq B.b f.o⟩):p:=h
open KC in
def KC.rX(ao:Option Addr)(c db:Nat)(es:List PE)(w:World)(hd:w.heap[db]?=some (.cells #[.iface 328<|.agg #[]] 381 (0,0)))(h:KC.gF w ao es)(hn:es.length<=1000)(Hp:∀e∈es,∀i,dD<|b6<|e.at i)(hj:∀a b:VV,dD (b6 a)->dD (b6 b)->dD (b6<|KC.wF a b)):
 Cl 270 #[.slice ao es.length c,.pointer<|some<|O db 0] w (Rb w<|.agg (KC.aL<|es.foldl KC.j8 PE.zero).toArray):=by exact Ŕ
open KB in
def KB.rX(ao:Option Addr)(c db:Nat)(es:List PE)(w:World)(hd:w.heap[db]?=some (.cells #[.iface 331<|.agg #[]] 386 (0,0)))(h:KB.gF w ao es)(hn:es.length<=1000)(Hp:∀e∈es,∀i,dD<|b6<|e.at i)(hj:∀a b:VV,dD (b6 a)->dD (b6 b)->dD (b6<|KB.wF a b)):
 Cl 275 #[.slice ao es.length c,.pointer<|some<|O db 0] w (Rb w<|.agg (KB.aL<|es.foldl KB.j8 PE.zero).toArray):=by exact Ŕ
def ŕ(h:p:=by
 have Y:=ſ λW=>y! lo hi W hl hh;clear hl hh;generalize fq lo hi=q at Y|-;go_enter afz,afj;go_upto_region 1 with fail
 generalize u:(w.alloc<|j' (θ<|aL lo) bN).alloc (j' (θ<|aL hi) bN)=V;have B:J ((d' V w.1.size (θ<|aL lo) bN/\d' V (δ w.1+1) (θ<|aL hi) bN)/\Bl w V/\d' V db #[.iface ib<|k' #[]] yR):=by subst u;exact⟨eO,cU,aF cU hd⟩
 clear u;clear hd;have W:=A B.B;go_wp2_with (first|(refine wpList_load_mid rfl bN (.tmp 3) rfl w.1.size 0 rfl (aL lo) _ (bf B.a.1) fX rfl H ?_)|(refine wpList_load_mid rfl bN (.tmp 4) rfl (δ w.1+1) 0 rfl (aL hi) _ (bf B.a.2) fX rfl H ?_)|((first|go_at_call 273 | go_at_call 278);refine(Y.o _).mono ?_;rintro r c ⟨rfl,b⟩;have f:=ſ b;clear b));go_ret
 exact⟨rfl,aq B.b f.o⟩):p:=h
open KC in
def KC.lW(lo hi:PE)(db:Nat)(w:t')(hd:w.1[db]?=C' (j' #[.iface 328<|k' #[]] 381 (0,0)))(hl:∀i,dD<|b6<|lo.at i)(hh:∀i,dD<|b6<|hi.at i):
 Cl 272 #[k'<|θ<|KC.aL lo,k'<|θ<|KC.aL hi,n'<|C'<|O db 0] w (Rb w<|i'<|KC.fq lo hi):=ŕ
open KB in
def KB.lW(lo hi:PE)(db:Nat)(w:t')(hd:w.1[db]?=C' (j' #[.iface 331<|k' #[]] 386 (0,0)))(hl:∀i,dD<|b6<|lo.at i)(hh:∀i,dD<|b6<|hi.at i):
 Cl 277 #[k'<|θ<|KB.aL lo,k'<|θ<|KB.aL hi,n'<|C'<|O db 0] w (Rb w<|i'<|KB.fq lo hi):=ŕ
end
section
variable {a b:VV}{e:PE}{v u:EV}
def LS(e:PE){i:Nat}(h:8<=i):e.at i=VV.z:=by unfold PE.at;repeat rw[ax I]
structure Aw(v:VV):Prop where
  hi:v.hi=v.lo
  any:v.any=P'->v.lo=0
def Az(v:VV):Prop:=v.any=Q'
def ac3(c:Aw a)(d:Aw b):KC.wF a b=oW 5 a b:=by rw[KC.wF,oW,VV.xw,aB rfl,c.hi,d.hi];congr 1;rw[eq_iff_iff];simp
def VJ(c:Aw a)(e:Aw b):KC.Kg a b=VV.xw (oW 5 a b) b:=by
 obtain⟨N,d,f⟩:=a;obtain⟨a,o,x⟩:=b;have C:=c.hi;have b:=e.hi;have g:=c.any;have d:=e.any;simp only at C b g d;subst C b;rw[KC.Kg,oW,aB rfl];by_cases T:VV.xw ⟨N,f,f⟩ ⟨a,x,x⟩=P'
 .rw[aB T,T];unfold VV.xw at T;simp at T;simp[T]
 rw[ax T];unfold VV.xw at T;cases a
 .simp[VV.xw,VV.fM]at T|-;intro h;exact T h
 simp[VV.xw,VV.fM,d rfl]
def ac4(_:Az a)(_:Az b):KB.wF a b=oW 6 a b:=by
 rw[KB.wF,oW,ax aj];congr 1
 .split<;>omega
 split<;>omega
def VK(c:Az a)(d:Az b):KB.Kg a b=VV.xw (oW 6 a b) b:=by obtain⟨N,e,e⟩:=a;obtain⟨a,o,x⟩:=b;have C:N=Q':=c;have b:a=Q':=d;subst C b;rw[KB.Kg,oW,VV.xw,ax aj,cK];simp;omega
def Ei(a e:PE):∀(k:Nat),k<=8->∀j,j<k->(KC.lO a e k).at j=KC.wF (a.at j) (e.at j)
 |0,_,j,hj=>I
 |k+1,b,j,hj=>by
  rw[KC.gg,PE.jO _ I];by_cases h:j=k
  .rw[aB h,h]
  rw[ax h,Ei a e k I j I]
def ź(h:p:=by
 have C:E[i]?=C' E[i]:=aQ I;have f:c[i]?=C' c[i]:=aQ I
 simp[getD,getElem?_zipWith,C,f]):p:=h
def S8(K:Q<=8){a:PE}(d:PR Q a v)(l:PR Q e u)(g:∀i,Aw<|a.at i)(h:∀i,Aw<|e.at i):PR Q (KC.j8 a e) (A7 5 v u):=by
 cases v with
 |none=>have D:a=PE.zero:=d;subst D;exact l
 |some E=>
  cases u with
  |none=>have D:e=PE.zero:=l;subst D;rw[KC.j8,aB d.1];exact d
  |some c=>
   obtain⟨N,f,b⟩:=d;obtain⟨V,u,d⟩:=l;rw[KC.j8,aB N,aB V];refine⟨by rw[KC.yX];exact N,by simp[f,u],λi=>?_⟩;by_cases S:i<Q
   .rw[Ei a e 8 (aD _) i I,ac3 (g i)<|h i,b,d];exact ź
   have f:(zipWith (oW 5) E c).getD i VV.z=VV.z:=by rw[getD,b? I'];rfl
   rw[f];by_cases W:i<8
   .rw[Ei a e 8 (aD _) i W,b,d,getD,getD,b? I,b? I];rfl
   exact LS _ I
def Ź(h:p:=by
 by_cases B:i<Q
 .have C:E[i]?=C' E[i]:=aQ I;have a:c[i]?=C' c[i]:=aQ I;rw[getD,getD,C,a];exact y (E[i],c[i])<|dN.2 ⟨i,by rw[uy];exact⟨C,a⟩⟩
 rw[getD,getD,b? I,b? I]
 rfl):p:=h
def DZ(K:Q<=8){a:PE}(d:PR Q a v)(l:PR Q e u)(g:∀i,Aw<|a.at i)(h:∀i,Aw<|e.at i):KC.fq a e=QL 5 v u:=by
 cases v with
 |none=>have D:a=PE.zero:=d;subst D;rfl
 |some E=>
  cases u with
  |none=>have D:e=PE.zero:=l;subst D;rw[KC.fq,d.1];rfl
  |some c=>
   obtain⟨N,b,b⟩:=d;obtain⟨V,u,f⟩:=l;rw[KC.fq,N,V,aB<|show(P'&&P')=P' by decide];show(range 8).all (λi=>KC.Kg (a.at i)<|e.at i)=(zip E c).all (λx=>VV.xw (oW 5 x.1 x.2) x.2);rw[cK,bZ,bZ];constructor
   .intro y x F;obtain⟨i,S⟩:=dN.1 F;rw[uy]at S;have d:=(aV.1 S.1).1;have:=y i<|cq.2 I;rwa[VJ (g i)<|h i,b,f,getD,getD,S.1,S.2]at this
   intro y i S;rw[cq]at S;rw[VJ (g i)<|h i,b,f];exact Ź
def Ej(a e:PE):∀(k:Nat),k<=8->∀j,j<k->(KB.lO a e k).at j=KB.wF (a.at j) (e.at j)
 |0,_,j,hj=>I
 |k+1,b,j,hj=>by
  rw[KB.gg,PE.jO _ I];by_cases h:j=k
  .rw[aB h,h]
  rw[ax h,Ej a e k I j I]
def S9(K:Q<=8){a:PE}(d:PR Q a v)(l:PR Q e u)(g:∀i,Az<|a.at i)(h:∀i,Az<|e.at i):PR Q (KB.j8 a e) (A7 6 v u):=by
 cases v with
 |none=>have D:a=PE.zero:=d;subst D;exact l
 |some E=>
  cases u with
  |none=>have D:e=PE.zero:=l;subst D;rw[KB.j8,aB d.1];exact d
  |some c=>
   obtain⟨N,f,b⟩:=d;obtain⟨V,u,d⟩:=l;rw[KB.j8,aB N,aB V];refine⟨by rw[KB.yX];exact N,by simp[f,u],λi=>?_⟩;by_cases S:i<Q
   .rw[Ej a e 8 (aD _) i I,ac4 (g i)<|h i,b,d];exact ź
   have f:(zipWith (oW 6) E c).getD i VV.z=VV.z:=by rw[getD,b? I'];rfl
   rw[f];by_cases W:i<8
   .rw[Ej a e 8 (aD _) i W,b,d,getD,getD,b? I,b? I];rfl
   exact LS _ I
def D0(K:Q<=8){a:PE}(d:PR Q a v)(l:PR Q e u)(g:∀i,Az<|a.at i)(h:∀i,Az<|e.at i):KB.fq a e=QL 6 v u:=by
 cases v with
 |none=>have D:a=PE.zero:=d;subst D;rfl
 |some E=>
  cases u with
  |none=>have D:e=PE.zero:=l;subst D;rw[KB.fq,d.1];rfl
  |some c=>
   obtain⟨N,b,b⟩:=d;obtain⟨V,u,f⟩:=l;rw[KB.fq,N,V,aB<|show(P'&&P')=P' by decide];show(range 8).all (λi=>KB.Kg (a.at i)<|e.at i)=(zip E c).all (λx=>VV.xw (oW 6 x.1 x.2) x.2);rw[cK,bZ,bZ];constructor
   .intro y x F;obtain⟨i,S⟩:=dN.1 F;rw[uy]at S;have d:=(aV.1 S.1).1;have:=y i<|cq.2 I;rwa[VK (g i)<|h i,b,f,getD,getD,S.1,S.2]at this
   intro y i S;rw[cq]at S;rw[VK (g i)<|h i,b,f];exact Ź
end
def I0(vs:List Vl)(r:Int)(i:Nat):PE:=(range i).foldl (λs k=>s.put k<|Ub (vs.getD k ⟨0,0,0,Q',0,0⟩) r) ⟨P',VV.z,VV.z,VV.z,VV.z,VV.z,VV.z,VV.z,VV.z⟩
def zE(E:List Vl)(r:Int)(i:Nat):I0 E r (i+1)=(I0 E r i).put i (Ub (E.getD i ⟨0,0,0,Q',0,0⟩) r):=by simp[I0,kI]
def Wi(rd:Bool)(rk:Int)(vs:List Vl)(r:Int):PE:=if rd&&decide (rk<r) then I0 vs r (ζ vs) else PE.zero
theorem ZU{p:Prop}(h:p:=by
 have f:=A B.o.1;have h:=b5 (n:=17) B.o.2.1 rfl;go_wp2_with (refine wpList_store_mid rfl 228 (.tmp 4) (.tmp 17) rfl (w.heap.size+1) 0 (KC.aL PE.zero).toArray rfl rfl h H (KC.bn _) ?_);have o:=cm (cs:=[.bool false,.bool false,G 0,.bool false,G 0,.bool false,G 0,.bool false,G 0,.bool false,G 0,.bool false,G 0,.bool false,G 0,.bool false,G 0]) B.o.2.1 (vs:=KC.aL PE.zero) rfl;have C:=run_loadVar_mid (P:=Tryz.prog) (V.setCells (w.heap.size+1) 0<|KC.aL PE.zero) (w.heap.size+1) 0 228 (KC.aL PE.zero) _ (bf o) underlying228 rfl H
 refine aC (v:=.agg (KC.aL PE.zero).toArray) (by simp[results,results162,C,Act.put,asAddr]) rfl ⟨by rw[d.o],cM I _ _ _ B.o.2.2⟩):p:=h
def mH(a l i:u')(Y q c rc p:Nat)(e:Bool)(rk r:Int)(E:List Vl)(w:t')(h:jj w i E)(K:ζ E<=8):
  Cl 162 #[k' #[h' a Y q,h' l c rc,i' e,G rk,h' i (ζ E) p],G r] w (Rb w<|k'<|θ<|KC.aL<|Wi e rk E r):=by
 have s:=ſ h;clear h;obtain⟨b,z⟩:=Ea<|Wi e rk E r;rw[<-z];go_enter func162,ntmps162;go_upto_region 1 with fail
 generalize u:(w.alloc<|j' #[h' a Y q,h' l c rc,i' e,G rk,h' i (ζ E) p] 96).alloc (j' AI 228)=V;have B:J (V.1[δ w.1]?=C' (j' #[h' a Y q,h' l c rc,i' e,G rk,h' i (ζ E) p] 96 (0,0))/\V.1[δ w.1+1]?=C' (j' AI 228 (0,0))/\Bl w V):=by subst u;exact⟨eO.1,eO.2,cU⟩
 clear u;have t:δ w.1+1<δ V.1:=À B.b;cases e
 .have d:J (b=PE.zero):=z;clear z;exact ZU
 by_cases W:r<=rk
 .have Q:decide (rk<r)=false:=by simp;omega
  have d:J (b=PE.zero):=by show _=_;rw[z,Wi,Q];rfl
  clear z Q;exact ZU
 have Q:decide (rk<r)=true:=by simp;omega
 have d:J (b=I0 E r (ζ E)):=by show _=_;rw[z,Wi,Q];rfl
 clear z Q;have f:=A B.a;have j:=b5 (n:=17) (bj V<|j' AI 228) rfl;go_upto_region 4 with(refine wpList_store_mid rfl 228 (.tmp 5) (.tmp 18) rfl V.1.size 0 (θ<|KC.aL<|I0 E r 0) rfl rfl j H (KC.bn _) ?_)
 have g:J (Below V.1.size V (ψ (V.alloc<|j' AI 228) V.1.size 0<|KC.aL<|I0 E r 0)/\(ψ (V.alloc<|j' AI 228) V.1.size 0<|KC.aL<|I0 E r 0).1[δ V.1]?=C' (j' (θ<|KC.aL<|I0 E r 0) 228 (0,0))):=⟨cM (aD _) _ _ _ aY,cm (cs:=[i' false,i' false,G 0,i' false,G 0,i' false,G 0,i' false,G 0,i' false,G 0,i' false,G 0,i' false,G 0,i' false,G 0]) (bj V<|j' AI 228) rfl⟩
 try simp only[Act.put]
 generalize(V.alloc<|j' AI 228).setCells V.1.size 0 (KC.aL<|I0 E r 0)=U at g|-;generalize k:δ V.1=e at g t|-;have D:J (Bl w U/\U.1[δ w.1]?=C' (j' #[h' a Y q,h' l c rc,i' true,G rk,h' i (ζ E) p] 96 (0,0))/\U.1[δ w.1+1]?=C' (j' AI 228 (0,0))/\U.1[e]?=C' (j' (θ<|KC.aL<|I0 E r 0) 228 (0,0))):=by rw[<-k]at g|-;exact⟨aq B.B g.a,aF g.a B.a,aF g.a B.b,g.A⟩
 clear f j k;have f:=A D.b;go_wp2_with fail;clear f;go_loopw[22] (λy wr=>∃i:Nat,i<=ζ E/\y=G i/\J (Bl w wr/\wr.1[δ w.1+1]?=C' (j' AI 228 (0,0))/\wr.1[e]?=C' (j' (θ<|KC.aL<|I0 E r i) 228 (0,0)))) (λy _=>ζ E-(intOf y).toNat)
 case atStart=>exact⟨0,bq _,rfl,D.a,D.c,D.C⟩
 obtain⟨i,S,rfl,c⟩:=hrel;by_cases L:i<ζ E;rotate_left
 .have a:¬(i:Int)<(ζ E:Int):=I;have g:i=ζ E:=I;rw[g,<-d.o]at c;have h:=b5 (n:=17) c.b rfl;go_wp2_with (first|(refine wpList_load_mid rfl 228 (.tmp 5) rfl e 0 rfl (KC.aL b) _ (bf c.B) underlying228 rfl H ?_)|(refine wpList_store_mid rfl 228 (.tmp 4) (.tmp 34) rfl (δ w.1+1) 0 (θ<|KC.aL b) rfl rfl h H (KC.bn _) ?_));have o:=cm (cs:=[i' false,i' false,G 0,i' false,G 0,i' false,G 0,i' false,G 0,i' false,G 0,i' false,G 0,i' false,G 0,i' false,G 0]) c.b (vs:=KC.aL b) rfl;have C:=run_loadVar_mid (P:=Tryz.prog) (ψ wr (δ w.1+1) 0<|KC.aL b) (δ w.1+1) 0 228 (KC.aL b) _ (bf o) underlying228 rfl H;refine aC (v:=k'<|θ<|KC.aL b) (by simp[results,results162,C,Act.put,asAddr]) rfl ⟨rfl,cM I _ _ _ c.a⟩
 have a:(i:Int)<(ζ E:Int):=I;have d:i<8:=I;have a:(i:Int)<8:=I;obtain⟨v,R⟩:=La L;obtain⟨b,o,rfl,T,Q,p,b,P,g⟩:=s.o i v R;have t:=aA T c.a;have l:=aA Q c.a;have h:=aA p c.a;have k:=aA b c.a;have F:=aA P c.a;have B:=aA g c.a;have a:J (I0 E r (i+1)=(I0 E r i).put i (Ub v r)):=by show _=_;rw[zE,getD,R];rfl
 have Y:=ſ λW=>EN v r W;generalize Ub v r=j at a Y;simp only[KC.qv]at Y;clear T Q p b P g R;have j:e<δ wr.1:=À c.B;go_upto_region 7 with fail
 generalize u:wr.alloc (j' #[G v.aO,G v.lo,G v.hi,i' v.bO,G v.first,G v.rank] 73)=T;have X:J (Bl wr T/\T.1[δ wr.1]?=C' (j' #[G v.aO,G v.lo,G v.hi,i' v.bO,G v.first,G v.rank] 73 (0,0))):=by subst u;exact⟨aY,bj _ _⟩
 clear u;clear t l h k F B;have f:=A X.A;go_wp2_with (go_at_call 234;refine(Y.o _).mono ?_;rintro x f ⟨rfl,b⟩;have D:=ſ<|aq X.a b;clear b;have f:=aF D.o c.B;have o:=KC.S1 f d;obtain⟨_,u⟩:=A f;have N:=ſ f;clear f);go_roundw
 case rel=>
  refine⟨i+1,L,f',((aq c.a D.o).setCell (by dsimp only;omega) _).setCell (by dsimp only;omega) _,((bh _ _ _ _<|by show δ w.1+1≠e;omega).trans (bh _ _ _ _<|by show δ w.1+1≠e;omega)).trans<|aF D.o c.b,?_⟩;rw[a.o,aw (aw N.o _) _,KC.s5 _ d]
 simp[intOf];omega
section
variable {v:Vl}{r:Int}{x:Nd}
def L9(b:Bool)(i:Nat):(PE.at ⟨b,VV.z,VV.z,VV.z,VV.z,VV.z,VV.z,VV.z,VV.z⟩ i)=VV.z:=by unfold PE.at;simp
def Ż{p:Prop}(h:p:=by
 by_cases h:j=k
 .rw[aB h,aB I,h]
 rw[ax h];by_cases a:j<k
 .rw[aB a,aB I]
 rw[ax a,ax I]):p:=h
def K2(E:List Vl)(r:Int):∀k,k<=8->∀j,(I0 E r k).at j=if j<k then Ub (E.getD j ⟨0,0,0,Q',0,0⟩) r else VV.z
 |0,_,j=>by rw[ax I];exact L9 P' j
 |k+1,a,j=>by rw[zE,PE.jO _ I,K2 E r k I j];exact Ż
def Uc(E:List Vl)(r:Int):∀k,(I0 E r k).r=P'
 |0=>rfl
 |k+1=>by rw[zE];exact Uc E r k
def SR(e:Bool)(E:List Vl):∀k,k<=8->∀j,(Dz e E k).at j=if j<k then⟨Q',(E.getD j ⟨0,0,0,Q',0,0⟩).lo,(E.getD j ⟨0,0,0,Q',0,0⟩).hi⟩ else VV.z
 |0,_,j=>by rw[ax I];exact L9 e j
 |k+1,a,j=>by rw[yJ,PE.jO _ I,SR e E k I j];exact Ż
def aa3(e:Bool)(E:List Vl):∀k,(Dz e E k).r=e
 |0=>rfl
 |k+1=>by rw[yJ];exact aa3 e E k
def ac0(N:v.aO≠3)(a:0<=r):Ub v r=iD r v:=by
 rw[Ub,iD,ax N];by_cases C:v.aO=1
 .rw[aB C,aB C]
 rw[ax C,ax C];simp[a]
def Ua(N:v.aO≠3)(a:v.rank<=100000):Ub v 100001=iD (-1) v:=by
 rw[Ub,iD,ax N];by_cases C:v.aO=1
 .rw[aB C,aB C]
 rw[ax C,ax C];have:decide ((100001:Int)<=v.rank)=Q':=by simp;omega
 simp[this]
def DW(K:Q<=8){E:List Vl}(X:ζ E=Q){f:Vl->VV}{e:PE}(a:e.r=P')(h:∀j,e.at j=if j<Q then f (E.getD j ⟨0,0,0,Q',0,0⟩) else VV.z):PR Q e (C'<|E.map f):=by
 refine⟨a,by rw[bA,X],λj=>?_⟩;rw[h j];by_cases f:j<Q
 .have C:E[j]?=C' E[j]:=aQ I;rw[aB f,getD,getD,bH,C];rfl
 rw[ax f,getD,b? I'];rfl
def ach(K:Q<=8)(X:x.reached=P'->ζ x.aG=Q)(N:∀v∈x.aG,v.aO≠3)(a:0<=r):PR Q (Wi x.reached x.rank x.aG r) (oE x r):=by
 unfold Wi oE;cases F:x.reached
 .rw[aB<|aI rfl];rfl
 by_cases T:x.rank<r;rotate_left
 .have V:¬(P'&&decide (x.rank<r))=P':=by simp;omega
  have u:P'=Q'\/(0<=r/\r<=x.rank):=aH ⟨a,I⟩;rw[ax V,aB u];rfl
 have V:(P'&&decide (x.rank<r))=P':=by simp[T]
 have u:¬(P'=Q'\/(0<=r/\r<=x.rank)):=by simp;omega
 rw[aB V,ax u];have i:=X F;refine DW K i (Uc _ _ _) λj=>?_;rw[i,K2 _ _ _ K];by_cases f:j<Q
 .have C:x.aG[j]?=C' x.aG[j]:=aQ I;rw[aB f,aB f,getD,C];exact ac0 (N _<|aK C) a
 rw[ax f,ax f]
def Pq(K:Q<=8)(X:x.reached=P'->ζ x.aG=Q)(N:∀v∈x.aG,v.aO≠3/\v.rank<=100000)(a:x.rank<=100000):PR Q (Wi x.reached x.rank x.aG 100001) (oE x<|-1):=by
 unfold Wi oE;cases F:x.reached
 .rw[aB<|aI rfl];rfl
 have V:(P'&&decide (x.rank<100001))=P':=by simp;omega
 have u:¬(P'=Q'\/((0:Int)<=-1/\-1<=x.rank)):=ak;rw[aB V,ax u];have i:=X F;refine DW K i (Uc _ _ _) λj=>?_;rw[i,K2 _ _ _ K];by_cases f:j<Q
 .have C:x.aG[j]?=C' x.aG[j]:=aQ I;rw[aB f,aB f,getD,C];have:=N _<|aK C;exact Ua this.1 this.2
 rw[ax f,ax f]
def acg(K:Q<=8)(X:x.reached=P'->ζ x.aG=Q)(D:x.reached=Q'->x.aG=[])(N:∀v∈x.aG,v.aO=3):PR Q (Dz x.reached x.aG<|ζ x.aG) (oE x<|-1):=by
 unfold oE;cases F:x.reached
 .rw[aB<|aI rfl,D F];rfl
 rw[ax ak];have i:=X F;refine DW K i (aa3 _ _ _) λj=>?_;rw[i,SR _ _ _ K];by_cases f:j<Q
 .have C:x.aG[j]?=C' x.aG[j]:=aQ I;rw[aB f,aB f,getD,C];have:=N _<|aK C;unfold iD;exact(aB<|this).symm
 rw[ax f,ax f]
end
section
variable {nx:List (List Nat)}{R:List Nat}
def Hk(n t:Nat):∀(D:List Nat)(j:Nat),ij n j (D++[t])=ij n j D++(if t=n then[j+ζ D] else[])
 |[],j=>by simp[ij]
 |x::r,j=>by
  have B:=Hk n t r<|j+1;have e:j+1+ζ r=j+(ζ r+1):=I;simp only[dA,ij,B,bR,e];by_cases h:x=n
  .rw[aB h,aB h];rfl
  rw[ax h,ax h]
def Ck(n:Nat)(l:List Nat):∀(D:List<|List Nat)(j:Nat),fJ n j (D++[l])=fJ n j D++(ij n 0 l).map (λk=>(j+ζ D,k))
 |[],j=>by simp[fJ]
 |x::r,j=>by have B:=Ck n l r<|j+1;have e:j+1+ζ r=j+(ζ r+1):=I;simp only[dA,fJ,B,bR,e,df]
def mW(n:Nat):∀(D:List<|List Nat)(j:Nat)(q:Nat×Nat),q∈fJ n j D->q.1<j+ζ D
 |[],j,q,h=>by simp[fJ]at h
 |x::r,j,q,h=>by
  simp only[fJ,eC,bp]at h;rcases h with⟨k,_,rfl⟩|h
  .simp
  have:=mW n r (j+1) q h;simp only[bR];omega
def vf(n:Nat):∀(D:List Nat)(j:Nat),ζ (ij n j D)<=ζ D
 |[],j=>by simp[ij]
 |x::r,j=>by have:=vf n r<|j+1;simp only[ij];split<;>simp<;>omega
def lE(n:Nat):∀(D:List<|List Nat)(j:Nat),(∀l∈D,ζ l<=2)->ζ (fJ n j D)<=2*ζ D
 |[],j,_=>by simp[fJ]
 |x::r,j,h=>by have C:=lE n r (j+1) (λl X=>h l<|by simp[X]);have a:=vf n x 0;have N:=h x ak;simp only[fJ,aW,bA,bR];omega
def AJ(nx:List<|List Nat)(i j k:Nat):List (Nat×Nat):=fJ k 0 (nx.take i)++(ij k 0<|(nx.getD i []).take j).map λq=>(i,q)
def Rr{j t:Nat}(S:nx[i]?=C' R)(f:R[j]?=C' t)(k:Nat):AJ nx i (j+1) k=AJ nx i j k++(if t=k then[(i,j)] else[]):=by
 have e:nx.getD i []=R:=by rw[getD,S];rfl
 have X:=(aV.1 f).1;unfold AJ;rw[e,cX X,(aV.1 f).2,Hk,eR,df,dG,kj<|rL X];congr 2;split<;>simp
def WE(S:nx[i]?=C' R)(k:Nat):AJ nx (i+1) 0 k=AJ nx i (ζ R) k:=by
 have e:nx.getD i []=R:=by rw[getD,S];rfl
 have X:=(aV.1 S).1;unfold AJ;rw[e,nB,cX X,(aV.1 S).2,Ck,uo,dG,kj<|rL X];simp[ij]
def WH(v:List<|List Nat)(k:Nat):AJ v (ζ v) 0 k=fJ k 0 v:=by rw[AJ,nB,uo];simp[ij]
def Rq(v:List<|List Nat)(k:Nat):AJ v 0 0 k=[]:=by simp[AJ,ij,fJ]
def WG(h:∀l∈nx,ζ l<=2)(i j k:Nat):ζ (AJ nx i j k)<=2*ζ nx+2:=by
 unfold AJ;have C:=lE k (nx.take i) 0 λl X=>h l<|lg X;have a:=vf k ((nx.getD i []).take j) 0;have N:ζ ((nx.getD i []).take j)<=2:=by
  refine br (length_take_le' _ _) ?_;rw[getD];cases e:nx[i]? with
  |none=>simp
  |some l=>exact h l<|aK e
 have d:ζ (nx.take i)<=ζ nx:=length_take_le' _ _;rw[aW,bA];omega
def rj(n:Nat):PE:=⟨n==0,VV.z,VV.z,VV.z,VV.z,VV.z,VV.z,VV.z,VV.z⟩
def FP(n:Nat):rj (n+1)=PE.zero:=by unfold rj PE.zero;congr 1
end
section
variable {b T p:Nat}{E:List A'}{c:List RR}{r:RR}
def Du(b t:Nat):∀(E p c a:List A')(w:t')(o:Nat),o=ζ p->w.1[b]?=C' (j' (θ<|p++c++a) t (0,0))->ζ c=ζ E->(ψ w b o E).1[b]?=C' (j' (θ<|p++E++a) t (0,0))
 |[],p,c,a,w,o,_,h,hl=>by obtain rfl:c=[]:=fg.1 hl;simpa[World.setCells]using h
 |v::E,p,[],a,w,o,_,_,hl=>by simp at hl
 |v::E,p,x::c,a,w,o,d,h,hl=>by
  have C:(κ w (O b o) v).1[b]?=C' (j' (θ<|(p++[v])++c++a) t (0,0)):=by rw[aw h];congr 2;rw[cj,d];congr 1;simp
  have e:=Du b t E (p++[v]) c a (κ w (O b o) v) (o+1) (by simp[d]) C (by simpa using hl);have N:(p++[v])++E++a=p++v::E++a:=ak;rw[N]at e;simpa[World.setCells]using e
def Hy:∀(l p z:List A'),ζ z=ζ l->foldl (λ(L:Array A')(x:A'×Nat)=>L.setIfInBounds x.snd x.fst) (θ<|p++z) (l.zipIdx<|ζ p)=θ (p++l)
 |[],p,z,h=>by obtain rfl:z=[]:=fg.1 h;rfl
 |v::l,p,[],h=>by simp at h
 |v::l,p,y::z,h=>by
  rw[zipIdx_cons,e8];have e:(p++y::z).toArray.setIfInBounds (ζ p) v=θ ((p++[v])++z):=by rw[cj];congr 1;simp
  have B:=Hy l (p++[v]) z<|J' h;rw[aW,fP]at B;show foldl _ ((p++y::z).toArray.setIfInBounds (ζ p) v) _=_;rw[e,B];simp
def Hz{l z:List A'}(h:ζ z=ζ l):foldl (λ(L:Array A')(x:A'×Nat)=>L.setIfInBounds x.snd x.fst) (θ z) l.zipIdx=θ l:=Hy l [] z h
def aeF{n:Nat}{L:Array A'}(h:w.1[b]?=C' (cL L t))(K:n<=L.size):w.there b 0 n:=λj f=>by rw[bW];refine⟨?_,(A h).2 j⟩;rw[(A h).1,rE I];rfl
def ģ{o:Nat}{x:Obj}(a:w.1[k]?=C' x)(K:k≠b):(ψ w b o E).1[k]?=C' x:=(dC b E o w k K).trans a
def Sys.ads{X l:t'}{a:Nat}(h:Sys X B a m T p c)(b:c[k]?=C' r)(a:B<=δ X.1)(F:ξ X l<|φ r.ev):TF B T p X l:=by
 have l:=h.row r<|aK b;refine⟨(aP _ _).grown F a λq e=>(l.lt q e).1,?_⟩;intro q L t f e C b;refine F.block q (bG.1 e).1 ?_;intro u;rcases l.2 with⟨a,_⟩|⟨g,c,Y,a,_,N,_⟩
 .rw[a]at u;simp[Value.ownBlock]at u
 rw[a]at u;have:q=g:=by simpa[Value.ownBlock]using u
 subst this;rw[N]at e;simp at e;exact b e.2.1.symm
def wK(h:∀V,J (V.1[δ w.1]?=C' a/\Bl w V/\δ V.1=δ w.1+1)->F V):F (w.alloc a):=h _ ⟨bj _ _,aY,ak⟩
def Et{b:Obj}(h:∀V,J ((V.1[δ w.1]?=C' a/\V.1[δ w.1+1]?=C' b)/\Bl w V/\δ V.1=δ w.1+1+1)->F V):F ((w.alloc a).alloc b):=h _ ⟨eO,cU,ak⟩
def ahi{b c:Obj}(h:∀V,J ((V.1[δ w.1]?=C' a/\V.1[δ w.1+1]?=C' b/\V.1[δ w.1+1+1]?=C' c)/\Bl w V/\δ V.1=δ w.1+1+1+1)->F V):F (((w.alloc a).alloc b).alloc c):=h _ ⟨E3,gU,ak⟩
def ahh(h:∀V,J (V.1[δ w.1]?=C' a/\Bl w V)->F V):F (w.alloc a).drew:=h _ ⟨bj w a,(cE w a).drew⟩
def Ll{L:List A'}(X:ζ L=ζ E)(h:∀V,J (V.1[δ w.1]?=C' (cL (θ E) t)/\Bl w V)->F V):F (ψ (w.alloc<|j' (θ L) t) w.1.size 0 E):=h _ ⟨cm (bj _ _) X,cM (aD _) _ _ _ aY⟩
def p7(h:ζ r.st=m):(oU r)[m]?=C' r.ev:=by subst h;simp[oU]
def Sys.lower{f a:Nat}(h:Sys W B a m T p c)(d:f<=B):Sys W f a m T p c:=by
 refine⟨h.fE,br d h.low,h.len,λr a=>?_,h.wN⟩;have D:=h.row r a;refine⟨D.1,?_⟩;rcases D.2 with a|⟨g,b,Y,C,c,N⟩
 .exact aI a
 exact aH ⟨g,b,Y,C,br d c,N⟩
def Sys.range{a:Nat}(h:Sys W B a m T p c)(b:c[k]?=C' r):W.rangeAt a (k*(m+1)) (oU r):=λ_ _ R=>(h.cell b R).1
def Sys.first{st o:List A'}(h:Sys W B b m T p<|⟨st,D',0,[]⟩::c)(U:p≠T)(X:ζ o=m):Sys (ψ W b 0 o) B b m T p (⟨o,D',0,[]⟩::c):=by
 refine⟨?_,h.low,?_,?_,?_⟩
 .have C:=h.fE;have e:=h.len ⟨st,D',0,[]⟩ ak;have V:ix (⟨st,D',0,[]⟩::c)=[]++st++(h' D' 0 0::ix c):=by simp[ix,oU,RR.ev]
  have u:ix (⟨o,D',0,[]⟩::c)=[]++o++(h' D' 0 0::ix c):=by simp[ix,oU,RR.ev]
  rw[V]at C;rw[u];exact Du b T o [] st _ W 0 rfl C (e.trans X.symm)
 .intro r b;rcases cO.1 b with rfl|b
  .exact X
  exact h.len r (by simp[b])
 .intro r b;rcases cO.1 b with rfl|b
  .exact cY _ _ _ _
  have D:=h.row r (by simp[b]);refine⟨D.1,?_⟩;rcases D.2 with a|⟨g,b,Y,C,e,N,d⟩
  .exact aI a
  refine aH ⟨g,b,Y,C,e,(dC _ _ _ _ _ ?_).trans N,d⟩;rintro rfl;exact lX D h.fE U (by rw[C];rfl)
 intro i j a b c f t;cases i with
 |zero=>simp at c;subst c;exact aI rfl
 |succ i=>
  cases j with
  |zero=>
   simp at f;subst f;rcases h.wN (i+1) 0 a _ (J' c) rfl t with C|C
   .exact aI C
   exact aH C
  |succ j=>exact h.wN (i+1) (j+1) a b (J' c) (J' f) t
end
section
variable {a j sb q:Nat}{W' V:t'}{n:SN}{b:List RR}{P:Pm}{D:Nat->List (Nat×Nat)}{es:List (Nat×A')}{L:Array A'}{t:TypeId}{r:RR}
abbrev KC.dw(rb db n:Nat):A':=k' #[h' (C'<|O rb 0) n n,.func (.func 270) #[]<|bM db,.func (.func 272) #[]<|bM db]
abbrev KB.dw(rb db n:Nat):A':=k' #[h' (C'<|O rb 0) n n,.func (.func 275) #[]<|bM db,.func (.func 277) #[]<|bM db]
abbrev KC.yY(sb:Nat):A':=.func (.func 317) #[]<|bM sb
abbrev KB.yY(sb:Nat):A':=.func (.func 327) #[]<|bM sb
def KC.IP(W:t')(P:Pm)(es:List<|Nat×A')(xs:List<|Nat×Nat):Prop:=ζ es=ζ xs/\∀(j:Nat)(e:Nat×A')(x:Nat×Nat),es[j]?=C' e->xs[j]?=C' x->e.1=x.1/\∃sb,e.2=KC.yY sb/\KC.qf W sb (P.at x.1) (decide (x.2=0))
def KB.IP(W:t')(P:Pm)(es:List<|Nat×A')(xs:List<|Nat×Nat):Prop:=ζ es=ζ xs/\∀(j:Nat)(e:Nat×A')(x:Nat×Nat),es[j]?=C' e->xs[j]?=C' x->e.1=x.1/\∃sb,e.2=KB.yY sb/\KB.qf W sb (P.at x.1) (decide (x.2=0))
structure KC.oV(W:t')(B rb:Nat)(P:Pm)(xs:Nat->List (Nat×Nat))(ql:List RR):Prop where
  sys:Sys W B rb 17 375 378 ql
  len:ζ ql=ζ P.nd
  st:∀k r,ql[k]?=C' r->r.st=KC.aL (rj k)
  es:∀k r,ql[k]?=C' r->KC.IP W P r.es (xs k)
structure KB.oV(W:t')(B rb:Nat)(P:Pm)(xs:Nat->List (Nat×Nat))(ql:List RR):Prop where
  sys:Sys W B rb 17 337 340 ql
  len:ζ ql=ζ P.nd
  st:∀k r,ql[k]?=C' r->r.st=KB.aL (rj k)
  es:∀k r,ql[k]?=C' r->KB.IP W P r.es (xs k)
def ŗ(h:p:=by
 obtain⟨c,y,i,wl,wc,V,f,k,s,j,u,b,C,e,N,d,l⟩:=h
 exact⟨c,y,i,wl,wc,V,f,k,s,j,u,b,hf.box C aj aj,hf.box e aj aj,hf.box N aj aj,hf.box d aj aj,l⟩):p:=h
open KC in
def KC.qf.tf{a:t'}(h:KC.qf w o n g)(hf:TF B 375 378 w a):KC.qf a o n g:=ŗ
open KB in
def KB.qf.tf{a:t'}(h:KB.qf w o n g)(hf:TF B 337 340 w a):KB.qf a o n g:=ŗ
def KC.IP.mono{b:t'}{a:List (Nat×A')}{D:List (Nat×Nat)}(h:KC.IP W P a D)(B:∀o n g,KC.qf W o n g->KC.qf b o n g):KC.IP b P a D:=
 ⟨h.1,λj e x l F=>by obtain⟨C,o,a,N⟩:=h.2 j e x l F;exact⟨C,o,a,B _ _ _ N⟩⟩
def KB.IP.mono{b:t'}{a:List (Nat×A')}{D:List (Nat×Nat)}(h:KB.IP W P a D)(B:∀o n g,KB.qf W o n g->KB.qf b o n g):KB.IP b P a D:=
 ⟨h.1,λj e x l F=>by obtain⟨C,o,a,N⟩:=h.2 j e x l F;exact⟨C,o,a,B _ _ _ N⟩⟩
def Ř(h:p:=by
 refine⟨by simp[h.1],λk e x l F=>?_⟩;by_cases a:k<ζ es
 .rw[iC a]at l;rw[iC<|by rw[<-h.1];exact a]at F;exact h.2 k e x l F
 rw[fh I]at l;rw[fh<|L' h.1]at F;have o:k-ζ es=0:=by have:=(aV.1 l).1;simp at this;exact this
 rw[o]at l;rw[<-h.1,o]at F;simp at l F;subst l F
 exact⟨rfl,sb,rfl,hd⟩):p:=h
open KC in
def KC.IP.snoc{D:List (Nat×Nat)}(h:KC.IP W P es D)(hd:KC.qf W sb (P.at i) (decide (j=0))):KC.IP W P (es++[(i,KC.yY sb)]) (D++[(i,j)]):=Ř
open KB in
def KB.IP.snoc{D:List (Nat×Nat)}(h:KB.IP W P es D)(hd:KB.qf W sb (P.at i) (decide (j=0))):KB.IP W P (es++[(i,KB.yY sb)]) (D++[(i,j)]):=Ř
def KC.oV.below(h:KC.oV W B a P D b)(c:Bl W d):KC.oV d B a P D b:=
 ⟨h.sys.below c,h.len,h.st,λk r a=>(h.es k r a).mono λ_ _ _ Q=>Q.below c⟩
def KB.oV.below(h:KB.oV W B a P D b)(c:Bl W d):KB.oV d B a P D b:=
 ⟨h.sys.below c,h.len,h.st,λk r a=>(h.es k r a).mono λ_ _ _ Q=>Q.below c⟩
def ř(h:p:=by
 obtain⟨b,y,r,wl,wc,V,B,i,s,j,e,a,C,f,N,d,l⟩:=h;have k:∀{p:Nat} {c:Array A'} {u:TypeId},W.1[p]?=C' (cL c u)->u≠ab8->W'.1[p]?=C' (cL c u):=by intro p c u U c;refine(hh p ?_).trans U;rintro rfl;rw[U]at hq;simp at hq;exact c<|hq.2.trans ht
 exact⟨b,y,r,wl,wc,V,B,i,s,j,e,a,k C aj,k f aj,k N aj,k d aj,l⟩):p:=h
open KC in
def KC.qf.zD(h:KC.qf W o n g)(hq:W.1[q]?=C' (cL L t))(ht:t=233)(hh:∀k,k≠q->W'.1[k]?=W.1[k]?):KC.qf W' o n g:=ř
open KB in
def KB.qf.zD(h:KB.qf W o n g)(hq:W.1[q]?=C' (cL L t))(ht:t=242)(hh:∀k,k≠q->W'.1[k]?=W.1[k]?):KB.qf W' o n g:=ř
def KC.oV.zD(h:KC.oV W B c P D b)(a:W.1[q]?=C' (j' L 233 (0,0)))(V:∀k,k≠q->d.1[k]?=W.1[k]?):KC.oV d B c P D b:=
 ⟨h.sys.keep a ⟨aj,aj⟩ V,h.len,h.st,λk r b=>(h.es k r b).mono λ_ _ _ Q=>Q.zD a rfl V⟩
def KB.oV.zD(h:KB.oV W B c P D b)(a:W.1[q]?=C' (j' L 242 (0,0)))(V:∀k,k≠q->d.1[k]?=W.1[k]?):KB.oV d B c P D b:=
 ⟨h.sys.keep a ⟨aj,aj⟩ V,h.len,h.st,λk r b=>(h.es k r b).mono λ_ _ _ Q=>Q.zD a rfl V⟩
def KC.s7(h:Bl w V)(Y:TF w.1.size 375 378 V W):Bl w W:=h.trans Y.low
def KB.s7(h:Bl w V)(Y:TF w.1.size 337 340 V W):Bl w W:=h.trans Y.low
def Ś(h:p:=by
 have L:=(aV.1 hr).1;refine⟨hs,by rw[jn];exact h.len,λk q l=>?_,λk q l=>?_⟩
 .rw[eQ]at l;by_cases e:t=k
  .subst e;rw[aB rfl,aB L]at l;cases l;exact h.st t r hr
  rw[ax e]at l;exact h.st k q l
 rw[eQ]at l;rw[hx];by_cases e:t=k
 .subst e;rw[aB rfl,aB L]at l;cases l;rw[aB rfl];exact((h.es t r hr).mono λ_ _ _ hd=>hd.tf hf).snoc hd
 rw[ax e]at l;rw[ax e,fQ]
 exact(h.es k q l).mono λ_ _ _ hd=>hd.tf hf):p:=h
open KC in
def KC.oV.next{a:t'}{d t:Nat}{c:Nat->List (Nat×Nat)}{g:u'}(h:KC.oV W B d P D b)(hr:b[t]?=C' r)(hs:Sys a B d 17 375 378<|b.set t ⟨r.st,g,f,r.es++[(i,KC.yY o)]⟩)(hf:TF B 375 378 W a)(hd:KC.qf a o (P.at i) (decide (j=0)))(hx:∀k,c k=D k++(if t=k then[(i,j)] else[])):KC.oV a B d P c (b.set t ⟨r.st,g,f,r.es++[(i,KC.yY o)]⟩):=Ś
open KB in
def KB.oV.next{a:t'}{d t:Nat}{c:Nat->List (Nat×Nat)}{g:u'}(h:KB.oV W B d P D b)(hr:b[t]?=C' r)(hs:Sys a B d 17 337 340<|b.set t ⟨r.st,g,f,r.es++[(i,KB.yY o)]⟩)(hf:TF B 337 340 W a)(hd:KB.qf a o (P.at i) (decide (j=0)))(hx:∀k,c k=D k++(if t=k then[(i,j)] else[])):KB.oV a B d P c (b.set t ⟨r.st,g,f,r.es++[(i,KB.yY o)]⟩):=Ś
def KC.oV.low(h:KC.oV W B a P D b)(c:f<=B):KC.oV W f a P D b:=⟨h.sys.lower c,h.len,h.st,h.es⟩
def KB.oV.low(h:KB.oV W B a P D b)(c:f<=B):KB.oV W f a P D b:=⟨h.sys.lower c,h.len,h.st,h.es⟩
def KC.mR(W:t')(B rb:Nat)(P:Pm):Prop:=∃ql,KC.oV W B rb P P.ins ql
def KB.mR(W:t')(B rb:Nat)(P:Pm):Prop:=∃ql,KB.oV W B rb P P.ins ql
def KC.mR.below{b:t'}(h:KC.mR W B a P)(c:Bl W b):KC.mR b B a P:=by obtain⟨b,h⟩:=h;exact⟨b,h.below c⟩
def KB.mR.below{b:t'}(h:KB.mR W B a P)(c:Bl W b):KB.mR b B a P:=by obtain⟨b,h⟩:=h;exact⟨b,h.below c⟩
def KC.B3:(Tryz.prog.info? 375).map (λi=>(i.zero,i.size,i.bytes))=C' (C'<|k'<|θ<|KC.aL PE.zero++[h' D' 0 0],18,160):=H
def KB.B3:(Tryz.prog.info? 337).map (λi=>(i.zero,i.size,i.bytes))=C' (C'<|k'<|θ<|KB.aL PE.zero++[h' D' 0 0],18,160):=H
def KC.B4:(Tryz.prog.info? 378).map (λi=>(i.zero,i.size,i.bytes))=C' (C'<|k' #[G 0,.nilFunc],2,16):=H
def KB.B4:(Tryz.prog.info? 340).map (λi=>(i.zero,i.size,i.bytes))=C' (C'<|k' #[G 0,.nilFunc],2,16):=H
def ś(h:p:=by
 obtain⟨n,e⟩:∃n,ζ P.nd=n+1:=⟨ζ P.nd-1,I⟩;rw[e,eW]at h;refine⟨_,h.first aj rfl,by rw[e];simp,λk r c=>?_,λk r c=>?_⟩
 .cases k with
  |zero=>simp at c;subst c;rfl
  |succ k=>rw[nz]at c;rw[iM<|aK c,FP]
 rw[Rq];have:r.es=[]:=by
  cases k with
  |zero=>simp at c;subst c;rfl
  |succ k=>rw[nz]at c;rw[iM<|aK c]
 rw[this]
 exact⟨rfl,λj e x l _=>by simp at l⟩):p:=h
open KC in
def KC.oV.start(K:0<ζ P.nd)(h:Sys W B a 17 375 378<|replicate (ζ P.nd) ⟨KC.aL PE.zero,D',0,[]⟩):∃b,KC.oV (ψ W a 0<|KC.aL<|rj 0) B a P (AJ P.nx 0 0) b:=ś
open KB in
def KB.oV.start(K:0<ζ P.nd)(h:Sys W B a 17 337 340<|replicate (ζ P.nd) ⟨KB.aL PE.zero,D',0,[]⟩):∃b,KB.oV (ψ W a 0<|KB.aL<|rj 0) B a P (AJ P.nx 0 0) b:=ś
def ń(h:p:=by
 obtain⟨X,hi,j,o,l⟩:=cG B3;have r:J (_/\_/\_/\_):=⟨hi,j,o,l⟩;clear hi j o l;obtain⟨i0,hi,j,o,l⟩:=cG B4;have HJ:J (_/\_/\_/\_):=⟨hi,j,o,l⟩;clear hi j o l;have l:=hO.most;have x:=hO.pos;have HH:=ſ<|M hP hO;clear hP hO;obtain⟨N,j⟩:=Ea<|ζ P.nd;rw[<-j]at l x|-;have HN:=ſ j;clear j;simp only[gi];go_enter afx,afh;go_upto_region 1 with fail
 refine ahi (F:=Code.wp _ _ _ _) λV B=>?_;obtain⟨E,z⟩:=A B.a.1;have j:(0:Int)<N:=I;go_upto_region 2 with(at_make;refine eK _ rfl (.tmp 13) (.tmp 13) aeN rfl w.1.size s4 X _ 18 aeL r.a r.b r.c .i64 .i64 N N N rfl rfl rfl rfl (by rw[r.C];omega) (by unfold maxLen;omega) (L' B.b.size) ?_;intro t l j;have o:=ſ<|M l j;clear l j)
 clear E z;have j:J (Sys t w.1.size V.1.size 17 s4 mP (replicate N ⟨aL PE.zero,D',0,[]⟩)/\Bl w t/\t.1[δ w.1]?=V.1[δ w.1]?/\t.1[δ w.1+1]?=V.1[δ w.1+1]?/\t.1[δ w.1+1+1]?=V.1[δ w.1+1+1]?):=by have C:=o.a;have l:=B.B;rw[jK _ 18 rfl N]at C;exact⟨Sys.made _ C rfl,B.b.grown o.A I (λq e=>by cases e),o.A.block _ I ak,o.A.block _ I ak,o.A.block _ I ak⟩
 refine wK (F:=Code.wp _ _ _ _) λF u=>?_;have o:J (Sys F w.1.size V.1.size 17 s4 mP (replicate N ⟨aL PE.zero,D',0,[]⟩)/\Bl w F/\δ V.1<δ t.1/\(_/\_/\_)/\_):=⟨j.a.below u.b,aq j.b u.b,À j.a.fE,⟨aF u.b<|j.c.trans B.a.1,aF u.b<|j.d.trans B.a.2.1,aF u.b<|j.D.trans B.a.2.2⟩,u.a⟩;have j:=ſ B.B;generalize δ t.1=sx at o|-;generalize δ V.1=rb at o j|-;have U:F.there rb 0 17:=aeF o.a.fE (by rw[kH,BJ _ o.a.len,CV];omega);obtain⟨u,C⟩:=A o.D;go_upto_region 3 with(refine wpList_store_mid rfl bN (.tmp 22) (.tmp 20) rfl rb 0 (θ<|aL<|rj 0) rfl rfl U H (bn _) ?_)
 clear u C U;obtain⟨r,l⟩:=oV.start (P:=P) (by rw[<-HN.o];exact x) (by rw[<-HN.o];exact o.a);have K:∀{k:Nat} {x:Obj},F.1[k]?=C' x->k≠rb->(ψ F rb 0<|aL<|rj 0).1[k]?=C' x:=ģ;have HX:J (oV (ψ F rb 0<|aL<|rj 0) w.1.size rb P (AJ P.nx 0 0) r/\Bl w (ψ F rb 0<|aL<|rj 0)/\(_/\_/\_)/\_):=⟨l,cM o.a.low _ _ _ o.b,⟨K o.d.1<|L' j.o,K o.d.2.1<|L' j.o,K o.d.2.2<|L' j.o⟩,K o.D<|L' o.c⟩;clear l K;generalize ψ F rb 0 (aL<|rj 0)=W3 at HX|-;obtain⟨E,z⟩:=A HX.c.1;simp only[Act.put];go_wp2_with fail;go_loopw[26] (λj wr=>∃(i:Nat)(Y:List RR),i<=N/\j=G i/\J (oV wr w.1.size rb P (AJ P.nx i 0) Y/\TF w.1.size s4 mP W3 wr)) (λj _=>N-(intOf j).toNat)
 case atStart=>exact⟨0,r,bq _,rfl,HX.a,Bj⟩
 obtain⟨i,Y,hi,rfl,t⟩:=hrel;by_cases L:i<N;rotate_left
 .have l:¬(i:Int)<N:=I;obtain rfl:N=i:=I;obtain⟨u,C⟩:=A<|t.A.box HX.C aj aj;obtain⟨z1,z2⟩:=A<|t.A.box HX.c.2.2 aj aj;go_wp2_with fail;have o:=t.A.box HX.c.2.2 aj aj;have j:=ſ<|M (aw (o:=0) o<|cw rb N)<|M (aw (o:=1) (aw (o:=0) o<|cw rb N)<|.func (.func yV) #[] #[n'<|C'<|O (δ w.1+1) 0])<|aw (o:=2) (aw (o:=1) (aw (o:=0) o<|cw rb N)<|.func (.func yV) #[] #[n'<|C'<|O (δ w.1+1) 0])<|.func (.func yU) #[] #[n'<|C'<|O (δ w.1+1) 0];refine aC (v:=dw rb (δ w.1+1) N) (by simp[results212,results213,go_sem,(A j.a).1,(A j.b).1,(A j.B).1]) rfl ⟨rb,δ w.1+1,rfl,⟨Y,?_⟩,?_,?_⟩
  .have e:AJ P.nx N 0=P.ins:=funext λk=>by rw[HN.o,<-HH.a.Ye];exact WH P.nx k
   rw[<-e];exact t.a.zD o (λk hk=>by rw[bh _ _ _ _ hk,bh _ _ _ _ hk,bh _ _ _ _ hk])
  .rw[bh _ _ _ _<|by dsimp only;omega,bh _ _ _ _<|by dsimp only;omega,bh _ _ _ _<|by dsimp only;omega];exact t.A.box HX.c.2.1 aj aj
  exact(((s7 HX.b t.A).setCell I' _).setCell I' _).setCell I' _
 have l:(i:Int)<N:=I;have E:=(HH.a.below HX.b).tf t.A aj aj aj aj;obtain⟨r,l,T,F,W,NN,Uq,U⟩:=E.nodes (k:=i) (by rw[<-HN.o];exact L);have X:=λj (hj:j<14)=>(E.row.cells i r T j hj);obtain⟨nd,tI⟩:=Ea r.n;rw[<-tI]at X F W;obtain⟨ta,C,mz⟩:=U.ints;rw[bA]at C;rw[C]at X;simp only[NC.wv]at X;generalize r.bL=x at X;generalize r.wa=L at X;generalize r.wl=wl at X;generalize r.wc=wc at X;obtain⟨u,o⟩:=Ea<|aJ x (h' L wl wc) nd<|h' ta (ζ l)<|ζ l;have z:u.all (·.oneCell')=P':=by rw[o];simp[aJ,Value.oneCell']
 have x:u.size=14:=by rw[o];rfl
 have pd:u[12]?=C' (h' ta (ζ l)<|ζ l):=by rw[o];rfl
 have L:wr.rangeAt g (i*14) u.toList:=λj v hv=>by
  have hj:j<14:=by have:=(aV.1 hv).1;rwa[I!,x]at this
  rw[X j hj,<-o];simpa using hv
 have WA:=ſ<|M o<|M NN<|M W<|M T C;have ahx:=(HH.A.nx l<|aK NN).1;clear o X W tI F T E Uq U C mz NN;go_upto_region 6 with(first|(refine wpList_load_mid rfl 152 (.tmp 29) rfl g (i*14) rfl u.toList _ L underlying152 rfl (by rw[I!,x];kernel_rfl) ?_)|(refine wpList_store_mid rfl 152 (.tmp 7) (.tmp 30) rfl wr.1.size 0 u rfl rfl (b5 (bj _ _)<|by rw[x];rfl) (by rw[x];kernel_rfl) z ?_))
 refine Ll (F:=Code.wp _ _ _ _) (by simp[x]) λV B=>?_;obtain⟨z1,z2⟩:=A B.a;have o:χ V (O wr.1.size 12)=C' (h' ta (ζ l)<|ζ l):=by rw[z1];simpa using pd
 have z:=br HX.b.size t.A.low.size;simp only[Act.put];clear z1 z2 L;go_wp2_with fail;clear o;have X:J (TF w.1.size s4 mP W3 V/\oV V w.1.size rb P (AJ P.nx i 0) Y):=⟨t.A.trans<|TF.aR B.A z,t.a.below B.A⟩;have U:=ſ B.a;clear z;generalize δ wr.1=nb at U|-;go_loopw[34] (λo wr=>∃(j:Nat)(pl:List RR),j<=ζ l/\o=G j/\J (oV wr w.1.size rb P (AJ P.nx i j) pl/\TF w.1.size s4 mP V wr)) (λo _=>ζ l-(intOf o).toNat)
 case atStart=>exact⟨0,Y,bq _,rfl,X.A,Bj⟩
 obtain⟨j,pl,hj,rfl,HL⟩:=hrel;by_cases z:j<ζ l;rotate_left
 .have o:¬(j:Int)<(ζ l:Int):=I;obtain rfl:j=ζ l:=I;go_wp2_with fail;go_roundw
  case rel=>
   refine⟨i+1,pl,I,f',?_,X.a.trans HL.A⟩;have e:AJ P.nx (i+1) 0=AJ P.nx i (ζ l):=funext λk=>WE WA.b k;rw[e];exact HL.a
  exact H'
 have o:(j:Int)<(ζ l:Int):=I;obtain⟨t,F⟩:=La z;have L:t<N:=by rw[HN.o];exact(HH.A.nx l<|aK WA.b).2 t<|aK F
 have B:=ſ<|X.a.trans HL.A;have z:=(HH.a.below HX.b).tf B.o aj aj aj aj;obtain⟨C,X,o⟩:=(z.nx i r l WA.d WA.b).ints;rw[bA,WA.D]at X;obtain rfl:ta=C:=J' X;obtain⟨l,l,rfl,T⟩:=o j (t:Int) (by rw[bH,F];rfl);clear z o X;go_upto_region 9 with fail
 clear T;have E:=bf<|HL.A.box U.o aj aj;obtain⟨z1,z2⟩:=A<|B.o.box HX.c.2.1 aj aj;have Y:J (∀W,Cl afe #[.iface ib<|k' #[],k' u,i'<|(j:Int)==0] W λr w'=>∃o,r=o' (yY o)/\δ W.1<=o/\qf w' o nd (decide (j=0))/\Bl W w'):=by
  have e:((j:Int)==0)=decide (j=0):=by rw[cK];simp
  rw[e,WA.a];exact λW=>B6 _ _ _ _ _ _ _ _ _ W
 go_upto_region 10 with(first|(refine wpList_load_mid rfl 152 (.tmp 7) rfl nb 0 rfl u.toList _ E underlying152 rfl (by rw[I!,x];kernel_rfl) ?_)|((first|go_at_call 274 | go_at_call 279);refine(Y.o _).mono ?_;rintro e Y ⟨o,rfl,_,x,u⟩;have l:=ſ<|M x u;clear x u))
 refine wK (F:=Code.wp _ _ _ _) λU u=>?_;have z:J (Below wr.1.size wr U/\δ wr.1<=δ Y.1):=⟨aq l.A u.b,l.A.size⟩;have u0:=ſ<|l.a.below u.b;have C:=br HX.b.size B.o.low.size;have ff:=ſ<|B.o.trans<|TF.aR z.a C;obtain⟨r,hr⟩:=La (l:=pl) (i:=t) (by rw[HL.a.len,<-HN.o];exact L);have x:=ſ<|M hr F;have l:(t:Int)<N:=I;have l:ζ r.es<=130:=by rw[(HL.a.es t r hr).1];have:=WG (λl X=>(HH.A.nx l X).1) i j t (nx:=P.nx);have:=HH.a.Ye;have:=HN.o;omega
 have B:=À HL.a.sys.fE;clear hr F z1 z2 E;generalize δ Y.1=Y at u z|-;refine wp_region_held_drew (S:=λW'=>TF w.1.size s4 mP W3 W'/\d' W' Y #[G i,yY o] mP) H ⟨ff.o.trans<|TF.aR (aP _ _).drew<|br C z.a.size,u.a⟩ λaE=>?_;refine tq 0 (lR sx) ?_;refine tr 1 (cw rb N) (λW' bm=>(A<|bm.1.box HX.C aj aj).1) ?_;refine tq 2 (G t) ?_;refine tq 3 (lR sx) ?_;refine tr 4 (cw rb N) (λW' bm=>(A<|bm.1.box HX.C aj aj).1) ?_;refine tq 5 (G t) ?_;refine tq 6 (n'<|C'<|O rb<|t*18) ?_;refine tq 7 (n'<|C'<|O rb<|t*18+17) ?_;refine tr 9 (k' #[G i,yY o]) (λW' bm=>(A bm.2).1) ?_;have N:=br C z.a.size;refine wpAnyH_ready (rs:=[8,10]) H ak ?_;refine AllReadyH.cons rfl (λK F=>?oA) (AllReadyH.cons rfl (λK F=>?oB) AllReadyH.nil)
 case' oA=>
  obtain⟨k1,T⟩:=(HL.a.sys.below<|aq z.a (aP _ _).drew).cell (j:=17) x.a (v:=r.ev)<|p7<|HL.a.sys.len r<|aK x.a;simp only[Nat.reduceAdd,RR.ev]at k1 T;go_simp;refine F.out _ _ aE λaE=>?_;clear k1 T;clear F K;refine pt ?_;refine r1 10 λK F=>?_;go_simp;refine F.out _ _ ⟨aE.1.trans<|TF.aR aY N,aF aY aE.2⟩ λaE=>?_;clear F K;refine pt ?_
 case' oB=>
  go_simp;refine F.out _ _ ⟨aE.1.trans<|TF.aR aY N,aF aY aE.2⟩ λaE=>?_;clear F K;refine pt ?_;refine r1 8 λK F=>?_;obtain⟨k1,T⟩:=(HL.a.sys.below<|aq z.a<|(cE U<|j' #[G i,yY o] mP).drew).cell (j:=17) x.a (v:=r.ev)<|p7<|HL.a.sys.len r<|aK x.a;simp only[Nat.reduceAdd,RR.ev]at k1 T;go_simp;refine F.out _ _ aE λaE=>?_;clear k1 T;clear F K;refine pt ?_
 all_goals
  clear aE;refine ahh (F:=λV=>wpAnyH _ _ _ _ _ _ _ _ V) λX L=>?_;have aE:TF w.1.size s4 mP W3 X/\d' X Y #[G i,yY o] mP:=⟨ff.o.trans<|TF.aR L.A N,aF L.A u.a⟩;have l:J (Sys X w.1.size rb 17 s4 mP pl/\Below wr.1.size wr X):=⟨HL.a.sys.below<|aq z.a L.A,aq z.a L.A⟩;refine r1 11 λK F=>?_;refine dS rfl (.tmp 54) (.tmp 56) aeM rfl w.1.size mP i0 (k' #[G 0,.nilFunc]) 2 16 aeK HJ.a HJ.b HJ.c HJ.C rfl aj (bk r.ea (ζ r.es) r.ec) (ζ r.es) (iB r.es) (by simp[Act.eval,Act.put]) (l.a.row r<|aK x.a) (O U.1.size 0) 1 1 [G i,yY o] (by simp[Act.eval,Act.put]) rfl (GM L.a) (by intro u u;simp at u;rcases u with rfl|rfl<;>rfl) (by unfold maxLen;omega) I (br C l.A.size) ?_;intro E U u W E;obtain⟨V,X,rfl⟩:=aX u;have B:=ſ<|M u<|M W E;clear u W E;have u:d' U Y #[G i,yY o] mP:=(B.b.block Y (À aE.2) (λe=>by have:=((HL.a.sys.row r<|aK x.a).lt Y e.symm).2;have:=z.A;omega)).trans aE.2;refine F.out _ _ ⟨aE.1.trans<|l.a.ads x.a (br C l.A.size) B.b,u⟩ λaE=>?_;clear F K;refine pt ?_;refine tq 12 (n'<|C'<|O rb<|t*18) ?_;refine tq 13 (n'<|C'<|O rb<|t*18+17) ?_;refine r1 14 λK F=>?_;obtain⟨k1,T⟩:=l.a.Vr (j:=17) aj x.a (aP _ _) B.b (v:=r.ev)<|p7<|l.a.len r<|aK x.a;simp only[Nat.reduceAdd,RR.ev]at k1 T;have NN:=l.a.grow (e:=(i,yY o)) aj x.a (aP _ _) B.b B.a B.B;have Y:=l.a.frame (v:=h' V (ζ r.es+1) X) x.a (aP _ _) (br C l.A.size) B.b<|t*18+17;have o:=ſ<|M NN Y;clear NN Y;go_simp;refine F.out _ _ ⟨(ff.o.trans<|TF.aR L.A N).trans o.A,(bh _ _ _ _ (by have:=z.A;dsimp only;omega)).trans u⟩ λaE=>?_;clear k1 T;clear F K;refine pt ?_;refine wpAnyH_done H ?_ _;clear aE u;go_wp2_with fail;go_roundw
  case rel=>
   refine⟨j+1,_,I,f',HL.a.next x.a o.a ((TF.aR l.A C).trans o.A) (by rw[WA.c];exact(u0.o.below L.A).tf o.A)<|Rr WA.b x.A,(HL.A.trans<|TF.aR l.A C).trans o.A⟩
  exact H'):p:=h
open KC in
def KC.iY(g b f:Nat)(D:List NC)(P:Pm)(w:t')(hP:PM w g b D P)(hO:cF P):
 Cl 212 #[gi g (ζ P.nd) b f,.iface 328<|k' #[]] w λe w'=>∃rb s,e=o' (KC.dw rb s<|ζ P.nd)/\KC.mR w' w.1.size rb P/\w'.1[s]?=C' (j' #[.iface 328<|k' #[]] 381 (0,0))/\Bl w w':=ń
open KB in
def KB.iY(g b f:Nat)(D:List NC)(P:Pm)(w:t')(hP:PM w g b D P)(hO:cF P):
 Cl 213 #[gi g (ζ P.nd) b f,.iface 331<|k' #[]] w λe w'=>∃rb s,e=o' (KB.dw rb s<|ζ P.nd)/\KB.mR w' w.1.size rb P/\w'.1[s]?=C' (j' #[.iface 331<|k' #[]] 386 (0,0))/\Bl w w':=ń
end
