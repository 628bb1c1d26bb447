import Derived.Test.YtmipbiligijcpaaGreatDoorA11
import Derived.Test.YtmipbiligijcpaaGreatDoorA12
namespace Go.Proofs.YtmipbiligijcpaaGreatDoor
set_option linter.all false
set_option maxRecDepth 99999
set_option maxHeartbeats 0
open Go.RowKit Go.Shelf Go.Proofs Go.Maps Tryz List open List renaming length->ζ,toArray->θ open _root_.Array renaming size->δ open World renaming setCell->κ,ownsRow->ρ,cell?->χ,grownBy->ξ,setCells->ψ open Value renaming ownBlock->φ open Value renaming slice->g',bool->h',agg->j',string->k',pointer->m' open Obj renaming cells->i' open Ending renaming returned->n' open Option renaming some->z',none->A' open Bool renaming true->N',false->O'
variable {W w:p'}{k:Nat}{p:Prop}
section
variable {S:Nat->Obj->Prop}{a:p'}{b q hb:Nat}{P:Pm}{y l d:List PE}{z:PE}{c r:BS}{σ:Type}
attribute [local go_sem] Oper.semAt_some
structure Ky(S:Nat->Obj->Prop)(w w':p'):Prop where
  os:w'.os=w.os
  tape:w'.tape=w.tape
  output:w'.output=w.output
  size:δ w.1<=δ w'.1
  keep:∀k o,w.1[k]?=z' o->¬S k o->w'.1[k]?=z' o
def Ky.of(h:Bl w a):Ky S w a:=⟨h.os,h.tape,h.output,h.size,λk _ e _=>(h.block k<|blt e).trans e⟩
def Ky.ofx{S:Nat->Prop}(h:Kx S w a):Ky (λk _=>S k) w a:=⟨h.os,h.tape,h.output,h.size,λ_ _ e K=>h.box e K⟩
def Ky.refl(S:Nat->Obj->Prop)(w:p'):Ky S w w:=Ky.of aQ
def Ky.trans{u v:p'}(h:Ky S u v)(k:Ky S v w):Ky S u w:=
 ⟨k.os.trans h.os,k.tape.trans h.tape,k.output.trans h.output,bX h.size k.size,λi o e y=>k.keep i o (h.keep i o e y) y⟩
def Ky.mono{a:Nat->Obj->Prop}{b:p'}(h:Ky S w b)(y:∀k o,S k o->a k o):Ky a w b:=⟨h.os,h.tape,h.output,h.size,λk o e K=>h.keep k o e λh=>K<|y k o h⟩
def Ky.box(h:Ky S w a){o:Obj}(e:w.1[q]?=z' o)(b:¬S q o):a.1[q]?=z' o:=h.keep q o e b
def Ky.cell(h:Ky S w a){o:Nat}{v:y'}(e:χ w (O q o)=z' v)(b:∀c,¬S q c):χ a (O q o)=z' v:=by obtain⟨c,t,f,T⟩:=hM e;exact(bh ((h.box T<|b _).trans T.symm)).trans e
def Ky.drewN(h:Ky S w a)(n:Nat):Ky S w (a.drewN n):=⟨h.os,h.tape,h.output,h.size,h.keep⟩
def Ky.tab(h:Ky S w a)(b:lV w)(y:∀o,¬S 0 o):lV a:=λj f=>h.cell (b j f) y
def Ky.others(h:Ky S w a)(y:∀k o,S k o->w.1[k]?=z' o->o.isCells=N'):KeepsOthers w a:=
 ⟨h.size,λk o a T=>h.box a λe=>by rw[y k o e a]at T;cases T⟩
def Ky.set(h:Ky S w a)(hb:(∀o,w.1[b]?=z' o->S b o))(o:Nat)(v:y'):Ky S w (κ a (O b o) v):=
 ⟨h.os,h.tape,h.output,by simpa[World.setCell]using h.size,λk x e K=>(aJ (by rintro rfl;exact K<|hb x e)).trans<|h.keep k x e K⟩
def s4{S:Nat->Obj->Prop}{w:p'}{b:Nat}:∀{a:p'},Ky S w a->(∀o,w.1[b]?=z' o->S b o)->∀(o:Nat)(E:List y'),Ky S w (ψ a b o E)
 |_,h,_,_,[]=>h
 |_,h,hb,o,v::r=>s4 (h.set hb o v) hb (o+1) r
abbrev M0(o:Obj):Prop:=∃c f,o=i' c 73 f
structure Et{σ:Type}(S:Nat->Obj->Prop)(C:σ->p'->Prop)(w:p')(fx:List<|Nat×Obj)(hb:Nat)(s:σ)(ho:Obj)(W:p'):Prop where
  k:Ky S w W
  c:C s W
  tab:lV W
  held:W.1[hb]?=z' ho
  fix:∀q o,(q,o)∈fx->W.1[q]?=z' o
section
variable {σ:Type}{S:Nat->Obj->Prop}{C:σ->p'->Prop}{w:p'}{fx:List (Nat×Obj)}{hb qb ab:Nat}{s s':σ}{ho ON:Obj}{W W':p'}
def Et.keep(h:Et S C w fx hb s ho W)(c:∀q o,(q,o)∈fx->δ w.1<=q/\q≠hb/\q≠ab/\q<=qb/\¬M0 o)(a:δ w.1<=hb/\hb<ab/\ab<qb)(u:∀k o,S k o->k<δ w.1\/M0 o)(m:∀s W W',C s W->(∀k o,W.1[k]?=z' o->S k o->W'.1[k]?=z' o)->C s W')(U:0<δ w.1){X:Nat->Prop}(a:Kx X W W')(b:∀k,X k->k=ab\/qb<k)(g:∀k o,X k->W.1[k]?=z' o->¬M0 o):Et S C w fx hb s ho W':=by
 have f:=bX h.k.size a.size;have v:∀k,k<qb+1->k≠ab->¬X k:=λk a K F=>by rcases b k F with e|e<;>omega
 refine⟨⟨a.os.trans h.k.os,a.tape.trans h.k.tape,a.output.trans h.k.output,f,λk o e K=>a.box (h.k.keep k o e K)<|v k (I'<|blt e)<|I'<|blt e⟩,m s W W' h.c λk o e y=>a.box e λF=>?_,a.tab h.tab<|v _ I I,a.box h.held<|v _ I I,λq o b=>?_⟩
 .rcases u k o y with d|d
  .exact v k I I F
  exact g k o F e d
 have:=c q o b;exact a.box (h.fix q o b)<|v _ I I
def Et.z!(h:Et S C w fx hb s ho W)(c:∀q o,(q,o)∈fx->δ w.1<=q/\q≠hb/\q≠ab/\q<=qb/\¬M0 o)(a:δ w.1<=hb/\hb<ab/\ab<qb)(u:∀k o,S k o->k<δ w.1\/M0 o)(U:∀o,¬S 0 o)(a:Ky (λk o=>S k o\/k=hb\/k=ab) W W')(T:C s' W')(b:0<δ w.1)(V:W'.1[hb]?=z' ON):Et S C w fx hb s' ON W':=by have f:=bX h.k.size a.size;refine⟨⟨a.os.trans h.k.os,a.tape.trans h.k.tape,a.output.trans h.k.output,f,λk o e K=>a.box (h.k.keep k o e K) (by have:=blt e;rintro(h|h|h);(· exact K h);all_goals omega)⟩,T,a.tab h.tab (λo=>by rintro(h|h|h);(· exact U o h);all_goals omega),V,λq o b=>?_⟩;have d:=c q o b;exact a.box (h.fix q o b) (by rintro(h|h|h);(· rcases u q o h with a|a;(· omega);exact d.2.2.2.2 a);all_goals omega)
end
def aaV{P:Program}{b:Array Oper}{o:Oper}{a:Act}{w':p'}{K:Act->p'->Prop}{Q:Exit->Act->p'->Prop}{E:Prop}(v:y')(B:Region.wanted o (yielded b a.tmps)=N')(h:(execOp a.eval o).run P w=.ok (.value v) w')(c:K (a.put o.dst v) w'):if Region.wanted o (yielded b a.tmps)=N' then Oper.wp P o a w K Q else E:=by rw[aD B];rw[Oper.wp,h];exact c
def wQ{t:Nat}{p a:List y'}:∀{E L:List y'},W.1[b]?=z' (i' (θ<|p++(L++a)) t (0,0))->ζ L=ζ E->(ψ W b (ζ p) E).1[b]?=z' (i' (θ<|p++(E++a)) t (0,0)):=by
 intro E;induction E generalizing W p with
 |nil=>intro L h hl;have:=fT.1 hl;subst this;exact h
 |cons v r B=>
  intro L h hl
  match L,hl with
  |c::L,hl=>
   have c:(κ W (O b<|ζ p) v).1[b]?=z' (i' (θ ((p++[v])++(L++a))) t (0,0)):=by rw[H h,cj,lY _ _ aK,oh];simp
   have:=B (p:=p++[v]) c (by simpa using hl);show(ψ (κ W (O b<|ζ p) v) b (ζ p+1) r).1[b]?=_;simpa using this
def pZ{x:Nat}(F:x<ζ y)(i:Nat):bQ (y.set x z) i=if x=i then z else bQ y i:=mS y x i z PE.zero F
abbrev Ql(P:Pm):List BS:=tT ((range<|ζ P.nd).map λn=>(P.ins n).map (·.1)) (ζ P.nd)<|ζ P.nd
def JM(h:ζ P.nd<=60)(x:Nat):b! ((Ql P).getD x (0,0)):=yt _ _ _ I x
def JN(h:ζ P.nd<=60)(F:ζ P.nx=ζ P.nd)(x y:Nat)(B:y<128):bt ((Ql P).getD x (0,0)) y=(decide (y<ζ P.nd)&&decide (x∈(P.ins y).map (·.1))):=by
 have a:∀m f,f∈((range<|ζ P.nd).map λn=>(P.ins n).map (·.1)).getD m []->f<ζ P.nd:=λm f Y=>by
  rw[bN,a!]at Y;cases b:(range<|ζ P.nd)[m]? with
  |none=>rw[b]at Y;simp at Y
  |some r=>rw[b]at Y;obtain⟨q,c,rfl⟩:=bG.1 Y;have:=lg r P.nx 0 q c;omega
 rw[Ec _ _ _ _ B a _ I];by_cases a:y<ζ P.nd
 .rw[bN,a!,j7 a];rfl
 simp[a]
def Wq(h:ζ P.nd<=60)(F:ζ P.nx=ζ P.nd)(x:Nat):∀y∈ef ((Ql P).getD x (0,0)),y<ζ P.nd:=λy B=>by obtain⟨b,a⟩:=(df _ (JM h x) y).1 B;rw[JN h F x y b,aY]at a;simpa using a.1
structure KC.t!(P:Pm)(hs:List PE)(wt:BS):Prop where
  len:ζ hs=ζ P.nd
  hd:KC.oM P (bQ hs)
  wi:b! wt
  low:∀x∈ef wt,x<ζ P.nd
structure KC.SnE{σ:Type}(P:Pm)(nx:σ->Nat->PE->PE->σ)(rz:σ->Nat->PE->PE->PE)(mu:List PE->Nat)(Inv:σ->List PE->BS->Prop)(s0:σ):Prop where
  start:Inv s0 (replicate (ζ P.nd) PE.zero) (jK<|ζ P.nd)
  skip:∀s hs wt x,Inv s hs wt->KC.t! P hs wt->x∈ef wt->KC.gO (KC.cz P (bQ hs) x) (bQ hs x)=N'->Inv s hs (fI wt<|de [x])
  step:∀s hs wt x,Inv s hs wt->KC.t! P hs wt->x∈ef wt->KC.gO (KC.cz P (bQ hs) x) (bQ hs x)=O'->Inv (nx s x (bQ hs x)<|KC.jO (bQ hs x)<|KC.cz P (bQ hs) x) (hs.set x<|rz s x (bQ hs x)<|KC.jO (bQ hs x)<|KC.cz P (bQ hs) x) (fU (fI wt<|de [x]) ((Ql P).getD x (0,0)))
  good:∀s hs wt x,Inv s hs wt->KC.t! P hs wt->x∈ef wt->KC.gO (KC.cz P (bQ hs) x) (bQ hs x)=O'->∃v,PR P.nv (rz s x (bQ hs x)<|KC.jO (bQ hs x)<|KC.cz P (bQ hs) x) v/\dw 5 P.nv v
  less:∀s hs wt x,Inv s hs wt->KC.t! P hs wt->x∈ef wt->KC.gO (KC.cz P (bQ hs) x) (bQ hs x)=O'->mu (hs.set x<|rz s x (bQ hs x)<|KC.jO (bQ hs x)<|KC.cz P (bQ hs) x)<mu hs
structure KC.ChE{σ:Type}(S:Nat->Obj->Prop)(C:σ->p'->Prop)(w:p')(P:Pm)(fk pb:Nat)(caps:Array y')(nx:σ->Nat->PE->PE->σ)(rz:σ->Nat->PE->PE->PE)(Inv:σ->List PE->BS->Prop):Prop where
  low:∀k o,S k o->k<δ w.1\/M0 o
  cel:∀s W k o,C s W->S k o->W.1[k]?=z' o->o.isCells=N'
  NR:∀s W W',C s W->(∀k o,W.1[k]?=z' o->S k o->W'.1[k]?=z' o)->C s W'
  tab:∀o,¬S 0 o
  pk:∀o,¬S pb o
  pbl:pb<δ w.1
  fn:∀xs w,(callFunc fk xs).run Tryz.prog w=.ok (.enter fk xs) w
  call:∀s hs wt W x,Inv s hs wt->KC.t! P hs wt->x∈ef wt->KC.gO (KC.cz P (bQ hs) x) (bQ hs x)=O'->C s W->lV W->Ky S w W->Cl fk (#[G x,j'<|θ<|KC.aT<|bQ hs x,j'<|θ<|KC.aT<|KC.jO (bQ hs x)<|KC.cz P (bQ hs) x]++caps) W λe w'=>e=n' (j'<|θ<|KC.aT<|rz s x (bQ hs x)<|KC.jO (bQ hs x)<|KC.cz P (bQ hs) x)/\C (nx s x (bQ hs x)<|KC.jO (bQ hs x)<|KC.cz P (bQ hs) x) w'/\Ky S W w'
def KC.xQ(e:PE)(h:W.1[hb]?=z' (i' (θ<|KC.bp l) 228 (0,0)))(a:k<ζ l):(ψ W hb (k*17)<|KC.aT e).1[hb]?=z' (i' (θ<|KC.bp<|l.set k e) 228 (0,0)):=by
 have V:l=l.take k++l[k]::l.drop (k+1):=ak
 have u:KC.bp l=KC.bp (l.take k)++(KC.aT l[k]++KC.bp (l.drop<|k+1)):=by
  conv=>lhs;rw[V]
  rw[KC.k7];rfl
 have b:KC.bp (l.set k e)=KC.bp (l.take k)++(KC.aT e++KC.bp (l.drop<|k+1)):=by rw[xG,aD a,KC.k7];rfl
 rw[u]at h;rw[b];have X:ζ (KC.bp<|l.take k)=k*17:=by rw[KC.k5,jk,n? I]
 rw[<-X];exact wQ (L:=KC.aT l[k]) (E:=KC.aT e) h rfl
def ZI(h:p:=by
 refine⟨h.len,h.hd,po,λy B=>h.low y ?_⟩;obtain⟨b,a⟩:=(df _ po y).1 B;rw[lU (jF F) b,aY]at a
 exact(df c h.wi y).2 ⟨b,a.1⟩):p:=h
def KC.t!.skip(h:KC.t! P y c)(x:Nat)(F:x<128):KC.t! P y (fI c<|de [x]):=by exact ZI
def ZJ(h:p:=by
 have a:=h.skip x F;refine⟨by rw[dh];exact h.len,λm=>?_,ib a.wi e,λy B=>?_⟩
 .rw[pZ b];split
  .exact f
  exact h.hd m
 obtain⟨N,d⟩:=(df _ (ib a.wi e) y).1 B;rw[iy,eZ]at d;rcases d with d|d
 .exact a.low y ((df _ a.wi y).2 ⟨N,d⟩)
 exact X y ((df _ e y).2 ⟨N,d⟩)):p:=h
def KC.t!.step(h:KC.t! P d c)(x:Nat)(F:x<128)(b:x<ζ d)(f:∃v,PR P.nv z v/\dw 5 P.nv v)(e:b! r)(X:∀y∈ef r,y<ζ P.nd):KC.t! P (d.set x z) (fU (fI c<|de [x]) r):=by exact ZJ
structure KB.t!(P:Pm)(hs:List PE)(wt:BS):Prop where
  len:ζ hs=ζ P.nd
  hd:KB.oM P (bQ hs)
  wi:b! wt
  low:∀x∈ef wt,x<ζ P.nd
structure KB.SnE{σ:Type}(P:Pm)(nx:σ->Nat->PE->PE->σ)(rz:σ->Nat->PE->PE->PE)(mu:List PE->Nat)(Inv:σ->List PE->BS->Prop)(s0:σ):Prop where
  start:Inv s0 (replicate (ζ P.nd) PE.zero) (jK<|ζ P.nd)
  skip:∀s hs wt x,Inv s hs wt->KB.t! P hs wt->x∈ef wt->KB.gO (KB.cz P (bQ hs) x) (bQ hs x)=N'->Inv s hs (fI wt<|de [x])
  step:∀s hs wt x,Inv s hs wt->KB.t! P hs wt->x∈ef wt->KB.gO (KB.cz P (bQ hs) x) (bQ hs x)=O'->Inv (nx s x (bQ hs x)<|KB.jO (bQ hs x)<|KB.cz P (bQ hs) x) (hs.set x<|rz s x (bQ hs x)<|KB.jO (bQ hs x)<|KB.cz P (bQ hs) x) (fU (fI wt<|de [x]) ((Ql P).getD x (0,0)))
  good:∀s hs wt x,Inv s hs wt->KB.t! P hs wt->x∈ef wt->KB.gO (KB.cz P (bQ hs) x) (bQ hs x)=O'->∃v,PR P.nv (rz s x (bQ hs x)<|KB.jO (bQ hs x)<|KB.cz P (bQ hs) x) v/\dw 6 P.nv v
  less:∀s hs wt x,Inv s hs wt->KB.t! P hs wt->x∈ef wt->KB.gO (KB.cz P (bQ hs) x) (bQ hs x)=O'->mu (hs.set x<|rz s x (bQ hs x)<|KB.jO (bQ hs x)<|KB.cz P (bQ hs) x)<mu hs
structure KB.ChE{σ:Type}(S:Nat->Obj->Prop)(C:σ->p'->Prop)(w:p')(P:Pm)(fk pb:Nat)(caps:Array y')(nx:σ->Nat->PE->PE->σ)(rz:σ->Nat->PE->PE->PE)(Inv:σ->List PE->BS->Prop):Prop where
  low:∀k o,S k o->k<δ w.1\/M0 o
  cel:∀s W k o,C s W->S k o->W.1[k]?=z' o->o.isCells=N'
  NR:∀s W W',C s W->(∀k o,W.1[k]?=z' o->S k o->W'.1[k]?=z' o)->C s W'
  tab:∀o,¬S 0 o
  pk:∀o,¬S pb o
  pbl:pb<δ w.1
  fn:∀xs w,(callFunc fk xs).run Tryz.prog w=.ok (.enter fk xs) w
  call:∀s hs wt W x,Inv s hs wt->KB.t! P hs wt->x∈ef wt->KB.gO (KB.cz P (bQ hs) x) (bQ hs x)=O'->C s W->lV W->Ky S w W->Cl fk (#[G x,j'<|θ<|KB.aT<|bQ hs x,j'<|θ<|KB.aT<|KB.jO (bQ hs x)<|KB.cz P (bQ hs) x]++caps) W λe w'=>e=n' (j'<|θ<|KB.aT<|rz s x (bQ hs x)<|KB.jO (bQ hs x)<|KB.cz P (bQ hs) x)/\C (nx s x (bQ hs x)<|KB.jO (bQ hs x)<|KB.cz P (bQ hs) x) w'/\Ky S W w'
def KB.xQ(e:PE)(h:W.1[hb]?=z' (i' (θ<|KB.bp l) 250 (0,0)))(a:k<ζ l):(ψ W hb (k*17)<|KB.aT e).1[hb]?=z' (i' (θ<|KB.bp<|l.set k e) 250 (0,0)):=by
 have V:l=l.take k++l[k]::l.drop (k+1):=ak
 have u:KB.bp l=KB.bp (l.take k)++(KB.aT l[k]++KB.bp (l.drop<|k+1)):=by
  conv=>lhs;rw[V]
  rw[KB.k7];rfl
 have b:KB.bp (l.set k e)=KB.bp (l.take k)++(KB.aT e++KB.bp (l.drop<|k+1)):=by rw[xG,aD a,KB.k7];rfl
 rw[u]at h;rw[b];have X:ζ (KB.bp<|l.take k)=k*17:=by rw[KB.k5,jk,n? I]
 rw[<-X];exact wQ (L:=KB.aT l[k]) (E:=KB.aT e) h rfl
def KB.t!.skip(h:KB.t! P y c)(x:Nat)(F:x<128):KB.t! P y (fI c<|de [x]):=by exact ZI
def KB.t!.step(h:KB.t! P d c)(x:Nat)(F:x<128)(b:x<ζ d)(f:∃v,PR P.nv z v/\dw 6 P.nv v)(e:b! r)(X:∀y∈ef r,y<ζ P.nd):KB.t! P (d.set x z) (fU (fI c<|de [x]) r):=by exact ZJ
def aep(h:p:=by
 have hm:=hO.most;have hN1:=hO.pos;refine(j? (n:=6)).1 ?_;refine callsIn_of_wp_marks zF8 rfl trivial ?_ rfl;simp only[zN9,kT,bU,eY,Nat.reduceAdd,Nat.reduceSub,qX,qW,qV,qU,gg,fW];have HU:=hid λW=>ou (ζ P.nd) W I;have HR:J (∀W,Ky S w W->Cl zn4 #[fZ rb db<|ζ P.nd] W λe w'=>∃g,e=n' (cG g<|ζ P.nd)/\δ W.1<=g/\w'.1[g]?=z' (i' (θ<|di<|Ql P) 267 (0,0))/\Bl W w'):=λW hW=>r4 rb db B P W (LF W hW) hO hx;obtain⟨X,hi,f,u,b⟩:=cI yB;have HJ:J (_/\_/\_/\_):=⟨hi,f,u,b⟩;have H0:=hid<|Aa LF<|Aa (Aa hO<|Aa hc<|Aa ho hx)<|Aa hP<|Aa hH<|Aa hT<|Aa NT<|Aa hc0<|Aa hd<|Aa NV Xw;obtain⟨N,m⟩:=Ea<|ζ P.nd;rw[<-m]at HU HR hm hN1|-;have HN:=hid m;clear hi f u b LF hO hc ho hx hP hH hT NT hc0 hd NV Xw m;simp only[cW,KC.fZ,KB.fZ]at HU HR|-;refine oe.2 ?_;go_upto_region 1 with(fail)
 refine gnB (F:=Code.wp _ _ _ _) λW0 U=>?_;obtain⟨E,x2⟩:=A U.b;have Xw:=U.C;go_upto_region 2 with(at_make;refine gL _ rfl (.tmp 15) (.tmp 15) OT rfl W0.1.size bL X _ 17 abz HJ.a HJ.b HJ.c .i64 .i64 N N N rfl rfl rfl rfl (by rw[HJ.C];omega) (by unfold maxLen;omega) ak ?_;intro W1 f b;have m:=hid<|Aa f b;clear f b)
 have r:J (W1.1[δ w.1+1+1]?=z' (i' (θ<|bp<|replicate N PE.zero) bL (0,0))/\Bl W0 W1):=by have h1:=m.a;rw[dF _ 17 (by simp[Value.cells];rfl) N]at h1;refine⟨?_,aQ.grown m.A aK (λq e=>by cases e)⟩;rw[<-Xw,(eJ h1).1,<-yD];rfl
 clear m E x2;refine qo (F:=Code.wp _ _ _ _) λF EI=>?_;go_upto_region 3 with(fail)
 refine qo (F:=Code.wp _ _ _ _) λW3 D=>?_;have f:=EI.B;have X:=blt r.a;have m:=aq EI.a D.a;have b:=aq r.A m;have t:=D.b;have o:=D.B;rw[f]at t o;have z:=hid<|Aa (aq U.a b)<|Aa (aG b U.b)<|Aa (aG b U.c)<|Aa (aG m r.a)<|Aa (aG D.a EI.b)<|Aa t o;rw[f];clear U r EI D Xw f m b t o;generalize δ W1.1=bx at *;obtain⟨E,x2⟩:=A z.b;go_upto_region 4 with((first|go_at_call 207 | go_at_call 215);refine(HR.o _<|Ky.of z.a).mono ?_;rintro e W4 ⟨g,rfl,h1,h2,h3⟩;have H4:=hid<|Aa h1<|Aa h2 h3;clear h1 h2 h3 E x2)
 refine qo (F:=Code.wp _ _ _ _) λW5 t=>?_;have R:=aq H4.B t.a;obtain⟨E,x2⟩:=A<|aG R z.b;go_upto_region 5 with(go_at_call 208;refine(HU.o _).mono ?_;rintro e W6 ⟨rfl,h1⟩;have H6:=hid h1;clear h1 E x2)
 refine qo (F:=Code.wp _ _ _ _) λY r=>?_;have U:J (∀W,Cl 209 (cB W6.1.size) W λe w'=>e=n' (.func (.func 268) #[]<|cB W.1.size)/\w'=W.alloc (i' (cB W6.1.size) 379)):=λW=>vZ _ W;go_wp2_with (go_at_call 209;refine(U.o _).mono ?_;rintro e W8 ⟨rfl,rfl⟩);refine qo (F:=Code.wp _ _ _ _) λW8 m=>?_;have X:δ W6.1<δ Y.1:=by rw[r.B];omega
 have f:=aq R<|aq H6.o<|aq r.a m.a;have hab:δ W5.1<=δ W6.1:=H6.o.size;have hrx:=t.B;have X:=blt H4.b;have hg2:=H4.a;have hg3:=z.F;have f8:=m.b;have L:=aq H6.o<|aq r.a m.a;have T:=aq t.a L;obtain⟨fx,b⟩:=Ea ([(δ w.1,i' #[g' (z'<|O rb 0) N N,.func (.func Al) #[]<|cB db,.func (.func FR) #[]<|cB db] abB (0,0)),(δ w.1+1,i' #[.func (.func fk) #[] caps] adM (0,0)),(bx,i' #[g' (z'<|O (δ w.1+1+1) 0) N N] OT (0,0)),(bx+1,i' #[.func (.func zn0) #[]<|cB bx] adL (0,0)),(g,i' (θ<|di<|Ql P) 267 (0,0)),(δ W4.1,i' (mG g N) 264 (0,0)),(δ Y.1,i' (cB W6.1.size) 379 (0,0))]:List<|Nat×Obj);have H8:J (Et S C w fx (δ w.1+1+1) s0 (i' (θ<|bp<|replicate N PE.zero) bL (0,0)) W8/\W8.1[δ W6.1]?=z' (AE (jK N)<|g' pa pl pc)/\δ W8.1=δ Y.1+1):=by
  refine⟨⟨Ky.of<|aq z.a f,H0.d.NR _ _ _ H0.g λk o e _=>aG (aq z.a f) e,H0.e.below<|aq z.a f,aG f z.d,?_⟩,aG m.a r.b,m.B⟩;intro q o hq;rw[b]at hq;simp only[cM,eR,dR,dz]at hq;rcases hq with⟨rfl,rfl⟩|⟨rfl,rfl⟩|⟨rfl,rfl⟩|⟨rfl,rfl⟩|⟨rfl,rfl⟩|⟨rfl,rfl⟩|⟨rfl,rfl⟩
  .exact aG f z.b
  .exact aG f z.c
  .exact aG f z.e
  .exact aG f z.f
  .exact aG T H4.b
  .exact aG L t.b
  exact f8
 have X:=H0.d.pbl;have X:=z.a.size;have hP8:J (jC W8 pb<|g' pa pl pc):=H0.f.keep λo u h=>aB h<|aq z.a f;have X:bx+1<g:=I;have X:δ W4.1<δ W6.1:=I;clear t r m H6 H4 z R f T L U HR HU f8 hrx hg3 hg2 hab;generalize δ W4.1=JT at *;generalize δ W6.1=ab at *;generalize δ Y.1=qb at *;have OF:J (∀q o,(q,o)∈fx->δ w.1<=q/\q≠δ w.1+1+1/\q≠ab/\q<=qb/\¬M0 o):=by intro q o hq;rw[b]at hq;simp only[cM,eR,dR,dz]at hq;rcases hq with⟨rfl,rfl⟩|⟨rfl,rfl⟩|⟨rfl,rfl⟩|⟨rfl,rfl⟩|⟨rfl,rfl⟩|⟨rfl,rfl⟩|⟨rfl,rfl⟩<;>exact⟨I,I,I,I,by rintro⟨c,f,e⟩;exact absurd (e? e).2.1 aj⟩
 have HF:=hid λ(W:p')(h:∀q o,(q,o)∈fx->W.1[q]?=z' o)=>Aa (h _ _<|by rw[b];exact od)<|Aa (h _ _<|by rw[b];exact gp od)<|Aa (h _ _<|by rw[b];exact gp<|gp od)<|Aa (h _ _<|by rw[b];exact gp<|gp<|gp od)<|Aa (h _ _<|by rw[b];exact gp<|gp<|gp<|gp od)<|Aa (h _ _<|by rw[b];exact gp<|gp<|gp<|gp<|gp od) (h _ _<|by rw[b];exact gp<|gp<|gp<|gp<|gp<|gp od);clear b;have m:δ w.1<=δ w.1+1+1/\δ w.1+1+1<ab/\ab<qb:=I;have On:=hid m;have uQ:=dW<|H0.e 0 aj;obtain⟨Rs,b⟩:=Ea (λs hs W=>Et S C w fx (δ w.1+1+1) s (i' (θ<|bp hs) bL (0,0)) W:σ->List PE->p'->Prop);have HK:J (RsK Rs ab qb):=by rw[b];exact⟨λs hs W W' X h hk X hV=>Et.keep h OF.o On.o H0.d.low H0.d.NR uQ hk X (λk o hx e R=>by obtain⟨c,f,rfl⟩:=R;rcases hV k _ hx e with h2|⟨X,X,h2⟩;(· cases h2);exact absurd (e? h2).2.1 aj),λs hs W h=>Et.tab h,λs hs W h=>(HF.o W<|Et.fix h).2.2.2.2.2.2⟩
 have X:J (Rs s0 (replicate N PE.zero) W8):=by rw[b];exact H8.a
 have YL:=hid b;have Y:qb<δ W8.1:=by rw[H8.B];omega
 clear b m;refine(oe (n:=6)).1 ?_
 refine Mh (σ:=σ×List PE×BS) (α:=Nat) rfl I (gf:=268) (lb:=(cB qb)) rfl trivial (λxs w=>Tryz.call268 xs w) (PU:=λx=>#[G x]) (λ_=>rfl)
  (Qv Rs ab pb Inv<|t! P) (IfS Rs Inv<|t! P) (IyS Rs ab pb Inv<|t! P) (ltS λh wt=>mu h*200+ζ (ef wt)) (Qv.own HK.o I I I) (IfS.own HK.o I) (IyS.own HK.o I I I) (s0:=(s0,replicate N PE.zero,jK N)) ⟨_,X.o,H8.b,hP8.o,by rw[HN.o];exact H0.c.start,⟨by rw[<-HN.o];simp,λm=>by rw[show bQ (replicate N PE.zero) m=PE.zero by unfold bQ;rw[bN,j!];split<;>rfl];exact H0.I,oz N I,by rw[<-HN.o];exact LS I⟩⟩
  (Qv.it HK.o (λ_ _ h=>h.wi) 5 I I I _)
  (λx=>{tmps:=#[j' #[g' (z'<|O rb 0) N N,.func (.func Al) #[]<|cB db,.func (.func FR) #[]<|cB db],g' pa pl pc,.func (.func fk) #[] caps,m'<|cV w.1.size,undef,m'<|z'<|O (δ w.1+1) 0,g' A' 0 0,m'<|z'<|O bx 0,m'<|z'<|O (bx+1) 0,m'<|z'<|O JT 0,m'<|z'<|O ab 0,G x,undef,m'<|cV w.1.size,g' (z'<|O rb 0) N N,G N,g' (z'<|O (δ w.1+1+1) 0) N N,.func (.func zn0) #[]<|cB bx,j' #[g' (z'<|O rb 0) N N,.func (.func Al) #[]<|cB db,.func (.func FR) #[]<|cB db],g' (z'<|O g 0) N N,m'<|cV w.1.size,g' (z'<|O rb 0) N N,G N,j' #[Z ((jK N).1:Int),Z ((jK N).2:Int)],g' pa pl pc,j' #[Z ((jK N).1:Int),Z ((jK N).2:Int),g' pa pl pc],.func (.func 268) #[]<|cB qb,G x,undef,undef,undef,undef,undef,undef,undef,undef,undef,undef,undef,undef,undef,undef,undef,undef,undef,undef,undef,undef,undef,undef,undef,undef,undef,undef,undef,undef,undef,undef,undef,undef,undef,undef,undef,undef,undef],defers:=[]}) ?assign ?body ?done
 case assign=>
  intro l x W K hK
  gi_wp2
  exact hK
 case body=>
  rintro l ⟨s,hs,wt⟩ x W ⟨pv,h1,h2,h3,h4,h5,L⟩;simp only at h1 h2 h3 h4 h5 L;rw[YL.o]at h1;have X:=h5.low x L;have Ty:x<N:=by rw[HN.o];exact X
  have Y:(x:Int)<N:=I;have hxl:x<ζ hs:=by rw[h5.len];exact X
  have U:hs[x]?=z' (bQ hs x):=by unfold bQ;rw[getD,bj hxl];rfl
  obtain⟨hO,hc,ho,z⟩:=H0.b;have r:W.1[db]?=_:=(Et.k h1).box H0.h H0.i;have t:=h5.hd.bin x;have T:=Mi h5.hd hO hc ho z x;have Of:J (∀W',Bl W W'->Cl aeM #[fZ rb db N,G x,.func (.func zn0) #[]<|cB bx] W' (Rb W'<|j'<|θ<|aT<|cz P (bQ hs) x)):=by intro W' hW;rw[HN.o];refine uC rb db B x _ P _ (bQ hs) W' (H0.a W' ((Et.k h1).trans<|Ky.of hW)) (aG hW r) hO hc ho z X h5.hd (λxs w=>zC3 xs w) λm X F Y=>?_;exact AX m bx N N _ hs (bQ hs m) F (aG Y<|aG hW (HF.o W<|Et.fix h1).2.2.1) (mL<|aG Y<|aG hW<|Et.held h1) (by unfold bQ;rw[getD,bj<|by rw[h5.len];exact X];rfl) (by rw[HN.o];exact X)
  have Q2:J (∀W',Bl W W'->Cl FR #[j'<|θ<|aT<|cz P (bQ hs) x,j'<|θ<|aT<|bQ hs x,m'<|z'<|O db 0] W' (Rb W'<|h'<|gO (cz P (bQ hs) x)<|bQ hs x)):=λW' hW=>vF _ _ db W' (aG hW r) T t;have Re:J (∀(W':p') b,Bl W W'->W'.1[b]?=z' (i' (θ<|bp [bQ hs x,cz P (bQ hs) x]) bL (0,0))->Cl Al #[g' (z'<|O b 0) 2 2,m'<|z'<|O db 0] W' (Rb W'<|j'<|θ<|aT<|jO (bQ hs x)<|cz P (bQ hs) x)):=by intro W' b hW hb;have:=rq (z'<|O b 0) 2 db [bQ hs x,cz P (bQ hs) x] W' (aG hW r) (mL hb) ak (λe m=>by simp at m;rcases m with rfl|rfl;(· exact t);exact T) λa b=>JW;exact this
  have Su:=hid λ(hb:gO (cz P (bQ hs) x) (bQ hs x)=O') W' (hc:C s W') (hT:lV W') (hk:Ky S w W')=>H0.d.call s hs wt W' x h4 h5 L hb hc hT hk;have HAd:J (∀W' m,W'.1[ab]?=z' (AE (fI wt<|de [x]) m)->Cl 211 #[m'<|z'<|O ab 0,cW ((Ql P).getD x (0,0))] W' λe w'=>(∃v,e=n' v)/\w'.1[ab]?=z' (AE (fU (fI wt<|de [x]) ((Ql P).getD x (0,0))) m)/\Kx (·=ab) W' w'):=λW' m h=>NN ab _ _ m W' h po<|JM hO.most x;have HSk:=hid<|H0.c.skip s hs wt x h4 h5 L;have HSt:=hid<|H0.c.step s hs wt x h4 h5 L;have Q4:=hid<|H0.c.less s hs wt x h4 h5 L;have Sa:=hid<|H0.c.good s hs wt x h4 h5 L;have HRd:=hid<|Aa (JM hO.most x)<|Wq hO.most z x;have HX:=hid<|Aa h1<|Aa h2<|Aa h3<|Aa h5<|Aa L U;have EH:=hid<|HF.o W<|Et.fix h1;obtain⟨E,x2⟩:=A EH.a;obtain⟨y1,y2⟩:=A EH.d;clear h1 h2 h3 h4 h5 L t T hO hc ho z r U;simp only[cW,KC.fZ,KB.fZ]at Of HAd
  gi_upto_region 7 with(fail)
  refine ags (l:=l) (h:=?_);go_wp2_with (first|((first|go_at_call 210 | go_at_call 216);refine(Of.o _ aQ).mono ?_;rintro e W1 ⟨rfl,m⟩;have r:=hid m;clear m E x2 y1 y2)|(refine wpList_store_mid rfl bL (.tmp 12) (.tmp 31) rfl W1.1.size 0 (θ<|aT<|cz P (bQ hs) x) rfl rfl (cK (n:=17) cv rfl) M (bO _) ?_));refine PI (F:=λV=>Code.wpIn _ _ _ _ _ _ V) rfl λU HU=>?_;simp only[Act.put];have z:=hid λW' (Qp:Bl U W')=>Aa (aG Qp<|aG HU.A<|aG r.o EH.a)<|Aa (aG Qp<|aG HU.A<|aG r.o EH.c)<|Aa (aG Qp<|aG HU.A<|aG r.o HX.a.held)<|aG Qp HU.a;have Mo:J (∀W':p',W'.1[δ w.1+1+1]?=z' (i' (θ<|bp hs) bL (0,0))->W'.rangeAt (δ w.1+1+1) (x*17) (aT<|bQ hs x)):=λW' h=>by obtain⟨b,o,e,hr⟩:=mL h x _ HX.E;cases e;rwa[bH]at hr
  gi_wp2
  refine stR (l:=l) (λW'=>Bl U W') 8 (hS:=aQ.drew) (h:=λaC=>?_);refine tt 0 (m'<|z'<|O w.1.size 2) (h:=?_);refine tt 1 (.func (.func FR) #[]<|cB db) (y:=λW' aW=>by have k1:=(A (z.o _ aW).1).1;clear aC aW;go_simp) (h:=?_);refine tu 2 (j'<|θ<|aT<|cz P (bQ hs) x) (y:=yieldsIf_load_mid M _ _ rfl _ _ rfl _ _ (λW' aW=>bu (z.o _ aW).2.2.2) gU rfl M) (h:=?_);refine tt 3 (g' (z'<|O (δ w.1+1+1) 0) N N) (y:=λW' aW=>by have k1:=(A (z.o _ aW).2.1).1;clear aC aW;go_simp) (h:=?_);refine tt 4 (G x) (h:=?_);refine tt 5 (m'<|z'<|O (δ w.1+1+1)<|x*17) (h:=?_);refine tu 6 (j'<|θ<|aT<|bQ hs x) (y:=yieldsIf_load_mid M _ _ rfl _ _ rfl _ _ (λW' aW=>Mo.o _ (z.o _ aW).2.2.1) gU rfl M) (h:=?_);refine rt 7 (h:=λK hK=>?_);go_simp;refine bP (Q2.o _<|aq r.o<|aq HU.A aC) ?_;rintro e F ⟨rfl,X⟩;have EI:J (Bl U F):=aq aC X;clear X aC;refine hK.out _ _ (λ_=>EI.o) ?_;clear hK K;refine pt ?_;refine dt (h:=?_);have T:=hid<|aq r.o<|aq HU.A EI.o;cases b:gO (cz P (bQ hs) x) (bQ hs x)with
  |true=>
   gi_wp2
   refine⟨jU T.o,s,hs,(fI wt<|de [x]).1,(fI wt<|de [x]).2,?_,pv,HK.o.keep _ _ _ _ (λ_=>False) (by rw[YL.o];exact HX.a) (Kx.of T.o) (λ_ h=>h.elim) λ_ _ h=>h.elim,aG T.o HX.b,HX.c.keep λo u h=>aB h T.o,HSk.o b,HX.d.skip x I⟩;have:=YT HX.d.wi HX.e;show mu hs*200+ζ (ef<|fI wt<|de [x])<mu hs*200+ζ (ef wt);omega
  |false=>
   have Eu:J (∀k o,δ w.1<=k->¬M0 o->¬S k o):=λk o h R e=>by rcases H0.d.low k o e with h1|h1;(· omega);exact R h1
   have Xs:=hid (HF.o W λq o hq=>HX.a.fix q o hq);have tj:∀{L:Array y'} {t:Nat} {f:Nat×Nat},t≠73->¬M0 (i' L t f):=λU=>by rintro⟨c,f,e⟩;exact U (e? e).2.1
   have m:=HX.a.k.size;have lW:=hid λW' (Qp:Ky S F W')=>Aa (Qp.box (aG T.o EH.a)<|Eu.o _ _ I<|tj aj)<|Aa (Qp.box (aG T.o EH.b)<|Eu.o _ _ I<|tj aj)<|Aa (Qp.box (aG T.o HX.a.held)<|Eu.o _ _ I<|tj aj)<|Aa (Qp.box (aG T.o EH.c)<|Eu.o _ _ I<|tj aj)<|Qp.box (aG EI.o HU.a)<|Eu.o _ _ (I' r.o.size)<|tj aj;have m:J (∀W',Bl W W'->C s W'/\lV W'/\Ky S w W'):=λW' h=>⟨H0.d.NR _ _ _ HX.a.c λk o e _=>aG h e,HX.a.tab.below h,HX.a.k.trans<|Ky.of h⟩;have HC3:=hid λW' (h:Bl W W')=>Su.o b W' (m.o W' h).1 (m.o W' h).2.1 (m.o W' h).2.2;have adC:=hid<|HSt.o b;have adD:=hid<|Q4.o b;have UP:=hid<|Sa.o b;have t:=H0.d.fn;clear Su HSt Q4 Sa HSk z Q2 Of b m;generalize cz P (bQ hs) x=sa at *;generalize bQ hs x=old at *;generalize jO old sa=qk at *;generalize rz s x old qk=z at *
   gi_wp2
   refine stR (l:=l) (λW'=>Ky S F W') 18 (hS:=(Ky.refl _ _).drewN 1) (h:=λaC=>?_);refine tt 0 (g' (z'<|O (δ w.1+1+1) 0) N N) (y:=λW' aW=>by have k1:=(A (lW.o _ aW).2.2.2.1).1;clear aC aW;go_simp) (h:=?_);refine tt 1 (G x) (h:=?_);refine tt 2 (.func (.func fk) #[] caps) (y:=λW' aW=>by have k1:=(A (lW.o _ aW).2.1).1;clear aC aW;go_simp) (h:=?_);refine tt 3 (G x) (h:=?_);refine tt 4 (g' (z'<|O (δ w.1+1+1) 0) N N) (y:=λW' aW=>by have k1:=(A (lW.o _ aW).2.2.2.1).1;clear aC aW;go_simp) (h:=?_);refine tt 5 (G x) (h:=?_);refine tt 6 (m'<|z'<|O (δ w.1+1+1)<|x*17) (h:=?_);refine tu 7 (j'<|θ<|aT old) (y:=yieldsIf_load_mid M _ _ rfl _ _ rfl _ _ (λW' aW=>Mo.o _ (lW.o _ aW).2.2.1) gU rfl M) (h:=?_);refine tt 8 (xR w.1.size) (h:=?_);refine tt 9 (.func (.func Al) #[]<|cB db) (y:=λW' aW=>by have k1:=(A (lW.o _ aW).1).1;clear aC aW;go_simp) (h:=?_);refine tt 10 (g' (z'<|O (δ w.1+1+1) 0) N N) (y:=λW' aW=>by have k1:=(A (lW.o _ aW).2.2.2.1).1;clear aC aW;go_simp) (h:=?_);refine tt 11 (G x) (h:=?_);refine tt 12 (m'<|z'<|O (δ w.1+1+1)<|x*17) (h:=?_);refine tu 13 (j'<|θ<|aT old) (y:=yieldsIf_load_mid M _ _ rfl _ _ rfl _ _ (λW' aW=>Mo.o _ (lW.o _ aW).2.2.1) gU rfl M) (h:=?_);refine tu 14 (j'<|θ<|aT sa) (y:=yieldsIf_load_mid M _ _ rfl _ _ rfl _ _ (λW' aW=>bu (lW.o _ aW).2.2.2.2) gU rfl M) (h:=?_);refine rt 15 (h:=λK hK=>?_);refine aaV (w':=F.drew.alloc<|i' (θ<|bp [old,sa]) bL) (g' (cV F.1.size) 2 2) M M ?_;refine hK.out _ _ (λ_=>aC.trans<|Ky.of bA) ?_;clear hK K;refine pt ?_;have HQ:J ((F.drew.alloc<|i' (θ<|bp [old,sa]) bL).1[δ F.1]?=z' (i' (θ<|bp [old,sa]) bL (0,0))/\Bl F (F.drew.alloc<|i' (θ<|bp [old,sa]) bL)):=⟨cF F.drew _,aq aQ.drew<|cf F.drew _⟩;generalize F.drew.alloc (i' (θ<|bp [old,sa]) bL)=b at *;refine rt 16 (h:=λK hK=>?_);go_simp;refine bP (Re.o _ _ (aq T.o HQ.A) HQ.a) ?_;rintro e W3 ⟨rfl,Y⟩;have D:J (Bl F W3):=aq HQ.A Y;clear Y aC;refine hK.out _ _ (λ_=>Ky.of D.o) ?_;clear hK K;refine pt ?_;refine rt 17 (h:=λK hK=>?_);go_simp;refine bP (HC3.o _<|aq T.o D.o) ?_;rintro e W4 ⟨rfl,b,m⟩;have H4:=hid<|Aa b ((Ky.of (S:=S) D.o).trans m);clear b m;refine hK.out _ _ (λ_=>H4.A) ?_;clear hK K;refine pt ?_;refine rt 18 (h:=λK hK=>?_);go_simp;refine hK.out _ _ (λh=>absurd h aj) ?_;clear hK K;refine pt ?_;refine rt 19 (h:=λK hK=>?_);have b:=(lW.o _ H4.A).2.2.1;rw[aD M];refine wp_store_mid bL (.tmp 58) (.tmp 57) rfl (δ w.1+1+1) (x*17) (θ<|aT z) rfl rfl (rr b hxl) M (bO _) ?_;refine hK.out _ _ (λh=>absurd h aj) ?_;clear hK K;refine pt ?_;refine dt (h:=?_);have XF:Ky S W W4:=(Ky.of T.o).trans H4.A;generalize PF:ψ W4 (δ w.1+1+1) (x*17) (aT z)=W5;have hk5:Ky (λk o=>S k o\/k=δ w.1+1+1\/k=ab) W W5:=by rw[<-PF];refine s4 (XF.mono λk _ h=>aP h) ?_ _ _;exact λ_ _=>aR<|aP rfl
   have XC:∀q,δ w.1<=q->q≠δ w.1+1+1->∀o,¬M0 o->W.1[q]?=z' o->W5.1[q]?=z' o:=λq h1 h2 o R h=>by rw[<-PF,eA _ _ _ _ _ h2];exact XF.box h<|Eu.o q o h1 R
   have H5:=hid<|Aa (show W5.1[δ w.1+1+1]?=z' (i' (θ<|bp<|hs.set x z) bL (0,0))by rw[<-PF];exact xQ z (lW.o _ H4.A).2.2.1 hxl)<|Aa hk5<|Aa (H0.d.NR _ _ W5 H4.a λk o e hk=>by rw[<-PF,eA _ _ _ _ _ (λek=>by subst ek;have h2:=(lW.o _ H4.A).2.2.1;rw[e]at h2;cases h2;exact Eu.o _ _ I (tj aj) hk)];exact e)<|Aa (XC ab I I _ (tj aj) HX.b)<|Aa (XC JT I I _ (tj aj) EH.f)<|Aa (XC g I I _ (tj aj) EH.e) (HX.c.keep (w':=W5) λo u h=>by rw[<-PF];exact(bh<|eA _ _ _ _ _ I).trans<|XF.cell h H0.d.pk);have hrl:ζ (Ql P)=N:=by rw[HN.o];exact pM _ _ _
   obtain⟨U,k1,_,_⟩:=ig H5.f (k:=x) (by rw[hrl];exact Ty);obtain⟨y1,y2⟩:=A H5.e;generalize(Ql P).getD x (0,0)=rx at *;clear PF hk5 XC XF hrl HC3 Re lW Mo r EI D HU HQ Xs
   gi_wp2_with (refine⟨trivial,?_⟩;gi_at_call 211;refine(CallsIn.inRound l<|j?.2<|HAd.o _ _ H5.d).mono ?_;rintro e W6 ⟨⟨v,rfl⟩,b,r⟩;have H6:=hid<|Aa b r;clear b r)
   have r:Ky (λk o=>S k o\/k=δ w.1+1+1\/k=ab) W W6:=H5.b.trans ((Ky.ofx H6.A).mono λk _ h=>aR<|aR h);refine⟨r.others ?_,nx s x old qk,hs.set x z,(fU (fI wt<|de [x]) rx).1,(fU (fI wt<|de [x]) rx).2,?_,pv,?_,H6.a,?_,adC.o,HX.d.step x I hxl UP.o HRd.a HRd.A⟩
   .rintro k o (h|h|h) hk
    .exact H0.d.cel s W k o HX.a.c h hk
    .subst h;rw[HX.a.held]at hk;cases hk;rfl
    subst h;rw[HX.b]at hk;cases hk;rfl
   .have:=nB<|fU (fI wt<|de [x]) rx;have V:=adD.o;show mu (hs.set x z)*200+ζ (ef<|fU (fI wt<|de [x]) rx)<mu hs*200+ζ (ef wt);omega
   .rw[YL.o];refine Et.z! HX.a OF.o On.o H0.d.low H0.d.tab r (H0.d.NR _ _ _ H5.c λk o e hk=>?_) uQ<|H6.A.box H5.a I;exact H6.A.box e (λek=>by subst ek;have h2:=H5.d;rw[e]at h2;cases h2;exact Eu.o _ _ I (tj aj) hk)
   exact H5.F.keep λo u h=>H6.A.cell h I
 rintro D ⟨s,hs,wt⟩ W t ⟨h1,h2,h3⟩ hK;simp only at h1 h2 h3;rw[YL.o]at h1;obtain⟨E,x2⟩:=A (HF.o W<|Et.fix h1).2.2.1;go_wp2_with fail;refine⟨ak,.inl ⟨_,_,rfl,run_takeDeferred hK,?_⟩⟩;have b:=grownBy_putObj' W D<|.deferred A';have hx:Kx (λk=>k=D) W (W.putObj D<|.deferred A'):=⟨b.os,b.tape,b.output,b.size,λk hk m=>b.block k hk λe=>m (by cases e;rfl)⟩;have h1':=Et.keep h1 OF.o On.o H0.d.low H0.d.NR uQ hx (λk e=>by subst e;right;omega) (λk o e ho=>by subst e;rw[hK]at ho;cases ho;rintro⟨c,f,h⟩;cases h)
 exact⟨g' (z'<|O (δ w.1+1+1) 0) N N,by simp[results138,results144,go_sem],s,hs,rfl,h1'.held,h1'.c,h1'.k,h2,h3⟩):p:=h
open KC in
theorem KC.uk(S:Nat->Obj->Prop)(C:σ->World->Prop)(rb db B fk pb:Nat)(P:Pm)(caps:Array Value)(pa:Option Addr)(pl pc:Nat)(w:World)(nx:σ->Nat->PE->PE->σ)(rz:σ->Nat->PE->PE->PE)(mu:List PE->Nat)(Inv:σ->List PE->BS->Prop)(s0:σ)
 (LF:∀W,Ky S w W->KC.rA W B rb P) (hd:w.heap[db]?=some (.cells #[.iface 328<|.agg #[]] 381 (0,0))) (NV:¬S db (.cells #[.iface 328<|.agg #[]] 381 (0,0))) (hO:cN P) (hc:nD P) (ho:px P) (hx:P.nx.length=P.nd.length) (hP:KC.SnE P nx rz mu Inv s0) (hH:KC.ChE S C w P fk pb caps nx rz Inv) (Xw:∃v,PR P.nv PE.zero v/\dw 5 P.nv v) (hT:lV w) (NT:jC w pb<|.slice pa pl pc) (hc0:C s0 w):
 Cl 138 #[KC.fZ rb db P.nd.length,.slice pa pl pc,.func (.func fk) #[] caps] w λe w'=>∃s hs,e=.returned (.slice (some<|O (w.heap.size+1+1) 0) P.nd.length P.nd.length)/\w'.heap[w.heap.size+1+1]?=some (.cells (KC.bp hs).toArray 228 (0,0))/\C s w'/\Ky S w w'/\Inv s hs (0,0)/\KC.t! P hs (0,0):=by exact aep
open KB in
theorem KB.uk(S:Nat->Obj->Prop)(C:σ->World->Prop)(rb db B fk pb:Nat)(P:Pm)(caps:Array Value)(pa:Option Addr)(pl pc:Nat)(w:World)(nx:σ->Nat->PE->PE->σ)(rz:σ->Nat->PE->PE->PE)(mu:List PE->Nat)(Inv:σ->List PE->BS->Prop)(s0:σ)
 (LF:∀W,Ky S w W->KB.rA W B rb P) (hd:w.heap[db]?=some (.cells #[.iface 331<|.agg #[]] 386 (0,0))) (NV:¬S db (.cells #[.iface 331<|.agg #[]] 386 (0,0))) (hO:cN P) (hc:nD P) (ho:px P) (hx:P.nx.length=P.nd.length) (hP:KB.SnE P nx rz mu Inv s0) (hH:KB.ChE S C w P fk pb caps nx rz Inv) (Xw:∃v,PR P.nv PE.zero v/\dw 6 P.nv v) (hT:lV w) (NT:jC w pb<|.slice pa pl pc) (hc0:C s0 w):
 Cl 144 #[KB.fZ rb db P.nd.length,.slice pa pl pc,.func (.func fk) #[] caps] w λe w'=>∃s hs,e=.returned (.slice (some<|O (w.heap.size+1+1) 0) P.nd.length P.nd.length)/\w'.heap[w.heap.size+1+1]?=some (.cells (KB.bp hs).toArray 250 (0,0))/\C s w'/\Ky S w w'/\Inv s hs (0,0)/\KB.t! P hs (0,0):=by exact aep
end
section
attribute [local go_sem] Oper.semAt_some
def zY(v:Vl):List y':=[G v.aH,G v.lo,G v.hi,h' v.bY,G v.first,G v.rank]
def ei(vs:List Vl):List y':=vs.flatMap zY
def x6{E:List Vl}{k:Nat}{v:Vl}(h:E[k]?=z' v):ei (E.take<|k+1)=ei (E.take k)++zY v:=by have X:=(aX.1 h).1;rw[ep X,(aX.1 h).2];simp[ei]
def T7(v:VV):Vl:=if v.any then⟨2,0,0,O',0,0⟩ else⟨1,v.lo,0,O',0,0⟩
def Qq(e:PE)(n:Nat):List Vl:=(range n).map λi=>T7<|e.at i
def T8(e:PE){n i:Nat}(h:i<n):(Qq e n)[i]?=z' (T7<|e.at i):=by simp[Qq,h]
def w!(e:PE)(n:Nat):ζ (Qq e n)=n:=by simp[Qq]
def Sz{W:p'}{B f e size n:Nat}{v:y'}{D:List y'}(h:ρ W B e size v n D)(c:f<=B):ρ W f e size v n D:=
 ⟨h.1,h.2.imp id λ⟨g,a,Y,C,b,N⟩=>⟨g,a,Y,C,bX c b,N⟩⟩
def ZH{p:Prop}(h:p:=by
 go_roundw
 case rel=>
  refine⟨j+1,o,m,L,e',rfl,?_,?_⟩
  .rw[i.o,R];exact W.a
  exact((aq b.A X.a).alloc (aq b.A X.a).size _).grown W.A (by have:=(aq b.A X.a).size;simp;omega) λq e=>((aZ b.a X.a).lt q e).1
 exact F'):p:=h
def As(e:PE)(n:Nat)(w:p')(K:n<=8):
  Cl 142 #[j'<|θ<|KC.aT e,G n] w λr f=>∃a c,r=n' (g' a n c)/\ρ f w.1.size 73 6 (g' a n c) n (ei<|Qq e n)/\Bl w f:=by
 obtain⟨N,S,D,P,b⟩:=cI zi;have d:J (_/\_/\_/\_):=⟨S,D,P,b⟩;clear S D P b;have f:(n:Int)<=8:=I;go_enter func142,ntmps142;go_upto_region 1 with fail
 refine qo (F:=Code.wp _ _ _ _) λh U=>?_;have f:=U.B;have s:=hid f;clear f;go_wp2_with fail;go_loopw[5,12] (λr y wr=>∃(j:Nat)(a:t')(c:Nat),j<=n/\y=G j/\r=g' a j c/\J (ρ wr h.1.size 73 6 (g' a j c) j (ei ((Qq e n).take j))/\Bl h wr)) (λ_ y _=>n-(intOf y).toNat)
 case atStart=>exact⟨0,A',0,bm,rfl,rfl,dj,aQ⟩
 obtain⟨j,a,c,f,rfl,rfl,b⟩:=hrel;by_cases L:j<n;rotate_left
 .have g:¬(j:Int)<n:=I;obtain rfl:j=n:=I;go_wp2_with fail;refine aE (v:=g' a j c) (by simp[results142,go_sem]) rfl ⟨a,c,rfl,?_,aq U.a b.A⟩;have f:=b.a;rw[c!<|by rw[w!];exact aK]at f;exact Sz f (by rw[s.o];omega)
 have g:(j:Int)<n:=I;have f:=A<|aG b.A U.b;obtain⟨o,g⟩:=KC.iJ e (i:=j) I;have t:χ wr (O w.1.size<|1+j*2)=z' (h' (e.at j).any):=by rw[f.1];exact(cL ..).trans o
 have Y:χ wr (O w.1.size<|1+j*2+1)=z' (G (e.at j).lo):=by rw[f.1];exact(cL ..).trans g
 have i:=hid<|x6<|T8 e L;clear f o g;go_upto_region 5 with fail
 refine qo (F:=Code.wp _ _ _ _) λT X=>?_;clear t Y;obtain⟨E,g⟩:=A X.b;have f:=hid X.B;cases B:(e.at j).any with
 |true=>
  rw[B]at E;have R:T7 (e.at j)=⟨2,0,0,O',0,0⟩:=by simp[T7,B]
  go_wp2_with (at_builtin;refine fz rfl _ _ 71 rfl h.1.size 73 N (j' nL) 6 48 underlying71 d.a d.b d.c d.C rfl aj (g' a j c) j (ei ((Qq e n).take j)) rfl ((aZ b.a X.a).alloc _) (O T.1.size 0) 1 1 (zY ⟨2,0,0,O',0,0⟩) rfl rfl (mM<|cF T _) (by intro u C;simp only[zY,cM,dR,dz]at C;rcases C with rfl|rfl|rfl|rfl|rfl|rfl<;>rfl) (by simp only[maxLen];omega) I (by have:=(aq b.A X.a).size;simp;omega) ?_;intro p l k F _;obtain⟨o,m,rfl⟩:=aV k;have W:=hid<|Aa k F;clear k F);exact ZH
 |false=>
  rw[B]at E;have R:T7 (e.at j)=⟨1,(e.at j).lo,0,O',0,0⟩:=by simp[T7,B]
  go_wp2_with (at_builtin;refine fz rfl _ _ 71 rfl h.1.size 73 N (j' nL) 6 48 underlying71 d.a d.b d.c d.C rfl aj (g' a j c) j (ei ((Qq e n).take j)) rfl ((aZ b.a X.a).alloc _) (O T.1.size 0) 1 1 (zY ⟨1,(e.at j).lo,0,O',0,0⟩) rfl rfl (mM<|cF T _) (by intro u C;simp only[zY,cM,dR,dz]at C;rcases C with rfl|rfl|rfl|rfl|rfl|rfl<;>rfl) (by simp only[maxLen];omega) I (by have:=(aq b.A X.a).size;simp;omega) ?_;intro p l k F _;obtain⟨o,m,rfl⟩:=aV k;have W:=hid<|Aa k F;clear k F);exact ZH
end
section
variable {j g:Nat}{l:List Vl}{E:List y'}
attribute [local go_sem] Oper.semAt_some
def J8(old next:PE)(r:Int)(i:Nat)(v:Vl):Vl:=if (next.at i).any&&!(old.at i).any then⟨2,0,0,N',(old.at i).lo,r⟩ else v
def J9(old next:PE)(r:Int)(vs:List Vl)(j:Nat):List Vl:=vs.mapIdx λi v=>if i<j then J8 old next r i v else v
def Ij(old next:PE)(r:Int)(vs:List Vl):List Vl:=vs.mapIdx λi v=>J8 old next r i v
def SL(c next:PE)(r:Int)(E:List Vl):J9 c next r E 0=E:=by refine et λi=>?_;simp[J9]
def Dm(c next:PE)(r:Int)(E:List Vl)(j:Nat):ζ (J9 c next r E j)=ζ E:=by simp[J9]
def WS(c next:PE)(r:Int)(E:List Vl):J9 c next r E (ζ E)=Ij c next r E:=by
 refine et λi=>?_;simp only[J9,Ij,getElem?_mapIdx];cases h:E[i]? with
 |none=>rfl
 |some v=>have:=(aX.1 h).1;simp[this]
def SM(c next:PE)(r:Int)(E:List Vl){v:Vl}(h:E[j]?=z' v):J9 c next r E (j+1)=(J9 c next r E j).set j (J8 c next r j v):=by
 refine et λi=>?_;rw[e5,Dm];by_cases S:j=i
 .subst S;have:=(aX.1 h).1;rw[aD rfl,aD this];simp only[J9,getElem?_mapIdx,h,gK,aD<|CF j]
 have:(i<j+1)=(i<j):=by simp;omega
 simp[J9,S,this]
def F!(c next:PE)(r:Int)(E:List Vl)(h:((next.at j).any&&!(c.at j).any)=O'):J9 c next r E (j+1)=J9 c next r E j:=by
 refine et λi=>?_;by_cases S:i=j
 .subst S;have R:∀v,J8 c next r i v=v:=λv=>by rw[J8,h];rfl
  simp[J9,R]
 have:(i<j+1)=(i<j):=by simp;omega
 simp[J9,this]
def pE(l:List Vl):ζ (ei l)=ζ l*6:=by
 induction l with
 |nil=>rfl
 |cons a l B=>simp only[ei,bW,bg,bU]at B|-;rw[B];simp[zY];omega
def uq(a b:List Vl):ei (a++b)=ei a++ei b:=by simp[ei]
def VT(v:Vl):∀u∈zY v,u.oneCell'=N':=by intro u C;simp only[zY,cM,dR,dz]at C;rcases C with rfl|rfl|rfl|rfl|rfl|rfl<;>rfl
abbrev Ld(W:p')(g:Nat)(l:List Vl)(tl:List y'):Prop:=W.1[g]?=z' (i' (θ<|ei l++tl) 73 (0,0))
def Ld.set(v:Vl)(h:Ld W g l E)(a:k<ζ l):Ld (ψ W g (k*6)<|zY v) g (l.set k v) E:=by
 have V:l=l.take k++l[k]::l.drop (k+1):=ak
 have u:ei l++E=ei (l.take k)++(zY l[k]++(ei (l.drop<|k+1)++E)):=by
  conv=>lhs;rw[V]
  rw[uq,fK];exact cZ _<|fK _ _ _
 have b:ei (l.set k v)++E=ei (l.take k)++(zY v++(ei (l.drop<|k+1)++E)):=by rw[xG,aD a,uq,fK];exact cZ _<|fK _ _ _
 unfold Ld at h|-;rw[u]at h;rw[b];have X:ζ (ei<|l.take k)=k*6:=by rw[pE,jk,n? I]
 rw[<-X];exact wQ (L:=zY l[k]) (E:=zY v) h rfl
def Ld.there(h:Ld W g l E)(a:k<ζ l):W.there g (k*6) 6:=λj f=>by
 obtain⟨a,g⟩:=A h;have X:k*6+j<ζ (ei l++E):=by rw[bg,pE];omega
 refine⟨?_,g _⟩;rw[a,cL,bj X];rfl
def s5{S:Nat->Prop}{w:p'}{b:Nat}(c:S b\/δ w.1<=b):∀{a:p'},Kx S w a->∀(o:Nat)(E:List y'),Kx S w (ψ a b o E)
 |_,h,_,[]=>h
 |_,h,o,v::r=>s5 c (h.set c o v) (o+1) r
def ZG{p:Prop}(h:p:=by
 go_wp2_with fail;go_roundw
 case rel=>exact⟨j+1,L,e',by rw[p.o];exact d.a,d.A⟩
 exact F'):p:=h
def Dn(e:t')(x g:Nat)(f:List y')(E:List Vl)(c next:PE)(r:Int)(w:p')(l:ζ E<=8)(i:ga r)(h:E≠[]->e=z' (O g 0)/\Ld w g E f):
  Cl 141 #[g' e (ζ E) x,j'<|θ<|KC.aT c,j'<|θ<|KC.aT next,G r] w λe i=>(∃v,e=n' v)/\(E≠[]->Ld i g (Ij c next r E) f)/\Kx (λk=>k=g/\E≠[]) w i:=by
 have s:=hid h;obtain⟨n,d⟩:=Ea<|ζ E;rw[<-d]at l|-;have K:=hid d;clear d h;go_enter func141,ntmps141;go_upto_region 1 with fail
 refine gnB (F:=Code.wp _ _ _ _) λe U=>?_;have i:=hid U.C;go_wp2_with fail;go_loopw[11] (λy wr=>∃(j:Nat),j<=n/\y=G j/\J ((E≠[]->Ld wr g (J9 c next r E j) f)/\Kx (λk=>k=g/\E≠[]) e wr)) (λy _=>n-(intOf y).toNat)
 case atStart=>exact⟨0,bm,rfl,λR=>by rw[SL];exact aG U.a (s.o R).2,vf⟩
 obtain⟨j,f,rfl,d⟩:=hrel;by_cases L:j<n;rotate_left
 .have b:¬(j:Int)<n:=I;obtain rfl:j=n:=I;go_wp2_with fail
  go_end0
  refine⟨⟨_,rfl⟩,λR=>?_,(Kx.of U.a).trans d.A⟩;have C:=d.a R;rw[K.o,WS]at C;exact C
 have b:(j:Int)<n:=I;have b:(j:Int)<8:=I;obtain⟨v,R⟩:=La (l:=E) (i:=j) (by rw[<-K.o];exact L);have z:E≠[]:=by rintro rfl;simp at R
 obtain⟨rfl,a⟩:=s.o z;have i:=blt a;have b:=d.A.box U.b (by rintro⟨h,_⟩;omega);have f:=d.A.box U.c (by rintro⟨h,_⟩;omega);obtain⟨t,Y⟩:=KC.WD b (i:=j) I;obtain⟨o,V⟩:=KC.WD f (i:=j) I;have h:=hid R;have T:=hid<|d.a z;have e:=(d.a z).there (k:=j) (by rw[Dm,<-K.o];exact L);clear b f R a;cases F:(next.at j).any with
 |false=>rw[F]at o;have p:=hid<|F! c next r E (j:=j) (by simp[F]);exact ZG
 |true=>
  rw[F]at o;cases B:(c.at j).any with
  |true=>rw[B]at t;have p:=hid<|F! c next r E (j:=j) (by simp[F,B]);exact ZG
  |false=>
   rw[B]at t;have p:=hid<|SM c next r E h.o;have b:J8 c next r j v=⟨2,0,0,N',(c.at j).lo,r⟩:=by simp[J8,F,B]
   go_upto_region 5 with fail
   go_upto_region 6 with(refine wpList_store_mid rfl 73 (.tmp 36) (.tmp 35) rfl g (j*6) (θ<|zY ⟨2,0,0,N',(c.at j).lo,r⟩) rfl rfl e M (all_oneCell_toArray<|VT _) ?_)
   have a:=hid<|Aa (T.o.set ⟨2,0,0,N',(c.at j).lo,r⟩ (k:=j)<|by rw[Dm,<-K.o];exact L)<|s5 (.inl ⟨rfl,z⟩) d.A (j*6)<|zY ⟨2,0,0,N',(c.at j).lo,r⟩;generalize ψ wr g (j*6) (zY ⟨2,0,0,N',(c.at j).lo,r⟩)=U at a|-;clear t Y o V e T;simp only[Act.put];go_wp2_with fail;go_roundw
   case rel=>exact⟨j+1,L,e',λ_=>by rw[p.o,b];exact a.a,a.A⟩
   exact F'
end
def Sf(E:List Vl):vG E=kd (E.map plV):=by rw[vG,kd,flatMap_map];rfl
section
variable {l:List Nat}{m:Nat}
def zW(w:p')(a:t')(l:List Bool):Prop:=∀(j:Nat)(x:Bool),l[j]?=z' x->∃b o,a=z' (O b o)/\χ w (O b<|o+j)=z' (h' x)
def zW.below{w b:p'}{a:t'}{l:List Bool}(h:zW w a l)(d:Bl w b):zW b a l:=by intro j x f;obtain⟨b,o,e,c⟩:=h j x f;exact⟨b,o,e,aB c d⟩
def hit(ad ps:Nat->Bool)(Rt:List Bool)(m:Nat):Bool:=ad m||(ps m&&Rt.getD m O')
def Ax(F:Nat->Bool)(h:l[k]?=z' m):(l.take<|k+1).any F=((l.take k).any F||F m):=by have X:=(aX.1 h).1;rw[ep X,(aX.1 h).2];simp
def NI(F:Nat->Bool)(h:l[k]?=z' m)(Y:F m=N'):l.any F=N':=xK.2 ⟨m,aO h,Y⟩
theorem ZV{p:Prop}(h:p:=by
 go_roundw
 case rel=>exact⟨k+1,by omega,by go_num,by rw[Ax _ r.o,h.o.1,X.o];rfl,aq h.o.2 u.o⟩
 simp[intOf];omega):p:=h
def pI(N:Nat)(p:Int)(f n:Nat)(d:t')(i:Nat)(g:List Bool)(L5:Bool)(ad S:Nat->Bool)(l:List Nat)(D:List RC)(v:List<|List Nat)(Q:Nat)(w:p')(h:DP w N D v Q)(x:zW w d g)(L:ζ g=ζ D)(T:ζ D<=60)(u:ζ l<=1000)(V:∀m∈l,m<ζ D)
  (R:∀W,DP W N D v Q->Cl 117 #[m'<|z'<|O N 0,G p,G f,G n,G (-1)] W (Rb W<|h' L5))
  (b:∀W,DP W N D v Q->Cl 118 #[m'<|z'<|O N 0,G p,G n] W λe u=>∃a c,e=n' (bk a (ζ l) c)/\bK u a (l.map Int.ofNat)/\Bl W u)
  (a:∀W m,DP W N D v Q->m∈l->Cl 117 #[m'<|z'<|O N 0,G p,G f,G n,G m] W (Rb W<|h'<|ad m))
  (B:∀W m,DP W N D v Q->m∈l->Cl 119 #[m'<|z'<|O N 0,G p,G f,G n,G m] W (Rb W<|h'<|S m)):
  Cl 75 #[m'<|z'<|O N 0,G p,G f,G n,g' d (ζ D) i] w (Rb w<|h'<|L5||l.any (hit ad S g)):=by
 have s:=hid<|Aa h<|Aa x<|Aa L<|Aa V<|Aa R<|Aa b<|Aa a B;clear h x L V R b a B;cases L5;rotate_left
 .rw[Bool.true_or];go_enter func75,ntmps75;go_wp2_with (go_at_call 117;refine(s.e _ s.a).mono ?_;rintro e t ⟨rfl,a⟩);go_ret;exact⟨rfl,a⟩
 rw[ko];go_enter func75,ntmps75;go_wp2_with (first|(go_at_call 117;refine(s.e _ s.a).mono ?_;rintro e t ⟨rfl,a⟩;have r:=hid a;clear a)|(go_at_call 118;refine(s.f _<|s.a.below r.o).mono ?_;rintro e F ⟨i,R,rfl,i,X⟩;have j:=hid<|Aa i<|aq r.o X;clear i X));go_loopw[13] (λy wr=>∃k:Nat,k<=ζ l/\y=G k/\J ((l.take k).any (hit ad S g)=O'/\Bl F wr)) (λy _=>ζ l-(intOf y).toNat)
 case atStart=>exact⟨0,bm,rfl,rfl,aQ⟩
 obtain⟨k,a,rfl,h⟩:=hrel;have gW:J (Bl w wr):=aq j.A h.A;by_cases L:k<ζ l;rotate_left
 .have q:k=ζ l:=I;have a:¬((k:Int)<(ζ l:Int)):=I;have t:J (l.any (hit ad S g)=O'):=by have:=h.a;rwa[q,jj]at this
  go_wp2_with fail;go_ret;exact⟨by rw[t.o];rfl,gW.o⟩
 have a:(k:Int)<(ζ l:Int):=I;obtain⟨m,d⟩:=La L;obtain⟨b,o,rfl,c⟩:=bK.below j.a h.A k (m:Int) (by simp[d]);have a:=s.d m<|aO d;have a:(m:Int)<(ζ D:Int):=I;have r:=hid d;clear d;obtain⟨d,P⟩:=Ea<|ad m;obtain⟨i,a⟩:=Ea<|S m;have T:J (∀W,DP W N D v Q->Cl 117 #[m'<|z'<|O N 0,G p,G f,G n,G m] W (Rb W<|h' d)):=by rw[P];exact λW j=>s.g W m j<|aO r.o
 have o:J (∀W,DP W N D v Q->Cl 119 #[m'<|z'<|O N 0,G p,G f,G n,G m] W (Rb W<|h' i)):=by rw[a];exact λW j=>s.G W m j<|aO r.o
 obtain⟨f,b⟩:=La (l:=g) (i:=m)<|I' s.c;have X:J (hit ad S g m=(d||(i&&f))):=by show _=_;rw[hit,getD,b,<-P,<-a];rfl
 obtain⟨j,j,rfl,j⟩:=(s.b.below gW.o) m f b;have Y:=hid<|Aa c j;clear b P a j;cases d;rotate_left
 .have t:J (l.any (hit ad S g)=N'):=NI _ r.o (by rw[X.o];rfl);go_wp2_with (first|(go_at_call 117;refine(T.o _<|s.a.below gW.o).mono ?_;rintro e C ⟨rfl,z⟩;clear c;have c:=aB Y.a z;have K:=hid z;clear z)|(go_at_call 119;refine(o.o _<|s.a.below<|aq gW.o K.o).mono ?_;rintro e U ⟨rfl,E⟩;have u:=hid<|aq K.o E;clear E c));go_ret;exact⟨by rw[t.o];rfl,aq gW.o u.o⟩
 cases i
 .go_wp2_with (first|(go_at_call 117;refine(T.o _<|s.a.below gW.o).mono ?_;rintro e C ⟨rfl,z⟩;clear c;have c:=aB Y.a z;have K:=hid z;clear z)|(go_at_call 119;refine(o.o _<|s.a.below<|aq gW.o K.o).mono ?_;rintro e U ⟨rfl,E⟩;have u:=hid<|aq K.o E;clear E c));exact ZV
 cases f
 .go_wp2_with (first|(go_at_call 117;refine(T.o _<|s.a.below gW.o).mono ?_;rintro e C ⟨rfl,z⟩;clear c;have c:=aB Y.a z;have K:=hid z;clear z)|(go_at_call 119;refine(o.o _<|s.a.below<|aq gW.o K.o).mono ?_;rintro e U ⟨rfl,E⟩;clear c;have c:=aB Y.a<|aq K.o E;have j:=aB Y.A<|aq K.o E;have u:=hid<|aq K.o E;clear E));exact ZV
 have t:J (l.any (hit ad S g)=N'):=NI _ r.o (by rw[X.o];rfl);go_wp2_with (first|(go_at_call 117;refine(T.o _<|s.a.below gW.o).mono ?_;rintro e C ⟨rfl,z⟩;clear c;have c:=aB Y.a z;have K:=hid z;clear z)|(go_at_call 119;refine(o.o _<|s.a.below<|aq gW.o K.o).mono ?_;rintro e U ⟨rfl,E⟩;clear c;have c:=aB Y.a<|aq K.o E;have j:=aB Y.A<|aq K.o E;have u:=hid<|aq K.o E;clear E));go_ret;exact⟨by rw[t.o];rfl,aq gW.o u.o⟩
end
def adu{Q p c P Y a b F:Int}(C:aN Y=N'->Q=Y)(e:aN a=N'->p=a)(N:aN b=N'->c=b)(d:aN F=N'->P=F):vd Q p c P (aN Y&&aN a&&aN b&&aN F)=vd Y a b F (aN Y&&aN a&&aN b&&aN F):=by
 by_cases h:(aN Y&&aN a&&aN b&&aN F)=N'
 .have D:=h;simp only[aY]at D;rw[C D.1.1.1,e D.1.1.2,N D.1.2,d D.2]
 rw[rZ.2 h];rfl
def adO {p : Prop} (h:p:=by
  have j:=hid ((KB.start w wv m va (ζ vs) vc).box VV.all);have HV:=hid<|Aa hv qn;clear hv qn;obtain⟨l,b,b,⟨f,b,o⟩,⟨D,X,z⟩,ops,e,g⟩:=m;simp only at hd ho ht hs BW ED qF qE|-;subst hd;subst ho;subst ht;subst hs;simp only[aI,b?,VV.all]at j|-
  first|(have _:=MU;obtain⟨ev,L⟩:∃ev,ev=dvE vs t (fR vs f b) (fR vs D X):=⟨_,rfl⟩)|(obtain⟨ev,L⟩:∃ev,ev=z' (vs.set t<|uK (fR vs f b)<|fR vs D X):=⟨_,rfl⟩)
  rw[<-L];have HE:=hid L;clear L;go_enter func182,ntmps182;go_upto_region 4 with(fail)
  first|(have _:=MU;(have e:δ (((w.alloc<|i' #[wv,k' l,k' ⟨#[61]⟩,G t,G f,G b,k' o,G D,G X,k' z,G 2,k' ⟨#[47]⟩,k' g] 111).alloc<|i' (fL va (ζ vs) vc) 133).alloc<|i' uo 133).1=δ w.1+1+1+1:=ak))|((have e:δ (((w.alloc<|i' #[wv,k' l,k' ⟨#[61]⟩,G t,G f,G b,k' o,G D,G X,k' z,G 2,k' ⟨#[42]⟩,k' g] 111).alloc<|i' (fL va (ζ vs) vc) 133).alloc<|i' uo 133).1=δ w.1+1+1+1:=ak))
  rw[e]at j;clear e;generalize(((w.alloc _).alloc _).alloc _).alloc _=e at j|-;obtain⟨s,x⟩:=A j.o.kb.b0;obtain⟨V,u⟩:=A j.o.kb.b1;obtain⟨l1,l2⟩:=A j.o.bx;obtain⟨r1,r2⟩:=A j.o.kb.b2;simp only[aI]at s;go_upto_region 5 with(go_at_call 248;refine(sD va vc (ζ vs) vs f b o _ (HV.a.below j.o.kb.low) rfl hl BW).mono ?_;clear s x V u l1 l2 r1 r2;rintro e f ⟨za,rfl,r,l⟩;have b:=hid<|j.o.below l;clear l)
  have T:=hid<|Aa (b.o.kb.box za)<|b.o.below<|cf _<|i' (cD za.any za.lo za.hi) 138;clear j b;generalize δ f.1=C at T|-;generalize f.alloc _=F at T|-;obtain⟨s,x⟩:=A T.a.kb.b0;obtain⟨V,u⟩:=A T.a.kb.b1;obtain⟨r1,r2⟩:=A T.a.kb.b2;obtain⟨N,a2⟩:=A T.a.bx;simp only[aI]at s;go_upto_region 8 with(go_at_call 248;refine(sD va vc (ζ vs) vs D X z _ (HV.a.below T.a.kb.low) rfl hl ED).mono ?_;clear s x V u r1 r2 N a2;rintro e o ⟨E,rfl,f,Y⟩;have b:=hid<|Aa (T.a.below Y)<|T.A.below Y;clear Y)
  have U:=hid<|Aa (b.a.kb.box E)<|Aa (b.a.below<|cf _<|i' (cD E.any E.lo E.hi) 138)<|b.A.below<|cf _<|i' (cD E.any E.lo E.hi) 138;clear T b;generalize δ o.1=b at U|-;generalize o.alloc _=g at U|-;obtain⟨s,x⟩:=A U.a.kb.b0;obtain⟨V,u⟩:=A U.a.kb.b1;obtain⟨r1,r2⟩:=A U.a.kb.b2;obtain⟨N,a2⟩:=A U.b.bx;obtain⟨b1,o⟩:=A U.a.bx;obtain⟨l1,l2⟩:=A U.B.bx;simp only[aI]at s;have D:nY za:=by rw[r.o];exact qF
  have j:nY E:=by rw[f.o];exact qE
  first
    |(
       have _:=MU;have B:J (ev=dvE vs t za E):=by
         show _=_
         rw[HE.o,r.o,f.o])
    |(have B:J (ev=z' (vs.set t<|uK za E)):=by
         show _=_
         rw[HE.o,r.o,f.o])
  clear HE qF qE;have fa:=D.fit;have fb:=j.fit
  first
    |(
       have _:=MU;cases Y:(E.lo==E.hi)
       · have HE:J (ev=z' (vs.set t VV.all)):=by
           show _=_;rw[B.o];unfold dvE hC;rw[aD<|by simpa using Y]
         clear B;go_wp2_with (go_at_call 247;refine(eT (ζ vs) va vc vs t false (-9223372036854775808) 9223372036854775807 _ (HV.a.below U.a.kb.low) HV.A rfl hl uQ).mono ?_;clear s x V u l1 l2 r1 r2 N a2 b1 o;rintro e W5 ⟨j,oc,rfl,l,r,IN⟩;have f:=hid<|Aa (U.a.kb.below IN)<|Aa l r;obtain⟨r1,r2⟩:=A f.a.b2;clear l r IN);obtain⟨q4,q5⟩:=f.a.q (h' false)<|bk j (ζ vs) oc;refine aE (v:=b? false j (ζ vs) oc) (by simp[results,results182,go_sem,q4,q5]) rfl (f.a.done f.b f.B (by rw[dh]) HE.o)
       · cases h2:(E.lo==0)
         · cases T:(E.lo==-1)
           · have r:E.lo≠0:=by simpa using h2
             have l:E.lo≠-1:=by simpa using T
             have f:IntKind.i64.wrap (za.lo.tdiv E.lo)=za.lo.tdiv E.lo:=k4 fa.1 r l;have f:IntKind.i64.wrap (za.hi.tdiv E.lo)=za.hi.tdiv E.lo:=k4 fa.2 r l;by_cases W:0<E.lo
             · obtain⟨z,f⟩:=Ea (⟨false,za.lo.tdiv E.lo,za.hi.tdiv E.lo⟩:VV)
               have HE:J (ev=z' (vs.set t z)):=by show _=_;rw[B.o,f];unfold dvE hC;rw[aA<|by simpa using Y,aA r,aA l,aD W]
               clear B;go_upto_region 31 with(fail)
               clear s x V u r1 r2 N a2 b1 o l1 l2;refine wp_region_held_drew (S:=λW'=>W'.1[δ w.1]?=z' _/\W'.1[δ w.1+1]?=z' _/\W'.1[C]?=z' _/\W'.1[b]?=z' _) M ⟨U.a.kb.b0,U.a.kb.b1,U.b.bx,U.a.bx⟩ λaC=>?_;refine tr 0 (j'<|fL va (ζ vs) vc) (λW' aW=>(A aW.2.1).1) ?_;refine tq 1 (qx w.1.size) ?_;refine tq 2 (G t) ?_ (y:=λW' aW=>by obtain⟨k1,k2⟩:=A aW.1;simp only[aI]at k1;clear aC;go_simp);refine tq 3 (xR C) ?_;refine tr 4 (G za.lo) (λW' aW=>(A aW.2.2.1).1) ?_;refine tq 5 (G E.lo) ?_;refine tq 6 (G<|za.lo.tdiv E.lo) ?_;refine tq 7 (m'<|z'<|O C 2) ?_;refine tr 8 (G za.hi) (λW' aW=>(A aW.2.2.1).1) ?_;refine tq 9 (G E.lo) ?_;refine tq 10 (G<|za.hi.tdiv E.lo) ?_;refine tq 11 (j' #[h' false,G<|za.lo.tdiv E.lo,G<|za.hi.tdiv E.lo]) ?_;refine r1 12 λK X=>?_;go_simp;refine(eT (ζ vs) va vc vs t false (za.lo.tdiv E.lo) (za.hi.tdiv E.lo) _ (HV.a.below<|aq U.a.kb.low ay) HV.A rfl hl uQ).mono ?_;rintro e W6 ⟨j,oc,rfl,Tz,PA,PD⟩;have F:J (Bl g W6/\dq W6 j (vs.set t z)/\(j=A'->oc=0)):=by rw[f];exact⟨aq ay PD,Tz,PA⟩
               clear Tz PA PD;refine X.out _ _ ⟨aG F.a U.a.kb.b0,aG F.a U.a.kb.b1,aG F.a U.b.bx,aG F.a U.a.bx⟩ λaC=>?_;clear X K;refine pt ?_;refine r1 13 λK X=>?_;obtain⟨r3,L⟩:=A (U.a.kb.below F.a).b2;go_simp;refine X.out _ _ ⟨((aJ<|by dsimp only;omega).trans (aJ<|by dsimp only;omega)).trans<|aG F.a U.a.kb.b0,((aJ<|by dsimp only;omega).trans (aJ<|by dsimp only;omega)).trans<|aG F.a U.a.kb.b1,((aJ (by have:=U.b.low;dsimp only;omega)).trans<|aJ (by have:=U.b.low;dsimp only;omega)).trans<|aG F.a U.b.bx,((aJ (by have:=U.a.low;dsimp only;omega)).trans<|aJ (by have:=U.a.low;dsimp only;omega)).trans<|aG F.a U.a.bx⟩ λaC=>?_;clear r3 L;clear X K;refine pt ?_;refine wpAnyH_done M ?_ _;go_wp2_with fail;obtain⟨q4,q5⟩:=(U.a.kb.below F.a).q (h' false)<|bk j (ζ vs) oc;refine aE (v:=b? false j (ζ vs) oc) (by simp[results,results182,go_sem,q4,q5]) rfl ((U.a.kb.below F.a).done F.b F.B (by rw[dh]) HE.o)
             · obtain⟨z,f⟩:=Ea (⟨false,za.hi.tdiv E.lo,za.lo.tdiv E.lo⟩:VV)
               have HE:J (ev=z' (vs.set t z)):=by show _=_;rw[B.o,f];unfold dvE hC;rw[aA<|by simpa using Y,aA r,aA l,aA W]
               clear B;go_upto_region 32 with(fail)
               clear s x V u r1 r2 N a2 b1 o l1 l2;refine wp_region_held_drew (S:=λW'=>W'.1[δ w.1]?=z' _/\W'.1[δ w.1+1]?=z' _/\W'.1[C]?=z' _/\W'.1[b]?=z' _) M ⟨U.a.kb.b0,U.a.kb.b1,U.b.bx,U.a.bx⟩ λaC=>?_;refine tr 0 (j'<|fL va (ζ vs) vc) (λW' aW=>(A aW.2.1).1) ?_;refine tq 1 (qx w.1.size) ?_;refine tq 2 (G t) ?_ (y:=λW' aW=>by obtain⟨k1,k2⟩:=A aW.1;simp only[aI]at k1;clear aC;go_simp);refine tq 3 (m'<|z'<|O C 2) ?_;refine tr 4 (G za.hi) (λW' aW=>(A aW.2.2.1).1) ?_;refine tq 5 (G E.lo) ?_;refine tq 6 (G<|za.hi.tdiv E.lo) ?_;refine tq 7 (xR C) ?_;refine tr 8 (G za.lo) (λW' aW=>(A aW.2.2.1).1) ?_;refine tq 9 (G E.lo) ?_;refine tq 10 (G<|za.lo.tdiv E.lo) ?_;refine tq 11 (j' #[h' false,G<|za.hi.tdiv E.lo,G<|za.lo.tdiv E.lo]) ?_;refine r1 12 λK X=>?_;go_simp;refine(eT (ζ vs) va vc vs t false (za.hi.tdiv E.lo) (za.lo.tdiv E.lo) _ (HV.a.below<|aq U.a.kb.low ay) HV.A rfl hl uQ).mono ?_;rintro e W6 ⟨j,oc,rfl,Tz,PA,PD⟩;have F:J (Bl g W6/\dq W6 j (vs.set t z)/\(j=A'->oc=0)):=by rw[f];exact⟨aq ay PD,Tz,PA⟩
               clear Tz PA PD;refine X.out _ _ ⟨aG F.a U.a.kb.b0,aG F.a U.a.kb.b1,aG F.a U.b.bx,aG F.a U.a.bx⟩ λaC=>?_;clear X K;refine pt ?_;refine r1 13 λK X=>?_;obtain⟨r3,L⟩:=A (U.a.kb.below F.a).b2;go_simp;refine X.out _ _ ⟨((aJ<|by dsimp only;omega).trans (aJ<|by dsimp only;omega)).trans<|aG F.a U.a.kb.b0,((aJ<|by dsimp only;omega).trans (aJ<|by dsimp only;omega)).trans<|aG F.a U.a.kb.b1,((aJ (by have:=U.b.low;dsimp only;omega)).trans<|aJ (by have:=U.b.low;dsimp only;omega)).trans<|aG F.a U.b.bx,((aJ (by have:=U.a.low;dsimp only;omega)).trans<|aJ (by have:=U.a.low;dsimp only;omega)).trans<|aG F.a U.a.bx⟩ λaC=>?_;clear r3 L;clear X K;refine pt ?_;refine wpAnyH_done M ?_ _;go_wp2_with fail;obtain⟨q4,q5⟩:=(U.a.kb.below F.a).q (h' false)<|bk j (ζ vs) oc;refine aE (v:=b? false j (ζ vs) oc) (by simp[results,results182,go_sem,q4,q5]) rfl ((U.a.kb.below F.a).done F.b F.B (by rw[dh]) HE.o)
           · obtain⟨z,f⟩:=Ea (ke ⟨false,0,0⟩ za)
             have l:E.lo=-1:=by simpa using T
             have HE:J (ev=z' (vs.set t z)):=by show _=_;rw[B.o,f];unfold dvE hC;rw[aA<|by simpa using Y,aA<|by simpa using h2,aD l]
             have T:J (∀W,Cl 252 #[j' oo,j'<|cD za.any za.lo za.hi] W<|Rb W<|j' #[h' z.any,G z.lo,G z.hi]):=by rw[f];exact λW=>Fp ⟨false,0,0⟩ za W ⟨aj,aj⟩ D
             clear B f fa fb l;go_upto_region 29 with(fail)
             clear s x V u r1 r2 N a2 b1 o l1 l2;refine wp_region_held_drew (S:=λW'=>W'.1[δ w.1]?=z' _/\W'.1[δ w.1+1]?=z' _/\W'.1[C]?=z' _/\W'.1[b]?=z' _) M ⟨U.a.kb.b0,U.a.kb.b1,U.b.bx,U.a.bx⟩ λaC=>?_;refine tr 0 (j'<|fL va (ζ vs) vc) (λW' aW=>(A aW.2.1).1) ?_;refine tq 1 (qx w.1.size) ?_;refine tq 2 (G t) ?_ (y:=λW' aW=>by obtain⟨k1,k2⟩:=A aW.1;simp only[aI]at k1;clear aC;go_simp);refine tq 3 (j' oo) ?_;refine tr 4 (j'<|cD za.any za.lo za.hi) (λW' aW=>(A aW.2.2.1).1) ?_;refine r1 5 λK X=>?_;go_simp;refine(T.o _).mono ?_;rintro e W5 ⟨rfl,IN⟩;have C:J (Bl g W5):=aq ay IN;clear IN;refine X.out _ _ ⟨aG C.o U.a.kb.b0,aG C.o U.a.kb.b1,aG C.o U.b.bx,aG C.o U.a.bx⟩ λaC=>?_;clear X K;refine pt ?_;refine r1 6 λK X=>?_;go_simp;refine(eT (ζ vs) va vc vs t z.any z.lo z.hi _ (HV.a.below<|aq U.a.kb.low<|aq C.o ay) HV.A rfl hl uQ).mono ?_;rintro e W6 ⟨j,oc,rfl,Tz,PA,PD⟩;have F:J (Bl g W6/\dq W6 j (vs.set t z)/\(j=A'->oc=0)):=⟨aq (aq C.o ay) PD,Tz,PA⟩;clear Tz PA PD;refine X.out _ _ ⟨aG F.a U.a.kb.b0,aG F.a U.a.kb.b1,aG F.a U.b.bx,aG F.a U.a.bx⟩ λaC=>?_;clear X K;refine pt ?_;refine r1 7 λK X=>?_;obtain⟨r3,L⟩:=A (U.a.kb.below F.a).b2;go_simp;refine X.out _ _ ⟨((aJ<|by dsimp only;omega).trans (aJ<|by dsimp only;omega)).trans<|aG F.a U.a.kb.b0,((aJ<|by dsimp only;omega).trans (aJ<|by dsimp only;omega)).trans<|aG F.a U.a.kb.b1,((aJ (by have:=U.b.low;dsimp only;omega)).trans<|aJ (by have:=U.b.low;dsimp only;omega)).trans<|aG F.a U.b.bx,((aJ (by have:=U.a.low;dsimp only;omega)).trans<|aJ (by have:=U.a.low;dsimp only;omega)).trans<|aG F.a U.a.bx⟩ λaC=>?_;clear r3 L;clear X K;refine pt ?_;refine wpAnyH_done M ?_ _;go_wp2_with fail;obtain⟨q4,q5⟩:=(U.a.kb.below F.a).q (h' false)<|bk j (ζ vs) oc;refine aE (v:=b? false j (ζ vs) oc) (by simp[results,results182,go_sem,q4,q5]) rfl ((U.a.kb.below F.a).done F.b F.B (by rw[dh]) HE.o)
         · have r:E.lo=0:=by simpa using h2
           go_wp2_with fail;obtain⟨q4,q5⟩:=U.a.kb.q (h' true)<|g' A' 0 0
           refine aE (v:=b? true A' 0 0) (by simp[results,results182,go_sem,q4,q5]) rfl (U.a.kb.no (by rw[B.o];unfold dvE hC;rw[aA<|by simpa using Y,aD r])))
    |(
       go_upto_region 19 with(go_at_call 253;refine(nj za.lo E.lo _ fa.1 fb.1).mono ?_;clear s x V u r1 r2 N a2 b1 o l1 l2;rintro e W5 ⟨⟨c1,rfl,E1⟩,l⟩;have r:=hid<|Aa (U.a.below l)<|Aa (U.b.below l)<|U.B.below l;clear l)
       clear U;obtain⟨s,x⟩:=A r.a.kb.b0;obtain⟨V,u⟩:=A r.a.kb.b1;obtain⟨r1,r2⟩:=A r.a.kb.b2;obtain⟨N,a2⟩:=A r.b.bx;obtain⟨b1,o⟩:=A r.a.bx;obtain⟨l1,l2⟩:=A r.B.bx;simp only[aI]at s;go_upto_region 20 with(go_at_call 253;refine(nj za.lo E.hi _ fa.1 fb.2).mono ?_;clear s x V u r1 r2 N a2 b1 o l1 l2;rintro e W6 ⟨⟨U,rfl,g⟩,l⟩;have b:=hid<|Aa (r.a.below l)<|Aa (r.b.below l)<|r.B.below l;clear l)
       clear r;obtain⟨s,x⟩:=A b.a.kb.b0;obtain⟨V,u⟩:=A b.a.kb.b1;obtain⟨r1,r2⟩:=A b.a.kb.b2;obtain⟨N,a2⟩:=A b.b.bx;obtain⟨b1,o⟩:=A b.a.bx;obtain⟨l1,l2⟩:=A b.B.bx;simp only[aI]at s;go_upto_region 21 with(go_at_call 253;refine(nj za.hi E.lo _ fa.2 fb.1).mono ?_;clear s x V u r1 r2 N a2 b1 o l1 l2;rintro e Y ⟨⟨r,rfl,E3⟩,l⟩;have D:=hid<|Aa (b.a.below l)<|Aa (b.b.below l)<|b.B.below l;clear l)
       clear b;obtain⟨s,x⟩:=A D.a.kb.b0;obtain⟨V,u⟩:=A D.a.kb.b1;obtain⟨r1,r2⟩:=A D.a.kb.b2;obtain⟨N,a2⟩:=A D.b.bx;obtain⟨b1,o⟩:=A D.a.bx;obtain⟨l1,l2⟩:=A D.B.bx;simp only[aI]at s;go_upto_region 22 with(go_at_call 253;refine(nj za.hi E.hi _ fa.2 fb.2).mono ?_;clear s x V u r1 r2 N a2 b1 o l1 l2;rintro e Y ⟨⟨c4,rfl,E4⟩,l⟩;have b:=hid<|Aa (D.a.below l)<|Aa (D.b.below l)<|D.B.below l;clear l)
       clear D;obtain⟨s,x⟩:=A b.a.kb.b0;obtain⟨V,u⟩:=A b.a.kb.b1;obtain⟨r1,r2⟩:=A b.a.kb.b2;obtain⟨N,a2⟩:=A b.b.bx;obtain⟨b1,o⟩:=A b.a.bx;obtain⟨l1,l2⟩:=A b.B.bx;simp only[aI]at s;obtain⟨z,f⟩:=Ea<|uK za E;have l:vd c1 U r c4 (aN (za.lo*E.lo)&&aN (za.lo*E.hi)&&aN (za.hi*E.lo)&&aN (za.hi*E.hi))=z:=by rw[f];exact adu E1 g E3 E4
       have HE:J (ev=z' (vs.set t z)):=by rw[f];exact B.o
       clear B f fa fb E1 g E3 E4;have T:J (∀W,Cl 251 #[G c1,G U,G r,G c4,h'<|aN (za.lo*E.lo)&&aN (za.lo*E.hi)&&aN (za.hi*E.lo)&&aN (za.hi*E.hi)] W<|Rb W<|j' #[h' z.any,G z.lo,G z.hi]):=by rw[<-l];exact λW=>oK c1 U r c4 _ W
       clear l;generalize aN (za.lo*E.lo)=f at T|-;generalize aN (za.lo*E.hi)=B at T|-;generalize aN (za.hi*E.lo)=g at T|-;generalize aN (za.hi*E.hi)=l at T|-;clear s x V u r1 r2 N a2 b1 o l1 l2;refine wp_region_held_drew (S:=λW'=>W'.1[δ w.1]?=z' _/\W'.1[δ w.1+1]?=z' _) M ⟨b.a.kb.b0,b.a.kb.b1⟩ λaC=>?_;refine tr 0 (j'<|fL va (ζ vs) vc) (λW' aW=>(A aW.2).1) ?_;refine tq 1 (qx w.1.size) ?_;refine tq 2 (G t) ?_ (y:=λW' aW=>by obtain⟨k1,k2⟩:=A aW.1;simp only[aI]at k1;clear aC;go_simp);refine tq 3 (G c1) ?_;refine tq 4 (G U) ?_;refine tq 5 (G r) ?_;refine tq 6 (G c4) ?_;refine tq 7 (h' f) ?_;refine tq 8 (h' f) ?_;refine tz 9 (if f then h' B else undef) ?_ (y:=by clear aC T;cases f<;>cases B<;>cases g<;>first|exact aR ⟨M,rfl⟩|exact aP ⟨M,λW' aW=>by go_simp⟩);refine tq 10 (h'<|f&&B) ?_ (y:=λW' aW=>by clear aC T;cases f<;>cases B<;>cases g<;>go_simp);refine tq 11 (h'<|f&&B) ?_ (y:=λW' aW=>by clear aC T;cases f<;>cases B<;>cases g<;>go_simp);refine tz 12 (if f&&B then h' g else undef) ?_ (y:=by clear aC T;cases f<;>cases B<;>cases g<;>first|exact aR ⟨M,rfl⟩|exact aP ⟨M,λW' aW=>by go_simp⟩);refine tq 13 (h'<|f&&B&&g) ?_ (y:=λW' aW=>by clear aC T;cases f<;>cases B<;>cases g<;>go_simp);refine tq 14 (h'<|f&&B&&g) ?_ (y:=λW' aW=>by clear aC T;cases f<;>cases B<;>cases g<;>go_simp);refine tz 15 (if f&&B&&g then h' l else undef) ?_ (y:=by clear aC T;cases f<;>cases B<;>cases g<;>first|exact aR ⟨M,rfl⟩|exact aP ⟨M,λW' aW=>by go_simp⟩);refine tq 16 (h'<|f&&B&&g&&l) ?_ (y:=λW' aW=>by clear aC T;cases f<;>cases B<;>cases g<;>go_simp);refine r1 17 λK X=>?_;go_simp;refine(T.o _).mono ?_;rintro e f ⟨rfl,IN⟩;have C:J (Bl Y f):=aq ay IN;clear IN;refine X.out _ _ ⟨aG C.o b.a.kb.b0,aG C.o b.a.kb.b1⟩ λaC=>?_;clear X K;refine pt ?_;refine r1 18 λK X=>?_;go_simp;refine(eT (ζ vs) va vc vs t z.any z.lo z.hi _ (HV.a.below<|aq b.a.kb.low<|aq C.o ay) HV.A rfl hl uQ).mono ?_;rintro e W6 ⟨j,oc,rfl,Tz,PA,PD⟩;have F:J (Bl Y W6/\dq W6 j (vs.set t z)/\(j=A'->oc=0)):=⟨aq (aq C.o ay) PD,Tz,PA⟩;clear Tz PA PD;refine X.out _ _ ⟨aG F.a b.a.kb.b0,aG F.a b.a.kb.b1⟩ λaC=>?_;clear X K;refine pt ?_;refine r1 19 λK X=>?_;obtain⟨r3,L⟩:=A (b.a.kb.below F.a).b2;go_simp;refine X.out _ _ ⟨((aJ<|by dsimp only;omega).trans (aJ<|by dsimp only;omega)).trans<|aG F.a b.a.kb.b0,((aJ<|by dsimp only;omega).trans (aJ<|by dsimp only;omega)).trans<|aG F.a b.a.kb.b1⟩ λaC=>?_;clear r3 L;clear X K;refine pt ?_;refine wpAnyH_done M ?_ _;go_wp2_with fail
       all_goals
         obtain⟨q4,q5⟩:=(b.a.kb.below F.a).q (h' false)<|bk j (ζ vs) oc
         refine aE (v:=b? false j (ζ vs) oc) (by simp[results,results182,go_sem,q4,q5]) rfl ((b.a.kb.below F.a).done F.b F.B (by rw[dh]) HE.o))):p:=h
def Jy(wv:y')(m:RN)(k:Int)(t:Nat)(va:t')(vc:Nat)(vs:List VV)(w:p')(hv:dq w va vs)(qn:va=A'->vc=0)(hl:ζ vs<=8)(hd:m.does=⟨#[61]⟩)(ho:m.ops=2)(ht:m.target=t)(uQ:t<ζ vs)(hs:m.sign=⟨#[42]⟩)(BW:m.a.var<ζ vs)(ED:m.b.var<ζ vs)(qF:nY<|fR vs m.a.var m.a.c)(qE:nY<|fR vs m.b.var m.b.c):
  Cl 182 #[j'<|aI wv m,G k,b? O' va (ζ vs) vc] w (kJ w<|z'<|vs.set t<|uK (fR vs m.a.var m.a.c)<|fR vs m.b.var m.b.c):=by
 exact adO
def dvE(vs:List VV)(t:Nat)(a b:VV):EV:=match hC a b with|none=>A'|some z=>z'<|vs.set t z
def Jz(wv:y')(m:RN)(k:Int)(t:Nat)(va:t')(vc:Nat)(vs:List VV)(w:p')(hv:dq w va vs)(qn:va=A'->vc=0)(hl:ζ vs<=8)(hd:m.does=⟨#[61]⟩)(ho:m.ops=2)(ht:m.target=t)(uQ:t<ζ vs)(hs:m.sign=⟨#[47]⟩)(BW:m.a.var<ζ vs)(ED:m.b.var<ζ vs)(qF:nY<|fR vs m.a.var m.a.c)(qE:nY<|fR vs m.b.var m.b.c):
  Cl 182 #[j'<|aI wv m,G k,b? O' va (ζ vs) vc] w (kJ w<|dvE vs t (fR vs m.a.var m.a.c)<|fR vs m.b.var m.b.c):=by
 have MU:=True.intro;exact adO
section
variable {r:RO}{o:lz}
def oP(h:fO r o)(E:List VV):fR E r.var r.c=eW E o:=by
 unfold fO at h;unfold fR eW;cases R:o.aU
 .rw[R]at h;rw[aA (by simp at h;omega),aA aj];simp at h;rw[h.2]
 rw[R]at h;simp at h;rw[aD I,aD rfl,h.1]
def l?{n:Nat}(h:fO r o)(R:o.aU=N'->0<=o.var/\o.var<n):r.var<n:=by
 unfold fO at h;cases V:o.aU
 .rw[V]at h;simp at h;omega
 rw[V]at h;simp at h;have:=R V;omega
def Mx(h:fO r o):r.var=l9 o:=by
 unfold fO at h;unfold l9;cases V:o.aU
 .rw[V]at h;simp at h;exact h.1
 rw[V]at h;simp at h;exact h.1
def F7{s:x'}(h:Wm.wX s.1.1=N'):s=⟨#[43]⟩\/s=⟨#[45]⟩\/s=⟨#[42]⟩\/s=⟨#[47]⟩:=by
 have k:∀l:u',s.1.1=l->s=⟨θ l⟩:=by intro l X;cases s;congr 1;rw[<-X]
 unfold Wm.wX at h;simp only[eZ,dP]at h;rcases h with((h|h)|h)|h
 .exact aP<|k _ h
 .exact aR<|aP<|k _ h
 .exact aR<|aR<|aP<|k _ h
 exact aR<|aR<|aR<|k _ h
structure YG(m:RN)(n:SN)(nv:Nat):Prop where
  r:tN {m with bB:=emp} n
  var:n.aH<=2->0<=n.var/\n.var<nv
  a:0<dZ n->n.a.aU=N'->0<=n.a.var/\n.a.var<nv
  b:1<dZ n->n.b.aU=N'->0<=n.b.var/\n.b.var<nv
def afy(k:Nat):(((k:Int))==0)=decide (k=0):=by rw[cC];simp
def Fm(P:y')(m:RN)(n:SN)(k:Nat)(z:t')(x:Nat)(E:List VV)(w:p')(R:dq w z E)(W:z=A'->x=0)(X:ζ E<=8)(h:YG m n<|ζ E)(a:n.aH<=2\/n.aH=4):
  Cl 181 #[j'<|aI P m,G k,b? O' z (ζ E) x] w (kJ w<|Ao n k E):=by
 have c:=h.r;have b:=c.aH.1;by_cases f:n.aH=2
 .have a:=h.var I;have U:=c.target;rw[aD I]at U;have:=C? P m (k:Int) n.var.toNat z x E w R W X (by have:=c.does;rwa[f]at this) (by show m.target=_;rw[show m.target=n.var from U];omega) I;have e:Ao n k E=z' (E.set n.var.toNat VV.dT):=by rw[Ao,aD f]
  rw[e];exact this
 by_cases D:n.aH=0
 .have a:=h.var I;have U:=c.target;rw[aD I]at U;have b:=c.a<|aP D;have:=FK P m (k:Int) n.var.toNat z x E w R W X (by have:=c.does;rwa[D]at this) (by have:=c.ops;rwa[aD<|aP D]at this) (by show m.target=_;rw[show m.target=n.var from U];omega) I (l? b<|h.a<|by simp[dZ,D]);have e:Ao n k E=z' (E.set n.var.toNat<|eW E n.a):=by rw[Ao,aA f,aD D]
  rw[e,<-oP b];exact this
 by_cases d:n.aH=4
 .have b:=c.a I;have g:=c.b I;have y:=c.test d;have:=OI P m (k:Int) z x E w R W X (by have:=c.does;rwa[d]at this) (by have:=c.ops;rwa[aA I,aD I]at this) y.2 (l? b<|h.a<|by simp[dZ,d]) (l? g<|h.b<|by simp[dZ,d]);have e:Ao n k E=UT (oC (Wm.uu m.sign.1.1) (fR E m.a.var m.a.c).lo (fR E m.b.var m.b.c).lo) (k:Int) E (fR E m.a.var m.a.c) (fR E m.b.var m.b.c):=by rw[Ao,UT,aA f,aA D,aD d,show fR E m.a.var m.a.c=_ from oP b E,show fR E m.b.var m.b.c=_ from oP g E,y.1,afy]
  rw[e];exact this
 have C:n.aH=1:=I;have a:=h.var I;have U:=c.target;rw[aD I]at U;have b:=c.a I;have g:=c.b I;have y:=c.op C;have:=OH P m (k:Int) n.var.toNat z x E w R W X (by have:=c.does;rwa[C]at this) (by have:=c.ops;rwa[aA I,aD I]at this) (by show m.target=_;rw[show m.target=n.var from U];omega) I y.2 (l? b<|h.a<|by simp[dZ,C]) (l? g<|h.b<|by simp[dZ,C]);have a:(m.sign.toList==[47])=decide (n.op=3):=by rw[y.1,eM];show(m.sign.1.1==[47])=decide (Wm.tV m.sign.1.1=3);rcases F7 y.2 with e|e|e|e<;>rw[show m.sign=_ from e]<;>rfl
 have e:Ao n k E=P4 (m.sign.toList==[47]) (jQ (Wm.tV m.sign.1.1) (fR E m.a.var m.a.c).lo (fR E m.b.var m.b.c).lo) n.var.toNat E (fR E m.a.var m.a.c) (fR E m.b.var m.b.c):=by
  rw[Ao,P4,aA f,aA D,aA d,aD C,show fR E m.a.var m.a.c=_ from oP b E,show fR E m.b.var m.b.c=_ from oP g E,a,<-y.1];have:(n.op=3/\(eW E n.b).any=O'/\(eW E n.b).lo=0)↔(decide (n.op=3)&&!(eW E n.b).any&&((eW E n.b).lo==0))=N':=by simp[and_assoc]
  by_cases V:n.op=3/\(eW E n.b).any=O'/\(eW E n.b).lo=0
  .rw[aD V,aD<|this.1 V]
  rw[aA V,aA λq=>V<|this.2 q]
 rw[e];exact this
def Fl(P:y')(m:RN)(n:SN)(k:Nat)(z:t')(x:Nat)(E:List VV)(w:p')(R:dq w z E)(W:z=A'->x=0)(X:ζ E<=8)(h:YG m n<|ζ E)(a:n.aH<=2\/n.aH=4)(o:∀v∈E,okV 6 v)(T:Au n.a/\Au n.b):
  Cl 182 #[j'<|aI P m,G k,b? O' z (ζ E) x] w (kJ w<|An n k E):=by
 have g:=h.r;have b:=g.aH.1;by_cases r:n.aH=2
 .have a:=h.var I;have U:=g.target;rw[aD I]at U;have:=CT P m (k:Int) n.var.toNat z x E w R W X (by have:=g.does;rwa[r]at this) (by show m.target=_;rw[show m.target=n.var from U];omega) I;have e:An n k E=z' (E.set n.var.toNat VV.all):=by unfold An;rw[aD r]
  rw[e];exact this
 by_cases D:n.aH=0
 .have a:=h.var I;have U:=g.target;rw[aD I]at U;have l:=g.a<|aP D;have:=Fi P m (k:Int) n.var.toNat z x E w R W X (by have:=g.does;rwa[D]at this) (by have:=g.ops;rwa[aD<|aP D]at this) (by show m.target=_;rw[show m.target=n.var from U];omega) I (l? l<|h.a<|by simp[dZ,D]);have e:An n k E=z' (E.set n.var.toNat<|eW E n.a):=by unfold An;rw[aA r,aD D]
  rw[e,<-oP l];exact this
 have l:=g.a I;have s:=g.b I;have q:fR E m.a.var m.a.c=eW E n.a:=oP l E;have b:fR E m.b.var m.b.c=eW E n.b:=oP s E;have i:nY (fR E m.a.var m.a.c):=by rw[q];exact(ic o _ T.1).bd
 have f:nY (fR E m.b.var m.b.c):=by rw[b];exact(ic o _ T.2).bd
 by_cases d:n.aH=4
 .have y:=g.test d;have:=Ov P m (k:Int) z x E w R W X (by have:=g.does;rwa[d]at this) (by have:=g.ops;rwa[aA I,aD I]at this) y.2 (l? l<|h.a<|by simp[dZ,d]) (l? s<|h.b<|by simp[dZ,d]) i f;have e:An n k E=rIf (Wm.uu m.sign.1.1) ((k:Int)==0) m.a.var m.b.var E (fR E m.a.var m.a.c) (fR E m.b.var m.b.c):=by unfold An rIf chV;rw[aA r,aA D,aD d,q,b,y.1,afy,show m.a.var=_ from Mx l,show m.b.var=_ from Mx s];rfl
  rw[e];exact this
 have C:n.aH=1:=I;have a:=h.var I;have U:=g.target;rw[aD I]at U;have c:m.target=(n.var.toNat:Int):=by rw[show m.target=n.var from U];omega
 have y:=g.op C;have j:m.does=⟨#[61]⟩:=by have:=g.does;rwa[C]at this
 have p:m.ops=2:=by have:=g.ops;rwa[aA I,aD I]at this
 have a:=l? l (h.a<|by simp[dZ,C]);have g:=l? s (h.b<|by simp[dZ,C]);have e:An n k E=(match Qr n.op (eW E n.a) (eW E n.b)with|none=>A'|some v=>z'<|E.set n.var.toNat v):=by unfold An;rw[aA r,aA D,aA d,aD C];rfl
 rw[e];rcases F7 y.2 with t|t|t|t
 .have K:n.op=0:=by rw[y.1];show Wm.tV m.sign.1.1=0;rw[show m.sign=_ from t];rfl
  have:=JA P m (k:Int) n.var.toNat z x E w R W X j p c I t a g i f;rw[q,b]at this;rw[K];exact this
 .have K:n.op=1:=by rw[y.1];show Wm.tV m.sign.1.1=1;rw[show m.sign=_ from t];rfl
  have:=Jx P m (k:Int) n.var.toNat z x E w R W X j p c I t a g i f;rw[q,b]at this;rw[K];exact this
 .have K:n.op=2:=by rw[y.1];show Wm.tV m.sign.1.1=2;rw[show m.sign=_ from t];rfl
  have:=Jy P m (k:Int) n.var.toNat z x E w R W X j p c I t a g i f;rw[q,b]at this;rw[K];exact this
 have K:n.op=3:=by rw[y.1];show Wm.tV m.sign.1.1=3;rw[show m.sign=_ from t];rfl
 have:=Jz P m (k:Int) n.var.toNat z x E w R W X j p c I t a g i f;rw[q,b]at this;rw[K];exact this
end
section
variable {P:Pm}
structure DR(cl:List RC)(nx:List<|List Nat)(P:Pm):Prop where
  len:ζ cl=ζ P.nd
  nx:nx=P.nx
  each:∀(j:Nat)(c:RC),cl[j]?=z' c->tN {c.n with bB:=emp} (P.at j)
def Yu{i:Nat}(h:i<ζ P.nd):P.at i∈P.nd:=by rw[Pm.at,getD,bj h];exact eG h
def DR.ndr{D:List RC}{v:List (List Nat)}(h:DR D v P)(a:cN P){j:Nat}{c:RC}(f:D[j]?=z' c):YG c.n (P.at j) P.nv:=by have d:P.at j∈P.nd:=Yu (by rw[<-h.len];exact(aX.1 f).1);exact⟨h.each j c f,a.var _ d,a.a _ d,a.b _ d⟩
def cR.cell{w:p'}{b:Bool}{a:t'}{n c:Nat}{e:EV}(h:cR w b a n c e):b=e.isNone:=by
 cases e with
 |none=>exact h
 |some E=>exact h.1
def ZU(h:p:=by
 rcases hp with rfl|rfl
 .skip
  go_wp2_with (first|(refine wpList_load_mid rfl 111 (.tmp 11) rfl T 0 rfl C _ g underlying111 rfl (by rw[L];kernel_rfl) ?_)|(go_at_call 181;refine(D.o _ f.a).mono ?_;rintro e Y ⟨r,j,x,k,rfl,l,X⟩;have b:=hid<|Aa l X;clear l X e1 u r1 q c2 c3 g;obtain⟨r1,q⟩:=A<|aG b.A f.c));obtain⟨t,y⟩:=U.o Y (h' r) (g' j x k)<|aG b.A f.c;refine aE (v:=b? r j x k) (by simp[results114,go_sem,t,y]) rfl (kJ.mk (b.a.put<|aG b.A f.c) (((aq f.a b.A).setCell (by show _<=δ w.1+1;omega) _).setCell (by show _<=δ w.1+1;omega) _))
 have o:=hid<|F.o aj;go_wp2_with (first|(refine wpList_load_mid rfl 111 (.tmp 11) rfl T 0 rfl C _ g underlying111 rfl (by rw[L];kernel_rfl) ?_)|(go_at_call 182;refine(o.o _ f.a).mono ?_;rintro e Y ⟨r,j,x,k,rfl,l,X⟩;have b:=hid<|Aa l X;clear l X e1 u r1 q c2 c3 g;obtain⟨r1,q⟩:=A<|aG b.A f.c));obtain⟨t,y⟩:=U.o Y (h' r) (g' j x k)<|aG b.A f.c
 refine aE (v:=b? r j x k) (by simp[results114,go_sem,t,y]) rfl (kJ.mk (b.a.put<|aG b.A f.c) (((aq f.a b.A).setCell (by show _<=δ w.1+1;omega) _).setCell (by show _<=δ w.1+1;omega) _))):p:=h
def ZT(h:p:=by
 rw[l]
 exact kJ.mk ((B.a.below f.a).put f.c) ((f.a.setCell (by show _<=δ w.1+1;omega) _).setCell (by show _<=δ w.1+1;omega) _)):p:=h
def JD(N i k:Nat)(p:Int)(hp:p=5\/p=6)(D:List RC)(v:List<|List Nat)(b:Nat)(P:Pm)(W:Bool)(z:t')(F r:Nat)(e:EV)(w:p')(h:DP w N D v b)(t:DR D v P)(x:cN P)(T:nD P)(hi:i<ζ D)(R:cR w W z F r e)(o:dw p P.nv e):
  Cl 114 #[m'<|z'<|O N 0,G p,G i,G k,b? W z F r] w (kJ w<|vM p (P.at i) k e):=by
 obtain⟨c,C⟩:=La hi;have s:=t.ndr x C;have b:(i:Int)<(ζ D:Int):=I;obtain⟨g,b,b,q,u,b,q,u,_⟩:=h.box
 have l:w.rangeAt g (i*13) (fE c):=λj v R=>by
  have f:j<13:=by have:=(aX.1 R).1;rwa[jN]at this
  rw[u.cells i c C j f];simpa[fE]using R
 have b:(fE c).toArray.all (·.oneCell')=N':=by simp[fE,aI,Value.oneCell']
 have L:ζ (fE c)=13:=jN c;have D:(fE c)[3]?=z' (G c.n.target):=rfl;have y:(fE c)[2]?=z' (k' c.n.does):=rfl;have hrel:=s.r;have X:J (θ (fE c)=aI c.wv c.n):=rfl;have U:=hid<|Aa q l;have B:=hid<|Aa R<|Aa s<|Aa o<|Aa (T i) x.nv;clear h q l u R o s t;generalize fE c=C at U b L D y X;simp only[b?];go_enter func114,ntmps114;go_upto_region 1 with fail
 refine T0 (F:=Code.wp _ _ _ _) λq l=>?_;obtain⟨E,s⟩:=A<|aG l.b U.a;have o:q.rangeAt g (i*13) C:=λj v R=>aB (U.A j v R) l.b;go_upto_region 2 with(first|(refine wpList_load_mid rfl 111 (.tmp 17) rfl g (i*13) rfl C _ o underlying111 rfl (by rw[L];kernel_rfl) ?_)|(refine wpList_store_mid rfl 111 (.tmp 11) (.tmp 18) rfl q.1.size 0 (θ C) rfl rfl (cK cv<|by simp[L]) (by rw[kT,L];kernel_rfl) b ?_))
 refine PI (F:=Code.wp _ _ _ _) ?hl λV b=>?go
 case hl=>rw[L];rfl
 have f:J (Bl w V/\_/\_/\_):=⟨aq l.b b.A,aG b.A l.a.1,aG b.A l.a.2,b.a⟩;have b:=l.B;clear o E s;generalize δ q.1=T at f b|-;have g:=hid b;clear b;obtain⟨e1,u⟩:=A f.b;obtain⟨r1,q⟩:=A f.c;obtain⟨s,x⟩:=A f.C;have c2:χ V (O T 2)=z' (k' c.n.does):=by rw[s];simpa using y
 have c3:χ V (O T 3)=z' (G c.n.target):=by rw[s];simpa using D
 have b:=blt f.c;have j:∀(Y:p')(b g:y'),Y.1[δ w.1+1]?=z' kV->χ (κ Y (O (δ w.1+1) 0) b) (O (δ w.1+1) 0)=z' b/\χ (κ (κ Y (O (δ w.1+1) 0) b) (O (δ w.1+1) 1) g) (O (δ w.1+1) 1)=z' g:=λY b g b=>⟨by rw[(A<|H b _).1];rfl,by rw[(A<|H (H b _) _).1];rfl⟩;have U:=hid j;clear j s x;simp only[Act.put];have g:=bu f.C;cases W;rotate_left
 .have l:vM p (P.at i) k e=e:=by
   cases e with
   |none=>rfl
   |some E=>exact absurd B.a.1 aj
  go_wp2_with fail;obtain⟨t,y⟩:=U.o V (h' N') (g' z F r) f.c;refine aE (v:=b? N' z F r) (by simp[results114,go_sem,t,y]) rfl ?_;exact ZT
 cases e with
 |none=>exact absurd B.a (by simp[cR])
 |some E=>
  have j:F=ζ E:=B.a.2.1;have b:=B.c E rfl;by_cases R:(P.at i).aH<=2\/(P.at i).aH=4;rotate_left
  .have l:vM p (P.at i) k (z' E)=z' E:=by
    have D:=hrel.aH;show(if p=5 then Ao (P.at i) k E else An (P.at i) k E)=z' E;have e1:Ao (P.at i) k E=z' E:=by rw[Ao,aA I,aA I,aA I,aA I]
    have u:An (P.at i) k E=z' E:=by rw[An,aA I,aA I,aA I,aA I]
    rw[e1,u];split<;>rfl
   have N:=hrel.does;have s:=hrel.target;rw[aA I]at s;rw[show c.n.target=-1 from s]at c3;have o:=hrel.aH;have g3:c.n.does=⟨#[111,117,116,112,117,116]⟩\/c.n.does=⟨#[103,111,116,111]⟩\/c.n.does=⟨#[114,101,116,117,114,110]⟩:=by
    rw[show c.n.does=zD (P.at i).aH from N];have:(P.at i).aH=3\/(P.at i).aH=5\/(P.at i).aH=6:=I;rcases this with e|e|e<;>rw[e]
    .exact aP rfl
    .exact aR<|aP rfl
    exact aR<|aR rfl
   clear N s o hrel R j b;rcases g3 with e|e|e
   all_goals
    rw[e]at c2;go_wp2_with fail;obtain⟨t,y⟩:=U.o V (h' O') (g' z F r) f.c;refine aE (v:=b? O' z F r) (by simp[results114,go_sem,t,y]) rfl ?_;exact ZT
  subst j;have v:YG c.n (P.at i) (ζ E):=by rw[b.1];exact B.b
  have o:ζ E<=8:=by rw[b.1];exact B.D
  have D:J (∀W,Bl w W->Cl 181 #[j'<|aI c.wv c.n,G k,b? O' z (ζ E) r] W (kJ W<|Ao (P.at i) k E)):=λW j=>Fm c.wv c.n (P.at i) k z r E W (B.a.2.2.1.below j) B.a.2.2.2 o v R;have F:J (p≠5->∀W,Bl w W->Cl 182 #[j'<|aI c.wv c.n,G k,b? O' z (ζ E) r] W (kJ W<|An (P.at i) k E)):=λp W j=>Fl c.wv c.n (P.at i) k z r E W (B.a.2.2.1.below j) B.a.2.2.2 o v R (by rcases hp with rfl|rfl;(· exact absurd rfl p);exact b.2) B.d;rw[<-X.o]at D F;simp only[b?]at D F;clear v o b;by_cases o:(P.at i).aH=4
  .have N:=hrel.does;have s:=hrel.target;rw[o]at N;rw[aA I]at s;rw[show c.n.does=⟨#[105,102]⟩from N]at c2;rw[show c.n.target=-1 from s]at c3;clear N s hrel;exact ZU
  have s:=hrel.target;have g3:=hrel.var I;rw[aD I]at s;have p:¬c.n.target<0:=by rw[show c.n.target=_ from s];omega
  clear s g3 hrel;exact ZU
end
def Ey(f:Nat)(r:Int)(x:Nd):Bool:=x.zm f&&(decide (r<0)||decide (x.oF f<r))
def Tw:(Tryz.prog.info? 4).map (λi=>(i.zero,i.size,i.bytes))=z' (z'<|h' O',1,1):=M
def Yq{w:p'}{B:Nat}{a:t'}{c n:Nat}{D:List Bool}(h:ρ w B 4 1 (g' a n c) (ζ D)<|D.map h'):zW w a D:=by
 intro j x f;have r:=(aX.1 f).1;rcases h.2 with⟨_,e⟩|⟨g,a,Y,R,_⟩
 .omega
 simp at R;obtain⟨rfl,rfl,rfl⟩:=R;have:=h.cells (g:=g) rfl j (h' x) (by simp[f]);rw[dY]at this;exact⟨g,0,rfl,this⟩
def G2{D:List Int}{f:Nat}(h:(f:Int)∈D):DH D f=(D.idxOf (f:Int):Nat)/\D.idxOf (f:Int)<ζ D:=⟨by rw[DH,aD h],qu h⟩
def Ap{α β:Type}{l:List α}{k:Nat}{x:α}(F:α->β)(h:l[k]?=z' x):(l.take<|k+1).map F=(l.take k).map F++[F x]:=by exact acK
def Rj{p:Prop}(h:p:=by
 go_roundw
 case rel=>
  refine⟨i+1,y,p,L,e',rfl,?_,?_⟩
  .rw[Ap _ h.a,fq,X.o];exact W.a
  exact((aq g.A b.o).alloc (aq g.A b.o).size _).grown W.A (by have:=(aq g.A b.o).size;simp;omega) λq e=>((aZ g.a b.o).lt q e).1
 exact F'):p:=h
def Jv(p g:Int)(T:t')(a:Nat)(v:List Nd)(f:Nat)(r:Int)(w:p')(h:cw w T v)(B:∀x∈v,lA x)(W:0<=r->∀x∈v,ζ x.bf=ζ x.facts)(K:ζ v<=60):
  Cl 104 #[j' #[G p,G g,g' T (ζ v) a],G f,G r] w λe b=>∃a c,e=n' (bk a (ζ v) c)/\zW b a (v.map<|Ey f r)/\Bl w b:=by
 obtain⟨N,S,D,P,a⟩:=cI Tw;have w:J (_/\_/\_/\_):=⟨S,D,P,a⟩;have s:=hid<|Aa h<|Aa B W;clear S D P a h B W;go_enter func104,ntmps104;go_upto_region 1 with fail
 refine iU (F:=Code.wp _ _ _ _) λV B=>?_;go_wp2_with fail;go_loopw[7,8] (λa y wr=>∃(i:Nat)(j:t')(D:Nat),i<=ζ v/\y=G i/\a=g' j i D/\J (ρ wr V.1.size 4 1 (g' j i D) i (((v.take i).map<|Ey f r).map h')/\Bl V wr)) (λ_ y _=>ζ v-(intOf y).toNat)
 case atStart=>exact⟨0,A',0,bm,rfl,rfl,dj,aQ⟩
 obtain⟨i,j,D,S,rfl,rfl,g⟩:=hrel;have E:=A<|aG g.A B.a;by_cases L:i<ζ v;rotate_left
 .have a:¬(i:Int)<(ζ v:Int):=I;obtain rfl:i=ζ v:=I;go_wp2_with fail;refine aE (v:=g' j (ζ v) D) (by simp[results104,go_sem]) rfl ⟨j,⟨D,rfl⟩,?_,aq B.b g.A⟩;have C:=g.a;rw[jj]at C;have b:ζ (v.map<|Ey f r)=ζ v:=ak;exact Yq (by rw[b];exact C)
 have a:(i:Int)<(ζ v:Int):=I;obtain⟨x,F⟩:=La L;obtain⟨b,o,a,l,z,z,rc,b,rfl,T,Q,p,d,P,b⟩:=(s.a.below<|aq B.b g.A) i x F;have c:=s.b x<|aO F;have h:=hid<|Aa F<|Aa c b;have Y:=hid Q;clear F c b p d P;by_cases d:(f:Int)∈x.facts;rotate_left
 .have c:DH x.facts (f:Int)=-1:=by rw[DH,aA d]
  have X:J (Ey f r x=O'):=by show _=_;simp[Ey,Nd.zm,d]
  go_upto_region 6 with(go_at_call 105;refine(sH a z x.facts (f:Int) _ h.B.facts h.b.fsz).mono ?_;rintro e t ⟨rfl,l⟩;clear E T Q;have b:=hid l;clear l;rw[c])
  go_wp2_with (at_builtin;refine fz rfl _ _ 139 rfl V.1.size 4 N (h' O') 1 1 underlying139 w.a w.b w.c w.C rfl aj (g' j i D) i (((v.take i).map<|Ey f r).map h') rfl ((aZ g.a b.o).alloc _) (O t.1.size 0) 1 1 [h' O'] rfl rfl lT (by intro u C;simp only[cM,dR,dz]at C;subst C;rfl) (by simp only[maxLen];omega) I (by have:=b.o.size;have:=g.A.size;simp;omega) ?_;intro U S k F _;obtain⟨y,p,rfl⟩:=aV k;have W:=hid<|Aa k F;clear k F);exact Rj
 obtain⟨c,e2⟩:=G2 d;by_cases o:r<0
 .have X:J (Ey f r x=N'):=by show _=_;simp[Ey,Nd.zm,d,o]
  go_upto_region 6 with(go_at_call 105;refine(sH a z x.facts (f:Int) _ h.B.facts h.b.fsz).mono ?_;rintro e t ⟨rfl,l⟩;clear E T Q;have b:=hid l;clear l;rw[c])
  go_wp2_with (at_builtin;refine fz rfl _ _ 139 rfl V.1.size 4 N (h' O') 1 1 underlying139 w.a w.b w.c w.C rfl aj (g' j i D) i (((v.take i).map<|Ey f r).map h') rfl ((aZ g.a b.o).alloc _) (O t.1.size 0) 1 1 [h' N'] rfl rfl lT (by intro u C;simp only[cM,dR,dz]at C;subst C;rfl) (by simp only[maxLen];omega) I (by have:=b.o.size;have:=g.A.size;simp;omega) ?_;intro U S k F _;obtain⟨y,p,rfl⟩:=aV k;have W:=hid<|Aa k F;clear k F);exact Rj
 have P:=s.B I x<|aO h.a;have R:x.bf[x.facts.idxOf (f:Int)]?=z' (x.oF f):=by rw[Nd.oF,getD,bj I];rfl
 obtain⟨o,o,rfl,o⟩:=h.B.bf _ _ R;have s:=hid o;have K:((x.facts.idxOf (f:Int):Nat):Int)<(ζ x.bf:Int):=I;clear o R P;have X:J (Ey f r x=(decide (r<0)||decide (x.oF f<r))):=by show _=_;simp[Ey,Nd.zm,d]
 generalize x.facts.idxOf (f:Int)=d at c K s;generalize x.oF f=d at s X;go_upto_region 6 with(go_at_call 105;refine(sH a z x.facts (f:Int) _ h.B.facts h.b.fsz).mono ?_;rintro e t ⟨rfl,l⟩;clear E T Q;have b:=hid l;clear l;rw[c])
 have E:=A<|aG (aq g.A b.o) B.a;have a:=aB Y.o b.o;have o:=aB s.o b.o;clear c e2;go_wp2_with (at_builtin;refine fz rfl _ _ 139 rfl V.1.size 4 N (h' O') 1 1 underlying139 w.a w.b w.c w.C rfl aj (g' j i D) i (((v.take i).map<|Ey f r).map h') rfl ((aZ g.a b.o).alloc _) (O t.1.size 0) 1 1 [h' (decide (r<0)||decide (d<r))] rfl rfl lT (by intro u C;simp only[cM,dR,dz]at C;subst C;rfl) (by simp only[maxLen];omega) I (by have:=b.o.size;have:=g.A.size;simp;omega) ?_;intro U S k F _;obtain⟨y,p,rfl⟩:=aV k;have W:=hid<|Aa k F;clear k F);exact Rj
section
variable {p:Int}
def vh(w:p')(a:t')(es:List EV):Prop:=∀(j:Nat)(e:EV),es[j]?=z' e->∃b o nb va vn vc,a=z' (O b o)/\χ w (O b<|o+j*2)=z' (h' nb)/\χ w (O b<|o+j*2+1)=z' (g' va vn vc)/\cR w nb va vn vc e
def vh.below{b:p'}{a:t'}{d:List EV}(h:vh w a d)(c:Bl w b):vh b a d:=by intro j e f;obtain⟨b,o,d,z,F,x,C,T,Q,a⟩:=h j e f;exact⟨b,o,d,z,F,x,C,aB T c,aB Q c,a.below c⟩
def nU(es:List EV)(m:Nat):EV:=es.getD m A'
def Jr(P:Pm)(p:Int)(es:List EV)(n i k:Nat):EV:=(xW P.nx i k n).foldl (λout q=>qD p out<|vM p (P.at q.1) q.2<|nU es q.1)<|P.E? n
def aa6{P:Pm}(U:p=5\/p=6)(T:nD P){a:List EV}(h:∀e∈a,dw p P.nv e)(n i k:Nat):dw p P.nv (Jr P p a n i k):=
 DL U T (λm=>by
  rw[nU,getD];cases e:a[m]? with
  |none=>exact lq
  |some x=>exact h x<|aO e) _ _ (uw p P n)
def N2.of{Q:Nat}{e:EV}(h:dw p Q e):N2 Q e:=by
 cases e with
 |none=>trivial
 |some E=>exact(h E rfl).1
def dq.made{W:p'}{B n:Nat}{a:Nat}(h:ρ W B 138 3 (cG a n) n (replicate n [h' O',G 0,G 0]).flatten):dq W (z'<|O a 0) (replicate n ⟨O',0,0⟩):=by
 intro j v f;rw[j!]at f;split at f;rotate_left
 .cases f
 rename_i L
 cases f;have X:∀(m j i:Nat)(z:List y'),ζ z=3->j<m->i<3->((replicate m z).flatten)[j*3+i]?=z[i]?:=by
  intro m;induction m with
  |zero=>intro j i z _ h;omega
  |succ m B=>
   intro j i z f h S;rw[gM,oj];cases j with
   |zero=>rw[e6,bH,gI I]
   |succ j=>rw[eB I,<-B j i z f I S];congr 1;omega
 have U:=h.cells (g:=a) rfl (j*3+0) _ ((X n j 0 _ rfl L I).trans rfl);have b:=h.cells (g:=a) rfl (j*3+1) _ ((X n j 1 _ rfl L I).trans rfl);have k:=h.cells (g:=a) rfl (j*3+2) _ ((X n j 2 _ rfl L I).trans rfl);rw[dY,bH]at U b k;exact⟨a,0,rfl,by rw[bH];exact U,by rw[bH];exact b,by rw[bH];exact k⟩
def XR{F:p'->Prop}{q c s:Nat}{f:t'}{d:Bool}{t:TypeId}{a b:y'}(e:w.1[q]?=z' (i' (fe d f c s) t (0,0)))
  (h:∀V,J (V.1[q]?=z' (i' #[a,b] t (0,0))/\(∀k,k≠q->V.1[k]?=w.1[k]?)/\(∀{B:Nat} {u:p'},Below B u w->B<=q->Below B u V)/\(∀{c:Bool} {j:t'} {f r:Nat} {d:EV},cR w c j f r d->cR V c j f r d))->F V):F (κ (κ w (O q 0) a) (O q 1) b):=
 h _ ⟨by rw[H (H e _) _];rfl,λk a=>by rw[aJ a,aJ a],λa v=>(a.setCell v _).setCell v _,λl=>l.put e⟩
def Ba(N n:Nat)(p:Int)(U:p=5\/p=6)(D:List RC)(v:List<|List Nat)(P:Pm)(a:t')(b:Nat)(es:List EV)(w:p')(h:DP w N D v P.nv)(t:DR D v P)(d:cN P)(T:nD P)(E:vh w a es)(j:ζ es=ζ D)(o:∀e∈es,dw p P.nv e):
  Cl 71 #[m'<|z'<|O N 0,G p,G n,g' a (ζ D) b] w (kJ w<|P.say p n<|nU es):=by
 obtain⟨l,S,a,c,b⟩:=cI DF;have i:J (_/\_/\_/\_):=⟨S,a,c,b⟩;clear S a c b;have f:ζ D<=60:=by rw[t.len];exact d.most
 have Y:=d.nv;obtain⟨g,a,c,q,u,a,a,c,b⟩:=h.box;have s:=hid<|Aa a<|Aa b<|Aa h<|Aa t<|Aa d<|Aa T<|Aa E<|Aa j o;have k:ζ v=ζ D:=h.len;have Q:=hid U;clear a b h t d T E j o c U;have k:J (Jr P p es n (ζ v) 0=P.say p n (nU es)):=by show(xW P.nx (ζ v) 0 n).foldl _ _=(P.ins n).foldl _ _;rw[s.d.nx,Ly];rfl
 go_enter func71,ntmps71;go_upto_region 2 with fail
 refine T0 (F:=Code.wp _ _ _ _) λf c=>?_;by_cases K:n=0
 case' pos=>
  have a:((n:Int)==0)=N':=by simp;omega
  have g:=hid K;clear K;have x1:=A<|aG c.b s.a;go_upto_region 4 with(at_make;refine gL _ rfl (.tmp 20) (.tmp 20) 131 rfl f.1.size 138 l _ 3 underlying131 i.a i.b i.c .i64 .i64 P.nv P.nv P.nv rfl rfl rfl rfl (by rw[i.C];omega) (by unfold maxLen;omega) aK ?_;intro t b d;have h:=hid<|Aa b d;clear b d x1;have y1:=A ((h.A.block (δ w.1+1) (I' c.B) ak).trans c.a.2))
  have C:=h.a;rw[mN _ 3 rfl P.nv]at C;have l:Bl f t:=aQ.grown h.A aK (λq e=>by cases e);refine XR (F:=Code.wp _ _ _ _) (aG l c.a.2) λV B=>?_
  have L:cR V O' (cV f.1.size) P.nv P.nv (P.E? n):=by
   have o:P.E? n=z' (replicate P.nv ⟨O',0,0⟩):=by unfold Pm.E?;rw[aD g.o]
   rw[o];exact B.C (show cR t O' (cV f.1.size) P.nv P.nv (z'<|replicate P.nv ⟨O',0,0⟩)from⟨rfl,ak,dq.made C,λe=>by cases e⟩)
  have u:∃T z F x,V.1[δ w.1+1]?=z' (i' #[h' T,g' z F x] 133 (0,0))/\cR V T z F x (P.E? n)/\Bl w V/\V.1[δ w.1]?=z' kV:=⟨_,_,_,_,B.a,L,B.c (aq c.b l) I,(B.b _ I).trans<|aG l c.a.1⟩;have b:=hid u;clear u L l C y1 a
 case' neg=>
  have a:((n:Int)==0)=O':=by simp;omega
  go_upto_region 4 with fail
  have u:∃T z F x,f.1[δ w.1+1]?=z' (i' #[h' T,g' z F x] 133 (0,0))/\cR f T z F x (P.E? n)/\Bl w f/\f.1[δ w.1]?=z' kV:=⟨N',A',0,0,c.a.2,by unfold Pm.E?;rw[aA K];rfl,c.b,c.a.1⟩;have b:=hid u;clear u a K
 all_goals
  go_wp2_with fail;go_loopw[10] (λy wr=>∃i:Nat,i<=ζ D/\y=G i/\J (∃T z F x,wr.1[δ w.1+1]?=z' (i' #[h' T,g' z F x] 133 (0,0))/\cR wr T z F x (Jr P p es n i 0)/\Bl w wr/\wr.1[δ w.1]?=z' kV)) (λy _=>ζ D-(intOf y).toNat)
  case atStart=>
   refine⟨0,bm,rfl,?_⟩;unfold Jr;rw[EN];exact b
  obtain⟨i,S,rfl,h⟩:=hrel;obtain⟨T,z,F,x,r,L,a,X⟩:=h.o;have x1:=A<|aG a s.a;by_cases g:i<ζ D;rotate_left
  .have d:i=ζ v:=I;have c:¬((i:Int)<(ζ D:Int)):=I;rw[d,k.o]at L;have b:=hid<|Aa r<|Aa L<|Aa a X;have y1:=A r;have K:=A X;clear r L a X;go_wp2_with fail;have d:χ (κ wr (O w.1.size 0)<|h' T) (O w.1.size 0)=z' (h' T):=by rw[(A<|H b.C _).1];rfl
   have y:χ (κ (κ wr (O w.1.size 0)<|h' T) (O w.1.size 1)<|g' z F x) (O w.1.size 1)=z' (g' z F x):=by rw[(A<|H (H b.C _) _).1];rfl
   refine aE (v:=b? T z F x) (by simp[results71,go_sem,d,y]) rfl (kJ.mk (b.b.put b.C) ((b.c.setCell aK _).setCell aK _))
  have c:(i:Int)<(ζ D:Int):=I;obtain⟨l,j⟩:=La (l:=v) (i:=i) I;have b:=(s.e.nx l<|by rw[<-s.d.nx];exact aO j).1;have f:=hid j;clear j r L a X;go_wp2_with fail;go_loopw[11] (λj wr=>∃k:Nat,k<=ζ l/\j=G k/\J (∃T z F x,wr.1[δ w.1+1]?=z' (i' #[h' T,g' z F x] 133 (0,0))/\cR wr T z F x (Jr P p es n i k)/\Bl w wr/\wr.1[δ w.1]?=z' kV)) (λj _=>ζ l-(intOf j).toNat)
  case atStart=>exact⟨0,bm,rfl,h⟩
  clear x1;obtain⟨k,b,rfl,h⟩:=hrel;obtain⟨T,z,F,x,r,L,a,X⟩:=h.o;have y:=hid<|Aa r<|Aa L<|Aa a X;clear r L a X;have x1:=A<|aG y.c s.a;obtain⟨a,B,a,u⟩:=s.b i l f.o;have S:=aB a y.c;have d:=hid u;clear a u;by_cases u:k<ζ l;rotate_left
  .have q:k=ζ l:=I;have R:¬((k:Int)<(ζ l:Int)):=I;go_wp2_with fail;go_roundw
   case rel=>
    subst q;refine⟨i+1,g,e',?_⟩;have e:Jr P p es n (i+1) 0=Jr P p es n i (ζ l):=by unfold Jr;rw[Lx (nx:=P.nx)<|by rw[<-s.d.nx];exact f.o]
    rw[e];exact h
   exact F'
  have R:(k:Int)<(ζ l:Int):=I;obtain⟨t,U⟩:=La u;obtain⟨b,o,rfl,c⟩:=bK.below d.o y.c k (t:Int) (by simp[U]);have a:Jr P p es n i (k+1)=(if t=n then qD p (Jr P p es n i k) (vM p (P.at i) k<|nU es i) else Jr P p es n i k):=by unfold Jr;rw[EO (nx:=P.nx) (by rw[<-s.d.nx];exact f.o) U,xh];split<;>rfl
  have X:=hid a;clear U a;cases E:((t:Int)==(n:Int))
  .go_wp2_with fail;go_roundw
   case rel=>
    refine⟨k+1,u,e',?_⟩;rw[X.o,aA (by simp at E;omega)];exact h
   exact F'
  have B:t=n:=by simp at E;omega
  obtain⟨e,a⟩:=La (l:=es) (i:=i) (by rw[s.h];exact g);obtain⟨l,b,d,f,h,b,rfl,t,L,o⟩:=s.g.below y.c i e a;have q:nU es i=e:=by unfold nU;rw[getD,a];rfl
  rw[q]at X;have E:J (∀W,Bl wr W->Cl 114 #[m'<|z'<|O N 0,G p,G i,G k,j'<|fe d f h b] W (kJ W<|vM p (P.at i) k e)):=λW j=>JD N i k p Q.o D v P.nv P d f h b e W (s.c.below<|aq y.c j) s.d s.e s.f g (o.below j)<|s.H e<|aO a;have N:J (∀(W:p')(b:Bool)(h:t')(g l r:_)(d:t')(f R:Nat),cR W b h g l (Jr P p es n i k)->cR W r d f R (vM p (P.at i) k e)->Cl 73 #[G p,j'<|fe b h g l,j'<|fe r d f R] W (kJ W<|qD p (Jr P p es n i k)<|vM p (P.at i) k e)):=λW b h g l r d f R C j=>Bi p P.nv b r h d g l f R _ _ W C j Y (N2.of<|aa6 Q.o s.f s.H _ _ _)<|N2.of<|oV Q.o (s.f i)<|s.H e<|aO a;clear o a q;go_upto_region 12 with(go_at_call 114;refine(E.o _ aQ).mono ?_;rintro o Y ⟨h,l,b,j,rfl,a,E⟩;have d:=hid<|Aa a E;clear a E t L x1 S c)
  refine iU (F:=Code.wp _ _ _ _) λU g=>?_;have f:J (Bl wr U/\_/\_/\cR U h l b j (vM p (P.at i) k e)):=⟨aq d.A g.b,g.a,aG (aq d.A g.b) y.a,d.a.below g.b⟩;generalize δ Y.1=a at f|-;have y1:=A f.b;have K:=A f.c;go_upto_region 9 with(go_at_call 73;refine(N.o _ _ _ _ _ _ _ _ _ (y.b.below f.a) f.C).mono ?_;rintro o a ⟨a,a,a,a,rfl,a,b⟩;have c:=hid<|Aa a b;clear a b y1 K;have K:=A<|aG c.A f.c)
  have l:=aq f.a c.A;refine XR (F:=Code.wp _ _ _ _) (aG c.A f.c) λa h=>?_;have s:J (∃T z F x,a.1[δ w.1+1]?=z' (i' #[h' T,g' z F x] 133 (0,0))/\cR a T z F x (Jr P p es n i<|k+1)/\Bl w a/\a.1[δ w.1]?=z' kV):=by refine⟨_,_,_,_,h.a,?_,h.c (aq y.c l) I,(h.b _ I).trans<|aG l y.C⟩;rw[X.o,aD B];exact h.C c.a
  clear l K;go_wp2_with fail;go_roundw
  case rel=>exact⟨k+1,u,e',s.o⟩
  exact F'
end
section
variable {b:p'}{d:Bool}{a:t'}{n c:Nat}{e:EV}
def N1(w:p')(nb:Bool)(a:t')(n c:Nat)(e:EV):Prop:=match e with|none=>nb=N'|some vs=>nb=O'/\n=ζ vs/\ρ w 0 138 3 (g' a n c) n (dx vs)
def N1.at{w:p'}{b:Bool}{a:t'}{n c:Nat}{e:EV}(h:N1 w b a n c e):cR w b a n c e:=by
 cases e with
 |none=>exact h
 |some E=>
  obtain⟨C,a,N⟩:=h;subst a;refine⟨C,rfl,QN N,λe=>?_⟩;subst e;rcases N.2 with⟨R,_⟩|⟨g,u,Y,R,_⟩
  .simp at R;exact R.2
  simp at R
def N1.below(h:N1 w d a n c e)(f:Bl w b):N1 b d a n c e:=by
 cases e with
 |none=>exact h
 |some E=>exact⟨h.1,h.2.1,aZ h.2.2 f⟩
def N1.grown{q:Option Nat}(h:N1 w d a n c e)(f:ξ w b q)(g:∀k,q=z' k->∃Y t,w.1[k]?=z' (cU Y t)/\138≠t):N1 b d a n c e:=by
 cases e with
 |none=>exact h
 |some E=>
  refine⟨h.1,h.2.1,h.2.2.kept f ?_⟩;by_cases V:φ (g' a n c)=A'
  .exact aP V
  refine aR λu=>?_;obtain⟨k,a⟩:=Option.ne_none_iff_exists'.1 V;obtain⟨Y,t,C,b⟩:=g k<|u.symm.trans a;exact dV h.2.2 C b a
def H?(w:p')(ev:EV)(e:Ending)(w':p'):Prop:=∃nb a n c,e=n' (b? nb a n c)/\N1 w' nb a n c ev/\Bl w w'
def H?.mk(h:N1 b d a n c e)(f:Bl w b):H? w e (n'<|b? d a n c) b:=⟨d,a,n,c,rfl,h,f⟩
def LV(h:p:=by
 go_wp2_with (at_builtin;refine fz rfl _ _ 131 rfl (h+1) 138 i0 (j' oo) 3 24 underlying131 HI.a HI.b HI.c HI.C rfl aj (g' j i s) i (dx ((x.aM.map<|cS r).take i)) rfl (B.d.alloc _) (O T.1.size 0) 1 1 [h' N',G 0,G 0] rfl rfl (mM<|cF T _) (by intro u C;simp only[cM,dR,dz]at C;rcases C with rfl|rfl|rfl<;>rfl) (by simp only[maxLen];omega) I (by have:=B.D;simp;omega) ?_;intro v9 l k F _;obtain⟨a9,c9,rfl⟩:=aV k;have a:=cf T<|i' #[h' N',G 0,G 0] 138;have BV:b' l h (fL j i s) 133:=(F.block h (eh B.D a.size) λe=>dV (aZ B.d a) (aG a B.c) aj e.symm).trans<|aG a B.c;have W:=hid<|Aa k<|Aa F BV;clear k F E g Y d a;obtain⟨Y,d⟩:=A BV;clear BV);go_roundw
 case rel=>
  refine⟨i+1,a9,c9,L,e',?_,?_,?_⟩
  .rw[H W.B _];rfl
  .rw[YN.o _ f];exact W.a.kept (cQ l h 1 _) (aR λe=>dV W.a W.B aj e)
  exact(((D.B.trans<|B.b.mono<|I'<|blt D.a).alloc (I' B.D) _).grown W.b (by have:=B.D;simp;omega) λq e=>I' ((B.d.lt q e).1)).setCell aK _
 exact F'):p:=h
def Ri(h:p:=by
 go_roundw
 case rel=>
  refine⟨i+1,a9,c9,L,e',?_,?_,?_⟩
  .rw[H W.B _];rfl
  .rw[YN.o _ f];exact W.a.kept (cQ l h 1 _) (aR λe=>dV W.a W.B aj e)
  exact(((D.B.trans<|B.b.mono<|I'<|blt D.a).alloc (I' B.D) _).grown W.b (by have:=B.D;simp;omega) λq e=>I' ((B.d.lt q e).1)).setCell aK _
 exact F'):p:=h
def ZS(h:p:=by
 have jy:¬(i:Int)<N:=I;obtain rfl:N=i:=I;obtain⟨Y,d⟩:=A D.a;have X:=Hq D.B U.c I;obtain⟨z1,z2⟩:=A X;go_wp2_with fail;have q4:χ (κ wr (O (δ w.1+1) 0)<|h' O') (O (δ w.1+1) 0)=z' (h' O'):=by rw[(A<|H X _).1];rfl
 have y:χ (κ (κ wr (O (δ w.1+1) 0)<|h' O') (O (δ w.1+1) 1)<|g' j N s) (O (δ w.1+1) 1)=z' (g' j N s):=by rw[(A<|H (H X _) _).1];rfl
 refine aE (v:=b? O' j N s) (by simp[results107,go_sem,q4,y]) rfl ?_;rw[HE.o];have ho:=D.b;have OR:ζ (x.aM.map<|cS r)=N:=by rw[b9,K.o]
 rw[c!<|by rw[OR];exact aK]at ho;refine H?.mk (show N1 _ O' j N s (z'<|x.aM.map<|cS r)from⟨rfl,OR.symm,?_⟩) ((gW.o.setCell G' _).setCell G' _);have TO:=(c8 ho bm).kept (cQ wr (δ w.1+1) 0<|h' O') (aR λe=>dV ho X aj e)
 exact TO.kept (cQ _ (δ w.1+1) 1<|g' j N s)<|aR λe=>dV ho X aj e):p:=h
def ZR(h:p:=by
 have f:cS r v=⟨O',v.lo,v.hi⟩:=by rw[cS,aD k3]
 go_wp2_with (at_builtin;refine fz rfl _ _ 131 rfl (h+1) 138 i0 (j' oo) 3 24 underlying131 HI.a HI.b HI.c HI.C rfl aj (g' j i s) i (dx ((x.aM.map<|cS r).take i)) rfl (B.d.alloc _) (O T.1.size 0) 1 1 [h' O',G v.lo,G v.hi] rfl rfl (mM<|cF T _) (by intro u C;simp only[cM,dR,dz]at C;rcases C with rfl|rfl|rfl<;>rfl) (by simp only[maxLen];omega) I (by have:=B.D;simp;omega) ?_;intro v9 l k F _;obtain⟨a9,c9,rfl⟩:=aV k;have a:=cf T<|i' #[h' O',G v.lo,G v.hi] 138;have BV:b' l h (fL j i s) 133:=(F.block h (eh B.D a.size) λe=>dV (aZ B.d a) (aG a B.c) aj e.symm).trans<|aG a B.c;have W:=hid<|Aa k<|Aa F BV;clear k F E g Y d a;obtain⟨Y,d⟩:=A BV;clear BV)
 exact Ri):p:=h
def ZQ(h:p:=by
 have f:cS r v=VV.one v.lo:=by rw[cS,aA k3,aD k1]
 go_wp2_with (at_builtin;refine fz rfl _ _ 131 rfl (h+1) 138 i0 (j' oo) 3 24 underlying131 HI.a HI.b HI.c HI.C rfl aj (g' j i s) i (dx ((x.aM.map<|cS r).take i)) rfl (B.d.alloc _) (O T.1.size 0) 1 1 [h' O',G v.lo,G v.lo] rfl rfl (mM<|cF T _) (by intro u C;simp only[cM,dR,dz]at C;rcases C with rfl|rfl|rfl<;>rfl) (by simp only[maxLen];omega) I (by have:=B.D;simp;omega) ?_;intro v9 l k F _;obtain⟨a9,c9,rfl⟩:=aV k;have a:=cf T<|i' #[h' O',G v.lo,G v.lo] 138;have BV:b' l h (fL j i s) 133:=(F.block h (eh B.D a.size) λe=>dV (aZ B.d a) (aG a B.c) aj e.symm).trans<|aG a B.c;have W:=hid<|Aa k<|Aa F BV;clear k F E g Y d a;obtain⟨Y,d⟩:=A BV;clear BV)
 exact Ri):p:=h
def ZP(h:p:=by
 have hm:(x.aM.map<|cS r)[i]?=z' z:=by rw[a!,R,<-f];rfl
 rw[ep (aX.1 hm).1,(aX.1 hm).2,xZ]):p:=h
def Bo(a l z:t')(Y q c rc b:Nat)(x:Nd)(r:Int)(w:p')(h:mA w z x.aM)(K:ζ x.aM<=8):
  Cl 107 #[j' #[g' a Y q,g' l c rc,h' x.aF,G x.rank,g' z (ζ x.aM) b],G r] w (H? w<|gC x r):=by
 obtain⟨i0,S,D,P,a⟩:=cI DF;have HI:J (_/\_/\_/\_):=⟨S,D,P,a⟩;clear S D P a;have HH:=hid h;clear h;obtain⟨N,a⟩:=Ea<|ζ x.aM;rw[<-a]at K|-;have K:=hid a;clear a;obtain⟨d,Y⟩:=Ea x.aF;obtain⟨NL,W⟩:=Ea x.rank;obtain⟨c,L⟩:=Ea<|gC x r;have a:d=O'\/(0<=r/\r<=NL)->c=A':=by rw[Y,W,L];intro q;rw[gC,aD q]
 have s:¬(d=O'\/(0<=r/\r<=NL))->c=z' (x.aM.map<|cS r):=by rw[Y,W,L];intro q;rw[gC,aA q]
 have Q3:=hid a;have Sq:=hid s;rw[<-Y,<-W,<-L];clear a s Y W L;go_enter func107,ntmps107;go_upto_region 1 with fail
 refine T0 (F:=Code.wp _ _ _ _) λW0 H0=>?_;obtain⟨E,g⟩:=A H0.a.1;obtain⟨z1,z2⟩:=A H0.a.2;have q4:χ (κ W0 (O (δ w.1+1) 0)<|h' N') (O (δ w.1+1) 0)=z' (h' N'):=by rw[(A<|H H0.a.2 _).1];rfl
 have y:χ (κ (κ W0 (O (δ w.1+1) 0)<|h' N') (O (δ w.1+1) 1)<|g' A' 0 0) (O (δ w.1+1) 1)=z' (g' A' 0 0):=by rw[(A<|H (H H0.a.2 _) _).1];rfl
 have HQ:=hid<|Aa q4 y;clear q4 y;have PC:J (c=A'->H? w c (n'<|b? N' A' 0 0) (κ (κ W0 (O (δ w.1+1) 0)<|h' N') (O (δ w.1+1) 1)<|g' A' 0 0)):=λe=>by rw[e];exact H?.mk (show N1 _ N' A' 0 0 A' from rfl) ((H0.b.setCell G' _).setCell G' _)
 cases d
 .go_wp2_with fail;obtain⟨q4,y⟩:=HQ.o;exact aE (v:=b? N' A' 0 0) (by simp[results107,go_sem,q4,y]) rfl (PC.o<|Q3.o (by first|exact aP rfl|exact aP trivial))
 by_cases hr0:0<=r;rotate_left
 .have HE:=hid<|Sq.o (by rintro(q|q);(· cases q);exact hr0 q.1);go_upto_region 4 with fail
  clear E g z1 z2;refine iU (F:=Code.wp _ _ _ _) λt c=>?_;have U:J (Bl w t/\_/\_/\_):=⟨aq H0.b c.b,aG c.b H0.a.1,aG c.b H0.a.2,c.a⟩;have Ip:=blt H0.a.2;generalize δ W0.1=h at U Ip|-;go_wp2_with fail;go_loopw[6] (λiv wr=>∃(i:Nat)(j:t')(s:Nat),i<=N/\iv=G i/\J (wr.1[h]?=z' (i' (fL j i s) 133 (0,0))/\ρ wr (h+1) 138 3 (g' j i s) i (dx ((x.aM.map<|cS r).take i))/\Below h t wr)) (λiv _=>N-(intOf iv).toNat)
  case atStart=>exact⟨0,A',0,bm,rfl,U.C,dj,aQ⟩
  obtain⟨i,j,s,S,rfl,D⟩:=hrel;obtain⟨E,g⟩:=A<|Hq D.B U.b I;have gW:=hid<|U.a.trans<|D.B.mono I;by_cases L:i<N;rotate_left
  .exact ZS
  have jy:(i:Int)<N:=I;obtain⟨v,R⟩:=La (l:=x.aM) (i:=i) (by rw[<-K.o];exact L);obtain⟨b,o,rfl,c0,Q,p,c3,P,c5⟩:=HH.o.below gW.o i v R;have Kz:∀z,cS r v=z->dx ((x.aM.map<|cS r).take<|i+1)=dx ((x.aM.map<|cS r).take i)++dr z:=λz f=>by exact ZP
  have YN:=hid Kz;clear Kz R;go_upto_region 9 with fail
  clear c0 Q p c3 P c5 E g;refine iU (F:=Code.wp _ _ _ _) λT HT=>?_;have B:J (T.1[δ wr.1]?=z' _/\Bl wr T/\b' T h (fL j i s) 133/\ρ T (h+1) 138 3 (g' j i s) i (dx ((x.aM.map<|cS r).take i))/\h<δ T.1):=⟨HT.a,HT.b,aG HT.b D.a,aZ D.b HT.b,blt<|aG HT.b D.a⟩;obtain⟨E,g⟩:=A B.a;obtain⟨Y,d⟩:=A B.c;by_cases k3:v.aH=3
  .exact ZR
  have Th:=H' k3;by_cases k1:v.aH=1
  .exact ZQ
  have To:=H' k1;cases he:v.bY
  .have f:cS r v=VV.dT:=by rw[cS,aA k3,aA k1,he];rfl
   rw[he]at E;exact LV
  rw[he]at E;have f:cS r v=VV.dT:=by rw[cS,aA k3,aA k1,aA<|by rw[he];simp;omega]
  exact LV
 by_cases hr1:r<=NL
 .go_wp2_with fail;obtain⟨q4,y⟩:=HQ.o;exact aE (v:=b? N' A' 0 0) (by simp[results107,go_sem,q4,y]) rfl (PC.o<|Q3.o<|aR ⟨hr0,hr1⟩)
 have HE:=hid<|Sq.o (by rintro(q|q);(· cases q);exact hr1 q.2);go_upto_region 4 with fail
 clear E g z1 z2;refine iU (F:=Code.wp _ _ _ _) λt c=>?_;have U:J (Bl w t/\_/\_/\_):=⟨aq H0.b c.b,aG c.b H0.a.1,aG c.b H0.a.2,c.a⟩;have Ip:=blt H0.a.2;generalize δ W0.1=h at U Ip|-;go_wp2_with fail;go_loopw[6] (λiv wr=>∃(i:Nat)(j:t')(s:Nat),i<=N/\iv=G i/\J (wr.1[h]?=z' (i' (fL j i s) 133 (0,0))/\ρ wr (h+1) 138 3 (g' j i s) i (dx ((x.aM.map<|cS r).take i))/\Below h t wr)) (λiv _=>N-(intOf iv).toNat)
 case atStart=>exact⟨0,A',0,bm,rfl,U.C,dj,aQ⟩
 obtain⟨i,j,s,S,rfl,D⟩:=hrel;obtain⟨E,g⟩:=A<|Hq D.B U.b I;have gW:=hid<|U.a.trans<|D.B.mono I;by_cases L:i<N;rotate_left
 .exact ZS
 have jy:(i:Int)<N:=I;obtain⟨v,R⟩:=La (l:=x.aM) (i:=i) (by rw[<-K.o];exact L);obtain⟨b,o,rfl,c0,Q,p,c3,P,c5⟩:=HH.o.below gW.o i v R;have Kz:∀z,cS r v=z->dx ((x.aM.map<|cS r).take<|i+1)=dx ((x.aM.map<|cS r).take i)++dr z:=λz f=>by exact ZP
 have YN:=hid Kz;clear Kz R;go_upto_region 9 with fail
 clear c0 Q p c3 P c5 E g;refine iU (F:=Code.wp _ _ _ _) λT HT=>?_;have B:J (T.1[δ wr.1]?=z' _/\Bl wr T/\b' T h (fL j i s) 133/\ρ T (h+1) 138 3 (g' j i s) i (dx ((x.aM.map<|cS r).take i))/\h<δ T.1):=⟨HT.a,HT.b,aG HT.b D.a,aZ D.b HT.b,blt<|aG HT.b D.a⟩;obtain⟨E,g⟩:=A B.a;obtain⟨Y,d⟩:=A B.c;by_cases k3:v.aH=3
 .exact ZR
 have Th:=H' k3;by_cases k1:v.aH=1
 .exact ZQ
 have To:=H' k1;cases he:v.bY
 .have f:cS r v=VV.dT:=by rw[cS,aA k3,aA k1,he];rfl
  rw[he]at E;exact LV
 rw[he]at E;by_cases b:r<=v.rank
 .have f:cS r v=VV.one v.first:=by rw[cS,aA k3,aA k1,he];simp[hr0,b]
  go_wp2_with (at_builtin;refine fz rfl _ _ 131 rfl (h+1) 138 i0 (j' oo) 3 24 underlying131 HI.a HI.b HI.c HI.C rfl aj (g' j i s) i (dx ((x.aM.map<|cS r).take i)) rfl (B.d.alloc _) (O T.1.size 0) 1 1 [h' O',G v.first,G v.first] rfl rfl (mM<|cF T _) (by intro u C;simp only[cM,dR,dz]at C;rcases C with rfl|rfl|rfl<;>rfl) (by simp only[maxLen];omega) I (by have:=B.D;simp;omega) ?_;intro v9 l k F _;obtain⟨a9,c9,rfl⟩:=aV k;have a:=cf T<|i' #[h' O',G v.first,G v.first] 138;have BV:b' l h (fL j i s) 133:=(F.block h (eh B.D a.size) λe=>dV (aZ B.d a) (aG a B.c) aj e.symm).trans<|aG a B.c;have W:=hid<|Aa k<|Aa F BV;clear k F E g Y d a;obtain⟨Y,d⟩:=A BV;clear BV);exact Ri
 have f:cS r v=VV.dT:=by rw[cS,aA k3,aA k1,he];simp[hr0,b]
 exact LV
def D7(ds:List<|Bool×t'×Nat×Nat):List y':=ds.flatMap λd=>[h' d.1,g' d.2.1 d.2.2.1 d.2.2.2]
def Nq:∀(y:List<|Bool×t'×Nat×Nat)(j:Nat)(d:Bool×t'×Nat×Nat),y[j]?=z' d->(D7 y)[j*2]?=z' (h' d.1)/\(D7 y)[j*2+1]?=z' (bk d.2.1 d.2.2.1 d.2.2.2)
 |[],j,d,h=>by simp at h
 |a::l,0,d,h=>by simp at h;subst h;simp[D7]
 |a::l,j+1,d,h=>by have:=Nq l j d<|H' h;simp only[D7,bW,fW,gg]at this|-;rw[show(j+1)*2=j*2+1+1 by omega];simpa using this
def Tt:(Tryz.prog.info? 133).map (λi=>(i.zero,i.size,i.bytes))=z' (z'<|j' uo,2,32):=M
def OE(p g:Int)(T:t')(a:Nat)(v:List Nd)(r:Int)(w:p')(h:cw w T v)(K:ζ v<=60)(W:∀x∈v,ζ x.aM<=8):
  Cl 106 #[j' #[G p,G g,g' T (ζ v) a],G r] w λe b=>∃a c,e=n' (bk a (ζ v) c)/\vh b a (v.map λx=>gC x r)/\Bl w b:=by
 obtain⟨N,S,D,P,a⟩:=cI Tt;have k:J (_/\_/\_/\_):=⟨S,D,P,a⟩;have s:=hid<|Aa h W;clear S D P a h W;go_enter func106,ntmps106;go_upto_region 1 with fail
 refine iU (F:=Code.wp _ _ _ _) λV B=>?_;go_wp2_with fail;go_loopw[5,6] (λa y wr=>∃(i:Nat)(D:t')(t:Nat)(w:List<|Bool×t'×Nat×Nat),i<=ζ v/\y=G i/\a=g' D i t/\J (ρ wr V.1.size 133 2 (g' D i t) i (D7 w)/\ζ w=i/\(∀(j:Nat)(d:Bool×t'×Nat×Nat)(x:Nd),w[j]?=z' d->v[j]?=z' x->N1 wr d.1 d.2.1 d.2.2.1 d.2.2.2 (gC x r))/\Bl V wr)) (λ_ y _=>ζ v-(intOf y).toNat)
 case atStart=>exact⟨0,A',0,[],bm,rfl,rfl,dj,rfl,λj d x h=>by simp at h,aQ⟩
 obtain⟨i,D,t,w,S,rfl,rfl,c⟩:=hrel;have E:=A<|aG c.C B.a;by_cases L:i<ζ v;rotate_left
 .have a:¬(i:Int)<(ζ v:Int):=I;obtain rfl:i=ζ v:=I;go_wp2_with fail;refine aE (v:=g' D (ζ v) t) (by simp[results106,go_sem]) rfl ⟨D,⟨t,rfl⟩,?_,aq B.b c.C⟩;intro j e K;rw[a!]at K;obtain⟨x,F,rfl⟩:=I5.1 K;obtain⟨d,Q⟩:=La (l:=w) (i:=j) (by rw[c.b];exact(aX.1 F).1);have f:=Nq w j d Q;rcases c.a.2 with⟨_,e⟩|⟨g,S,h,R,_⟩
  .have:=(aX.1 F).1;omega
  simp at R;obtain⟨rfl,rfl⟩:=R;have U:=c.a.cells (g:=g) rfl _ _ f.1;have b:=c.a.cells (g:=g) rfl _ _ f.2;rw[dY]at U b;exact⟨g,0,d.1,d.2.1,d.2.2.1,d.2.2.2,rfl,U,b,(c.c j d x Q F).at⟩
 have a:(i:Int)<(ζ v:Int):=I;obtain⟨x,F⟩:=La L;obtain⟨b,o,a,l,z,q,rc,f,rfl,T,v,p,y,P,b⟩:=(s.a.below<|aq B.b c.C) i x F;have Y:J (∀W,Bl wr W->Cl 107 #[j' #[g' a (ζ x.facts) q,g' l (ζ x.bf) rc,h' x.aF,G x.rank,g' z (ζ x.aM) f],G r] W (H? W<|gC x r)):=λW o=>Bo a l z _ q _ rc f x r W (b.aM.below o)<|s.A x<|aO F;have z:=hid F;clear F b;go_upto_region 6 with(go_at_call 107;refine(Y.o _ aQ).mono ?_;rintro e Y ⟨b,q,o,s,rfl,l,X⟩;have u:=hid<|Aa l X;clear l X E T v p y P)
 refine iU (F:=Code.wp _ _ _ _) λU a=>?_;have f:J (Bl wr U/\N1 U b q o s (gC x r)/\U.1[δ Y.1]?=z' _):=⟨aq u.A a.b,u.a.below a.b,a.a⟩;have a:=A f.B;go_wp2_with (at_builtin;refine fz rfl _ _ 130 rfl V.1.size 133 N (j' uo) 2 32 underlying130 k.a k.b k.c k.C rfl aj (g' D i t) i (D7 w) rfl ((aZ c.a f.a).alloc _) (O U.1.size 0) 1 1 [h' b,g' q o s] rfl rfl (mM<|cF U _) (by intro u C;simp only[cM,dR,dz]at C;rcases C with rfl|rfl<;>rfl) (by simp only[maxLen];omega) I (by have:=(aq c.C f.a).size;simp;omega) ?_;intro k l k F _;obtain⟨u,r,rfl⟩:=aV k;have W:=hid<|Aa k F;clear k F a)
 have l:=cf U<|i' #[h' b,g' q o s] 133;have a:∀k,φ (g' D i t)=z' k->∃h t,(U.alloc<|i' #[h' b,g' q o s] 133).1[k]?=z' (cU h t)/\138≠t:=by
  intro k p;rcases(aZ c.a<|aq f.a l).2 with⟨e,_⟩|⟨g,S,h,e,_,N,_⟩
  .rw[e]at p;simp[Value.ownBlock]at p
  rw[e]at p;have:g=k:=by simpa[Value.ownBlock]using p
  subst this;exact⟨h,_,N,aj⟩
 have g:=hid a;clear a l;go_roundw
 case rel=>
  refine⟨i+1,u,r,w++[(b,q,o,s)],L,e',rfl,?_,by simp[c.b],?_,?_⟩
  .have e:D7 (w++[(b,q,o,s)])=D7 w++[h' b,g' q o s]:=by simp[D7]
   rw[e];exact W.a
  .intro j d y Q B;by_cases K:j<ζ w
   .rw[gI K]at Q;exact(((c.c j d y Q B).below f.a).below bA).grown W.A g.o
   have r:=(aX.1 Q).1;simp at r;have s:j=ζ w:=I;subst s;rw[eB aK,oh]at Q;simp at Q;subst Q;rw[c.b,z.o]at B;cases B;exact(f.b.below bA).grown W.A g.o
  exact((aq c.C f.a).alloc (aq c.C f.a).size _).grown W.A (by have:=(aq c.C f.a).size;simp;omega) λq e=>((aZ c.a f.a).lt q e).1
 exact F'
end
def adn(c:Ct)(r:Int):nU (c.nodes.map λx=>gC x r)=eg c r:=by
 funext m;rw[nU,eg,Ct.at,getD,getD,a!];cases c.nodes[m]? with
 |none=>rfl
 |some x=>rfl
structure agi(c:Ct)(nv:Nat):Prop where
  p:c.aL=5\/c.aL=6
  h8:∀x∈c.nodes,ζ x.aM<=8
  ok:∀x∈c.nodes,∀r,dw c.aL nv<|gC x r
  rk:∀x∈c.nodes,0<=x.rank/\x.rank<=100000
  ln:∀x∈c.nodes,x.aF=N'->ζ x.aM=nv
def VP(P:Pm)(c:Ct)(n:Nat):Bool:=t? c.aL (P.say c.aL n<|eg c (-1))<|eg c (-1) n
def erV(P:Pm)(c:Ct)(n j:Nat):Bool:=match (c.at n).aM[j]? with|some v=>!v.bY||zB (P.say c.aL n<|eg c v.rank) j|none=>N'
def vlN(P:Pm)(c:Ct):Int:=if ye P c=O' then 7 else if c.grade=1/\wy P c=O' then 8 else 0
def ZN(h:p:=by
 go_wp2_with fail;go_ret
 exact⟨by rw[OK.o (by first|rfl|trivial)];rfl,aq YJ.a KV.B⟩):p:=h
def Ff (pb:Nat) (D:List RC) (X:List<|List Nat) (P:Pm) (g:t') (nc:Nat) (c:Ct) (w:p') (h:DP w pb D X P.nv) (t:DR D X P) (hO:cN P) (T:nD P) (o:cw w g c.nodes) (j:ζ c.nodes=ζ D) (f:agi c P.nv):
   Cl 63 #[m'<|z'<|O pb 0,j' #[G c.aL,G c.grade,g' g (ζ D) nc]] w (Rb w<|G<|vlN P c):=by
 have Y:ζ D<=60:=by rw[t.len];exact hO.most
 have z:ζ D=ζ P.nd:=t.len;have Qf:J (∀(W:p')(r:Int),Bl w W->Cl 106 #[j' #[G c.aL,G c.grade,g' g (ζ D) nc],G r] W λe w'=>∃a m,e=n' (bk a (ζ D) m)/\vh w' a (c.nodes.map λx=>gC x r)/\Bl W w'):=λW r hW=>by have:=OE c.aL c.grade g nc c.nodes r W (o.below hW) I f.h8;rwa[j]at this
 have Hz:J (∀(W:p')(n:Nat)(r:Int)(a:t')(m:Nat),Bl w W->vh W a (c.nodes.map λx=>gC x r)->Cl 71 #[m'<|z'<|O pb 0,G c.aL,G n,g' a (ζ D) m] W (kJ W<|P.say c.aL n<|eg c r)):=λW n r a m hW Y=>by have:=Ba pb n c.aL f.p D X P a m (c.nodes.map λx=>gC x r) W (h.below hW) t hO T Y (by simp[j]) (λe l=>by obtain⟨x,F,rfl⟩:=bG.1 l;exact f.ok x F r);rwa[adn]at this
 have b:∀(r:Int)(m:Nat),dw c.aL P.nv (eg c r m):=λr m=>by
   rw[eg,Ct.at,getD];cases e:c.nodes[m]? with
   |none=>exact λvs hv=>by simp[gC,EA]at hv
   |some x=>exact f.ok x (aO e) r
 have HBL:J (∀(W:p')(g Y:Bool)(aa ba:t')(an ac bn X:Nat)(x y:EV),cR W g aa an ac x->cR W Y ba bn X y->dw c.aL P.nv x->dw c.aL P.nv y->Cl 72 #[G c.aL,j'<|fe g aa an ac,j'<|fe Y ba bn X] W (Rb W<|h'<|t? c.aL x y)):=λW g Y aa ba an ac bn X x y F hy ox oy=>yu c.aL P.nv g Y aa ba an ac bn X x y W F hy hO.nv (N2.of ox) (N2.of oy)
 have Qx:=hid (Aa b λn r=>gi f.p T n<|b r);obtain⟨g,g,g,g,xb,g,hb,_,_⟩:=h.box;have s:=hid<|Aa hb<|Aa o<|Aa j<|Aa f z;clear hb o j f b h t T z;obtain⟨vl,Py⟩:=Ea<|vlN P c;have IT:J ((∀n,n<ζ D->VP P c n=O'->vl=7)/\((range<|ζ D).all (VP P c)=N'->c.grade≠1->vl=0)/\((range<|ζ D).all (VP P c)=N'->c.grade=1->(∀n,n<ζ D->rE P c n=O'->vl=8)/\((range<|ζ D).all (rE P c)=N'->vl=0))):=by
   have r:ye P c=(range<|ζ D).all (VP P c):=by rw[ye,s.D];try rfl
   have g:wy P c=(range<|ζ D).all (rE P c):=by rw[wy,s.D];try rfl
   refine⟨λn hn Y=>?_,λha o=>?_,λha o=>⟨λn hn Y=>?_,λhb=>?_⟩⟩
   · rw[Py,vlN,r,uA Y hn,aD rfl]
   · rw[Py,vlN,r,ha,aA aj,aA λq=>o q.1]
   · rw[Py,vlN,r,ha,aA aj,g,uA Y hn,aD ⟨o,rfl⟩]
   rw[Py,vlN,r,ha,aA aj,g,hb,aA (λq=>by cases q.2)]
 rw[<-Py];clear Py;obtain⟨pr,f⟩:=Ea c.aL;obtain⟨gr,b⟩:=Ea c.grade;rw[<-f,<-b]at Qf;rw[<-f]at Hz HBL Qx;rw[<-b]at IT;rw[<-f,<-b];have HPR:=hid f;clear f b;go_enter func63,ntmps63;go_upto_region 1 with fail
 refine iU (F:=Code.wp _ _ _ _) λg g=>?_;have E:=A g.a;go_upto_region 2 with(go_at_call 106;refine(Qf.o _ (-1) g.b).mono ?_;rintro e r ⟨aa,am,rfl,L,hb⟩;have H1:=hid<|Aa L<|Aa hb<|aG hb g.a;clear L hb E)
 have HB1:=hid<|aq g.b H1.b;go_wp2_with fail;go_loopw[6] (λiv wr=>∃n:Nat,n<=ζ D/\iv=G n/\J ((range n).all (VP P c)=N'/\Bl r wr)) (λiv _=>ζ D-(intOf iv).toNat)
 case atStart=>exact⟨0,bm,rfl,rfl,aQ⟩
 obtain⟨n,hn,rfl,HK⟩:=hrel;have gW:=hid<|aq HB1.o HK.A;have E:=A<|aG gW.o s.a;have B:=A<|aG HK.A H1.B;by_cases n8:n<ζ D
 · have jy:(n:Int)<(ζ D:Int):=I
   obtain⟨x,F⟩:=La (l:=c.nodes) (i:=n) (by rw[s.c];exact n8);have O3:eg c (-1) n=gC x (-1):=by rw[eg,Ct.at,getD,F];rfl
   obtain⟨b5,o5,NO,NG,No,NB,TZ,d0,d1,NP⟩:=H1.a.below HK.A n (gC x (-1)) (by rw[a!,F];rfl);subst TZ;rw[<-O3]at NP;have NX:=hid<|Aa d0<|Aa d1 NP;clear F O3 d0 d1 NP;go_upto_region 6 with(go_at_call 71;refine(Hz.o _ n (-1) _ _ gW.o<|H1.a.below HK.A).mono ?_;rintro e Y ⟨oT,a2,n2,m2,rfl,l,hb⟩;have g:=hid<|Aa l hb;clear l hb E B)
   refine iU (F:=Code.wp _ _ _ _) λU HU=>?_;have Ci:J (Below wr.1.size wr U/\U.1[δ Y.1]?=z' _/\cR U oT a2 n2 m2 (P.say pr n<|eg c (-1))/\U.1[δ w.1]?=z' _):=⟨aq g.A HU.b,HU.a,g.a.below HU.b,aG (aq g.A HU.b)<|aG HK.A H1.B⟩;generalize δ Y.1=qe at Ci|-;obtain⟨t,j⟩:=Ea<|VP P c n
   have HC:J (∀W,Bl U W->Cl 72 #[G pr,j'<|fe oT a2 n2 m2,j'<|fe NO NG No NB] W (Rb W<|h' t)):=λW hW=>by
     have e:t=t? pr (P.say pr n<|eg c (-1)) (eg c (-1) n):=by rw[j,VP,HPR.o]
     rw[e];exact HBL.o W oT NO a2 NG n2 m2 No NB _ _ (Ci.c.below hW) ((NX.B.below Ci.a).below hW) (Qx.A n (-1))<|Qx.a (-1) n
   have HN1:J (t=O'->vl=7):=λq=>IT.a n n8<|j.symm.trans q;have HT:J (t=N'->(range<|n+1).all (VP P c)=N'):=λq=>by rw[ew,HK.a,<-j,q];rfl
   clear j;refine wp_region_held_drew (S:=λW'=>Bl U W') M aQ.drew λaC=>?_;refine tq 0 (m'<|cV w.1.size) ?_;refine tr 1 (G pr) (λW' aW=>(A<|aG aW Ci.C).1) ?_;refine tr 2 (j'<|fe oT a2 n2 m2) (λW' aW=>(A<|aG aW Ci.b).1) ?_;refine tq 3 (kW b5 o5 (ζ D) am) ?_;refine tq 4 (G n) ?_;refine tq 5 (m'<|z'<|O b5<|o5+n*2) ?_;refine tr 6 (j'<|fe NO NG No NB) (λW' aW=>Aa (aB (aB NX.a Ci.a) aW)<|aB (aB NX.b Ci.a) aW) ?_;refine r1 7 λK hK=>?_;go_simp;refine(HC.o _ aQ.drew).mono ?_;rintro e Z ⟨rfl,hb⟩;have HZ:J (Bl U Z):=aq aQ.drew hb;clear hb;refine hK.out _ _ HZ.o λaC=>?_;clear hK K;refine pt ?_;refine tq 8 (h' t) ?_;refine wpAnyH_done M ?_ _;clear aC;cases t
   · go_wp2_with fail
     go_ret;exact⟨by rw[HN1.o<|by trivial];rfl,aq gW.o<|aq Ci.a HZ.o⟩
   go_wp2_with fail;go_roundw
   case rel=>exact⟨n+1,n8,e',HT.o<|by trivial,aq HK.A<|aq Ci.a HZ.o⟩
   exact F'
 have jy:¬(n:Int)<(ζ D:Int):=I;obtain rfl:n=ζ D:=I;have Iz:=hid<|Aa gW.o<|Aa (aG HK.A H1.B) HK.a;go_wp2_with fail;generalize wr=g at Iz|-;go_loopw[9] (λiv wr=>∃n:Nat,n<=ζ D/\iv=G n/\J ((0<n->gr=1)/\(range n).all (rE P c)=N'/\Bl g wr)) (λiv _=>ζ D-(intOf iv).toNat)
 case atStart=>exact⟨0,bm,rfl,λq=>I,rfl,aQ⟩
 obtain⟨n,hn,rfl,HK⟩:=hrel;have gW:=hid<|aq Iz.a HK.B;have E:=A<|aG gW.o s.a;have B:=A<|aG HK.B Iz.b;by_cases n8:n<ζ D;rotate_left
 · have jy:¬(n:Int)<(ζ D:Int):=I
   obtain rfl:n=ζ D:=I;go_wp2_with fail;go_ret
   refine⟨?_,gW.o⟩;have g:vl=0:=by
     by_cases o:gr=1
     · exact(IT.B Iz.B o).2 HK.b
     exact IT.b Iz.B o
   rw[g];rfl
 have jy:(n:Int)<(ζ D:Int):=I;by_cases o:gr=1;rotate_left
 · have g:(gr==1)=O':=H' o
   go_wp2_with fail;go_ret;exact⟨by rw[IT.b Iz.B o];rfl,gW.o⟩
 subst o;have F:c.nodes[n]?=z' (c.at n):=by rw[Ct.at,getD,bj<|by rw[s.c];exact n8];rfl
 have f:=aO F;obtain⟨b,o,fa,ra,va,fc,rc,vc,rfl,c0,c1,c2,u,c4,c5⟩:=s.b.below gW.o n _ F;obtain⟨a3,a4⟩:=s.d.rk _ f;have h8:=s.d.h8 _ f;have g:(c.at n).aF=O'->rE P c n=N':=λq=>by rw[rE,q];rfl
 have MM:J ((c.at n).aF=N'->rE P c n=(t? pr (gC (c.at n) ((c.at n).rank+1)) (P.say pr n<|eg c (c.at n).rank)&&(range<|ζ (c.at n).aM).all (erV P c n))):=λq=>by rw[rE,q,HPR.o];rfl
 have C:=hid g;have H8:J (∀q:(range<|ζ D).all (VP P c)=N',rE P c n=O'->vl=8):=λq e=>(IT.B q rfl).1 n n8 e;have Lo:J (∀W,Below wr.1.size wr W->Cl 107 #[j' #[g' fa (ζ (c.at n).facts) fc,g' ra (ζ (c.at n).bf) rc,h' (c.at n).aF,G (c.at n).rank,g' va (ζ (c.at n).aM) vc],G ((c.at n).rank+1)] W (H? W<|gC (c.at n) ((c.at n).rank+1))):=λW hW=>Bo fa ra va _ fc _ rc vc _ _ W (c5.aM.below hW) h8;have Qb:=hid<|Aa c5.aM<|s.d.ln _ f;have We:=hid<|s.d.ok _ f;clear F f c5 g;obtain⟨F,f⟩:=Ea<|ζ (c.at n).aM;rw[<-f]at Lo c4 MM h8;have Q1:=hid f;clear f;generalize(c.at n).facts.length=fl at Lo c0;generalize(c.at n).bf.length=rl at Lo c1;generalize(c.at n).aF=rd at C MM Lo Qb c2;generalize(c.at n).rank=f at MM Lo a3 a4 u;go_upto_region 13 with fail
 clear c0 c1 c2 u c4 E B;refine iU (F:=Code.wp _ _ _ _) λT g=>?_;have B:J (True/\T.1[δ wr.1]?=z' _/\T.1[δ w.1]?=z' _/\Bl w T):=⟨trivial,g.a,aG g.b<|aG HK.B Iz.b,aq gW.o g.b⟩;have Mk:=hid g.b;generalize δ wr.1=xb at B|-;have E:=A B.b;cases rd
 · go_wp2_with fail
   go_roundw
   case rel=>exact⟨n+1,n8,e',λ_=>by trivial,by rw[ew,HK.b,C.o<|by trivial];rfl,aq HK.B Mk.o⟩
   exact F'
 go_upto_region 14 with fail
 clear E;obtain⟨tb,N⟩:=Ea T.1.size;have qt:J (∀W,Below tb T W↔Below T.1.size T W):=λW=>by rw[N]
 clear N;refine wp_region_held_drew (S:=λW'=>Below tb T W') M ((qt.o _).2 aQ.drew) λaC=>?_;refine tq 0 (xV pb) ?_;refine tq 1 (m'<|cV w.1.size) ?_;refine tr 2 (G pr) (λW' aW=>(A<|aG ((qt.o _).1 aW) B.c).1) ?_;refine tq 3 (G n) ?_;refine tr 4 (j' #[G pr,G 1,g' (z'<|O b o) (ζ D) nc]) (λW' aW=>(A<|aG ((qt.o _).1 aW) B.c).1) ?_;refine tq 5 (qx xb) ?_;refine tr 6 (G f) (λW' aW=>(A<|aG ((qt.o _).1 aW) B.b).1) ?_;refine wpAnyH_ready (rs:=[7,9]) M ak ?_;refine AllReadyH.cons rfl (λK hK=>?_) (AllReadyH.cons rfl (λK hK=>?_) AllReadyH.nil)
 all_goals first
  | (
   go_simp;refine(Qf.o _ f B.C.drew).mono ?_;rintro e Y1 ⟨a1,m1,rfl,L,hb⟩;have HE:J (vh Y1 a1 (c.nodes.map λx=>gC x f)/\Below T.1.size T Y1):=⟨L,aq aQ.drew hb⟩;clear L hb;refine hK.out _ _ ((qt.o _).2 HE.A) λaC=>?_;clear hK K;refine pt ?_;refine wpAnyH_ready (rs:=[8,9]) M ak ?_;refine AllReadyH.cons rfl (λK hK=>?_) (AllReadyH.cons rfl (λK hK=>?_) AllReadyH.nil)
   all_goals first
    |(
     go_simp;refine(Hz.o _ n f _ _ (aq B.C HE.A) HE.a).mono ?_;rintro e Y2 ⟨oT,a2,n2,m2,rfl,l,hb⟩;have HS:J (cR Y2 oT a2 n2 m2 (P.say pr n<|eg c f)/\Below T.1.size T Y2):=⟨l,aq HE.A hb⟩;clear l hb;refine hK.out _ _ ((qt.o _).2 HS.A) λaC=>?_;clear hK K;refine pt ?_;refine r1 9 λK hK=>?_;go_simp;refine hK.out _ _ ((qt.o _).2<|aq HS.A bA) λaC=>?_;clear hK K;refine pt ?_;clear aC;refine iU (F:=λV=>wpAnyH _ _ _ _ _ _ _ _ V) λZ tS=>?_;have HZ:J (Z.1[δ Y2.1]?=z' kV/\cR Z oT a2 n2 m2 (P.say pr n<|eg c f)/\Below T.1.size T Z/\δ T.1<=δ Y2.1):=⟨tS.a,HS.a.below tS.b,aq HS.A tS.b,HS.A.size⟩;generalize δ Y2.1=qe at HZ|-
    )
    |(
     go_simp;refine hK.out _ _ ((qt.o _).2<|aq HE.A bA) λaC=>?_;clear hK K;refine pt ?_;clear aC;refine iU (F:=λV=>wpAnyH _ _ _ _ _ _ _ _ V) λY3 tS=>?_;have aC:=(qt.o _).2<|aq HE.A tS.b;refine r1 8 λK hK=>?_;go_simp;refine(Hz.o _ n f _ _ (aq B.C<|aq HE.A tS.b)<|HE.a.below tS.b).mono ?_;rintro e Z ⟨oT,a2,n2,m2,rfl,l,hb⟩;have HZ:J (Z.1[δ Y1.1]?=z' kV/\cR Z oT a2 n2 m2 (P.say pr n<|eg c f)/\Below T.1.size T Z/\δ T.1<=δ Y1.1):=⟨aG hb tS.a,l,aq (aq HE.A tS.b) hb,HE.A.size⟩;clear l hb;refine hK.out _ _ ((qt.o _).2 HZ.c) λaC=>?_;clear hK K;refine pt ?_;clear aC;generalize δ Y1.1=qe at HZ|-
    ))
  |(
   go_simp;refine hK.out _ _ ((qt.o _).2 (cf T _).drew) λaC=>?_;clear hK K;refine pt ?_;clear aC;refine TY (F:=λV=>wpAnyH _ _ _ _ _ _ _ _ V) λY3 tS=>?_;have aC:=(qt.o _).2 tS.A;refine r1 7 λK hK=>?_;go_simp;refine(Qf.o _ f<|aq B.C tS.A).mono ?_;rintro e Y1 ⟨a1,m1,rfl,L,hb⟩;have HE:J (vh Y1 a1 (c.nodes.map λx=>gC x f)/\Below T.1.size T Y1/\Y1.1[δ T.1]?=z' kV):=⟨L,aq tS.A hb,aG hb tS.a⟩;clear L hb;refine hK.out _ _ ((qt.o _).2 HE.b) λaC=>?_;clear hK K;refine pt ?_;refine r1 8 λK hK=>?_;go_simp;refine(Hz.o _ n f _ _ (aq B.C HE.b) HE.a).mono ?_;rintro e Z ⟨oT,a2,n2,m2,rfl,l,hb⟩;have HZ:J (Z.1[δ T.1]?=z' kV/\cR Z oT a2 n2 m2 (P.say pr n<|eg c f)/\Below T.1.size T Z/\δ T.1<=δ T.1):=⟨aG hb HE.B,l,aq HE.b hb,aK⟩;clear l hb;refine hK.out _ _ ((qt.o _).2 HZ.c) λaC=>?_;clear hK K;refine pt ?_;clear aC;obtain⟨qe,XB⟩:=Ea T.1.size;have Wl:=hid XB;have YH:J (Z.1[qe]?=z' kV/\cR Z oT a2 n2 m2 (P.say pr n<|eg c f)/\Below T.1.size T Z/\δ T.1<=qe):=by rw[XB];exact HZ.o
   rw[<-XB];clear XB;have HZ:=YH
   )
 all_goals
   have aC:=(qt.o _).2 HZ.c;refine r1 10 λK hK=>?_;obtain⟨k1,k2⟩:=A HZ.a;go_simp;refine hK.out _ _ ((qt.o _).2 ((HZ.c.setCell HZ.C _).setCell HZ.C _)) λaC=>?_;clear k1 k2;clear hK K;refine pt ?_;refine wpAnyH_done M ?_ _;clear aC
 all_goals
   refine XR (F:=λV=>Exit.then _ _ _ _ V) HZ.a λU HU=>?_;have g:=HZ.C;have Ci:J (U.1[qe]?=z' _/\cR U oT a2 n2 m2 (P.say pr n<|eg c f)/\Below T.1.size T U/\U.1[xb]?=z' _/\U.1[δ w.1]?=z' _):=⟨HU.a,HU.C HZ.b,HU.c HZ.c g,aG (HU.c HZ.c g) B.b,aG (HU.c HZ.c g) B.c⟩;clear g;go_upto_region 15 with fail
   have g:=k4 (x:=f+1) (b:=1) (by unfold aN;simp;omega) aj aj;rw[Lr]at g;refine wp_region_held_drew (S:=λW'=>Bl U W') M aQ.drew λaC=>?_;refine tq 0 (m'<|cV w.1.size) ?_;refine tr 1 (G pr) (λW' aW=>(A<|aG aW Ci.D).1) ?_;refine tr 2 (j' #[g' fa fl fc,g' ra rl rc,h' N',G f,g' va F vc]) (λW' aW=>(A<|aG aW Ci.d).1) ?_;refine tq 3 (qx xb) ?_;refine tr 4 (G f) (λW' aW=>(A<|aG aW Ci.d).1) ?_;refine tq 5 (G<|f+1) ?_;refine tr 7 (j'<|fe oT a2 n2 m2) (λW' aW=>(A<|aG aW Ci.a).1) ?_;refine r1 6 λK hK=>?_;go_simp;refine(Lo.o _<|aq Mk.o<|aq Ci.c aQ.drew).mono ?_;rintro e Y4 ⟨NM,a6,n6,m6,rfl,l,hb⟩;have L1:J (cR Y4 NM a6 n6 m6 (gC (c.at n)<|f+1)/\Bl U Y4):=⟨l.at,aq aQ.drew hb⟩;clear l hb;refine hK.out _ _ L1.A λaC=>?_;clear hK K;refine pt ?_;obtain⟨t,j⟩:=Ea<|t? pr (gC (c.at n)<|f+1)<|P.say pr n<|eg c f;have HC:J (∀W,Bl Y4 W->Cl 72 #[G pr,j'<|fe NM a6 n6 m6,j'<|fe oT a2 n2 m2] W (Rb W<|h' t)):=λW hW=>by rw[j];exact HBL.o W NM oT a6 a2 n6 m6 n2 m2 _ _ (L1.a.below hW) ((Ci.b.below L1.A).below hW) (by have:=We.o<|f+1;rwa[<-HPR.o]at this)<|Qx.A n f
   have HL2:J (rE P c n=(t&&(range F).all (erV P c n))):=by rw[j];exact MM.o (by trivial)
   clear j;refine r1 8 λK hK=>?_;go_simp;refine(HC.o _ aQ).mono ?_;rintro e Z2 ⟨rfl,hb⟩;have YH:J (Bl U Z2):=aq L1.A hb;clear hb;refine hK.out _ _ YH.o λaC=>?_;clear hK K;refine pt ?_;refine tq 9 (h' t) ?_;refine wpAnyH_done M ?_ _;clear aC;have IS:J (Bl w Z2/\Z2.1[xb]?=z' _/\Z2.1[δ w.1]?=z' _/\Below T.1.size T Z2):=⟨aq B.C<|aq Ci.c YH.o,aG YH.o Ci.d,aG YH.o Ci.D,aq Ci.c YH.o⟩;cases t
   · go_wp2_with fail
     go_ret;exact⟨by rw[H8.o Iz.B<|by rw[HL2.o];rfl];rfl,IS.a⟩
   go_wp2_with fail;go_loopw[13] (λf wr=>∃j:Nat,j<=F/\f=G j/\J ((range j).all (erV P c n)=N'/\Bl Z2 wr)) (λf _=>F-(intOf f).toNat)
   case atStart=>exact⟨0,bm,rfl,rfl,aQ⟩
   obtain⟨j,f,rfl,N⟩:=hrel;have E:=A<|aG N.A IS.b;by_cases hlj:j<F;rotate_left
   · have acE:¬(j:Int)<F:=I
     obtain rfl:F=j:=I;go_wp2_with fail;go_roundw
     case rel=>exact⟨n+1,n8,e',λ_=>by trivial,by rw[ew,HK.b,HL2.o,N.a];rfl,aq HK.B<|aq Mk.o<|aq IS.C N.A⟩
     exact F'
   have acE:(j:Int)<F:=I;obtain⟨v,hv⟩:=La (l:=(c.at n).aM) (i:=j) (by rw[<-Q1.o];exact hlj);obtain⟨b6,o6,Tu,c0,c1,c2,u,c4,c5⟩:=(Qb.a.below<|aq Mk.o<|aq IS.C N.A) j v hv;subst Tu;have f:erV P c n j=(!v.bY||zB (P.say pr n<|eg c v.rank) j):=by rw[erV,hv,<-HPR.o]
   have YQ:=hid f;have SO:=hid c5;clear f hv c0 c1 c2 c4 c5;generalize v.rank=rv at YQ SO;cases f:v.bY
   · rw[f]at u YQ
     go_wp2_with fail;go_roundw
     case rel=>exact⟨j+1,hlj,e',by rw[ew,N.a,YQ.o];rfl,N.A⟩
     exact F'
   rw[f]at u YQ;clear f;go_upto_region 22 with fail
   clear u E;have YJ:J (Bl w wr/\wr.1[xb]?=z' _/\wr.1[δ w.1]?=z' _):=⟨aq IS.a N.A,aG N.A IS.b,aG N.A IS.c⟩;obtain⟨tc,u⟩:=Ea wr.1.size;have qt:J (∀W,Below tc wr W↔Below wr.1.size wr W):=λW=>by rw[u]
   clear u;refine wp_region_held_drew (S:=λW'=>Below tc wr W') M ((qt.o _).2 aQ.drew) λaC=>?_;refine tq 0 (xV pb) ?_;refine tq 1 (m'<|cV w.1.size) ?_;refine tr 2 (G pr) (λW' aW=>(A<|aG ((qt.o _).1 aW) YJ.B).1) ?_;refine tq 3 (G n) ?_;refine tr 4 (j' #[G pr,G 1,g' (z'<|O b o) (ζ D) nc]) (λW' aW=>(A<|aG ((qt.o _).1 aW) YJ.B).1) ?_;refine tq 5 (m'<|z'<|O xb 4) ?_;refine tr 6 (kW b6 o6 F vc) (λW' aW=>(A<|aG ((qt.o _).1 aW) YJ.b).1) ?_;refine tq 7 (G j) ?_;refine tq 8 (m'<|z'<|O b6<|o6+j*6) ?_;refine tq 9 (m'<|z'<|O b6<|o6+j*6+5) ?_;refine tr 10 (G rv) (λW' aW=>aB SO.o ((qt.o _).1 aW)) ?_;refine wpAnyH_ready (rs:=[11,13]) M ak ?_;refine AllReadyH.cons rfl (λK hK=>?_) (AllReadyH.cons rfl (λK hK=>?_) AllReadyH.nil)
   all_goals first
    | (
     go_simp;refine(Qf.o _ rv YJ.a.drew).mono ?_;rintro e Y1 ⟨a1,m1,rfl,L,hb⟩;have HE:J (vh Y1 a1 (c.nodes.map λx=>gC x rv)/\Below wr.1.size wr Y1):=⟨L,aq aQ.drew hb⟩;clear L hb;refine hK.out _ _ ((qt.o _).2 HE.A) λaC=>?_;clear hK K;refine pt ?_;refine wpAnyH_ready (rs:=[12,13]) M ak ?_;refine AllReadyH.cons rfl (λK hK=>?_) (AllReadyH.cons rfl (λK hK=>?_) AllReadyH.nil)
     all_goals first
      |(
       go_simp;refine(Hz.o _ n rv _ _ (aq YJ.a HE.A) HE.a).mono ?_;rintro e Y2 ⟨oT,a2,n2,m2,rfl,l,hb⟩;have HS:J (cR Y2 oT a2 n2 m2 (P.say pr n<|eg c rv)/\Below wr.1.size wr Y2):=⟨l,aq HE.A hb⟩;clear l hb;refine hK.out _ _ ((qt.o _).2 HS.A) λaC=>?_;clear hK K;refine pt ?_;refine r1 13 λK hK=>?_;go_simp;refine hK.out _ _ ((qt.o _).2<|aq HS.A bA) λaC=>?_;clear hK K;refine pt ?_;clear aC;refine iU (F:=λV=>wpAnyH _ _ _ _ _ _ _ _ V) λZ tS=>?_;have HZ:J (Z.1[δ Y2.1]?=z' kV/\cR Z oT a2 n2 m2 (P.say pr n<|eg c rv)/\Below wr.1.size wr Z/\δ wr.1<=δ Y2.1):=⟨tS.a,HS.a.below tS.b,aq HS.A tS.b,HS.A.size⟩;generalize δ Y2.1=qe at HZ|-
      )
      |(
       go_simp;refine hK.out _ _ ((qt.o _).2<|aq HE.A bA) λaC=>?_;clear hK K;refine pt ?_;clear aC;refine iU (F:=λV=>wpAnyH _ _ _ _ _ _ _ _ V) λY3 tS=>?_;have aC:=(qt.o _).2<|aq HE.A tS.b;refine r1 12 λK hK=>?_;go_simp;refine(Hz.o _ n rv _ _ (aq YJ.a<|aq HE.A tS.b)<|HE.a.below tS.b).mono ?_;rintro e Z ⟨oT,a2,n2,m2,rfl,l,hb⟩;have HZ:J (Z.1[δ Y1.1]?=z' kV/\cR Z oT a2 n2 m2 (P.say pr n<|eg c rv)/\Below wr.1.size wr Z/\δ wr.1<=δ Y1.1):=⟨aG hb tS.a,l,aq (aq HE.A tS.b) hb,HE.A.size⟩;clear l hb;refine hK.out _ _ ((qt.o _).2 HZ.c) λaC=>?_;clear hK K;refine pt ?_;clear aC;generalize δ Y1.1=qe at HZ|-
      ))
    |(
     go_simp;refine hK.out _ _ ((qt.o _).2 (cf wr _).drew) λaC=>?_;clear hK K;refine pt ?_;clear aC;refine TY (F:=λV=>wpAnyH _ _ _ _ _ _ _ _ V) λY3 tS=>?_;have aC:=(qt.o _).2 tS.A;refine r1 11 λK hK=>?_;go_simp;refine(Qf.o _ rv<|aq YJ.a tS.A).mono ?_;rintro e Y1 ⟨a1,m1,rfl,L,hb⟩;have HE:J (vh Y1 a1 (c.nodes.map λx=>gC x rv)/\Below wr.1.size wr Y1/\Y1.1[δ wr.1]?=z' kV):=⟨L,aq tS.A hb,aG hb tS.a⟩;clear L hb;refine hK.out _ _ ((qt.o _).2 HE.b) λaC=>?_;clear hK K;refine pt ?_;refine r1 12 λK hK=>?_;go_simp;refine(Hz.o _ n rv _ _ (aq YJ.a HE.b) HE.a).mono ?_;rintro e Z ⟨oT,a2,n2,m2,rfl,l,hb⟩;have HZ:J (Z.1[δ wr.1]?=z' kV/\cR Z oT a2 n2 m2 (P.say pr n<|eg c rv)/\Below wr.1.size wr Z/\δ wr.1<=δ wr.1):=⟨aG hb HE.B,l,aq HE.b hb,aK⟩;clear l hb;refine hK.out _ _ ((qt.o _).2 HZ.c) λaC=>?_;clear hK K;refine pt ?_;clear aC;obtain⟨qe,XB⟩:=Ea wr.1.size;have Wl:=hid XB;have YH:J (Z.1[qe]?=z' kV/\cR Z oT a2 n2 m2 (P.say pr n<|eg c rv)/\Below wr.1.size wr Z/\δ wr.1<=qe):=by rw[XB];exact HZ.o
     rw[<-XB];clear XB;have HZ:=YH
     )
   all_goals
     have aC:=(qt.o _).2 HZ.c;refine r1 14 λK hK=>?_;obtain⟨k1,k2⟩:=A HZ.a;go_simp;refine hK.out _ _ ((qt.o _).2 ((HZ.c.setCell HZ.C _).setCell HZ.C _)) λaC=>?_;clear k1 k2;clear hK K;refine pt ?_;refine wpAnyH_done M ?_ _;clear aC
   all_goals
     refine XR (F:=λV=>Exit.then _ _ _ _ V) HZ.a λb HU=>?_;have KV:J (b.1[qe]?=z' _/\cR b oT a2 n2 m2 (P.say pr n<|eg c rv)/\Below wr.1.size wr b):=⟨HU.a,HU.C HZ.b,HU.c HZ.c HZ.C⟩;obtain⟨sy,u⟩:=Ea<|P.say pr n<|eg c rv;have NU:=Qx.A n rv;rw[<-u]at KV YQ NU;clear u;have E:=A KV.a;have OK:J (zB sy j=O'->vl=8):=λq=>H8.o Iz.B (by rw[HL2.o,eN];exact uA (by rw[YQ.o,q];rfl) hlj);cases sy with
     |none=>obtain rfl:oT=N':=KV.b;exact ZN
     |some vs=>
       obtain⟨TE,Vz,hvv,_⟩:=KV.b;have Py:=(NU vs rfl).1;have hlv:F=P.nv:=Q1.o.trans (Qb.A<|by trivial);obtain⟨u,hu⟩:=La (l:=vs) (i:=j) I;obtain⟨b,b,Uv,d0,d1,d2⟩:=hvv j u hu;have b:(j:Int)<n2:=I;have O0:zB (z' vs) j=u.any:=by show(vs.getD j _).any=_;rw[getD,hu];rfl
       rw[O0]at YQ OK;subst TE Uv;clear NU Py hlv hu d1 d2 hvv O0 Vz;cases b:u.any
       .rw[b]at d0 OK;exact ZN
       rw[b]at d0 YQ;go_wp2_with fail;go_roundw
       case rel=>exact⟨j+1,hlj,e',by rw[ew,N.a,YQ.o];rfl,aq N.A KV.B⟩
       exact F'
end Go.Proofs.YtmipbiligijcpaaGreatDoor
