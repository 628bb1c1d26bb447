import Derived.Test.YtmipbiligijcpaaGreatDoorA12
import Derived.Test.YtmipbiligijcpaaGreatDoorA14
namespace Go.Proofs.YtmipbiligijcpaaGreatDoor
set_option linter.all false
set_option maxHeartbeats 0
set_option maxRecDepth 99999
open Go.RowKit Go.Shelf Go.Proofs Go.Maps Tryz List open List renaming length->ζ,toArray->θ open _root_.Array renaming size->δ open World renaming setCell->κ,ownsRow->ρ,cell?->χ,grownBy->ξ open Value renaming ownBlock->φ open Value renaming slice->g',bool->h',agg->j',pointer->m',tuple->o' open Obj renaming cells->i' open Ending renaming returned->n' open Option renaming some->z',none->A' open Bool renaming true->N',false->O'
variable {n:Nat}
section
variable {y:List BS}{f x:Nat}{R:RS}{P:Pm}{p:Int}
def kf(rs:List<|List Int)(i f:Nat):Int:=(rs.getD i []).getD f 0
structure Vm(P:Pm)(p:Int)(R:RS)(s:Nat×List (List Int))(hs:List BS)(wt:BS):Prop where
  rl:ζ s.2=ζ P.nd
  rows:∀r∈s.2,ζ r=68
  low:∀i f,f<128->bt (cT hs i) f=N'->f<P.facts p
  snd:∀i,i<ζ P.nd->bt wt i=O'->K2 (fI (lx R (cT hs) i)<|cT hs i)=N'
  rk:∀i f,i<ζ P.nd->f<128->bt (cT hs i) f=N'->0<=kf s.2 i f/\kf s.2 i f<s.1/\P.rule p f i (λm=>bt (cT hs m) f&&decide (kf s.2 m f<kf s.2 i f))=N'
  fJ:s.1+muS hs<=ζ P.nd*128
def M4(N i:Nat):cT (replicate N (0,0)) i=(0,0):=by rw[cT,bN,j!];split<;>rfl
def afZ:ef (0,0)=[]:=by rw[uV,I0];intro f _;rw[j3];simp
def W?(N:Nat):muS (replicate N (0,0))=N*128:=by
 rw[muS,qR,afZ];induction N with
 |zero=>rfl
 |succ n B=>rw[gM,kS,B];simp;omega
def K1{m:Nat}(h:bt (cT y m) f=N'):m<ζ y:=by
 rcases j8 m (ζ y) with C|C
 .exact C
 rw[show cT y m=(0,0)by rw[cT,bN,cq C];rfl,j3]at h;cases h
def Ok{b a:Nat->BS}(h:∀r,R[n]?=z' r->∀e∈r.2,b e.1=a e.1):lx R b n=lx R a n:=by
 unfold lx;cases a:R[n]? with
 |none=>rfl
 |some r=>simp only[Z7];congr 2;refine eQ λe l=>?_;rw[h r a e l]
def wR(h:Es P p R)(X:∀i f,f<128->bt (cT y i) f=N'->f<P.facts p)(K:n<ζ P.nd)(Y:f<128):bt (lx R (cT y) n) f=(decide (f<P.facts p)&&P.rule p f n λm=>bt (cT y m) f):=
 Wa h (λm f C a=>by
  cases b:bt (cT y m) f with
  |false=>rfl
  |true=>have:=X m f a b;omega) K Y
def pY{z:BS}(F:x<ζ y)(i:Nat):cT (y.set x z) i=if x=i then z else cT y i:=mS y x i z (0,0) F
def Fv{y:List (List Int)}{r:List Int}(F:x<ζ y)(i f:Nat):kf (y.set x r) i f=if x=i then r.getD f 0 else kf y i f:=by rw[kf,mS y x i r [] F];split<;>rfl
def snS(h:Es P p R):SnS R (ζ P.nd) (R? R<|ζ P.nd) nxR (Vm P p R) (0,replicate (ζ P.nd)<|replicate 68 0):=by
 have T:=h.ins.most;refine⟨?_,?_,?_⟩
 .refine⟨ak,λr t=>by rw[fB t];simp,λi f _ o=>?_,λi S o=>?_,λi f _ _ o=>?_,?_⟩
  .rw[M4,j3]at o;cases o
  .rw[vV _ _ I I]at o;simp at o;omega
  .rw[M4,j3]at o;cases o
  rw[W?];simp
 .intro s y c x g u F o;have d:=u.low x F;refine⟨g.rl,g.rows,g.low,λi S B=>?_,g.rk,g.fJ⟩;by_cases e:i=x
  .subst e;exact o
  refine g.snd i S ?_;rw[lU (jF I) I,rP I I]at B;simpa[e]using B
 intro s y c x g u F o;have d:=u.low x F;have q:x<ζ y:=by rw[u.len];exact d
 have w:x<ζ s.2:=by rw[g.rl];exact d
 have E:=iR u.each x;have k:=Js h.ins (iR u.each) x;have z:∀f,f<128->bt (lx R (cT y) x) f=N'->f<P.facts p:=λf Y o=>by rw[wR h g.low d Y,aY]at o;simpa using o.1
 have b:=MN q E o;have j:∀f,f<128->(f∈ef (fI (fU (cT y x)<|lx R (cT y) x)<|cT y x)↔bt (lx R (cT y) x) f=N'/\bt (cT y x) f=O'):=λf Y=>by rw[df _ po,lU E Y,iy];cases bt (cT y x) f<;>cases bt (lx R (cT y) x) f<;>simp[Y]
 have l:∀f,f<P.facts p->f<ζ (s.2.getD x []):=λf Y=>by have C:=g.rows (s.2.getD x []) (by rw[bN,bj w];exact eG w);have L:=h.few;omega
 have D:∀i f,f<128->bt (cT y i) f=N'->kf (nxR s x (cT y x)<|fU (cT y x)<|lx R (cT y) x).2 i f=kf s.2 i f:=λi f Y a=>by
  show kf (s.2.set x _) i f=_;rw[Fv w];split
  .rename_i e;subst e;rw[yi _ _ _ _<|l f<|g.low _ f Y a,aA (λK=>by rw[((j f Y).1 K).2]at a;cases a)];rfl
  rfl
 have N:∀i f,bt (cT y i) f=N'->bt (cT (y.set x<|fU (cT y x)<|lx R (cT y) x) i) f=N':=λi f a=>by
  rw[pY q];split
  .rename_i e;subst e;rw[iy,a];rfl
  exact a
 refine⟨by simp[nxR];exact g.rl,λr t=>?_,λi f Y a=>?_,λi S B=>?_,λi f S Y a=>?_,?_⟩
 .rcases gJ t with t|rfl
  .exact g.rows r t
  rw[sw];exact g.rows _ (by rw[bN,bj w];exact eG w)
 .rw[pY q]at a;split at a
  .rw[iy,eZ]at a;rcases a with a|a
   .exact g.low x f Y a
   exact z f Y a
  exact g.low i f Y a
 .have t:=C8 (R:=R) T x;rw[iy,lX,lU (jF I) I,rP I I,Ec _ _ _ _ I (λm f Y=>?_) _ I]at B;rotate_left
  .rw[bN,a!]at Y;cases t:R[m]? with
   |none=>rw[t]at Y;simp at Y
   |some r=>rw[t]at Y;simp at Y;obtain⟨b,o⟩:=Y;exact((h.ins.each r<|aO t).2.2 _ o).2
  have b:lx R (cT<|y.set x<|fU (cT y x)<|lx R (cT y) x) i=lx R (cT y) i:=by
   refine Ok λr t e o=>?_;rw[pY q,aA];intro c;have L:=B.2;rw[show decide (i<ζ P.nd)=N' by simpa using S,eN]at L;have:x∈(R.map λr=>r.2.map (·.1)).getD i []:=by rw[bN,a!,t];exact bG.2 ⟨e,o,c.symm⟩
   simp at L;exact L<|H' this
  rw[b];by_cases e:x=i
  .subst e;rw[pY q,aD rfl];exact(yO<|ib E k).2 λf _ a=>by rw[iy,a];simp
  rw[pY q,aA e];refine g.snd i S ?_;have C:=B.1;simpa[show ¬i=x from λb=>e b.symm]using C
 .have v:∀r:Int,∀m,(bt (cT y m) f&&decide (kf s.2 m f<r))=N'->(bt (cT (y.set x<|fU (cT y x)<|lx R (cT y) x) m) f&&decide (kf (nxR s x (cT y x)<|fU (cT y x)<|lx R (cT y) x).2 m f<r))=N':=λr m V=>by rw[aY]at V|-;rw[D m f Y V.1];exact⟨N m f V.1,V.2⟩
  cases Q:bt (cT y i) f with
  |true=>obtain⟨C,L,N⟩:=g.rk i f S Y Q;rw[D i f Y Q];exact⟨C,by show _<((s.1+1:Nat):Int);omega,mI (v _) N⟩
  |false=>
   rw[pY q]at a;split at a;rotate_left
   .rw[Q]at a;cases a
   rename_i e;subst e;rw[iy,Q,ko]at a;have t:kf (nxR s x (cT y x)<|fU (cT y x)<|lx R (cT y) x).2 x f=s.1:=by show kf (s.2.set x _) x f=_;rw[Fv w,aD rfl,yi _ _ _ _<|l f<|z f Y a,aD ((j f Y).2 ⟨a,Q⟩)]
   rw[t];refine⟨I,by show _<((s.1+1:Nat):Int);omega,mI (th:=λm=>bt (cT y m) f) (λm V=>v s.1 m ?_) ?_⟩
   .rw[aY,V];exact⟨rfl,by simpa using(g.rk m f (by have:=K1 V;rwa[u.len]at this) Y V).2.1⟩
   rw[wR h g.low d Y,aY]at a;exact a.2
 show s.1+1+_<=_;have:=g.fJ;omega
end
section
variable {X W9 W:p'}{B e size i:Nat}{v:y'}{D:List y'}{q b:Option Nat}{l r:List NE}{x:NE}
structure JF(N nb i:Nat)(U:p')(l:List NE)(cur:NE)(W:p'):Prop where
  dy:W.1[nb]?=z' (i' (θ<|jm<|l++cur::replicate (N-(i+1)) MF) 96 (0,0))
  own:zU W U.1.size cur
  EF:φ cur.fv=A'\/φ cur.fv≠φ cur.rv
  kx:Kx (λk=>k=nb) U W
def sP(h:ρ X B e size v n D)(g:ξ X W9 q)(Q:φ v=A'\/φ v≠q):ρ W9 B e size v n D:=by
 refine⟨h.1,?_⟩;rcases h.2 with a|⟨q,b,cur,C,f,c,d⟩
 .exact aP a
 refine aR ⟨q,b,cur,C,f,(g.block q (blt c) λe=>?_).trans c,d⟩;rw[C]at Q;rcases Q with Q|Q
 .simp[Value.ownBlock]at Q
 exact Q (by rw[<-e];rfl)
def sO{b o t:Nat}{u:y'}{L:Array y'}(h:ρ W B e size v n D)(c:W.1[b]?=z' (cU L t))(a:e≠t):ρ (κ W (O b o) u) B e size v n D:=by
 have D:=dV h c a;refine⟨h.1,?_⟩;rcases h.2 with a|⟨q,b,cur,C,c,e,d⟩
 .exact aP a
 refine aR ⟨q,b,cur,C,c,?_,d⟩;rw[aJ (by rintro rfl;exact D<|by rw[C];rfl)];exact e
def G5{W:p'}{g:y'}(h:ρ X B e size v n D)(Q:φ v=A'\/φ v≠q)(K:φ g=q\/φ g=z' X.1.size):φ v=A'\/φ v≠φ g:=by
 rcases K with K|K
 .rw[K];exact Q
 rcases Q with Q|Q
 .exact aP Q
 refine aR λe=>?_;rw[K]at e;have:=(h.lt _ e).2;omega
def J!{a:Option Nat}(h:a=A'\/a≠b):b=A'\/b≠a:=by
 rcases h with rfl|h
 .cases b with
  |none=>exact aP rfl
  |some k=>exact aR ak
 exact aR λe=>h e.symm
def at_len(h:ζ l=i):(l++x::r)[i]?=z' x:=by subst h;simp
def L7{y:NE}(h:ζ l=i):(l++x::r).set i y=l++y::r:=by subst h;simp
def MV{U T:p'}{nb:Nat}(h:Kx (λk=>k=nb) U W)(a:Bl W T)(g:ξ T W9 b)(X:∀q,q<δ U.1->some q≠b):Kx (λk=>k=nb) U W9:=
 ⟨(g.os.trans a.os).trans h.os,(g.tape.trans a.tape).trans h.tape,(g.output.trans a.output).trans h.output,bX h.size<|bX a.size g.size,λk b K=>((g.block k (eh b<|bX h.size a.size)<|X k b).trans<|a.block k<|eh b h.size).trans<|h.keep k b K⟩
section
variable {N nb i:Nat}{U W T W9:p'}{l:List NE}{cur:NE}{a9:t'}{c9:Nat}
def JF.low(h:JF N nb i U l cur W){q:Nat}(a:ρ T U.1.size 3 1 v n D)(b:q<δ U.1):some q≠φ v:=λe=>by have:=(a.lt q e.symm).1;omega
def JF.facts(h:JF N nb i U l cur W)(X:ζ l=i)(e:Bl W T)(f:Nat)(F:ξ T W9<|φ cur.fv)(k:ρ W9 U.1.size 3 1 (g' a9 (ζ cur.fs+1) c9) (ζ cur.fs+1)<|cur.fs.map GG++[GG f])(K:φ (g' a9 (ζ cur.fs+1) c9)=φ cur.fv\/φ (g' a9 (ζ cur.fs+1) c9)=z' T.1.size)(b:nb<δ U.1):
  JF N nb i U l ⟨a9,c9,cur.fs++[f],cur.ra,cur.rc,cur.rs⟩ (κ W9 (O nb<|i*5)<|g' a9 (ζ cur.fs+1) c9):=by
 have c:=aZ h.own.f e;have a:=aZ h.own.r e;have w:W9.1[nb]?=_:=(F.block nb (blt<|aG e h.dy)<|h.low c b).trans<|aG e h.dy;have d:=sP a F<|J! h.EF;refine⟨?_,⟨?_,sO d w aj⟩,?_,?_⟩
 .rw[H w,cj];congr 3;have:=uI (l++cur::replicate (N-(i+1)) MF) i cur ⟨a9,c9,cur.fs++[f],cur.ra,cur.rc,cur.rs⟩ 0 (g' a9 (ζ cur.fs+1) c9) (at_len X) I (by simp[ME]);rwa[L7 X]at this
 .have:=sO (o:=i*5) (u:=g' a9 (ζ cur.fs+1) c9) k w aj;simpa[NE.fv]using this
 .have:=J!<|G5 (W:=W) a (J! h.EF) K;simpa[NE.fv,NE.rv]using this
 exact oY (MV h.kx e F λq a=>h.low c a) _ _
def JF.bf(h:JF N nb i U l cur W)(X:ζ l=i)(e:Bl W T)(r:Int)(F:ξ T W9<|φ cur.rv)(k:ρ W9 U.1.size 3 1 (g' a9 (ζ cur.rs+1) c9) (ζ cur.rs+1)<|cur.rs.map G++[G r])(K:φ (g' a9 (ζ cur.rs+1) c9)=φ cur.rv\/φ (g' a9 (ζ cur.rs+1) c9)=z' T.1.size)(b:nb<δ U.1):
  JF N nb i U l ⟨cur.fa,cur.fc,cur.fs,a9,c9,cur.rs++[r]⟩ (κ W9 (O nb<|i*5+1)<|g' a9 (ζ cur.rs+1) c9):=by
 have c:=aZ h.own.f e;have a:=aZ h.own.r e;have w:W9.1[nb]?=_:=(F.block nb (blt<|aG e h.dy)<|h.low a b).trans<|aG e h.dy;have d:=sP c F h.EF;refine⟨?_,⟨sO d w aj,?_⟩,?_,?_⟩
 .rw[H w,cj];congr 3;have:=uI (l++cur::replicate (N-(i+1)) MF) i cur ⟨cur.fa,cur.fc,cur.fs,a9,c9,cur.rs++[r]⟩ 1 (g' a9 (ζ cur.rs+1) c9) (at_len X) I (by simp[ME]);rwa[L7 X]at this
 .have:=sO (o:=i*5+1) (u:=g' a9 (ζ cur.rs+1) c9) k w aj;simpa[NE.rv]using this
 .have:=G5 (W:=W) c h.EF K;simpa[NE.fv,NE.rv]using this
 exact oY (MV h.kx e F λq b=>h.low a b) _ _
def JF.Sx{p:List NE->NE->Prop}{β:Type}{q:β->NE->Prop}:OwnFrom U.1.size λ(s:β) W=>∃cur,JF N nb i U l cur W/\q s cur:=by
 rintro s a B d ⟨cur,h,r⟩ b m
 have Q:∀{v:y'} {n:Nat} {D:List y'},ρ a U.1.size 3 1 v n D->φ v=A'\/φ v≠d:=fun {v n D} s=>by
  cases R:φ v with
  |none=>exact aP rfl
  |some k=>refine aR λe=>?_;obtain⟨_,o,C,j⟩:=m k e.symm;obtain⟨c,f,c⟩:=eK s k R;rw[c]at C;cases C;cases j
 have F:Kx (λk=>d=z' k) a B:=⟨b.os,b.tape,b.output,b.size,λk g K=>b.block k g λe=>K e.symm⟩;refine⟨cur,⟨F.box h.dy λe=>?_,⟨sP h.own.f b<|Q h.own.f,sP h.own.r b<|Q h.own.r⟩,h.EF,?_⟩,r⟩
 .obtain⟨_,o,C,j⟩:=m nb e;rw[h.dy]at C;cases C;cases j
 exact⟨b.os.trans h.kx.os,b.tape.trans h.kx.tape,b.output.trans h.kx.output,bX h.kx.size b.size,λk g K=>(b.block k (eh g h.kx.size) λe=>I' ((m k e.symm).1)).trans<|h.kx.keep k g K⟩
end
end
section
attribute [local go_sem] Oper.semAt_some
def FnS(P:Pm)(p:Int)(l:List NE):Prop:=ζ l=ζ P.nd/\∃s hs,Vm P p (P.rs p) s hs (0,0)/\ζ hs=ζ P.nd/\(∀t∈hs,b! t)/\∀i e,l[i]?=z' e->e.fs=ef (cT hs i)/\e.rs=(ef<|cT hs i).map (kf s.2 i)
def aaj{X:p'}{q:Nat}{a:y'}{t:TypeId}(h:X.1[q]?=z' (i' #[a] t (0,0))):∀(j:Nat)(u:y'),[a][j]?=z' u->χ X (((O q 0):Addr).add j)=z' u:=by intro j u f;rw[dY,bH,(A h).1];simpa using f
def vN{W c:p'}{B e size n:Nat}{v:y'}{D:List y'}(d:ρ W B e size v n D)(b:ξ W c<|φ v):KeepsOthers W c:=by refine⟨b.size,λk o a T=>(b.block k (blt a) λe=>?_).trans a⟩;obtain⟨c,f,h⟩:=eK d k e.symm;rw[h]at a;cases a;cases T
structure WrS(P:Pm)(p:Int)(s:Nat×List (List Int))(hs:List BS)(N nb:Nat)(W8:p')(l:List NE)(i:Nat)(W:p'):Prop where
  len:ζ l=i
  dy:W.1[nb]?=z' (i' (θ<|jm<|l++replicate (N-i) MF) 96 (0,0))
  own:∀e∈l,zU W W8.1.size e
  say:∀j e,l[j]?=z' e->e.fs=ef (cT hs j)/\e.rs=(ef<|cT hs j).map (kf s.2 j)
  kx:Kx (λk=>k=nb) W8 W
def WrS.z!{P:Pm}{p:Int}{s:Nat×List (List Int)}{y:List BS}{N m i:Nat}{a W d:p'}{l:List NE}{X:Nat->Prop}(h:WrS P p s y N m a l i W)(K:m<δ a.1)(b:Kx X W d)(g:∀k,X k->δ a.1<=k)(T:∀{k},X k->(W.1[k]?).any (·.isCells)=O'):WrS P p s y N m a l i d:=by
 have c:¬X m:=λe=>by have:=g m e;omega
 refine⟨h.len,b.box h.dy c,λe o=>?_,h.say,⟨b.os.trans h.kx.os,b.tape.trans h.kx.tape,b.output.trans h.kx.output,bX h.kx.size b.size,λk c j=>(b.keep k (eh c h.kx.size) λe=>I'<|g k e).trans<|h.kx.keep k c j⟩⟩
 have f:∀{v:y'} {n:Nat} {D:List y'},ρ W a.1.size 3 1 v n D->ρ d a.1.size 3 1 v n D:=fun {v n D} a=>by
  refine⟨a.1,?_⟩;rcases a.2 with a|⟨g,c,Y,C,i,N,d⟩
  .exact aP a
  refine aR ⟨g,c,Y,C,i,b.box N λF=>?_,d⟩;have:=T F;rw[N]at this;cases this
 exact⟨f (h.own e o).f,f (h.own e o).r⟩
def DN(g cap pb:Nat)(nl:List NC)(P:Pm)(p:Int)(pa:t')(m pc:Nat)(w:p')(hP:PM w g cap nl P)(B:cN P)(hx:ζ P.nx=ζ P.nd)(C:∀n∈P.nd,nF<|jx n)(U:1<=p/\p<=4)(hT:lV w)(L:jC w pb<|g' pa m pc)(hpb:pb<δ w.1):
  Cl 90 #[je g (ζ P.nd) cap P.nv,G p,g' pa m pc] w λe w'=>∃nb l,e=n' (cG nb<|ζ P.nd)/\jG w.1.size w' nb (l.map uJ)/\FnS P p l/\Below w.1.size w w':=by
 have o:=R0 B hx U;have hm:=B.most;have uR:=B.pos;have HS:=hid λW hW=>Ou g cap nl P p W (hP.below hW) B C U;have H0:=hid<|Aa o<|Aa hT L;have hgl:=dW<|hT 0 aj;obtain⟨N,R⟩:=Ea<|ζ P.nd;obtain⟨nv,u⟩:∃nv,nv=P.nv:=⟨_,rfl⟩;obtain⟨fc,b⟩:=Ea<|P.facts p;rw[<-R,<-u,<-b]at HS;rw[<-R]at hm uR|-;rw[<-u];have HN:=hid R;obtain⟨i1,hi,D,F,E⟩:=cI Xr;have HJ:J (_/\_/\_/\_):=⟨hi,D,F,E⟩;obtain⟨i2,z,r,s,f⟩:=cI tg;have EG:J (_/\_/\_/\_):=⟨z,r,s,f⟩;clear hP B hx C U hT L o R u b hi D F E z r s f;simp only[je,du]at HS|-;refine(j? (n:=6)).1 ?_;refine callsIn_of_wp_marks func90 rfl trivial ?_ rfl;simp only[ntmps90,kT,bU,eY,Nat.reduceAdd,Nat.reduceSub,qX,qW,qV,qU,gg,fW];refine oe.2 ?_;go_upto_region 1 with(fail)
 refine qo (F:=Code.wp _ _ _ _) λW0 U=>?_;obtain⟨E,x2⟩:=A U.b;go_upto_region 2 with(go_at_call 150;refine(HS.o _ U.a).mono ?_;rintro e W1 ⟨rb,rfl,(H1:J _)⟩;clear E x2)
 refine qo (F:=Code.wp _ _ _ _) λF R=>?_;have D:=aq H1.A R.a;obtain⟨E,x2⟩:=A<|aG D U.b;go_upto_region 3 with(at_make;refine gL _ rfl (.tmp 24) (.tmp 24) 263 rfl F.1.size 272 i1 _ 68 underlying263 HJ.a HJ.b HJ.c .i64 .i64 N N N rfl rfl rfl rfl (by rw[HJ.C];omega) (by unfold maxLen;omega) ak ?_;intro z f b;have HO:=hid<|Aa f b;clear f b)
 have HM:J (z.1[δ F.1]?=z' (i' (θ<|sF<|replicate N<|replicate 68 0) 272 (0,0))/\Below F.1.size F z):=by have h1:=HO.a;rw[dF _ 68 (by simp[Value.cells]) N]at h1;refine⟨?_,aQ.grown HO.A aK (λq e=>by cases e)⟩;rw[(eJ h1).1,<-Ua];rfl
 clear HO E x2;refine qo (F:=Code.wp _ _ _ _) λW4 BC=>?_;go_upto_region 4 with(fail)
 refine qo (F:=Code.wp _ _ _ _) λC HB5=>?_
 have l23:=blt HM.a;have b45:=HB5.a;have b35:=aq BC.a b45;have B:=aq HM.A b35;have hz4:=BC.B;have f5:=HB5.b;rw[hz4]at f5|-;have hz5:=blt f5;have hw2:=eh (blt U.b) D.size;have ag7:=blt R.b;have HC:J (CkR (δ z.1+1) z.1.size F.1.size N (0,replicate N<|replicate 68 0) C):=⟨f5,aG b45 BC.b,aG b35 HM.a,ak,λr hr=>by rw[fB hr];simp⟩;have VI:J (Cl 151 #[du rb N,g' pa m pc,.func (.func 152) #[] #[m'<|z'<|O (δ z.1+1) 0,m'<|z'<|O z.1.size 0]] C λe w'=>∃s hs,e=n' (g' (z'<|O (δ C.1+1+1) 0) N N)/\b' w' (δ C.1+1+1) (θ<|di hs) 267/\CkR (δ z.1+1) z.1.size F.1.size N s w'/\Kx (λk=>k=δ z.1+1\/k=δ z.1\/k=δ F.1) C w'/\Vm P p (P.rs p) s hs (0,0)/\ζ hs=N/\∀s∈hs,b! s):=by
  have hI:=H0.a.ins;have hSn:=snS H0.a;rw[<-HN.o]at hI hSn;refine OA (λk=>k=δ z.1+1\/k=δ z.1\/k=δ F.1) (CkR (δ z.1+1) z.1.size F.1.size N) rb W0.1.size N 152 pb (P.rs p) _ pa m pc C nxR (Vm P p<|P.rs p) _ (λW hW=>?_) hI uR hSn ⟨λk hk=>I,?_,?_,I,I,I,λxs w=>Tryz.call152 xs w,?_⟩ (H0.b.below<|aq U.a<|aq D B) (H0.B.keep λo u h=>aB h<|aq U.a<|aq D B) HC.o
  .refine vg.below H1.a ((aq R.a B).trans<|hW.below (I' R.a.size) λk hk=>I)
  .rintro s W k o T (h|h|h) hk
   .subst h;rw[T.c]at hk;cases hk;rfl
   .subst h;rw[T.x]at hk;cases hk;rfl
   subst h;rw[T.r]at hk;cases hk;rfl
  .intro s W W' T h;exact⟨(h _<|aP rfl).trans T.c,(h _<|aR<|aP rfl).trans T.x,(h _<|aR<|aR rfl).trans T.r,T.len,T.each⟩
  intro s hs wt W x hI2 hS hx hb T hT;have Ty:=hS.low x hx;have hho:=iR hS.each x;have hsa:=Js hI (iR hS.each) x;refine KE (δ z.1+1) z.1.size F.1.size N x s _ _ W T hT Ty hm hho (ib hho hsa) (λf hf=>?_) (by have:=hI2.fJ;rw[<-HN.o]at this;omega) I I I I;obtain⟨h1,h2⟩:=(df _ (ib hho hsa) f).1 hf;rw[iy,eZ]at h2;have T:=H0.a.few;rcases h2 with h2|h2
  .have:=hI2.low x f h1 h2;omega
  rw[wR H0.a hI2.low (by rw[<-HN.o];exact Ty) h1,aY]at h2;have:f<P.facts p:=H' h2.1;omega
 have hsb:=aG B R.b;obtain⟨E,x2⟩:=A hsb;simp only[du]at VI;go_upto_region 5 with(go_at_call 151;refine VI.o.mono ?_;rintro e W6 ⟨s,hs,rfl,T,a2,b,Y,X,a6⟩;have L:=hid<|Aa T<|Aa a2<|Aa b<|Aa Y<|Aa X a6;clear T a2 b Y X a6 E x2)
 go_upto_region 6 with(at_make;refine gL _ rfl (.tmp 31) (.tmp 31) 46 rfl W6.1.size 96 i2 _ 5 underlying46 EG.a EG.b EG.c .i64 .i64 N N N rfl rfl rfl rfl (by rw[EG.C];omega) (by unfold maxLen;omega) ak ?_;intro Y T b;have HO:=hid<|Aa T b;clear T b)
 have X:J (Y.1[δ W6.1]?=z' (i' (θ<|jm<|replicate N MF) 96 (0,0))/\Below W6.1.size W6 Y):=by have h1:=HO.a;rw[dF _ 5 (by simp[Value.cells]) N]at h1;refine⟨?_,aQ.grown HO.A aK (λq e=>by cases e)⟩;rw[(eJ h1).1,<-XU];rfl
 clear HO;refine qo (F:=Code.wp _ _ _ _) λW8 T=>?_;have b:=aq X.A T.a;have hW6:=L.c;have l67:=blt X.a;have l56:=hW6.size;have lhb:=blt L.a;have h78:=T.B;have H8:J (Below w.1.size w W8/\b' W8 (δ C.1+1+1) (θ<|di hs) 267/\CkR (δ z.1+1) z.1.size F.1.size N s W8/\b' W8 W6.1.size (θ<|jm<|replicate N MF) 96/\b' W8 Y.1.size #[g' (cV W6.1.size) N N] 46):=by refine⟨?_,aG b L.a,⟨aG b L.b.c,aG b L.b.x,aG b L.b.r,L.b.len,L.b.each⟩,aG T.a X.a,T.b⟩;have b05:=aq U.a<|aq D B;exact(b05.trans ((hW6.below (B:=δ w.1) (I' b05.size) λk hk=>I))).trans<|b.mono<|I' b05.size
 have HT8:=hid<|H0.b.below H8.a
 have AT:J (Vm P p (P.rs p) s hs (0,0)/\ζ hs=N/\(∀t∈hs,b! t)/\∀i,∀f∈ef (cT hs i),f<68):=⟨L.d,L.e,L.E,λi f hf=>by
  obtain⟨h1,h2⟩:=(df _ (iR L.E i) f).1 hf;have:=L.d.low i f h1 h2;have:=H0.a.few
  omega⟩
 have ag4:=(aq U.a<|aq D B).size;have hw7:δ w.1<δ W6.1:=I;have l78:δ Y.1<δ W8.1:=I;have k1:δ z.1+1<δ W6.1:=I;clear U R BC HB5 HM X T H1 L VI HC HS D B b35 b45 b hsb f5 hW6 hz4 h78;generalize b:δ C.1+1+1=hb at *;generalize B:δ z.1+1=cb at *;generalize δ z.1=xb at *;generalize δ F.1=kb at *;generalize δ W6.1=nb at *;generalize δ Y.1=nx at *;have z:cb≠xb:=I;have z:cb≠kb:=I;have z:xb≠kb:=I;have z:xb<nb:=I;have z:kb<nb:=I;clear b B;go_wp2_with fail;generalize o' #[j'<|eu rb N,G fc]=q1;generalize j' (eu rb N)=q2;generalize j' (fC g N cap nv)=q3;generalize Value.func (.func 152) #[] (r9 cb xb)=q4;generalize m' (cV W1.1.size)=q5;generalize m' (cV w.1.size)=q6;generalize G fc=q7;generalize g' pa m pc=q8 at *;generalize G p=q9;generalize g' (z'<|O g 0) N cap=q10;generalize g' (z'<|O kb 0) N N=q11;refine(oe (n:=6)).1 ?_;refine wpIn_loop (λa' wr=>∃(i:Nat)(Ds:List Nat)(u13 u14 u15 u36 u37 u38 u39 u40 u41 u42 u43 u44 u45 u46 u47 u48 Z0 ZO XN IM ID Iv It Is Im Hi Hd GS GP GC GB u64 GA DO DD C3 CR CI CE CC BY:y'),(i<=N/\J (∃l,WrS P p s hs N nb W8 l i wr/\NZ W8.1.size Ds wr))/\a'={tmps:=#[q3,q9,q8,q6,undef,undef,g' A' 0 0,q5,q7,m'<|z'<|O xb 0,m'<|z'<|O cb 0,g' (z'<|O hb 0) N N,m'<|z'<|O nx 0,u13,u14,u15,q1,q3,q9,q1,q2,q7,q6,q10,G N,q11,q2,q8,q4,g' (z'<|O hb 0) N N,g' (z'<|O hb 0) N N,G N,g' (z'<|O nb 0) N N,g' (z'<|O hb 0) N N,G N,G i,u36,u37,u38,u39,u40,u41,u42,u43,u44,u45,u46,u47,u48,Z0,ZO,XN,IM,ID,Iv,It,Is,Im,Hi,Hd,GS,GP,GC,GB,u64,GA,DO,DD,C3,CR,CI,CE,CC,BY],defers:=Ds.map mkD}) (λa' _=>N-(intOf<|a'.tmps.getD 35 undef).toNat) ?_ ?_
 .exact⟨0,[],_,_,_,_,_,_,_,_,_,_,_,_,_,_,_,_,_,_,_,_,_,_,_,_,_,_,_,_,_,_,_,_,_,_,_,_,_,_,_,_,_,⟨bm,[],⟨rfl,H8.d,(λe h=>by cases h),(λj e h=>by simp at h),vf⟩,NZ.nil _ _⟩,rfl⟩
 rintro a' wr ⟨i,Ds,u13,u14,u15,u36,u37,u38,u39,u40,u41,u42,u43,u44,u45,u46,u47,u48,Z0,ZO,XN,IM,ID,Iv,It,Is,Im,Hi,Hd,GS,GP,GC,GB,u64,GA,DO,DD,C3,CR,CI,CE,CC,BY,⟨hi,R⟩,rfl⟩;by_cases n8:i<N;rotate_left
 .have jy:¬(i:Int)<N:=I;have hie:i=N:=I;subst hie;obtain⟨l,B,b⟩:=R.o;obtain⟨E,x2⟩:=A (B.kx.box H8.D<|show ¬nx=nb by omega)
  gi_wp2
  go_wp2_with fail;refine sY (B:=δ W8.1) (λW=>WrS P p s hs i nb W8 l i W) ?_ ?_ Ds wr b B
  .intro X D h hD hX;have g:=grownBy_putObj' X D<|.deferred A';have hx:Kx (λk=>k=D) X (X.putObj D<|.deferred A'):=⟨g.os,g.tape,g.output,g.size,λk hk m=>g.block k hk λe=>m (by cases e;rfl)⟩;exact h.z! I hx (λk e=>I) (λh2=>by subst h2;rw[hX];rfl)
  intro X h;refine⟨g' (z'<|O nb 0) i i,by simp[results90,go_sem],nb,l,rfl,?_,?_,H8.a.trans<|h.kx.below (I' H8.a.size) λk e=>I⟩
  .have:=h.dy;rw[oh,replicate_zero,iE]at this;exact O? this h.own (I' H8.a.size) I
  exact⟨h.len.trans HN.o,s,hs,AT.a,AT.b.trans HN.o,AT.c,h.say⟩
 have jy:(i:Int)<N:=I;obtain⟨l,B,b⟩:=R.o;have L:=B.len;obtain⟨c0,c1,_,_⟩:=ig (B.kx.box H8.b<|show ¬hb=nb by omega) (k:=i) (by rw[AT.b];exact n8);rw[show hs.getD i (0,0)=cT hs i from rfl]at c0 c1;have g:=B.kx.size;have hti:=iR AT.c i;have H68:=hid<|AT.C i;obtain⟨t,U⟩:=Ea<|cT hs i;rw[<-U]at c0 c1 hti H68;have g:=hid λX=>En t X;have HL:=hid<|Aa B<|Aa b U;simp only[cW]at g;clear B b U R
 gi_upto_region 9 with(fail)
 refine gnB (F:=λV=>Code.wpIn _ _ _ _ _ _ V) λV B=>?_;obtain⟨E,x2⟩:=A B.c
 gi_wp2_with (refine⟨trivial,?_⟩;gi_at_call 154;refine(j?.2<|g.o _).mono ?_;rintro e F ⟨rfl,rfl⟩)
 refine qo (F:=λV=>Code.wpIn _ _ _ _ _ _ V) λU g=>?_;have m:=aq B.a g.a;have z:=blt B.c;have z:=m.size;have b:=aG g.a B.b;have z:=blt b;have Qw:J (WrS P p s hs N nb W8 l i U/\NZ W8.1.size Ds U):=⟨HL.a.z! (X:=λ_=>False) I (Kx.of m) (λ_ h=>h.elim) λh=>h.elim,HL.b.keeps<|jU m⟩;have HIB:=hid b;have Hy:=hid (Aa (Qw.a.kx.box H8.D<|show ¬nx=nb by omega)<|Aa (Qw.a.kx.box H8.c.x<|show ¬xb=nb by omega)<|Qw.a.kx.box H8.c.r<|show ¬kb=nb by omega);have R:=HT8.o;have F:=hid<|Qw.a.kx.tab HT8.o I;obtain⟨i0,C,B,m,z⟩:=cI lJ;have AR:J (_/\_/\_/\_):=⟨C,B,m,z⟩;clear b E x2 c0 c1 R C B m z
 refine wpIn_rangeFunc_ownF rfl I (gf:=227) (lb:=(cB V.1.size)) rfl trivial (λxs w=>Tryz.call227 xs w)
  (rS 5 I t V.1.size (0+1) U hti (by rw[(A g.b).1];rfl) (by rw[(A g.b).1];rfl) F.o I I) belowK_t (belowK_b I) aQ (λ_=>rfl)
  (λpre W=>(∃cur,JF N nb i U l cur W/\(cur.fs=vP pre/\cur.rs=(vP pre).map (kf s.2 i)))/\NZ W8.1.size Ds W)
  (λ_ _ _=>False)
  (OwnFrom.and (JF.Sx (p:=λ_ _=>True) (q:=λpre cur=>cur.fs=vP pre/\cur.rs=(vP pre).map (kf s.2 i)))<|Xa Ds λD hD=>blt (Qw.A.at_ D hD).2)
  (λ_ _ _ _ _ hs _ _=>hs)
  ⟨⟨MF,⟨by have:=Qw.a.dy;rwa[show N-i=(N-(i+1))+1 by omega,gM]at this,⟨dj,dj⟩,aP rfl,vf⟩,rfl,rfl⟩,Qw.A⟩
  (λx=>{tmps:=#[q3,q9,q8,q6,undef,undef,g' A' 0 0,q5,q7,m'<|z'<|O xb 0,m'<|z'<|O cb 0,g' (z'<|O hb 0) N N,m'<|z'<|O nx 0,m'<|cV wr.1.size,m'<|z'<|O (δ wr.1+1) 0,G x.1,q1,q3,q9,q1,q2,q7,q6,q10,G N,q11,q2,q8,q4,g' (z'<|O hb 0) N N,g' (z'<|O hb 0) N N,G N,g' (z'<|O nb 0) N N,g' (z'<|O hb 0) N N,G N,G i,h' N',G i,m'<|z'<|O hb<|i*2,j' #[Z t.1,Z t.2],j' #[Z t.1,Z t.2],.func (.func 227) #[]<|cB V.1.size,G x.1,u43,u44,u45,u46,u47,u48,Z0,ZO,XN,IM,ID,Iv,It,Is,Im,Hi,Hd,GS,GP,GC,GB,u64,GA,DO,DD,C3,CR,CI,CE,CC,BY],defers:=[]}) ?assign ?body ?done ?stop
 case assign=>
  intro l x W K hK
  gi_wp2
  exact hK
 case body=>
  rintro lp pre ⟨f,hf⟩ W ⟨⟨cur,b,TP,AS⟩,A9⟩ g;have agJ:=H68.o f hf;have m:(f:Int)<68:=I;have z:ζ cur.fs<128:=by have:=nB t;rw[TP];simp[vP];omega
  have g:ζ cur.rs=ζ cur.fs:=by rw[TP,AS];simp
  have HCR:=hid g;have agN:ζ cur.rs<128:=I;clear g;have g:=b.kx.size;have HJ:=hid<|Aa b<|Aa TP<|Aa AS A9;have HCF:J (∀W':p',b' W' nb (θ<|jm<|l++cur::replicate (N-(i+1)) MF) 96->χ W' (O nb<|i*5)=z' (bk cur.fa (ζ cur.fs) cur.fc)):=λW' h=>by rw[(A h).1,cL];have:=sV _ i cur 0 (at_len (r:=replicate (N-(i+1)) MF) L) I;exact this
  clear b TP AS A9
  gi_wp2
  refine stR (l:=lp) (λW'=>b' W' nx (mG nb N) 46/\b' W' wr.1.size #[G i] 3/\b' W' nb (θ<|jm<|l++cur::replicate (N-(i+1)) MF) 96) 10 (hQ:=by rintro⟨_,_,h⟩;exact h) (hS:=⟨HJ.a.kx.box Hy.a<|show ¬nx=nb by omega,HJ.a.kx.box HIB.o<|show ¬δ wr.1=nb by omega,HJ.a.dy⟩) (h:=λaC=>?_);refine tt 0 (cG nb N) (y:=λW' aW=>by have k1:=(A aW.1).1;clear aC aW;go_simp) (h:=?_);refine tt 1 (G i) (y:=λW' aW=>by have k1:=(A aW.2.1).1;clear aC aW;go_simp) (h:=?_);refine tt 2 (cG nb N) (y:=λW' aW=>by have k1:=(A aW.1).1;clear aC aW;go_simp) (h:=?_);refine tt 3 (G i) (y:=λW' aW=>by have k1:=(A aW.2.1).1;clear aC aW;go_simp) (h:=?_);refine tt 4 (A0 nb i) (h:=?_);refine tt 5 (A0 nb i) (h:=?_);refine tt 6 (bk cur.fa (ζ cur.fs) cur.fc) (y:=λW' aW=>by have k1:=HCF.o _ aW.2.2;clear aC aW;go_simp) (h:=?_);refine tt 7 (G f) (h:=?_);refine rt 8 (h:=λK hK=>?_);go_simp;refine hK.out _ _ (λ_=>⟨aG bA aC.1,aG bA aC.2.1,aG bA aC.2.2⟩) ?_;clear hK K;refine pt ?_;refine aav (F:=λV=>pz _ _ _ _ _ _ _ _ _ V) λT3 E=>?_;have YP:=hid<|aZ HJ.a.own.f E.A;have R:=bX g E.A.size;refine rt 9 (h:=λK hK=>?_);refine gw rfl (.tmp 49) (.tmp 51) 36 rfl U.1.size 3 i0 (G 0) 1 8 underlying36 AR.a AR.b AR.c AR.C rfl aj (bk cur.fa (ζ cur.fs) cur.fc) (ζ cur.fs) (cur.fs.map GG) rfl YP.o (O W.1.size 0) 1 1 [GG f] rfl rfl (aaj E.a) (by intro u hu;rw[j9.1 hu];rfl) (by unfold maxLen;omega) I R ?_;intro g W9 o9 g9 n9;obtain⟨a9,c9,rfl⟩:=aV o9;have TH:∀q,q<δ U.1->some q≠φ (g' cur.fa (ζ cur.fs) cur.fc):=λq hq=>HJ.a.low YP.o hq;have g:∀{q o},q<δ U.1->W.1[q]?=z' o->W9.1[q]?=z' o:=fun {q o} hq h=>(g9.block q (eh hq R)<|TH q hq).trans<|aG E.A h;have H9:=hid<|Aa (g I aC.1)<|Aa (g I aC.2.1)<|g I aC.2.2;refine hK.out _ _ (λ_=>H9.o) ?_;clear hK K;have HJ1:=hid<|HJ.a.facts L E.A f g9 o9 n9 I;have HKO:J (KeepsOthers W<|κ W9 (O nb<|i*5)<|g' a9 (ζ cur.fs+1) c9):=(jU E.A).trans ((vN YP.o g9).trans<|KeepsOthers.setCell _ _ _);clear o9 g9 n9 TH g aC YP E R;refine pt ?_;refine rt 10 (h:=λK hK=>?_);go_simp;refine hK.out _ _ (λh=>absurd h aj) ?_;clear hK K;refine pt ?_;refine rt 11 (h:=λK hK=>?_);go_simp;refine hK.out _ _ (λh=>absurd h aj) ?_;clear hK K;refine pt ?_;refine rt 12 (h:=λK hK=>?_);have k1:=HCF.o _ H9.B;have k2:=(A H9.B).2<|i*5;go_simp;refine hK.out _ _ (λh=>absurd h aj) ?_;clear hK K k1 k2;refine pt ?_;refine dt (h:=?_);generalize κ W9 (O nb<|i*5) (g' a9 (ζ cur.fs+1) c9)=X at *;have hwX:=HJ1.o.kx.size;obtain⟨uY,hcu⟩:=Ea<|NE.mk a9 c9 (cur.fs++[f]) cur.ra cur.rc cur.rs;have AN:J (JF N nb i U l uY X):=by rw[hcu];exact HJ1.o
  obtain⟨r,hr⟩:=Ea<|kf s.2 i f;have m:χ U (O kb<|i*68+f)=z' (G r):=by obtain⟨q,hq⟩:=La (l:=s.2) (i:=i) (by rw[H8.c.len];exact n8);rw[(A Hy.B).1,cL,CV _ i f q H8.c.each hq agJ,hr];rw[kf,show s.2.getD i []=q by rw[bN,hq];rfl]
  have g:uY.ra=cur.ra/\uY.rc=cur.rc/\uY.rs=cur.rs/\uY.fs=cur.fs++[f]:=by rw[hcu];exact⟨rfl,rfl,rfl,rfl⟩
  have HCU:=hid<|Aa g hr;have HCG:J (∀W':p',b' W' nb (θ<|jm<|l++uY::replicate (N-(i+1)) MF) 96->χ W' (O nb<|i*5+1)=z' (bk uY.ra (ζ uY.rs) uY.rc)):=λW' h=>by rw[(A h).1,cL];have:=sV _ i uY 1 (at_len (r:=replicate (N-(i+1)) MF) L) I;exact this
  have o:ζ uY.rs<128:=by rw[g.2.2.1];exact agN
  have o:=hid m;clear hcu g hr HJ1 HCF m H9 HCR
  gi_wp2
  refine stR (l:=lp) (λW'=>b' W' nx (mG nb N) 46/\b' W' wr.1.size #[G i] 3/\b' W' nb (θ<|jm<|l++uY::replicate (N-(i+1)) MF) 96/\b' W' xb (mG kb N) 263/\χ W' (O kb<|i*68+f)=z' (G r)) 15 (hQ:=by rintro⟨_,_,h⟩;exact h) (hS:=⟨AN.o.kx.box Hy.a<|show ¬nx=nb by omega,AN.o.kx.box HIB.o<|show ¬δ wr.1=nb by omega,AN.o.dy,AN.o.kx.box Hy.b<|show ¬xb=nb by omega,AN.o.kx.cell o.o<|show ¬kb=nb by omega⟩) (h:=λaC=>?_);refine tt 0 (cG nb N) (y:=λW' aW=>by have k1:=(A aW.1).1;clear aC aW;go_simp) (h:=?_);refine tt 1 (G i) (y:=λW' aW=>by have k1:=(A aW.2.1).1;clear aC aW;go_simp) (h:=?_);refine tt 2 (cG nb N) (y:=λW' aW=>by have k1:=(A aW.1).1;clear aC aW;go_simp) (h:=?_);refine tt 3 (G i) (y:=λW' aW=>by have k1:=(A aW.2.1).1;clear aC aW;go_simp) (h:=?_);refine tt 4 (A0 nb i) (h:=?_);refine tt 5 (m'<|z'<|O nb<|i*5+1) (h:=?_);refine tt 6 (bk uY.ra (ζ uY.rs) uY.rc) (y:=λW' aW=>by have k1:=HCG.o _ aW.2.2.1;clear aC aW;go_simp) (h:=?_);refine tt 7 (cG kb N) (y:=λW' aW=>by have k1:=(A aW.2.2.2.1).1;clear aC aW;go_simp) (h:=?_);refine tt 8 (G i) (y:=λW' aW=>by have k1:=(A aW.2.1).1;clear aC aW;go_simp) (h:=?_);refine tt 9 (G f) (h:=?_);refine tt 10 (m'<|z'<|O kb<|i*68) (h:=?_);refine tt 11 (m'<|z'<|O kb<|i*68+f) (h:=?_);refine tt 12 (G r) (y:=λW' aW=>by have k1:=aW.2.2.2.2;clear aC aW;go_simp) (h:=?_);refine rt 13 (h:=λK hK=>?_);go_simp;refine hK.out _ _ (λ_=>⟨aG bA aC.1,aG bA aC.2.1,aG bA aC.2.2.1,aG bA aC.2.2.2.1,aB aC.2.2.2.2 bA⟩) ?_;clear hK K;refine pt ?_;refine aav (F:=λV=>pz _ _ _ _ _ _ _ _ _ V) λT3 E=>?_;have YP:=hid<|aZ AN.o.own.r E.A;have R:=bX hwX E.A.size;refine rt 14 (h:=λK hK=>?_);refine gw rfl (.tmp 61) (.tmp 68) 36 rfl U.1.size 3 i0 (G 0) 1 8 underlying36 AR.a AR.b AR.c AR.C rfl aj (bk uY.ra (ζ uY.rs) uY.rc) (ζ uY.rs) (uY.rs.map G) rfl YP.o (O X.1.size 0) 1 1 [G r] rfl rfl (aaj E.a) (by intro u hu;rw[j9.1 hu];rfl) (by unfold maxLen;omega) I R ?_;intro f Y o7 g7 n7;obtain⟨a7,c7,rfl⟩:=aV o7;have TH:∀q,q<δ U.1->some q≠φ (g' uY.ra (ζ uY.rs) uY.rc):=λq hq=>AN.o.low YP.o hq;have f:∀q,q<δ U.1->Y.1[q]?=X.1[q]?:=λq hq=>(g7.block q (eh hq R)<|TH q hq).trans<|E.A.block q<|eh hq hwX;have g:=hid<|Aa ((f nx I).trans aC.1)<|Aa ((f wr.1.size I).trans aC.2.1)<|Aa ((f nb I).trans aC.2.2.1)<|Aa ((f xb I).trans aC.2.2.2.1) ((bh<|f kb I).trans aC.2.2.2.2);refine hK.out _ _ (λ_=>g.o) ?_;clear hK K;have EG:=hid<|AN.o.bf L E.A r g7 o7 n7 I;have HKP:J (KeepsOthers X<|κ Y (O nb<|i*5+1)<|g' a7 (ζ uY.rs+1) c7):=(jU E.A).trans ((vN YP.o g7).trans<|KeepsOthers.setCell _ _ _);clear o7 g7 n7 TH f aC YP E R;refine pt ?_;refine rt 15 (h:=λK hK=>?_);go_simp;refine hK.out _ _ (λh=>absurd h aj) ?_;clear hK K;refine pt ?_;refine rt 16 (h:=λK hK=>?_);go_simp;refine hK.out _ _ (λh=>absurd h aj) ?_;clear hK K;refine pt ?_;refine rt 17 (h:=λK hK=>?_);have k1:=HCG.o _ g.c;have k2:=(A g.c).2<|i*5+1;go_simp;refine hK.out _ _ (λh=>absurd h aj) ?_;clear hK K k1 k2;refine pt ?_;refine dt (h:=?_);generalize κ Y (O nb<|i*5+1) (g' a7 (ζ uY.rs+1) c7)=Y at *
  gi_wp2
  refine⟨HKO.o.trans HKP.o,?_,⟨_,EG.o,?_,?_⟩,HJ.C.keeps<|HKO.o.trans HKP.o⟩
  .exact⟨EG.o.kx.os.trans HJ.a.kx.os.symm,EG.o.kx.tape.trans HJ.a.kx.tape.symm,EG.o.kx.output.trans HJ.a.kx.output.symm,(HKO.o.trans HKP.o).size,λk hk=>(EG.o.kx.keep k I I).trans (HJ.a.kx.keep k I I).symm⟩
  .show uY.fs=_;rw[HCU.a.2.2.2,HJ.b,tp]
  show uY.rs++[r]=_;rw[HCU.a.2.2.1,HJ.c,tp,fq,HCU.A];rfl
 case done=>
  rintro D z W hD hS ⟨⟨cur,b,TP,AS⟩,A9⟩ hK;have f:vP z=ef t:=hS;rw[f]at TP AS
  gi_wp2
  have e:((i:Int)+1)=((i+1:Nat):Int):=I;rw[e];refine⟨?_,?measure⟩;rotate_left
  .simp[intOf];omega
  refine⟨i+1,D::Ds,?_⟩
  (repeat apply Exists.intro)
  refine⟨⟨n8,l++[cur],⟨by simp[L],?_,?_,?_,?_⟩,A9.cons hK I λhm=>I'<|blt (Qw.A.at_ D hm).2⟩,rfl⟩
  .have:=b.dy;rw[fK,I1];exact this
  .intro e f;rcases iF.1 f with f|f
   .exact(Qw.a.own e f).kx b.kx (λk h=>aP h) Qw.a.dy
   rw[j9.1 f];exact⟨c8 b.own.f I,c8 b.own.r I⟩
  .intro j e hj;rcases j8 j (ζ l) with h|h
   .rw[gI h]at hj;exact Qw.a.say j e hj
   rw[eB h]at hj;obtain⟨h1,h2⟩:j-ζ l=0/\cur=e:=by have:=(aX.1 hj).1;simp at this;refine⟨I,?_⟩;rw[show j-ζ l=0 by omega]at hj;simpa using hj
   obtain rfl:j=i:=I;subst h2;rw[<-HL.B];exact⟨TP,AS⟩
  exact Qw.a.kx.trans b.kx
 rintro D c pre W _ _ h _;exact h.elim
end
def jY{α β:Type}{f:α->List β}{b:Nat}:∀(l:List α),(∀x∈l,ζ (f x)<=b)->ζ (l.flatMap f)<=ζ l*b
 |[],_=>ak
 |a::l,h=>by have B:=jY l λx F=>h x (by simp[F]);have D:=h a ak;rw[bW,bg,bU,lZ];omega
def hZ{n k:Nat}(h:n<128 ^ (k+1)):ζ (fJ n)<=k+1:=by
 rcases K0 (k+1) n h with h|h
 .exact h
 omega
def Fx:∀(l:List Nat)(Y:Nat),(∀x∈l,Y<=x/\x<128)->l.Pairwise (·<·)->dI Y (l.map Int.ofNat)=N'
 |[],_,_,_=>rfl
 |a::l,Y,h,hp=>by have D:=h a ak;rw[pairwise_cons]at hp;have B:=Fx l (a+1) (λx F=>⟨hp.1 x F,(h x<|by simp[F]).2⟩) hp.2;have e:((a+1:Nat):Int)=Int.ofNat a+1:=ak;rw[e]at B;simp only[fA,dI,B,xJ,aY,bM];exact⟨G',G'⟩
def zF:∀(l:List Nat)(Y:Nat),(∀x∈l,x<128)->∀d∈eU Y (l.map Int.ofNat),d<128
 |[],_,_=>λd Q=>by cases Q
 |a::l,Y,h=>λd Q=>by
  have D:=h a ak;have e:((a+1:Nat):Int)=Int.ofNat a+1:=ak;rw[fA]at Q;simp only[eU,cM]at Q;rcases Q with rfl|Q
  .simp;omega
  rw[<-e]at Q;exact zF l (a+1) (λx F=>h x<|by simp[F]) d Q
def vS:∀(l:List Int)(fl:Int),ζ (eU fl l)=ζ l
 |[],_=>rfl
 |a::l,fl=>by simp[eU,vS l]
def T9(s:BS):(ef s).Pairwise (·<·):=by rw[uV];exact List.Pairwise.filter _ pairwise_lt_range
def Xt{α:Type}[BEq α][LawfulBEq α]{l:List α}{x:α}(h:x∈l):l[l.idxOf x]?=z' x:=by have:=qu h;rw[bj this,AQ this]
structure YF(P:Pm)(p:Int)(c:Ct):Prop where
  ok:qi c=N'
  small:ζ (kH c)<=60000
  VD:pg P c=0
def SG{P:Pm}{p:Int}{l:List NE}(v:Es P p<|P.rs p)(U:1<=p/\p<=4)(h:FnS P p l):YF P p ⟨p,1,l.map uJ⟩:=by
 obtain⟨L,s,y,q,d,B,c⟩:=h;have w:=v.ins.most;have t:=v.few;have d:=q.fJ;have m:∀x∈l.map uJ,∃i,i<ζ P.nd/\x.facts=(ef<|cT y i).map Int.ofNat/\x.bf=(ef<|cT y i).map (kf s.2 i)/\x.aF=O'/\x.rank=0/\x.aM=[]:=by intro x F;obtain⟨e,Q,rfl⟩:=bG.1 F;obtain⟨i,S⟩:=gF.1 Q;have:=c i e S;have d:=(aX.1 S).1;exact⟨i,I,by simp[uJ,this.1],by simp[uJ,this.2],rfl,rfl,rfl⟩
 have W:∀i,i<ζ P.nd->((⟨p,1,l.map uJ⟩:Ct).at i).facts=(ef<|cT y i).map Int.ofNat/\((⟨p,1,l.map uJ⟩:Ct).at i).bf=(ef<|cT y i).map (kf s.2 i):=by
  intro i S;obtain⟨e,Q⟩:=La (l:=l) (i:=i) I;have:=c i e Q;have V:(⟨p,1,l.map uJ⟩:Ct).at i=uJ e:=by simp[Ct.at,bN,Q]
  rw[V];exact⟨by simp[uJ,this.1],by simp[uJ,this.2]⟩
 have j:∀i f,f∈ef (cT y i)->f<128/\f<P.facts p/\bt (cT y i) f=N':=λi f Y=>by obtain⟨C,k⟩:=(df _ (iR B i) f).1 Y;exact⟨C,q.low i f C k,k⟩
 have u:∀i f,i<ζ P.nd->f<128->((⟨p,1,l.map uJ⟩:Ct).at i).zm f=bt (cT y i) f:=λi f S Y=>by
  rw[Nd.zm,(W i S).1];have:((f:Int)∈(ef<|cT y i).map Int.ofNat)↔bt (cT y i) f=N':=by
   rw[bG];constructor
   .rintro⟨a,ha,e⟩;obtain rfl:a=f:=CG e;exact(j i a ha).2.2
   intro o;exact⟨f,(df _ (iR B i) f).2 ⟨Y,o⟩,rfl⟩
  cases o:bt (cT y i) f with
  |true=>exact eC<|this.2 o
  |false=>exact dp λV=>by rw[this.1 V]at o;cases o
 have z:∀i f,i<ζ P.nd->f∈ef (cT y i)->((⟨p,1,l.map uJ⟩:Ct).at i).oF f=kf s.2 i f:=λi f S Y=>by
  rw[Nd.oF,(W i S).1,(W i S).2];have t:(Int.ofNat f)∈(ef<|cT y i).map Int.ofNat:=bG.2 ⟨f,Y,rfl⟩;have C:=Xt t;rw[a!]at C;cases k:(ef<|cT y i)[((ef<|cT y i).map Int.ofNat).idxOf<|Int.ofNat f]? with
  |none=>rw[k]at C;cases C
  |some g=>rw[k]at C;obtain rfl:g=f:=CG<|H' C;rw[bN,a!];show(Option.map (kf s.2 i) ((ef<|cT y i)[((ef<|cT y i).map Int.ofNat).idxOf<|Int.ofNat g]?)).getD 0=_;rw[k];rfl
 have K:∀i,ζ (ef<|cT y i)<=68:=λi=>by
  rw[uV];have:=DQ (p:=bt<|cT y i) (q:=λf=>decide (f<68)) (range 128) λf Y o=>by have:=q.low i f (cx.1 Y) o;simp;omega
  have k:ζ ((range 128).filter λf=>decide (f<68))=68:=aj;omega
 refine⟨?_,?_,?_⟩
 .simp only[qi,known,aY,bM,b9,bV];refine⟨⟨⟨I,?_⟩,I⟩,λx F=>?_⟩
  .simp;omega
  obtain⟨i,S,C,k,N,R,T⟩:=m x F;simp only[cY,aD U.2,gH,iL,C,k,N,R,T,aY,b9,bM,bV,aD];refine⟨⟨⟨⟨rfl,trivial⟩,rfl⟩,Fx _ 0 (λf Y=>⟨bm,(j i f Y).1⟩)<|T9 _⟩,trivial,λr E=>?_⟩;obtain⟨f,Y,rfl⟩:=bG.1 E;have:=j i f Y;obtain⟨a,b,_⟩:=q.rk i f S this.1 this.2.2;simp only[rk,aY,bM];omega
 .have o:∀x∈l.map uJ,ζ (d! p 1 x)<=300:=λx F=>by
   obtain⟨i,S,C,k,N,R,T⟩:=m x F;have Y:=K i;simp only[d!,aD U.2,setB,C,k,bg,b9];have c:ζ (fJ<|ζ<|ef<|cT y i)<=1:=hZ (k:=0) I
   have X:=jY (f:=dS) (b:=1) (eU 0 ((ef<|cT y i).map Int.ofNat)) λd Q=>hZ (k:=0) (by
    have:=zF (ef<|cT y i) 0 (λf Y=>(j i f Y).1) d Q
    simp;omega)
   have a3:=jY (f:=dS) (b:=2) ((ef<|cT y i).map<|kf s.2 i) λr E=>hZ (k:=1) (by
    obtain⟨f,Y,rfl⟩:=bG.1 E;have:=j i f Y;obtain⟨a,b,_⟩:=q.rk i f S this.1 this.2.2
    simp;omega)
   rw[vS]at X;simp only[b9]at X a3;omega
  have:=jY (f:=d! p 1) (b:=300) (l.map uJ) o;simp only[kH,o4,bg,bU,eY,b9]at this|-;have:ζ (fJ<|ζ l)<=1:=hZ (k:=0) I;omega
 have D:lh P ⟨p,1,l.map uJ⟩=N':=by simp only[lh,aY,bM,b9,bV,aD U.2];refine⟨L,λx F=>?_⟩;obtain⟨i,S,C,k,N,R,T⟩:=m x F;rw[C,N];refine⟨λf Y=>?_,rfl⟩;obtain⟨g,hg,rfl⟩:=bG.1 Y;have:=(j i g hg).2.1;simp;omega
 have x:∀i f,i<ζ P.nd->f<128->pF ⟨p,1,l.map uJ⟩ f (-1) i=bt (cT y i) f:=λi f S Y=>by rw[pF,u i f S Y];simp
 have a:∀i f r,ζ P.nd<=i->pF ⟨p,1,l.map uJ⟩ f r i=O':=λi f r S=>by
  have:(⟨p,1,l.map uJ⟩:Ct).at i=EA:=by simp[Ct.at,bN,cq<|show ζ l<=i by omega]
  rw[pF,this];simp[Nd.zm,EA]
 have c:∀i f,ζ P.nd<=i->bt (cT y i) f=O':=λi f S=>by
  cases o:bt (cT y i) f with
  |false=>rfl
  |true=>have:=K1 o;omega
 have b:Ab P ⟨p,1,l.map uJ⟩=N':=by
  simp only[Ab,bV,cx,eZ,jo];intro f Y n K;have j:f<128:=I
  have e:pF ⟨p,1,l.map uJ⟩ f (-1)=λm=>bt (cT y m) f:=funext λm=>by
   rcases j8 m (ζ P.nd) with h|h
   .exact x m f h j
   rw[a m f _ h,c m f h]
  rw[e];have C:=q.snd n K<|j3 n;have k:=(yO<|iR B n).1 C f j;rw[wR v q.low K j,show decide (f<P.facts p)=N' by simpa using Y,eN]at k;cases E:P.rule p f n λm=>bt (cT y m) f with
  |false=>exact aP rfl
  |true=>exact aR<|k E
 have S:wz P ⟨p,1,l.map uJ⟩=N':=by
  simp only[wz,bV,cx,eZ,jo];intro f Y n K;have j:f<128:=I;rw[x n f K j];cases o:bt (cT y n) f with
  |false=>exact aP rfl
  |true=>
   right;have h:=(df _ (iR B n) f).2 ⟨j,o⟩;obtain⟨C,k,N⟩:=q.rk n f K j o;rw[z n f K h];refine mI (λm w=>?_) N;rw[aY]at w;have s:m<ζ P.nd:=by have:=K1 w.1;omega
   rw[pF,u m f s j,w.1,z m f s ((df _ (iR B m) f).2 ⟨j,w.1⟩)];simp only[eN,eZ];exact aR w.2
 simp only[pg,D,b,S,aD U.2];simp
def B1{P:Pm}(h:cN P)(p:Int):P.facts p<=68:=by
 have:=D4 P.nd 0;have:=h.most;have:=h.nv;have:=rK P;unfold Pm.facts;split
 .omega
 split<;>omega
end Go.Proofs.YtmipbiligijcpaaGreatDoor
