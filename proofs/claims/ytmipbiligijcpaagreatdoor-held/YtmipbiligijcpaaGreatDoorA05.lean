import Derived.Test.YtmipbiligijcpaaGreatDoorA04
import Derived.Sort.CutIn
import Derived.Deep.WholeRow
namespace Go.Proofs.YtmipbiligijcpaaGreatDoor
set_option linter.all false
set_option maxHeartbeats 0
set_option maxRecDepth 99999
open Go.RowKit Go.Proofs Go.Maps Tryz List Go.Shelf open List renaming length->ζ,toArray->θ open _root_.Array renaming size->δ open World renaming setCell->κ,ownsRow->ρ,cell?->χ,setCells->ψ open Value renaming ownBlock->φ open Value renaming slice->h',bool->i',agg->k',string->m',pointer->n',tuple->p' open Obj renaming cells->j' open Ending renaming returned->o' open Option renaming some->C',none->D' open Bool renaming true->P',false->Q'
variable {B N b f k m n:Nat}{h l:Int}{p:Prop}{w:t'}{y:A'}
section
variable {a X b:Option Nat}{u v:t'}{Q:A'}{E:List bD}
def strOf(l:bD):A':=m' ⟨θ l⟩
structure Rp(w:t')(pb B:Nat)(nv xv:A')(vs:List bD)(vb:Option Nat):Prop where
  box:∃vv,w.1[pb]?=C' (j' #[nv,vv,xv] 107 (0,0))/\ρ w B 9 1 vv (ζ vs) (vs.map strOf)/\φ vv=vb
  nodup:vs.Nodup
structure RF(pb:Nat)(vb:Option Nat)(w w':t'):Prop where
  os:w'.os=w.os
  tape:w'.tape=w.tape
  output:w'.output=w.output
  size:δ w.1<=δ w'.1
  block:∀k,k<δ w.1->k≠pb->some k≠vb->w'.1[k]?=w.1[k]?
def mU(w:t')(vb FA:Option Nat):Prop:=FA=vb\/∃k,FA=C' k/\δ w.1<=k
def RF.refl(N:Nat)(a:Option Nat)(w:t'):RF N a w w:=⟨rfl,rfl,rfl,aD _,λ_ _ _ _=>rfl⟩
def RF.trans(h:RF N a u v)(K:mU u a X)(k:RF N X v w):RF N a u w:=by
 refine⟨k.os.trans h.os,k.tape.trans h.tape,k.output.trans h.output,br h.size k.size,λj f C a=>?_⟩;refine(k.block j (ep f h.size) C ?_).trans<|h.block j f C a;rcases K with rfl|⟨q,rfl,b⟩
 .exact a
 simp;omega
def mU.trans{c:Option Nat}(h:mU u a b)(y:δ u.1<=δ v.1)(k:mU v b c):mU u a c:=by
 rcases k with rfl|⟨q,rfl,a⟩
 .exact h
 exact aH ⟨q,rfl,I⟩
def RF.aR{a:t'}(h:Bl w a):RF N b w a:=⟨h.os,h.tape,h.output,h.size,λk a _ _=>h.block k a⟩
def RF.alloc(w:t')(o:Obj):RF N a w (w.alloc o):=RF.aR<|(aP _ _).alloc (aD _) _
def RF.set(h:RF N b u w){a:Addr}(c:δ u.1<=a.block)(v:A'):RF N b u (w.setCell a v):=
 ⟨h.os,h.tape,h.output,by simpa[World.setCell]using h.size,λk a C b=>(bh _ _ _ _ I).trans<|h.block k a C b⟩
def Rp.lt(h:Rp w N B Q y E a):N<δ w.1:=by obtain⟨u,a,_⟩:=h.box;exact(bG.1 a).1
def Rp.vlt(h:Rp w N B Q y E a):∀k,a=C' k->B<=k/\k<δ w.1:=by obtain⟨u,_,b,rfl⟩:=h.box;exact λk a=>b.lt k a
def Rp.jJ{a:t'}(h:Rp w N B Q y E b)(C:a.1[N]?=w.1[N]?)(c:∀k,b=C' k->a.1[k]?=w.1[k]?):Rp a N B Q y E b:=by
 obtain⟨u,b,a,R⟩:=h.box;refine⟨⟨u,C.trans b,⟨a.1,?_⟩,R⟩,h.nodup⟩;rcases a.2 with a|⟨g,b,Y,e,Q,p,d⟩
 .exact aI a
 refine aH ⟨g,b,Y,e,Q,(c g ?_).trans p,d⟩;rw[<-R,e];rfl
def Rp.below{b:t'}(h:Rp w N B Q y E a)(c:Bl w b):Rp b N B Q y E a:=
 h.jJ (c.block N h.lt) (λk a=>c.block k (h.vlt k a).2)
def Rp.alloc(h:Rp w N B Q y E a)(o:Obj):Rp (w.alloc o) N B Q y E a:=h.below<|(aP _ _).alloc (aD _) _
def Rp.set(h:Rp w N B Q y E b){a:Addr}(C:a.block≠N)(c:some a.block≠b)(v:A'):Rp (w.setCell a v) N B Q y E b:=
 h.jJ (bh _ _ _ _<|oh C) (λk a=>bh _ _ _ _ λe=>c<|by rw[a,e])
def mU.ne{g:Nat}(h:mU w a X)(b:g<δ w.1)(R:some g≠a):some g≠X:=by
 rcases h with rfl|⟨q,rfl,a⟩
 .exact R
 simp;omega
def abO(a:z')(l:bD):(a.toList==(ByteArray.mk<|θ l).toList)=(a.1.1==l):=by rw[eT,eT]
def Lb{x:bD}{k:Nat}(Q:E.Nodup)(a:k<ζ E)(b:E[k]=x):E.idxOf x=k:=by
 have d:x∈E:=b▸e9 a;have N:=qW d;have d:=Bp N;rw[nodup_iff_pairwise_ne,pairwise_iff_getElem]at Q;rcases Nat.lt_trichotomy (E.idxOf x) k with h|h|h
 .exact absurd (d.trans b.symm)<|Q _ _ N a h
 .exact h
 exact absurd (b.trans d.symm)<|Q _ _ a N h
end
section
variable {r a c:A'}{E:List bD}{b:Option Nat}
structure Tp(w:t')(pb B:Nat)(lv ev iv:A')(vs:List bD)(vb:Option Nat):Prop where
  box:∃vv,w.1[pb]?=C' (j' #[lv,vv,ev,iv] 103 (0,0))/\ρ w B 9 1 vv (ζ vs) (vs.map strOf)/\φ vv=vb
  nodup:vs.Nodup
def Tp.lt(h:Tp w N B r a y E b):N<δ w.1:=by obtain⟨u,a,_⟩:=h.box;exact(bG.1 a).1
def Tp.vlt{b:A'}{a:Option Nat}(h:Tp w N B r b y E a):∀k,a=C' k->B<=k/\k<δ w.1:=by obtain⟨u,_,c,rfl⟩:=h.box;exact λk a=>c.lt k a
def Tp.jJ{a:t'}(h:Tp w N B r c y E b)(C:a.1[N]?=w.1[N]?)(d:∀k,b=C' k->a.1[k]?=w.1[k]?):Tp a N B r c y E b:=by
 obtain⟨u,b,a,R⟩:=h.box;refine⟨⟨u,C.trans b,⟨a.1,?_⟩,R⟩,h.nodup⟩;rcases a.2 with a|⟨g,b,Y,e,Q,p,m⟩
 .exact aI a
 refine aH ⟨g,b,Y,e,Q,(d g ?_).trans p,m⟩;rw[<-R,e];rfl
def Tp.below{c:t'}(h:Tp w N B r a y E b)(d:Bl w c):Tp c N B r a y E b:=
 h.jJ (d.block N h.lt) (λk a=>d.block k (h.vlt k a).2)
def Tp.alloc(h:Tp w N B r a y E b)(o:Obj):Tp (w.alloc o) N B r a y E b:=h.below<|(aP _ _).alloc (aD _) _
def Tp.set(h:Tp w N B r c y E b){a:Addr}(C:a.block≠N)(d:some a.block≠b)(v:A'):Tp (w.setCell a v) N B r c y E b:=
 h.jJ (bh _ _ _ _<|oh C) (λk a=>bh _ _ _ _ λe=>d<|by rw[a,e])
def Ws.tf{b:t'}{g t:Nat}{a:Option Nat}{R:List z'}(h:Ws w g t R)(U:Tp w N B r c y E a)(c:some g≠a)(Y:RF N a w b):Ws b g t R:=by refine h.of_block<|Y.block g h.lt ?_ c;rintro rfl;obtain⟨u,a,_⟩:=U.box;obtain⟨Y,T,_⟩:=h;rw[T]at a;simp at a
def wX(s:z')(N B:Nat)(lv ev y:A')(E:List bD)(vb:Option Nat)(w:t')(i:ζ E<20000)(i:B<=δ w.1)(i:N<B)(hP:Tp w N B lv ev y E vb)(h0:0<s.size)(X:Wm.mV s[0]=P'):
  Cl 174 (Bv N s) w λe P=>e=o' (G<|fY E s.1.1)/\∃i,Tp P N B lv ev y (cZ E s.1.1) i/\RF N vb w P/\mU w vb i:=by
 obtain⟨u,r,o,z⟩:=hP.box;have Q:J (φ u=vb):=z;clear z;obtain⟨i0,S,D,P,a⟩:=cG Yw;have HI:J (Tryz.prog.info? 9=C' i0/\i0.zero=C' (m' ⟨#[]⟩)/\i0.size=1/\i0.bytes=16):=⟨S,D,P,a⟩;clear S D P a;have U:=hP.lt;have tI:=hP.nodup;obtain⟨q,t,rfl,D⟩:∃q t,u=h' q (ζ E) t/\∀k x,E[k]?=C' x->∃g,q=C' ⟨g,0,D'⟩/\χ w ⟨g,k,D'⟩=C' (strOf x):=by
  rcases o.2 with⟨rfl,h0⟩|⟨g,t,Y,rfl,C,h2,h3,h4,l,c⟩
  .refine⟨D',0,by rw[h0],λk x F=>?_⟩;have:=(aV.1 F).1;omega
  refine⟨_,t,rfl,λk x F=>⟨g,rfl,?_⟩⟩;have hk:=(aV.1 F).1;have i:(Y.toList.take<|ζ E*1)[k]?=C' (strOf x):=by rw[c];simp[F]
  rw[xH,aB I]at i;simp[World.cell?,h2];simpa using i
 have gz:=A r;have c:97<=(s[0].toNat:Int):=by rw[KU]at X;simp at X;exact X.1
 have P:(s[0].toNat:Int)<=122:=by rw[KU]at X;simp at X;exact X.2
 clear X;go_enter func174,ntmps174;go_wp2
 go_loop [5] (λi=>∃k:Nat,k<=ζ E/\i=G k/\J (∀j (h:j<ζ E),j<k->E[j]≠s.1.1)) (λi=>ζ E-(intOf i).toNat)
 case atStart=>exact⟨0,bq _,rfl,by show ∀j h,_;intro j h f;omega⟩
 obtain⟨k,hk,rfl,T⟩:=hrel;by_cases L:k<ζ E
 .have c:(k:Int)<(ζ E:Int):=I;obtain⟨g,m,hc⟩:=D k _<|aQ L;subst m;obtain⟨x,F⟩:∃x,E[k]=x:=⟨_,rfl⟩;rw[F]at hc;have X:=abO s x;unfold strOf at hc;by_cases m:x=s.1.1
  .have l:(x==s.toList)=P':=by rw[eT,m];simp
   have S:J (fY E s.1.1=k/\cZ E s.1.1=E):=by
    have d:s.1.1∈E:=by rw[<-m,<-F];exact e9 L
    refine⟨?_,by simp[cZ,d]⟩;simp only[fY,d,b8];rw[Lb tI L<|F.trans m]
   clear X m F;go_wp2;go_ret;refine⟨by rw[S.a];rfl,vb,?_,RF.refl _ _ _,aI rfl⟩;rw[S.A];exact hP
  have l:(x==s.toList)=Q':=by rw[eT];simpa using m
  have K:J (∀j (h:j<ζ E),j<k+1->E[j]≠s.1.1):=by
   show ∀j h,_;intro j h f;by_cases e:j=k
   .subst e;rw[F];exact m
   exact T.o j h I
  clear X m F;go_wp2
  go_round
  case rel=>exact⟨k+1,I,f',K.o⟩
  exact H'
 obtain rfl:k=ζ E:=I;have d:s.1.1∉E:=by intro h;obtain⟨j,f,e⟩:=Jn h;exact T.o j f f e
 have S:J (fY E s.1.1=ζ E/\cZ E s.1.1=E++[s.1.1]):=⟨by simp[fY,d],by simp[cZ,d]⟩;have c:J (s.1.1∉E):=d;clear d T;go_wp2_with (at_builtin;go_must (refine wpList_append_own_at _ rfl (.tmp 37) (.tmp 39) 101 rfl B 9 i0 (m' ⟨#[]⟩) 1 16 underlying101 HI.a HI.b HI.c HI.C rfl aj _ _ _ rfl (o.alloc _) (O w.1.size 0) 1 1 [m' s] rfl rfl Ap (by intro u a;simp at a;subst a;rfl) (by unfold maxLen;omega) I I' ?_));intro v4 f d W _ a;have z:=Q.o;have c:some N≠φ (h' q (ζ E) t):=by intro e;have:=(o.lt N e.symm).1;omega
 have v:f.1[N]?=C' (j' #[lv,h' q (ζ E) t,ev,y] 103 (0,0)):=by rw[W.block N I' c];exact(ch _ _ _ U).trans r
 obtain⟨T,V,p,rfl⟩:∃q n t,v4=h' q n t:=by
  rcases d.2 with⟨R,_⟩|⟨g,t,Y,R,_⟩
  .exact⟨_,_,_,R⟩
  exact⟨_,_,_,R⟩
 have b:V=ζ E+1:=by
  rcases d.2 with⟨R,h0⟩|⟨g,t,Y,R,_⟩
  .omega
  cases R;rfl
 have c:J (V=ζ E+1):=b;have o:(V:Int)-1=(ζ E:Int):=I;have c:J ((V:Int)-1=(ζ E:Int)):=o;have f:(V:Int)<=20001:=I;clear o b;have Q:J (φ (h' q (ζ E) t)=vb):=z;clear z gz;have gz:=A v;go_wp2;go_ret;have b:some N≠φ (h' T V p):=by intro e;have:=(d.lt N e.symm).1;omega
 refine⟨by rw[S.a,<-c.o];rfl,φ<|h' T V p,?_,?_,?_⟩
 .rw[S.A];have t:=yj tI s.1.1;rw[S.A]at t;refine⟨⟨_,?_,?_,rfl⟩,t⟩
  .simp[World.setCell,sH,v]
  have e:(E++[s.1.1]).map strOf=E.map strOf++[m' s]:=by simp[strOf]
  rw[aW,e];refine⟨d.1,?_⟩;rcases d.2 with h|⟨g,u,Y,R,C,h2,h3⟩
  .exact aI h
  refine aH ⟨g,u,Y,R,C,(bh _ _ _ _ ?_).trans h2,h3⟩;show g≠N;omega
 .refine⟨W.os,W.tape,W.output,?_,λk hk C h2=>?_⟩
  .have:=W.size;simp[World.setCell]at this|-;omega
  rw[bh _ _ _ _<|show k≠N from C,W.block k I'<|by rw[Q.o];exact h2];exact ch _ _ _ hk
 rcases a with h|h
 .exact aI<|h.trans Q.o
 exact aH ⟨_,h,ak⟩
def Zp(s:z')(N:Nat)(w:t')(D:0<s.size)(X:Wm.mV s[0]=Q'):
  Cl 174 (Bv N s) w λe a=>e=o' (G<|-1)/\a=w:=by
 have a:(s[0].toNat:Int)<97\/(97<=(s[0].toNat:Int)/\122<(s[0].toNat:Int)):=by rw[KU]at X;simp at X;omega
 clear X;go_enter func174,ntmps174;rcases a with a|⟨a,P⟩
 .go_wp2;go_ret;exact⟨rfl,rfl⟩
 go_wp2;go_ret;exact⟨rfl,rfl⟩
end
section
variable {p c z d:Int}{a b:List VV}{x y:VV}{f:Bool}
def xn{α:Type}{l:List α}{j:Nat}{v x:α}(h:(l.set k v)[j]?=C' x):(k=j/\x=v/\j<ζ l)\/(k≠j/\l[j]?=C' x):=by
 rw[eQ]at h;split at h
 .split at h
  .cases h;rename_i e l;exact aI ⟨e,rfl,I⟩
  cases h
 rename_i e;exact aH ⟨e,h⟩
def jU{n:Nat}(k:Nat)(h:jk p (C' a)<|C' b)(R:gL p x y):jk p (C'<|a.set k x) (C'<|b.set k y):=by
 intro j u w C B;rcases xn C with⟨e,rfl,_⟩|⟨e,C⟩
 .rcases xn B with⟨_,rfl,_⟩|⟨c,_⟩
  .exact R
  exact absurd e c
 rcases xn B with⟨c,_,_⟩|⟨_,B⟩
 .exact absurd c e
 exact h j u w C B
def kS(k:Nat)(h:dZ p n<|C' a)(R:okV p x):dZ p n (C'<|a.set k x):=by
 intro E e;cases e;have C:=h a rfl;refine⟨by simp[C.1],λv d=>?_⟩;rcases hU d with d|rfl
 .exact C.2 v d
 exact R
def qm(p:Int)(T:-9223372036854775808<=c/\c<=9223372036854775807):okV p (VV.one c):=⟨⟨T,T⟩,by split;exact aH rfl;exact⟨rfl,cV _⟩⟩
def zg(p:Int):okV p ⟨Q',0,0⟩:=qm p aj
def D6:okV 5 VV.fM:=⟨⟨aj,aj⟩,ak⟩
def xy(o:kE):Prop:=-9223372036854775808<=o.bJ/\o.bJ<=9223372036854775807
def pY(x:Int):-9223372036854775808<=wrap64 x/\wrap64 x<=9223372036854775807:=by unfold wrap64;omega
def Gx(o a b:Int):-9223372036854775808<=lA o a b/\lA o a b<=9223372036854775807:=by
 unfold lA;split
 .exact pY _
 split
 .exact pY _
 split
 .exact pY _
 split
 .decide
 exact pY _
def YS(c:ζ a=n)(c:ζ b=n)(h:jk p (C' a)<|C' b)(k:Nat):gL p (a.getD k ⟨Q',0,0⟩) (b.getD k ⟨Q',0,0⟩):=by
 by_cases c:k<n
 .have C:a[k]?=C' a[k]:=aQ I;have a:b[k]?=C' b[k]:=aQ I;rw[getD,getD,C,a];exact h k _ _ C a
 rw[getD,getD,b? I,b? I];exact i! _ _
def YR(h:∀v∈a,okV p v)(k:Nat):okV p (a.getD k ⟨Q',0,0⟩):=by
 cases e:a[k]? with
 |none=>rw[getD,e];exact zg p
 |some x=>rw[getD,e];exact h x<|aK e
def D5(c:ζ a=n)(d:ζ b=n)(h:jk p (C' a)<|C' b)(o:kE):gL p (fO a o) (fO b o):=by
 unfold fO;split
 .exact YS c d h _
 exact i! _ _
def jI(h:∀v∈a,okV p v)(o:kE)(b:xy o):okV p (fO a o):=by
 unfold fO;split
 .exact YR h _
 exact qm _ b
def Yh(h:gL 5 x y):x=y\/y=VV.fM:=by simpa[gL]using h
def KW(h:x=y\/y=VV.fM):gL 5 x y:=by simpa[gL]using h
def acH{n:SN}{E:List VV}(T:xy n.a/\xy n.b)(h:dZ 5 m<|C' E):dZ 5 m (Wh n k E):=by
 have C:=(h E rfl).2;unfold Wh;split
 .exact kS _ h D6
 split
 .exact kS _ h<|jI C _ T.1
 split
 .split
  .exact h
  exact fT _ _
 split
 .split
  .exact fT _ _
  split
  .exact kS _ h D6
  exact kS _ h<|qm _<|Gx _ _ _
 exact h
def acI{n:SN}(j:dZ 5 m<|C' a)(i:dZ 5 m<|C' b)(h:jk 5 (C' a)<|C' b):jk 5 (Wh n k a) (Wh n k b):=by
 have s:=(j a rfl);have v:=(i b rfl);have C:=Yh<|D5 s.1 v.1 h n.a;have e:=Yh<|D5 s.1 v.1 h n.b;have c:∀(x:VV)(t:Nat),jk 5 (C'<|a.set t x) (C'<|b.set t VV.fM):=λx t=>jU (n:=m) t h<|KW<|aH rfl;unfold Wh;split
 .exact jU (n:=m) _ h<|i! _ _
 split
 .exact jU (n:=m) _ h<|KW C
 split
 .generalize fO a n.a=E at C|-;generalize fO a n.b=g at e|-;generalize fO b n.a=f at C|-;generalize fO b n.b=d at e|-;rcases C with rfl|rfl
  .rcases e with rfl|rfl
   .split
    .exact h
    trivial
   rw[aB (c:=(E.any||VV.fM.any||o! n.test E.lo VV.fM.lo==decide (k=0))=P')<|by simp[VV.fM]];split
   .exact h
   trivial
  rw[aB (c:=(VV.fM.any||d.any||o! n.test VV.fM.lo d.lo==decide (k=0))=P')<|by simp[VV.fM]];split
  .exact h
  trivial
 split;rotate_left
 .exact h
 generalize fO a n.a=E at C|-;generalize fO a n.b=g at e|-;generalize fO b n.a=f at C|-;generalize fO b n.b=d at e|-;split
 .trivial
 rename_i Q
 have P:¬(n.op=3/\d.any=Q'/\d.lo=0):=by
  rcases e with rfl|rfl
  .exact Q
  simp[VV.fM]
 rw[ax P];by_cases B:(f.any||d.any)=P'
 .rw[aB B];split
  .exact c _ _
  exact c _ _
 have V:E=f:=C.resolve_right (by rintro rfl;simp[VV.fM]at B);have u:g=d:=e.resolve_right (by rintro rfl;simp[VV.fM]at B);subst V;subst u;rw[ax B,ax B];exact jU (n:=m) _ h<|i! _ _
def Ĕ(x:Int)(v:VV):Prop:=v.lo<=x/\x<=v.hi
def IY(h:gL 6 x y):x.any=y.any/\y.lo<=x.lo/\x.hi<=y.hi:=by simpa[gL]using h
def u?(h:x.any=y.any/\y.lo<=x.lo/\x.hi<=y.hi):gL 6 x y:=by simpa[gL]using h
def M9(h:okV 6 x):x.any=Q'/\x.lo<=x.hi:=J' h.form
def r9(h:x.any=Q')(X:x.lo<=x.hi)(a:ç x):okV 6 x:=⟨a,by rw[ax aj];exact⟨h,X⟩⟩
def Nn{x y:Int}(C:l<=x)(a:x<=h):(l*y<=x*y/\x*y<=h*y)\/(h*y<=x*y/\x*y<=l*y):=by
 by_cases B:0<=y
 .exact aI ⟨Int.mul_le_mul_of_nonneg_right C B,Int.mul_le_mul_of_nonneg_right a B⟩
 exact aH ⟨Int.mul_le_mul_of_nonpos_right a I,Int.mul_le_mul_of_nonpos_right C I⟩
def GU{x y:Int}(C:l<=x)(a:x<=h):(y*l<=y*x/\y*x<=y*h)\/(y*h<=y*x/\y*x<=y*l):=by rw[Fl y l,Fl y x,Fl y h];exact Nn C a
def uV(z a b c d:Int):Prop:=(a<=z\/b<=z\/c<=z\/d<=z)/\(z<=a\/z<=b\/z<=c\/z<=d)
def Ec{a C P b x y:Int}(N:a<=x)(d:x<=C)(c:P<=y)(o:y<=b):uV (x*y) (a*P) (a*b) (C*P) (C*b):=by have U:=Nn (y:=y) N d;have b:=GU (y:=a) c o;have k:=GU (y:=C) c o;unfold uV;omega
def Ek(a:VV)(c:Int):∃j S,oW 6 a (VV.one c)=⟨a.any,j,S⟩/\j<=a.lo/\j<=c/\(j=a.lo\/j=c)/\a.hi<=S/\c<=S/\(S=a.hi\/S=c):=by
 have e:oW 6 a (VV.one c)=⟨a.any,if c<a.lo then c else a.lo,if c>a.hi then c else a.hi⟩:=by rw[oW,ax aj];rfl
 rw[e];by_cases C:c<a.lo
 .by_cases b:c>a.hi
  .rw[aB C,aB b];exact⟨_,_,rfl,I⟩
  rw[aB C,ax b];exact⟨_,_,rfl,I⟩
 by_cases b:c>a.hi
 .rw[ax C,aB b];exact⟨_,_,rfl,I⟩
 rw[ax C,ax b];exact⟨_,_,rfl,I⟩
def nS{a b L e:Int}(h:uV z a b c d)(C:L<=a/\L<=b/\L<=c/\L<=d)(f:a<=e/\b<=e/\c<=e/\d<=e):L<=z/\z<=e:=by
 obtain⟨a,b⟩:=h;constructor
 .rcases a with k|k|k|k<;>omega
 rcases b with k|k|k|k<;>omega
def Al(a b c d:Int):∃j S,oW 6 (oW 6 (oW 6 (VV.one a)<|VV.one b)<|VV.one c) (VV.one d)=⟨Q',j,S⟩/\(j<=a/\j<=b/\j<=c/\j<=d)/\(a<=S/\b<=S/\c<=S/\d<=S)/\(j=a\/j=b\/j=c\/j=d)/\(S=a\/S=b\/S=c\/S=d):=by obtain⟨e,C,V,E⟩:=Ek (VV.one a) b;rw[V];obtain⟨P,f,u,g⟩:=Ek ⟨(VV.one a).any,e,C⟩ c;rw[u];obtain⟨D,N,b,q⟩:=Ek ⟨(⟨(VV.one a).any,e,C⟩:VV).any,P,f⟩ d;rw[b];simp only[VV.one]at E g q;exact⟨D,N,rfl,I,I,I,I⟩
def Ak(a b c d:Int)(f:Bool):(LW a b c d f).any=Q':=by
 obtain⟨j,S,e,_⟩:=Al a b c d;unfold LW;split
 .rw[e]
 rfl
def l9(x:Int):aT x=P'↔-9223372036854775808<=x/\x<=9223372036854775807:=by simp[aT]
def VQ{a b o X i m:Int}{v:Bool}(Y:f=P'↔aT a=P'/\aT b=P'/\aT c=P'/\aT d=P')(h:v=P'↔aT o=P'/\aT X=P'/\aT i=P'/\aT m=P')(s:uV a o X i m)(q:uV b o X i m)(T:uV c o X i m)(Q:uV d o X i m):gL 6 (LW a b c d f) (LW o X i m v):=by
 obtain⟨e,S,e,C,l,l,l⟩:=Al a b c d;obtain⟨x,l,L,k,g,r,p⟩:=Al o X i m;simp only[l9]at Y h;refine u? ⟨by rw[Ak,Ak],?_⟩;have y:=nS s k g;have B:=nS q k g;have z:=nS T k g;have w:=nS Q k g;unfold LW;rw[e,L];cases v with
 |false=>
  cases f with
  |false=>exact⟨cV _,cV _⟩
  |true=>obtain⟨N,t,j,u⟩:=Y.1 rfl;simp only[b8,VV.all,bV,bB];clear y B z w s q T Q k g r p Y h;omega
 |true=>obtain⟨N,t,j,u⟩:=h.1 rfl;have B:∀{z:Int},uV z o X i m->-2^63<=z/\z<=9223372036854775807:=λa=>nS a ⟨N.1,t.1,j.1,u.1⟩ ⟨N.2,t.2,j.2,u.2⟩;have:f=P':=Y.2 ⟨B s,B q,B T,B Q⟩;rw[this];simp only[b8];clear B s q T Q Y h k g r p;omega
def LV{a b:Int}(Y:f=P'->aT a=P'/\aT b=P'/\aT c=P'/\aT d=P')(h:uV z a b c d):Ĕ (wrap64 z) (LW a b c d f):=by
 obtain⟨e,S,e,C,l,m,m⟩:=Al a b c d;simp only[l9]at Y;have g:=nS h C l;rw[LW,Ĕ,e];cases f with
 |false=>have:=É z;rwa[l9]at this
 |true=>obtain⟨N,k,j,i⟩:=Y rfl;simp only[b8];rw[ct<|(l9 z).2<|nS h ⟨N.1,k.1,j.1,i.1⟩ ⟨N.2,k.2,j.2,i.2⟩];exact g
end
section
variable {p f o t D:Int}{a b c d x v y:VV}{yes Q:Bool}{q:VV×VV}{n:SN}{P:Pm}
def Cu(x y:Bool):(x&&y)=P'↔x=P'/\y=P'/\x=P'/\y=P':=by cases x<;>cases y<;>simp
def N6(x y z u:Bool):(x&&y&&z&&u)=P'↔x=P'/\y=P'/\z=P'/\u=P':=by cases x<;>cases y<;>cases z<;>cases u<;>simp
def aaF{p:Prop}(h:p:=by
 have h:=IY h;have k:=IY k;have e:=(M9 e).2;have f:=(M9 f).2
 exact VQ (Cu _ _) (Cu _ _) (by unfold uV;omega) (by unfold uV;omega) (by unfold uV;omega) (by unfold uV;omega)):p:=h
def ZD(e:okV 6 a)(f:okV 6 b)(h:gL 6 a c)(k:gL 6 b d):gL 6 (E2 a b) (E2 c d):=by exact aaF
def Mx(e:okV 6 a)(f:okV 6 b)(h:gL 6 a c)(k:gL 6 b d):gL 6 (rS a b) (rS c d):=by exact aaF
def XY(e:okV 6 a)(f:okV 6 b)(h:gL 6 a c)(k:gL 6 b d):gL 6 (Ed a b) (Ed c d):=by have h:=IY h;have k:=IY k;have e:=(M9 e).2;have f:=(M9 f).2;exact VQ (N6 _ _ _ _) (N6 _ _ _ _) (Ec I I I I) (Ec I I I I) (Ec I I I I)<|Ec I I I I
def LY:okV 6 VV.all:=r9 rfl aj ⟨aj,aj⟩
def E0{a b c d:Int}{f:Bool}(Y:f=P'->aT a=P'/\aT b=P'/\aT c=P'/\aT d=P'):okV 6 (LW a b c d f):=by
 obtain⟨j,S,e,C,g,N,g⟩:=Al a b c d;rw[LW,e];cases f with
 |false=>exact LY
 |true=>have Y:=Y rfl;simp only[l9]at Y;have N:=Y;rw[aB rfl];exact r9 rfl (by simp only;omega) ⟨by simp only;omega,by simp only;omega⟩
def ZC(a b:VV):okV 6 (E2 a b):=E0 (Cu _ _).1
def Mw(a b:VV):okV 6 (rS a b):=E0 (Cu _ _).1
def XX(a b:VV):okV 6 (Ed a b):=E0 (N6 _ _ _ _).1
def pg{a b c:Int}(T:c<0)(h:a<=b):b.tdiv c<=a.tdiv c:=by have C:b.tdiv (-c)=-(b.tdiv c):=C? ..;have d:a.tdiv (-c)=-(a.tdiv c):=C? ..;have N:a.tdiv (-c)<=b.tdiv (-c):=C2 I h;omega
def DS{x c:Int}(F:-9223372036854775808<=x/\x<=9223372036854775807)(D:c≠0)(C:c≠-1):-9223372036854775808<=x.tdiv c/\x.tdiv c<=9223372036854775807:=(l9 _).1<|xi ((l9 _).2 F) D C
def N!(c:okV 6 a)(h:jN a b=C' v):okV 6 v:=by
 unfold jN at h;have C:=(M9 c).2;have b:=c.bd;split at h
 .cases h;exact LY
 split at h
 .cases h
 rename_i a;split at h
 .cases h;exact Mw _ _
 rename_i c;split at h
 .rename_i U;cases h;exact r9 rfl (C2 U C) ⟨DS b.lo a c,DS b.hi a c⟩
 cases h;exact r9 rfl (pg I C) ⟨DS b.hi a c,DS b.lo a c⟩
def Yg(h:okV 6 v):gL 6 v VV.all:=by have C:=h.bd.lo;have a:=h.bd.hi;exact u? ⟨(M9 h).1,by simp only[VV.all];omega,by simp only[VV.all];omega⟩
def ĭ(p:Int):Option VV->Option VV->Prop
 |none,_=>True
 |some _,none=>False
 |some x,some y=>gL p x y
def Zc(f:okV 6 a)(g:okV 6 b)(h:gL 6 a c)(k:gL 6 b d):ĭ 6 (jN a b) (jN c d):=by
 have V:=IY h;have e:=IY k;have e:=(M9 f).2;have l:=(M9 g).2;by_cases Q:d.lo=d.hi;rotate_left
 .have e:jN c d=C' VV.all:=by unfold jN;rw[aB Q]
  rw[e];cases F:jN a b with
  |none=>trivial
  |some v=>exact Yg<|N! f F
 have a:b.lo=d.lo:=I;have u:b.hi=d.hi:=I;unfold jN;rw[ax (c:=b.lo≠b.hi) I,ax (c:=d.lo≠d.hi) I,a];split
 .trivial
 split
 .exact Mx (zg 6) f (i! _ _) h
 split
 .rename_i U;exact u? ⟨rfl,C2 U V.2.1,C2 U V.2.2⟩
 exact u? ⟨rfl,pg I V.2.2,pg I V.2.1⟩
def adO(e:okV 6 a)(f:okV 6 b)(h:gL 6 a c)(k:gL 6 b d):ĭ 6 (Oc o a b) (Oc o c d):=by
 unfold Oc;split
 .exact ZD e f h k
 split
 .exact Mx e f h k
 split
 .exact XY e f h k
 exact Zc e f h k
def adN(c:okV 6 a)(h:Oc o a b=C' v):okV 6 v:=by
 unfold Oc at h;split at h
 .cases h;exact ZC _ _
 split at h
 .cases h;exact Mw _ _
 split at h
 .cases h;exact XX _ _
 exact N! c h
def EM(a:VV)(l h:Int):∃j S,cx a l h=⟨a.any,j,S⟩/\a.lo<=j/\l<=j/\(j=a.lo\/j=l)/\S<=a.hi/\S<=h/\(S=a.hi\/S=h):=by
 unfold cx;by_cases C:l>a.lo
 .by_cases b:h<a.hi
  .rw[aB C,aB b];exact⟨_,_,rfl,I⟩
  rw[aB C,ax b];exact⟨_,_,rfl,I⟩
 by_cases b:h<a.hi
 .rw[ax C,aB b];exact⟨_,_,rfl,I⟩
 rw[ax C,ax b];exact⟨_,_,rfl,I⟩
def jf{c s:Int}(k:gL 6 a b)(X:c<=l)(V:h<=s):gL 6 (cx a l h) (cx b c s):=by have k:=IY k;obtain⟨E,g,V,W⟩:=EM a l h;obtain⟨a,d,u,a⟩:=EM b c s;rw[V,u];exact u? ⟨k.1,by simp only;omega,by simp only;omega⟩
def jg(b:ç a)(X:-9223372036854775808<=l/\l<=9223372036854775807)(V:-9223372036854775808<=h/\h<=9223372036854775807):ç (cx a l h):=by obtain⟨E,g,V,W⟩:=EM a l h;have:=b.lo;have:=b.hi;rw[V];exact⟨by simp only;omega,by simp only;omega⟩
def Ē:Option (VV×VV)->Option (VV×VV)->Prop
 |none,_=>True
 |some _,none=>False
 |some x,some y=>gL 6 x.1 y.1/\gL 6 x.2 y.2
def acv{x y:VV×VV}(C:gL 6 x.1 y.1)(a:gL 6 x.2 y.2):Ē (wH x) (wH y):=by
 have b:=IY C;have k:=IY a;unfold wH;by_cases F:x.1.hi<x.1.lo\/x.2.hi<x.2.lo
 .rw[aB F];trivial
 rw[ax F,ax I];exact⟨C,a⟩
def ad9(g:okV 6 a)(f:okV 6 b)(T:okV 6 c)(Q:okV 6 d)(h:gL 6 a c)(k:gL 6 b d):Ē (xD t yes a b) (xD t yes c d):=by
 have V:=IY h;have j:=IY k;have i:=(M9 g).2;have l:=(M9 f).2;have X:=f.bd.hi;have Y:=f.bd.lo;have f:=g.bd.lo;have f:=g.bd.hi;have Y:=T.bd.lo;have E:=T.bd.hi;have P:=Q.bd.lo;have N:=Q.bd.hi;unfold xD;split
 .by_cases K:b.hi=-2^63\/a.lo=9223372036854775807
  .rw[aB K];trivial
  rw[ax K,ax (c:=d.hi=-2^63\/c.lo=9223372036854775807) I];exact⟨jf h (cV _) I,jf k I<|cV _⟩
 split
 .exact⟨jf h (cV _) I,jf k I<|cV _⟩
 split
 .exact⟨jf h I<|cV _,jf k (cV _) I⟩
 split
 .by_cases K:a.hi=-2^63\/b.lo=9223372036854775807
  .rw[aB K];trivial
  rw[ax K,ax (c:=c.hi=-2^63\/d.lo=9223372036854775807) I];exact⟨jf h I<|cV _,jf k (cV _) I⟩
 split
 .exact⟨jf h I I,jf h I I⟩
 by_cases K:a.lo=a.hi/\VV.xw a b=P'
 .rw[aB K];trivial
 rw[ax K];by_cases f:c.lo=c.hi/\VV.xw c d=P';rotate_left
 .rw[ax f];exact⟨h,k⟩
 exfalso;have e:=(VV.l? c d).1 f.2;apply K;subst e;refine⟨I,(VV.l? a b).2 ?_⟩;obtain⟨N,d,c⟩:=a;obtain⟨a,o,x⟩:=b;simp only at *;obtain⟨q,r,w⟩:=V;obtain⟨s,v,y⟩:=j;rw[q,s];have:d=o:=I;have:c=x:=I;simp_all
def ad7(e:okV 6 a)(f:okV 6 b)(T:okV 6 c)(Q:okV 6 d)(h:gL 6 a c)(k:gL 6 b d):Ē (pQ t yes a b) (pQ t yes c d):=by
 have:=ad9 (t:=t) (yes:=yes) e f T Q h k;unfold pQ;cases F:xD t yes a b with
 |none=>trivial
 |some x=>
  cases B:xD t yes c d with
  |none=>rw[F,B]at this;exact this.elim
  |some y=>rw[F,B]at this;exact acv this.1 this.2
def aea(f:okV 6 a)(g:okV 6 b)(h:xD t Q a b=C' q):ç q.1/\ç q.2/\q.1.any=Q'/\q.2.any=Q':=by
 have c:=(M9 f).1;have l:=(M9 g).1;have X:=g.bd.hi;have Y:=g.bd.lo;have e:=f.bd.lo;have d:=f.bd.hi;have a:-2^63<=(-2^63:Int)/\(-2^63:Int)<=9223372036854775807:=aj;have X:-2^63<=(9223372036854775807:Int)/\(9223372036854775807:Int)<=9223372036854775807:=aj;unfold xD at h;split at h
 .split at h
  .cases h
  cases h;exact⟨jg f.bd a I,jg g.bd I X,c,l⟩
 split at h
 .cases h;exact⟨jg f.bd a I,jg g.bd I X,c,l⟩
 split at h
 .cases h;exact⟨jg f.bd I X,jg g.bd a I,c,l⟩
 split at h
 .split at h
  .cases h
  cases h;exact⟨jg f.bd I X,jg g.bd a I,c,l⟩
 split at h
 .cases h;exact⟨jg f.bd I I,jg f.bd I I,c,c⟩
 split at h
 .cases h
 cases h;exact⟨f.bd,g.bd,c,l⟩
def ad6(c:okV 6 a)(e:okV 6 b)(h:pQ t Q a b=C' q):okV 6 q.1/\okV 6 q.2:=by
 unfold pQ at h;cases F:xD t Q a b with
 |none=>rw[F]at h;cases h
 |some r=>
  rw[F]at h;simp only[wH]at h;split at h
  .cases h
  cases h;obtain⟨C,a,N,d⟩:=aea c e F;exact⟨r9 N I C,r9 d I a⟩
def adS{a b:List VV}{i:VV}(h:jk 6 (C' a)<|C' b)(F:gL 6 x i)(B:gL 6 y c):jk 6 (Û f D a x y) (Û f D b i c):=by
 have L:=IY F;have u:=IY B;have C:jk 6 (C'<|if 0<=f then a.set f.toNat x else a) (C'<|if 0<=f then b.set f.toNat i else b):=by
  split
  .exact jU (n:=0) _ h F
  exact h
 have d:gL 6 (if D=f then cx x y.lo y.hi else y) (if D=f then cx i c.lo c.hi else c):=by
  split
  .exact jf F u.2.1 u.2.2
  exact B
 have N:=IY d;unfold Û;split;rotate_left
 .exact C
 generalize(if D=f then cx x y.lo y.hi else y)=z at *;generalize(if D=f then cx i c.lo c.hi else c)=e at *;by_cases f:z.hi<z.lo
 .rw[aB f];trivial
 rw[ax f,ax (c:=e.hi<e.lo) I];exact jU (n:=0) _ C d
def adR{a:List VV}(h:dZ 6 m<|C' a)(F:okV 6 x)(B:okV 6 y):dZ 6 m (Û f D a x y):=by
 have C:dZ 6 m (C'<|if 0<=f then a.set f.toNat x else a):=by
  split
  .exact kS _ h F
  exact h
 unfold Û;split;rotate_left
 .exact C
 have a:ç (if D=f then cx x y.lo y.hi else y)/\(if D=f then cx x y.lo y.hi else y).any=Q':=by
  split
  .exact⟨jg F.bd B.bd.lo B.bd.hi,(M9 F).1⟩
  exact⟨B.bd,(M9 B).1⟩
 generalize(if D=f then cx x y.lo y.hi else y)=z at *;split
 .exact fT _ _
 exact kS _ C<|r9 a.2 I a.1
def acF{E:List VV}(T:xy n.a/\xy n.b)(h:dZ 6 m<|C' E):dZ 6 m (Wg n k E):=by
 have C:=(h E rfl).2;unfold Wg;split
 .exact kS _ h LY
 split
 .exact kS _ h<|jI C _ T.1
 split
 .cases F:pQ n.test (decide (k=0)) (fO E n.a) (fO E n.b)with
  |none=>exact fT _ _
  |some q=>have:=ad6 (jI C _ T.1) (jI C _ T.2) F;exact adR h this.1 this.2
 split
 .cases F:Oc n.op (fO E n.a) (fO E n.b)with
  |none=>exact fT _ _
  |some v=>exact kS _ h<|adN (jI C _ T.1) F
 exact h
def acG{a b:List VV}(T:xy n.a/\xy n.b)(g:dZ 6 m<|C' a)(f:dZ 6 m<|C' b)(h:jk 6 (C' a)<|C' b):jk 6 (Wg n k a) (Wg n k b):=by
 have s:=(g a rfl);have v:=(f b rfl);have C:=D5 s.1 v.1 h n.a;have c:=D5 s.1 v.1 h n.b;have N:=jI s.2 _ T.1;have d:=jI s.2 _ T.2;have e:=jI v.2 _ T.1;have o:=jI v.2 _ T.2;unfold Wg;split
 .exact jU (n:=m) _ h<|i! _ _
 split
 .exact jU (n:=m) _ h C
 split
 .have:=ad7 (t:=n.test) (yes:=decide (k=0)) N d e o C c;cases F:pQ n.test (decide (k=0)) (fO a n.a) (fO a n.b)with
  |none=>trivial
  |some q=>
   cases B:pQ n.test (decide (k=0)) (fO b n.a) (fO b n.b)with
   |none=>rw[F,B]at this;exact this.elim
   |some r=>rw[F,B]at this;exact adS h this.1 this.2
 split;rotate_left
 .exact h
 have:=adO (o:=n.op) N d C c;cases F:Oc n.op (fO a n.a) (fO a n.b)with
 |none=>trivial
 |some v=>
  cases B:Oc n.op (fO b n.a) (fO b n.b)with
  |none=>rw[F,B]at this;exact this.elim
  |some u=>rw[F,B]at this;exact jU (n:=m) _ h this
def mF(U:p=5\/p=6){e:EV}(T:xy n.a/\xy n.b)(h:dZ p m e):dZ p m (AE p n k e):=by
 cases e with
 |none=>exact fT _ _
 |some E=>
  unfold AE;rcases U with rfl|rfl
  .exact acH T h
  exact acF T h
def TK(U:p=5\/p=6){a b:EV}(T:xy n.a/\xy n.b)(c:dZ p m a)(d:dZ p m b)(h:jk p a b):jk p (AE p n k a) (AE p n k b):=by
 match a,b,h with
 |none,_,_=>trivial
 |some a,some b,h=>
  unfold AE;rcases U with rfl|rfl
  .exact acI c d h
  exact acG T c d h
def mr(P:Pm):Prop:=∀i,xy (P.at i).a/\xy (P.at i).b
def pj(p:Int)(P:Pm)(n:Nat):dZ p P.nv (P.OO n):=by
 unfold Pm.OO;split
 .intro E h;cases h;exact⟨ak,λv R=>by rw[iM R];exact zg p⟩
 exact fT _ _
def N3{p:Int}(U:p=5\/p=6){P:Pm}(T:mr P){a:Nat->EV}(c:∀m,dZ p P.nv<|a m):∀(l:List<|Nat×Nat)(e:EV),dZ p P.nv e->dZ p P.nv (l.foldl (λb q=>A7 p b<|AE p (P.at q.1) q.2<|a q.1) e)
 |[],e,h=>h
 |q::l,e,h=>N3 U T c l _<|pK h<|mF U (T q.1)<|c q.1
def nH(U:p=5\/p=6)(T:mr P){a:Nat->EV}(n:Nat)(b:∀m,dZ p P.nv<|a m):dZ p P.nv (P.say p n a):=N3 U T b _ _<|pj p P n
def N4{p:Int}(U:p=5\/p=6){P:Pm}(T:mr P){a c:Nat->EV}(g:∀m,dZ p P.nv<|a m)(f:∀m,dZ p P.nv<|c m)(h:∀m,jk p (a m)<|c m):∀(l:List<|Nat×Nat)(e d:EV),dZ p P.nv e->dZ p P.nv d->jk p e d->jk p (l.foldl (λb q=>A7 p b<|AE p (P.at q.1) q.2<|a q.1) e) (l.foldl (λb q=>A7 p b<|AE p (P.at q.1) q.2<|c q.1) d)
 |[],e,d,_,_,k=>k
 |q::l,e,d,b,Q,k=>by
  have y:=mF (k:=q.2) U (T q.1)<|g q.1;have r:=mF (k:=q.2) U (T q.1)<|f q.1;have a:=TK (k:=q.2) U (T q.1) (g q.1) (f q.1)<|h q.1;refine N4 U T g f h l _ _ (pK b y) (pK Q r)<|NA b y ?_ ?_
  .exact dT Q b k<|Ue Q r
  exact dT r y a<|Nz Q r
def SB(U:p=5\/p=6)(T:mr P){a b:Nat->EV}(n:Nat)(c:∀m,dZ p P.nv<|a m)(d:∀m,dZ p P.nv<|b m)(h:∀m,jk p (a m)<|b m):jk p (P.say p n a) (P.say p n b):=
 N4 U T c d h _ _ _ (pj p P n) (pj p P n) (c8 p _)
def vk{p:Int}(U:p=5\/p=6){P:Pm}(T:mr P){a:Nat->EV}(d:∀m,dZ p P.nv<|a m):∀(l:List<|Nat×Nat)(e:EV),dZ p P.nv e->jk p e (l.foldl (λb q=>A7 p b<|AE p (P.at q.1) q.2<|a q.1) e)/\∀q∈l,jk p (AE p (P.at q.1) q.2<|a q.1) (l.foldl (λb q=>A7 p b<|AE p (P.at q.1) q.2<|a q.1) e)
 |[],e,_=>⟨c8 p e,λq h=>by cases h⟩
 |q::l,e,he=>by
  have y:=mF (k:=q.2) U (T q.1)<|d q.1;have f:=pK he y;obtain⟨C,g⟩:=vk U T d l _ f;refine⟨dT f he (Ue he y) C,λr c=>?_⟩;rcases cO.1 c with rfl|c
  .exact dT f y (Nz he y) C
  exact g r c
def OY(U:p=5\/p=6)(T:mr P){a:Nat->EV}(n:Nat)(b:∀m,dZ p P.nv<|a m):jk p (P.OO n) (P.say p n a):=(vk U T b _ _<|pj p P n).1
def SC(U:p=5\/p=6)(T:mr P){a:Nat->EV}{n i:Nat}(b:∀m,dZ p P.nv<|a m)(h:(i,k)∈P.ins n):jk p (AE p (P.at i) k<|a i) (P.say p n a):=(vk U T b _ _<|pj p P n).2 (i,k) h
end
section
def Ċ(h:p:=by
 obtain⟨k,t⟩:∃k:Nat,n.var=(k:Int):=⟨n.var.toNat,I⟩;have hk:k<8:=I;have s:n.var.toNat=k:=I;rw[s]
 first|(have _:=zv;(first|(have _:=DU;have f:=ſ λW=>K0 (k' #[]) W rfl)|(have f:=ſ λW=>LO (k' #[]) W rfl));(first|(have _:=DU;have o:=ſ λW=>kX e k VV.fM W hk)|(have o:=ſ λW=>kX e k VV.all W hk));have g:=BW;clear hv s)|(have f:=ſ λW=>jD e n.a W ha;have o:=ſ λW=>kX e k (jl e n.a) W hk;generalize jl e n.a=z at f o|-;clear hv ha s)
 obtain⟨x,g,op,l,j,T,g⟩:=n;simp only at t;subst t
 first|(have _:=zv;simp only[aJ,KC.qv,KB.qv,eB,VV.fM,VV.all]at f o hn|-;go_enter afH,afr)|(simp only[aJ,KC.qv,KB.qv]at f o hn|-;go_enter afI,afs)
 go_upto_region 1 with fail
 generalize u:(w.alloc<|j' (θ<|aL e) bN).alloc (j' iZ bN)=V;have B:J ((V.1[δ w.1]?=C' (j' (θ<|aL e) bN (0,0))/\V.1[δ w.1+1]?=C' (j' iZ bN (0,0)))/\Bl w V/\V.1[nb]?=C' (j' #[m' bL,h' wa wl wc,G x,G k,G op,G l,i' j.aN,G j.var,G j.bJ,i' T.aN,G T.var,G T.bJ,h' ea el ec,m' g] 152 (0,0))/\V.1[db]?=C' (j' #[.iface ib<|k' #[]] yR (0,0))):=by subst u;exact⟨eO,cU,aF cU hn,aF cU hd⟩
 clear u;have l:=ſ<|M hn hd;clear hn hd;have E:δ w.1+1<δ V.1:=À B.a.2;refine wp_region_held_drew (S:=λW'=>Bl w W'/\W'.1[δ w.1]?=C' (j' (θ<|aL e) bN (0,0))) H ⟨B.b.drew,B.a.1⟩ λaE=>?_;refine tz 0 (k'<|θ<|aL e) ?_ (y:=yieldsIf_load_mid H _ _ rfl _ _ rfl _ _ (λW' bm=>bf bm.2) fX rfl H);refine tq 1 (n'<|C'<|O nb 3) ?_;refine tr 2 (G k) (λW' bm=>M ((A<|aF bm.1 l.a).1)<|(A<|aF bm.1 l.A).1) ?_;refine tr 3 (.iface ib<|k' #[]) (λW' bm=>M ((A<|aF bm.1 l.a).1)<|(A<|aF bm.1 l.A).1) ?_
 first|(have _:=zv;refine r1 4 λK g=>?_)|(refine tz 4 (k'<|θ<|aL e) ?_ (y:=yieldsIf_load_mid H _ _ rfl _ _ rfl _ _ (λW' bm=>bf bm.2) fX rfl H);refine tq 5 (n'<|C'<|O nb 6) ?_;refine tr 6 (k' #[i' j.aN,G j.var,G j.bJ]) (λW' bm=>M ((A<|aF bm.1 l.a).1)<|(A<|aF bm.1 l.A).1) ?_;refine r1 7 λK g=>?_)
 go_simp;refine(f.o _).mono ?_;rintro r j ⟨rfl,l⟩;have f:J (Bl V j):=aq ay l;clear l;refine g.out _ _ ⟨aq B.b f.o,aF f.o B.a.1⟩ λaE=>?_;clear g K;refine pt ?_
 first|(have _:=zv;refine r1 5 λK g=>?_)|(refine r1 8 λK g=>?_)
 go_simp;refine(o.o _).mono ?_;rintro r o ⟨rfl,l⟩;have j:J (Bl V o):=aq (aq f.o ay) l;clear l;refine g.out _ _ ⟨aq B.b j.o,aF j.o B.a.1⟩ λaE=>?_;clear g K;refine pt ?_
 first|(have _:=zv;refine r1 6 λK g=>?_)|(refine r1 9 λK g=>?_)
 rw[aB H];have U:=b5 (n:=17) (aF j.o B.a.2) rfl
 first|(have _:=zv;(first|(have _:=DU;refine wp_store_mid bN (.tmp 4) (.tmp 10) rfl (δ w.1+1) 0 (θ<|aL<|e.put k ⟨true,0,0⟩) rfl rfl U H (bn _) ?_)|(refine wp_store_mid bN (.tmp 4) (.tmp 10) rfl (δ w.1+1) 0 (θ<|aL<|e.put k ⟨false,-9223372036854775808,9223372036854775807⟩) rfl rfl U H (bn _) ?_)))|(refine wp_store_mid bN (.tmp 4) (.tmp 13) rfl (δ w.1+1) 0 (θ<|aL<|e.put k z) rfl rfl U H (bn _) ?_)
 refine g.out _ _ ⟨cM I _ _ _<|aq B.b j.o,(dC _ _ _ _ _ I).trans<|aF j.o B.a.1⟩ λaE=>?_;clear g K;refine pt ?_;refine wpAnyH_done H ?_ _;go_wp2_with fail
 first|(have _:=zv;(first|(have _:=DU;have hq:=cm (cs:=qd) (aF j.o B.a.2) (vs:=aL<|e.put k ⟨true,0,0⟩) rfl)|(have hq:=cm (cs:=qd) (aF j.o B.a.2) (vs:=aL<|e.put k ⟨false,-9223372036854775808,9223372036854775807⟩) rfl));(first|(have _:=DU;have C:=run_loadVar_mid (P:=Tryz.prog) (ψ o (δ w.1+1) 0<|aL<|e.put k ⟨true,0,0⟩) (δ w.1+1) 0 bN (aL<|e.put k ⟨true,0,0⟩) _ (bf hq) fX rfl H)|(have C:=run_loadVar_mid (P:=Tryz.prog) (ψ o (δ w.1+1) 0<|aL<|e.put k ⟨false,-9223372036854775808,9223372036854775807⟩) (δ w.1+1) 0 bN (aL<|e.put k ⟨false,-9223372036854775808,9223372036854775807⟩) _ (bf hq) fX rfl H));(first|(have _:=DU;refine aC (v:=k'<|θ<|aL<|e.put k ⟨true,0,0⟩) (by simp[results,results311,results321,C,Act.put,asAddr]) rfl ⟨rfl,cM I _ _ _<|aq B.b j.o⟩)|(refine aC (v:=k'<|θ<|aL<|e.put k ⟨false,-9223372036854775808,9223372036854775807⟩) (by simp[results,results311,results321,C,Act.put,asAddr]) rfl ⟨rfl,cM I _ _ _<|aq B.b j.o⟩)))|(have hq:=cm (cs:=qd) (aF j.o B.a.2) (vs:=aL<|e.put k z) rfl;have C:=run_loadVar_mid (P:=Tryz.prog) (ψ o (δ w.1+1) 0<|aL<|e.put k z) (δ w.1+1) 0 bN (aL<|e.put k z) _ (bf hq) fX rfl H;refine aC (v:=k'<|θ<|aL<|e.put k z) (by simp[results,results308,results318,C,Act.put,asAddr]) rfl ⟨rfl,cM I _ _ _<|aq B.b j.o⟩)):p:=h
open KC in
def KC.y?(e:PE)(bL:z')(wa ea:u')(wl wc el ec:Nat)(n:SN)(nb db:Nat)(w:t')(hn:w.1[nb]?=C' (j' (aJ bL (h' wa wl wc) n<|h' ea el ec) 152 (0,0)))(hd:w.1[db]?=C' (j' #[.iface 328<|k' #[]] 381 (0,0)))(hv:0<=n.var/\n.var<8)(ha:n.a.aN=P'->0<=n.a.var/\n.a.var<8):
 Cl 308 #[k'<|θ<|KC.aL e,n'<|C'<|O nb 0,n'<|C'<|O db 0] w (Rb w<|k'<|θ<|KC.aL<|e.put n.var.toNat<|jl e n.a):=Ċ
open KB in
def KB.y?(e:PE)(bL:z')(wa ea:u')(wl wc el ec:Nat)(n:SN)(nb db:Nat)(w:t')(hn:w.1[nb]?=C' (j' (aJ bL (h' wa wl wc) n<|h' ea el ec) 152 (0,0)))(hd:w.1[db]?=C' (j' #[.iface 331<|k' #[]] 386 (0,0)))(hv:0<=n.var/\n.var<8)(ha:n.a.aN=P'->0<=n.a.var/\n.a.var<8):
 Cl 318 #[k'<|θ<|KB.aL e,n'<|C'<|O nb 0,n'<|C'<|O db 0] w (Rb w<|k'<|θ<|KB.aL<|e.put n.var.toNat<|jl e n.a):=Ċ
def ħ(h:p:=by
 have zv:=True.intro
 exact Ċ):p:=h
open KC in
def KC.y8(e:PE)(bL:z')(wa ea:u')(wl wc el ec:Nat)(n:SN)(nb db:Nat)(w:t')(hn:w.1[nb]?=C' (j' (aJ bL (h' wa wl wc) n<|h' ea el ec) 152 (0,0)))(hd:w.1[db]?=C' (j' #[.iface 328<|k' #[]] 381 (0,0)))(hv:0<=n.var/\n.var<8):
 Cl 311 #[k'<|θ<|KC.aL e,n'<|C'<|O nb 0,n'<|C'<|O db 0] w (Rb w<|k'<|θ<|KC.aL<|e.put n.var.toNat VV.fM):=ħ
open KB in
def KB.y8(e:PE)(bL:z')(wa ea:u')(wl wc el ec:Nat)(n:SN)(nb db:Nat)(w:t')(hn:w.1[nb]?=C' (j' (aJ bL (h' wa wl wc) n<|h' ea el ec) 152 (0,0)))(hd:w.1[db]?=C' (j' #[.iface 331<|k' #[]] 386 (0,0)))(hv:0<=n.var/\n.var<8):
 Cl 321 #[k'<|θ<|KB.aL e,n'<|C'<|O nb 0,n'<|C'<|O db 0] w (Rb w<|k'<|θ<|KB.aL<|e.put n.var.toNat VV.all):=ħ
def Ħ(h:p:=by
 have Y:=ſ λW=>s6 e bL wa ea wl wc el ec n W hv ha hb En Cp;clear hv ha hb En Cp;generalize rY e n=c at Y|-;obtain⟨x,q,i,b,d,T,g⟩:=n;simp only[aJ]at Y hn|-;go_enter afG,afq;go_upto_region 1 with fail
 generalize u:(w.alloc<|j' (θ<|aL e) bN).alloc (j' iZ bN)=V;have B:J ((V.1[δ w.1]?=C' (j' (θ<|aL e) bN (0,0))/\V.1[δ w.1+1]?=C' (j' iZ bN (0,0)))/\Bl w V/\V.1[nb]?=C' (j' #[m' bL,h' wa wl wc,G x,G q,G i,G b,i' d.aN,G d.var,G d.bJ,i' T.aN,G T.var,G T.bJ,h' ea el ec,m' g] 152 (0,0))/\V.1[db]?=C' (j' #[.iface ib<|k' #[]] yR (0,0))):=by subst u;exact⟨eO,cU,aF cU hn,aF cU hd⟩
 clear u;have l:=ſ<|M hn hd;clear hn hd;have E:δ w.1+1<δ V.1:=À B.a.2;have b:=A B.c;have W:=A B.C;go_wp2_with (first|(refine wpList_load_mid rfl bN (.tmp 3) rfl w.1.size 0 rfl (aL e) _ (bf B.a.1) fX rfl H ?_)|((first|go_at_call 313 | go_at_call 323);refine(Y.o _).mono ?_;rintro r b ⟨rfl,hb⟩;have f:J (Bl V b):=hb;clear hb;have U:=b5 (n:=17) (aF f.o B.a.2) rfl)|(refine wpList_store_mid rfl bN (.tmp 4) (.tmp 8) rfl (δ w.1+1) 0 (θ<|aL<|c) rfl rfl U H (bn _) ?_));have d:=cm (cs:=qd) (aF f.o B.a.2) (vs:=aL<|c) rfl;have C:=run_loadVar_mid (P:=Tryz.prog) (ψ b (δ w.1+1) 0<|aL<|c) (δ w.1+1) 0 bN (aL<|c) _ (bf d) fX rfl H
 refine aC (v:=k'<|θ<|aL<|c) (by simp[results,results312,results322,C,Act.put,asAddr]) rfl ⟨rfl,cM I _ _ _<|aq B.b f.o⟩):p:=h
open KC in
def KC.y7(e:PE)(bL:z')(wa ea:u')(wl wc el ec:Nat)(n:SN)(nb db:Nat)(w:t')(hn:w.1[nb]?=C' (j' (aJ bL (h' wa wl wc) n<|h' ea el ec) 152 (0,0)))(hd:w.1[db]?=C' (j' #[.iface 328<|k' #[]] 381 (0,0)))(hv:0<=n.var/\n.var<8)(ha:n.a.aN=P'->0<=n.a.var/\n.a.var<8)(hb:n.b.aN=P'->0<=n.b.var/\n.b.var<8)(En:dD<|b6<|jl e n.a)(Cp:dD<|b6<|jl e n.b):
 Cl 312 #[k'<|θ<|KC.aL e,n'<|C'<|O db 0,n'<|C'<|O nb 0] w (Rb w<|k'<|θ<|KC.aL<|KC.rY e n):=Ħ
open KB in
def KB.y7(e:PE)(bL:z')(wa ea:u')(wl wc el ec:Nat)(n:SN)(nb db:Nat)(w:t')(hn:w.1[nb]?=C' (j' (aJ bL (h' wa wl wc) n<|h' ea el ec) 152 (0,0)))(hd:w.1[db]?=C' (j' #[.iface 331<|k' #[]] 386 (0,0)))(hv:0<=n.var/\n.var<8)(ha:n.a.aN=P'->0<=n.a.var/\n.a.var<8)(hb:n.b.aN=P'->0<=n.b.var/\n.b.var<8)(En:dD<|b6<|jl e n.a)(Cp:dD<|b6<|jl e n.b):
 Cl 322 #[k'<|θ<|KB.aL e,n'<|C'<|O db 0,n'<|C'<|O nb 0] w (Rb w<|k'<|θ<|KB.aL<|KB.rY e n):=Ħ
def ĥ(h:p:=by
 go_enter afF,afp;go_upto_region 1 with fail
 generalize u:(w.alloc<|j' (θ<|aL e) bN).alloc (j' iZ bN)=V;have B:J ((V.1[δ w.1]?=C' (j' (θ<|aL e) bN (0,0))/\V.1[δ w.1+1]?=C' (j' iZ bN (0,0)))/\Bl w V):=by subst u;exact⟨eO,cU⟩
 clear u;have U:=b5 (n:=17) B.a.2 rfl;go_wp2_with (first|(refine wpList_load_mid rfl bN (.tmp 1) rfl w.1.size 0 rfl (aL e) _ (bf B.a.1) fX rfl H ?_)|(refine wpList_store_mid rfl bN (.tmp 2) (.tmp 3) rfl (δ w.1+1) 0 (θ<|aL e) rfl rfl U H (bn _) ?_));have b:=cm (cs:=qd) B.a.2 (vs:=aL e) rfl;have C:=run_loadVar_mid (P:=Tryz.prog) (ψ V (δ w.1+1) 0<|aL e) (δ w.1+1) 0 bN (aL e) _ (bf b) fX rfl H
 refine aC (v:=k'<|θ<|aL e) (by simp[results,results316,results326,C,Act.put,asAddr]) rfl ⟨rfl,cM I _ _ _ B.A⟩):p:=h
open KC in
def KC.y0(e:PE)(w:t'):
 Cl 316 #[k'<|θ<|KC.aL e] w (Rb w<|k'<|θ<|KC.aL e):=ĥ
open KB in
def KB.y0(e:PE)(w:t'):
 Cl 326 #[k'<|θ<|KB.aL e] w (Rb w<|k'<|θ<|KB.aL e):=ĥ
end
section
def Ĥ{p:Prop}(h:p:=by
 obtain⟨b,c⟩:=Ea e.r;have d:(aL e)[0]?=C' (i' b):=by rw[c];rfl
 rw[<-c]at hh|-;clear c;have s:=ſ hh;clear hh;go_enter afE,afo;go_upto_region 1 with fail
 generalize u:(w.alloc<|j' (θ<|aL e) bN).alloc (j' iZ bN)=V;have B:J ((V.1[δ w.1]?=C' (j' (θ<|aL e) bN (0,0))/\V.1[δ w.1+1]?=C' (j' iZ bN (0,0)))/\Bl w V/\V.1[sb]?=C' (j' #[.func (.func fk) #[] caps] Kd (0,0))):=by subst u;exact⟨eO,cU,aF cU hs⟩
 clear u;clear hs;have f:δ w.1+1<δ V.1:=À B.a.2;have t:χ V (O w.1.size 0)=C' (i' b):=by rw[(A B.a.1).1];exact(cz ..).trans d
 cases b
 .have U:=b5 (n:=17) B.a.2 rfl;go_wp2_with (refine wpList_store_mid rfl bN (.tmp 3) (.tmp 7) rfl (δ w.1+1) 0 (θ<|aL PE.zero) rfl rfl U H (bn _) ?_);have b:=cm (cs:=qd) B.a.2 (vs:=aL PE.zero) rfl;have C:=run_loadVar_mid (P:=Tryz.prog) (ψ V (δ w.1+1) 0<|aL PE.zero) (δ w.1+1) 0 bN (aL PE.zero) _ (bf b) fX rfl H;refine aC (v:=k'<|θ<|aL PE.zero) (by simp[results,results317,results327,C,Act.put,asAddr]) rfl ⟨rfl,cM I _ _ _ B.b⟩
 have d:=A B.B;have Y:=ſ<|s.o rfl V B.b;go_wp2_with (first|(refine wpList_load_mid rfl bN (.tmp 2) rfl w.1.size 0 rfl (aL e) _ (bf B.a.1) fX rfl H ?_)|(refine Y.o.mono ?_;rintro r d ⟨rfl,c⟩;have f:J (Bl V d):=c;clear c;have U:=b5 (n:=17) (aF f.o B.a.2) rfl)|(refine wpList_store_mid rfl bN (.tmp 3) (.tmp 10) rfl (δ w.1+1) 0 (θ<|aL e2) rfl rfl U H (bn _) ?_));have b:=cm (cs:=qd) (aF f.o B.a.2) (vs:=aL e2) rfl;have C:=run_loadVar_mid (P:=Tryz.prog) (ψ d (δ w.1+1) 0<|aL e2) (δ w.1+1) 0 bN (aL e2) _ (bf b) fX rfl H
 refine aC (v:=k'<|θ<|aL e2) (by simp[results,results317,results327,C,Act.put,asAddr]) rfl ⟨rfl,cM I _ _ _<|aq B.b f.o⟩):p:=h
open KC in
def KC.jF(e e2:PE)(sb fk:Nat)(caps:Array A')(w:t')(hs:w.1[sb]?=C' (j' #[.func (.func fk) #[] caps] 376 (0,0)))(E:∀D w,(callFunc fk D).run Tryz.prog w=.ok (.enter fk D) w)
 (hh:e.r=P'->∀W,Bl w W->Cl fk (#[k'<|θ<|KC.aL e]++caps) W (Rb W<|k'<|θ<|KC.aL e2)):
 Cl 317 #[k'<|θ<|KC.aL e,n'<|C'<|O sb 0] w (Rb w<|k'<|θ<|KC.aL<|if e.r then e2 else PE.zero):=Ĥ
open KB in
def KB.jF(e e2:PE)(sb fk:Nat)(caps:Array A')(w:t')(hs:w.1[sb]?=C' (j' #[.func (.func fk) #[] caps] 338 (0,0)))(E:∀D w,(callFunc fk D).run Tryz.prog w=.ok (.enter fk D) w)
 (hh:e.r=P'->∀W,Bl w W->Cl fk (#[k'<|θ<|KB.aL e]++caps) W (Rb W<|k'<|θ<|KB.aL e2)):
 Cl 327 #[k'<|θ<|KB.aL e,n'<|C'<|O sb 0] w (Rb w<|k'<|θ<|KB.aL<|if e.r then e2 else PE.zero):=Ĥ
end
section
def xk(v:VV)(b:BB):VV:=⟨v.any,b.1,b.2⟩
def KC.Pg(ts:Int)(so:Bool)(a b:VV):Option (VV×VV):=if a.any||b.any||(o! ts a.lo b.lo==so) then C' (a,b) else D'
def KB.Pg(ts:Int)(so:Bool)(a b:VV):Option (VV×VV):=if (cN ts so (b6 a)<|b6 b).2.2 then C' (xk a (cN ts so (b6 a)<|b6 b).1,xk b (cN ts so (b6 a)<|b6 b).2.1) else D'
def KC.MY(R:Int)(g:Bool)(a b:VV)(_:dD<|b6 a)(_:dD<|b6 b):∃x y t,KC.Pg R g a b=(if t then C' (x,y) else D')/\∀w,Cl 382 #[k' #[],G R,i' g,KC.qv a,KC.qv b] w (Rb w<|p' #[KC.qv x,KC.qv y,i' t]):=⟨a,b,_,rfl,λw=>Ha (k' #[]) R g a.any b.any a.lo b.lo w rfl⟩
def KB.MY(R:Int)(g:Bool)(a b:VV)(d:dD<|b6 a)(e:dD<|b6 b):∃x y t,KB.Pg R g a b=(if t then C' (x,y) else D')/\∀w,Cl 389 #[k' #[],G R,i' g,KB.qv a,KB.qv b] w (Rb w<|p' #[KB.qv x,KB.qv y,i' t]):=⟨_,_,_,rfl,λw=>IE (k' #[]) R g (b6 a) (b6 b) w rfl d e⟩
def KC.rZ(e:PE)(n:SN)(so:Bool):PE:=match KC.Pg n.test so (jl e n.a) (jl e n.b)with|some v=>KC.f? (KC.f? e n.a v.1) n.b v.2|none=>PE.zero
def KB.rZ(e:PE)(n:SN)(so:Bool):PE:=match KB.Pg n.test so (jl e n.a) (jl e n.b)with|some v=>KB.f? (KB.f? e n.a v.1) n.b v.2|none=>PE.zero
def Ĩ{p:Prop}(h:p:=by
 obtain⟨F,yy,t,f,g⟩:=MY n.test so (jl e n.a) (jl e n.b) En Cp;have HN:J (rZ e n so=if t then f? (f? e n.a F) n.b yy else PE.zero):=by show _=_;(first|unfold KC.rZ|unfold KB.rZ);rw[f];cases t<;>rfl
 have ee:=ſ λW=>jD e n.a W ha;have Ow:=ſ λW=>jD e n.b W hb;have u:=ſ g;have ff:=ſ λW=>pA e n.a F W ha;have s:=ſ λW=>pA (f? e n.a F) n.b yy W hb;have U:=yW;have U:=yT;generalize rZ e n so=ne at HN|-;generalize jl e n.a=z at ee u;generalize jl e n.b=vb at Ow u;generalize f? (f? e n.a F) n.b yy=e2 at HN s;generalize f? e n.a F=V at ff s;clear f g ha hb En Cp;obtain⟨x,var,op,test,nA,T,dz⟩:=n;simp only[aJ,KC.qv,KB.qv]at ee Ow u ff s|-;go_enter afJ,aft;go_upto_region 1 with fail
 have B:=ſ<|M (ZB w (j' (θ<|aL e) bN) (j' #[m' bL,h' wa wl wc,G x,G var,G op,G test,i' nA.aN,G nA.var,G nA.bJ,i' T.aN,G T.var,G T.bJ,h' ea el ec,m' dz] 152)<|j' iZ bN)<|pO w (j' (θ<|aL e) bN) (j' #[m' bL,h' wa wl wc,G x,G var,G op,G test,i' nA.aN,G nA.var,G nA.bJ,i' T.aN,G T.var,G T.bJ,h' ea el ec,m' dz] 152)<|j' iZ bN;generalize(((w.alloc<|j' (θ<|aL e) bN).alloc<|j' #[m' bL,h' wa wl wc,G x,G var,G op,G test,i' nA.aN,G nA.var,G nA.bJ,i' T.aN,G T.var,G T.bJ,h' ea el ec,m' dz] 152).alloc<|j' iZ bN)=V at B|-;have U:δ w.1+2<δ V.1:=À B.a.2.2
 go_cut [9,10,11] from 12 (λpa pb ir U=>∃l bb:Nat,pa=n' (C'<|O l 0)/\pb=n' (C'<|O bb 0)/\ir=i' t/\J (Bl V U/\U.1[l]?=C' (j' #[(dF F),(dE F)] iH (0,0))/\U.1[bb]?=C' (j' #[(dF yy),(dE yy)] iH (0,0))))
 case first=>
  refine wp_region_held_drew (S := λW' => Bl V W') H ((aP _ _).drew) λaE => ?_;refine tq 0 (.iface ib<|k' #[]) ?_;refine tq 1 (n'<|C'<|O (δ w.1 + 1) 5) ?_;refine tr 2 (G test) (λW' bm => (A<|aF bm B.o.1.2.1).1) ?_;refine tq 3 (i' so) ?_;refine tq 4 (.iface ib<|k' #[]) ?_;refine tz 5 (k'<|θ<|aL e) ?_ (y := yieldsIf_load_mid H _ _ rfl _ _ rfl _ _ (λW' bm => bf<|aF bm B.o.1.1) fX rfl H);refine tq 6 (n'<|C'<|O (δ w.1 + 1) 6) ?_;refine tr 7 (k' #[i' nA.aN, G nA.var, G nA.bJ]) (λW' bm => (A<|aF bm B.o.1.2.1).1) ?_;refine tq 9 (.iface ib<|k' #[]) ?_;refine tz 10 (k'<|θ<|aL e) ?_ (y := yieldsIf_load_mid H _ _ rfl _ _ rfl _ _ (λW' bm => bf<|aF bm B.o.1.1) fX rfl H);refine tq 11 (n'<|C'<|O (δ w.1 + 1) 9) ?_;refine tr 12 (k' #[i' T.aN, G T.var, G T.bJ]) (λW' bm => (A<|aF bm B.o.1.2.1).1) ?_;refine tq 14 (.func (.method "warrant/rules.assume") #[.iface ib<|k' #[]] #[]) ?_;refine tq 15 (.func (.method "warrant/rules.assume") #[.iface ib<|k' #[]] #[]) ?_;refine tq 16 (.iface ib<|k' #[]) ?_;refine agH (λU L a W => ∃ (Md Mc Mb QU Ma L! L? x9 Me Jw : A') (l bb : Nat), a = ((((((((((U.put (C' 21) Md).put (C' 26) Mc).put (C' 30) Mb).put (C' 12) QU).put (C' 31) Ma).put (C' 32) L!).put (C' 33) L?).put (C' 9) x9).put (C' 10) Me).put (C' 11) Jw) /\ J ((range 27).all (λj => L j || [8, 13, 17, 18, 19, 20, 21, 22, 23, 24, 25, 26].contains j) = true /\ Bl V W /\ (L 8 = true -> Md = k' #[(dF z), (dE z)]) /\ (L 13 = true -> Mc = k' #[(dF vb), (dE vb)]) /\ (L 17 = true -> Mb = p' #[k' #[(dF F), (dE F)], k' #[(dF yy), (dE yy)], i' t]) /\ (L 18 = true -> QU = p' #[k' #[(dF F), (dE F)], k' #[(dF yy), (dE yy)], i' t]) /\ (L 19 = true -> Ma = k' #[(dF F), (dE F)]) /\ (L 20 = true -> L! = k' #[(dF yy), (dE yy)]) /\ (L 21 = true -> L? = i' t) /\ (L 26 = true -> Jw = i' t) /\ (L 22 = true -> x9 = n' (C'<|O l 0) /\ δ V.1 <= l /\ W.1[l]? = C' (j' (if L 24 then #[(dF F), (dE F)] else IL) iH (0, 0))) /\ (L 23 = true -> Me = n' (C'<|O bb 0) /\ δ V.1 <= bb /\ W.1[bb]? = C' (j' (if L 25 then #[(dF yy), (dE yy)] else IL) iH (0, 0))) /\ (L 22 = true -> L 23 = true -> l ≠ bb) /\ (L 24 = true -> L 22 = true) /\ (L 25 = true -> L 23 = true))) (h0 := ?_) (hS := ?_) (step := ?_) (done := ?_)
  .refine⟨undef,undef,undef,undef,undef,undef,undef,undef,undef,undef,0,0,?_,H,aE,?_⟩
   .simp only[Act.put,cj,dp,da]
   refine⟨?_,?_,?_,?_,?_,?_,?_,?_,?_,?_,?_,?_,?_⟩<;>(intro h;cases h)
  .rintro L b v ⟨_,_,_,_,_,_,_,_,_,_,_,_,_,h⟩;exact h.b
  .clear aE;rintro i o L b W hi C UD ⟨Md,Mc,Mb,QU,Ma,L!,L?,x9,Me,Jw,l,bb,rfl,N⟩ K hK;have f:=Č N.a (bG.1 hi).1 C;obtain⟨j1,g,a8,Ou,a17,I5,Ot,a20,a21,a26,D,E,ne,O5,O4⟩:=N.o;simp only[cO,g!,gC]at f;rcases f with rfl|rfl|rfl|rfl|rfl|rfl|rfl|rfl|rfl|rfl|rfl|rfl
   all_goals
    cases (show some (⟨_,_,_,_,_,_⟩:Oper)=C' o from hi);simp only[Act.put,cj,dp,da]
   .go_simp;refine(ee.o _).mono ?_;rintro r X ⟨rfl,hb⟩;exact hK.out _ _ ⟨k' #[(dF z),(dE z)],Mc,Mb,QU,Ma,L!,L?,x9,Me,Jw,l,bb,by simp only[Act.put,cj,dp,da],oC j1,aq g hb,λ_=>rfl,Ou,a17,I5,Ot,a20,a21,a26,λh=>⟨(D h).1,(D h).2.1,aF hb (D h).2.2⟩,λh=>⟨(E h).1,(E h).2.1,aF hb (E h).2.2⟩,ne,O5,O4⟩
   .go_simp;refine(Ow.o _).mono ?_;rintro r X ⟨rfl,hb⟩;exact hK.out _ _ ⟨Md,k' #[(dF vb),(dE vb)],Mb,QU,Ma,L!,L?,x9,Me,Jw,l,bb,by simp only[Act.put,cj,dp,da],oC j1,aq g hb,a8,λ_=>rfl,a17,I5,Ot,a20,a21,a26,λh=>⟨(D h).1,(D h).2.1,aF hb (D h).2.2⟩,λh=>⟨(E h).1,(E h).2.1,aF hb (E h).2.2⟩,ne,O5,O4⟩
   .obtain rfl:=a8<|UD ⟨8,.data⟩ ak rfl;obtain rfl:=Ou<|UD ⟨13,.data⟩ ak rfl;go_simp;refine(u.o _).mono ?_;rintro r X ⟨rfl,hb⟩;exact hK.out _ _ ⟨k' #[(dF z),(dE z)],k' #[(dF vb),(dE vb)],p' #[k' #[(dF F),(dE F)],k' #[(dF yy),(dE yy)],i' t],QU,Ma,L!,L?,x9,Me,Jw,l,bb,by simp only[Act.put,cj,dp,da],oC j1,aq g hb,a8,Ou,λ_=>rfl,I5,Ot,a20,a21,a26,λh=>⟨(D h).1,(D h).2.1,aF hb (D h).2.2⟩,λh=>⟨(E h).1,(E h).2.1,aF hb (E h).2.2⟩,ne,O5,O4⟩
   .obtain rfl:=a17<|UD ⟨17,.data⟩ ak rfl;go_simp;exact hK.out _ _ ⟨Md,Mc,p' #[k' #[(dF F),(dE F)],k' #[(dF yy),(dE yy)],i' t],p' #[k' #[(dF F),(dE F)],k' #[(dF yy),(dE yy)],i' t],Ma,L!,L?,x9,Me,Jw,l,bb,by simp only[Act.put,cj,dp,da],oC j1,g,a8,Ou,a17,λ_=>rfl,Ot,a20,a21,a26,D,E,ne,O5,O4⟩
   .obtain rfl:=I5<|UD ⟨18,.data⟩ ak rfl;go_simp;exact hK.out _ _ ⟨Md,Mc,Mb,p' #[k' #[(dF F),(dE F)],k' #[(dF yy),(dE yy)],i' t],k' #[(dF F),(dE F)],L!,L?,x9,Me,Jw,l,bb,by simp only[Act.put,cj,dp,da],oC j1,g,a8,Ou,a17,I5,λ_=>rfl,a20,a21,a26,D,E,ne,O5,O4⟩
   .obtain rfl:=I5<|UD ⟨18,.data⟩ ak rfl;go_simp;exact hK.out _ _ ⟨Md,Mc,Mb,p' #[k' #[(dF F),(dE F)],k' #[(dF yy),(dE yy)],i' t],Ma,k' #[(dF yy),(dE yy)],L?,x9,Me,Jw,l,bb,by simp only[Act.put,cj,dp,da],oC j1,g,a8,Ou,a17,I5,Ot,λ_=>rfl,a21,a26,D,E,ne,O5,O4⟩
   .obtain rfl:=I5<|UD ⟨18,.data⟩ ak rfl;go_simp;exact hK.out _ _ ⟨Md,Mc,Mb,p' #[k' #[(dF F),(dE F)],k' #[(dF yy),(dE yy)],i' t],Ma,L!,i' t,x9,Me,Jw,l,bb,by simp only[Act.put,cj,dp,da],oC j1,g,a8,Ou,a17,I5,Ot,a20,λ_=>rfl,a26,D,E,ne,O5,O4⟩
   .have hf:L 24=false:=by cases h:L 24;(· rfl);exact absurd (O5 h) (by rw[C];decide)
    go_simp;exact hK.out _ _ ⟨Md,Mc,Mb,QU,Ma,L!,L?,n'<|cA W.1.size,Me,Jw,δ W.1,bb,by simp only[Act.put,cj,dp,da],oC j1,aq g aY,a8,Ou,a17,I5,Ot,a20,a21,a26,λ_=>⟨rfl,g.size,by show _=C' (j' (if L 24=true then _ else _) _ _);rw[hf];exact bj _ _⟩,λh=>⟨(E h).1,(E h).2.1,aF aY (E h).2.2⟩,λ_ h=>Nat.ne_of_gt<|À (E h).2.2,λh=>absurd (hf.symm.trans h) aj,O4⟩
   .have hf:L 25=false:=by cases h:L 25;(· rfl);exact absurd (O4 h) (by rw[C];decide)
    go_simp;exact hK.out _ _ ⟨Md,Mc,Mb,QU,Ma,L!,L?,x9,n'<|cA W.1.size,Jw,l,δ W.1,by simp only[Act.put,cj,dp,da],oC j1,aq g aY,a8,Ou,a17,I5,Ot,a20,a21,a26,λh=>⟨(D h).1,(D h).2.1,aF aY (D h).2.2⟩,λ_=>⟨rfl,g.size,by show _=C' (j' (if L 25=true then _ else _) _ _);rw[hf];exact bj _ _⟩,λh _=>Nat.ne_of_lt<|À (D h).2.2,O5,λh=>absurd (hf.symm.trans h) aj⟩
   .have aa:L 22=true:=UD ⟨22,.data⟩ ak rfl;obtain⟨rfl,f,wI⟩:=D aa;obtain rfl:=Ot<|UD ⟨19,.data⟩ ak rfl;rw[C,ax aj]at wI;have k1:=(A wI).1;have k2:=(A wI).2;go_simp;exact hK.out _ _ ⟨Md,Mc,Mb,QU,k' #[(dF F),(dE F)],L!,L?,n'<|C'<|O l 0,Me,Jw,l,bb,by simp only[Act.put,cj,dp,da],oC j1,(g.setCell f _).setCell f _,a8,Ou,a17,I5,Ot,a20,a21,a26,λ_=>⟨rfl,f,by rw[aw (aw wI _) _];rfl⟩,λh=>⟨(E h).1,(E h).2.1,(bh _ _ _ _ λe=>ne aa h e.symm).trans<|(bh _ _ _ _ λe=>ne aa h e.symm).trans (E h).2.2⟩,ne,λ_=>aa,O4⟩
   .have l23:L 23=true:=UD ⟨23,.data⟩ ak rfl;obtain⟨rfl,f,wI⟩:=E l23;obtain rfl:=a20<|UD ⟨20,.data⟩ ak rfl;rw[C,ax aj]at wI;have k1:=(A wI).1;have k2:=(A wI).2;go_simp;exact hK.out _ _ ⟨Md,Mc,Mb,QU,Ma,k' #[(dF yy),(dE yy)],L?,x9,n'<|C'<|O bb 0,Jw,l,bb,by simp only[Act.put,cj,dp,da],oC j1,(g.setCell f _).setCell f _,a8,Ou,a17,I5,Ot,a20,a21,a26,λh=>⟨(D h).1,(D h).2.1,(bh _ _ _ _<|ne h l23).trans<|(bh _ _ _ _<|ne h l23).trans (D h).2.2⟩,λ_=>⟨rfl,f,by rw[aw (aw wI _) _];rfl⟩,ne,O5,λ_=>l23⟩
   obtain rfl:=a21<|UD ⟨21,.data⟩ ak rfl;go_simp;exact hK.out _ _ ⟨Md,Mc,Mb,QU,Ma,L!,i' t,x9,Me,i' t,l,bb,by simp only[Act.put,cj,dp,da],oC j1,g,a8,Ou,a17,I5,Ot,a20,a21,λ_=>rfl,D,E,ne,O5,O4⟩
  clear aE;rintro L b W hA ⟨Md,Mc,Mb,QU,Ma,L!,L?,x9,Me,Jw,l,bb,rfl,N⟩;obtain⟨j1,g,a8,Ou,a17,I5,Ot,a20,a21,a26,D,E,ne,O5,O4⟩:=N.o;have hl:=λi (h:i<27)=>hA i h;obtain⟨rfl,-,h1⟩:=D<|hl 22 aj;obtain⟨rfl,-,h2⟩:=E<|hl 23 aj;obtain rfl:=a26<|hl 26 aj;rw[hl 24 aj,aB rfl]at h1;rw[hl 25 aj,aB rfl]at h2;have f:=ſ<|M g<|M h1 h2;clear j1 g a8 Ou a17 I5 Ot a20 a21 a26 D E ne O5 O4 hl hA h1 h2;simp only[Act.put,cj,dp,da];go_wp2_with fail
  go_meet
  exact⟨l,bb,rfl,rfl,rfl,f.o⟩
 obtain⟨l,bb,rfl,rfl,rfl,Y⟩:=hcut
 rename t'=>X4
 have f:=Y.a.size;cases t
 .have f:J (ne=PE.zero):=HN.o;have U:=b5 (n:=17) (aF Y.a B.a.2.2) rfl;go_wp2_with (refine wpList_store_mid rfl bN (.tmp 8) (.tmp 36) rfl (δ w.1+1+1) 0 (θ<|aL PE.zero) rfl rfl U H (bn _) ?_);have hq:=cm (cs:=qd) (aF Y.a B.a.2.2) (vs:=aL PE.zero) rfl;have C:=run_loadVar_mid (P:=Tryz.prog) (ψ X4 (δ w.1+1+1) 0<|aL PE.zero) (δ w.1+1+1) 0 bN (aL PE.zero) _ (bf hq) fX rfl H;refine aC (v:=k'<|θ<|aL PE.zero) (by simp[results,results315,results325,C,Act.put,asAddr]) rfl ⟨by rw[f.o],cM I _ _ _<|aq B.A Y.a⟩
 have t:J (ne=e2):=HN.o;have f:=aF Y.a B.a.1;have g:=aF Y.a B.a.2.1;have D:=aF Y.a B.a.2.2;have u:l≠δ w.1+1+1:=by rintro rfl;have h:=Y.b;rw[D]at h;simp at h
 have z:bb≠δ w.1+1+1:=by rintro rfl;have h:=Y.B;rw[D]at h;simp at h
 clear D;go_upto_region 4 with fail
 refine wp_region_held_drew (S:=λW'=>Bl w W'/\W'.1[δ w.1]?=C' (j' (θ<|aL e) bN (0,0))/\W'.1[δ w.1+1]?=C' (j' #[m' bL,h' wa wl wc,G x,G var,G op,G test,i' nA.aN,G nA.var,G nA.bJ,i' T.aN,G T.var,G T.bJ,h' ea el ec,m' dz] 152 (0,0))/\W'.1[l]?=C' (j' #[(dF F),(dE F)] iH (0,0))/\W'.1[bb]?=C' (j' #[(dF yy),(dE yy)] iH (0,0))) H ⟨(aq B.A Y.a).drew,f,g,Y.b,Y.B⟩ λaE=>?_;refine tq 0 (.iface ib<|k' #[]) ?_;refine tq 1 (.iface ib<|k' #[]) ?_;refine tz 2 (k'<|θ<|aL e) ?_ (y:=yieldsIf_load_mid H _ _ rfl _ _ rfl _ _ (λW' bm=>bf bm.2.1) fX rfl H);refine tq 3 (n'<|C'<|O (δ w.1+1) 6) ?_;refine tr 4 (k' #[i' nA.aN,G nA.var,G nA.bJ]) (λW' bm=>M ((A bm.2.2.1).1)<|M ((A bm.2.2.2.1).1)<|(A bm.2.2.2.2).1) ?_;refine tr 5 (k' #[(dF F),(dE F)]) (λW' bm=>M ((A bm.2.2.1).1)<|M ((A bm.2.2.2.1).1)<|(A bm.2.2.2.2).1) ?_;refine tq 7 (n'<|C'<|O (δ w.1+1) 9) ?_;refine tr 8 (k' #[i' T.aN,G T.var,G T.bJ]) (λW' bm=>M ((A bm.2.2.1).1)<|M ((A bm.2.2.2.1).1)<|(A bm.2.2.2.2).1) ?_;refine tr 9 (k' #[(dF yy),(dE yy)]) (λW' bm=>M ((A bm.2.2.1).1)<|M ((A bm.2.2.2.1).1)<|(A bm.2.2.2.2).1) ?_;refine r1 6 λK hK=>?_;go_simp;refine(ff.o _).mono ?_;rintro r f ⟨rfl,hb⟩;have g:J (Bl X4 f):=aq ay hb;clear hb;refine hK.out _ _ ⟨aq B.A<|aq Y.a g.o,aF g.o<|aF Y.a B.a.1,aF g.o<|aF Y.a B.a.2.1,aF g.o Y.b,aF g.o Y.B⟩ λaE=>?_;clear hK K;refine pt ?_;refine r1 10 λK hK=>?_;go_simp;refine(s.o _).mono ?_;rintro r f ⟨rfl,hb⟩;have F:J (Bl X4 f):=aq (aq g.o ay) hb;clear hb;refine hK.out _ _ ⟨aq B.A<|aq Y.a F.o,aF F.o<|aF Y.a B.a.1,aF F.o<|aF Y.a B.a.2.1,aF F.o Y.b,aF F.o Y.B⟩ λaE=>?_;clear hK K;refine pt ?_;refine r1 11 λK hK=>?_;rw[aB H];have U:=b5 (n:=17) (aF F.o<|aF Y.a B.a.2.2) rfl;refine wp_store_mid bN (.tmp 8) (.tmp 47) rfl (δ w.1+1+1) 0 (θ<|aL e2) rfl rfl U H (bn _) ?_;refine hK.out _ _ ⟨cM I _ _ _<|aq B.A<|aq Y.a F.o,(dC _ _ _ _ _ I).trans<|aF F.o<|aF Y.a B.a.1,(dC _ _ _ _ _ I).trans<|aF F.o<|aF Y.a B.a.2.1,(dC _ _ _ _ _ u).trans<|aF F.o Y.b,(dC _ _ _ _ _ z).trans<|aF F.o Y.B⟩ λaE=>?_;clear hK K;refine pt ?_;refine wpAnyH_done H ?_ _;go_wp2_with fail;have hq:=cm (cs:=qd) (aF F.o<|aF Y.a B.a.2.2) (vs:=aL e2) rfl;have C:=run_loadVar_mid (P:=Tryz.prog) (ψ f (δ w.1+1+1) 0<|aL e2) (δ w.1+1+1) 0 bN (aL e2) _ (bf hq) fX rfl H
 refine aC (v:=k'<|θ<|aL e2) (by simp[results,results315,results325,C,Act.put,asAddr]) rfl ⟨by rw[t.o],cM I _ _ _<|aq B.A<|aq Y.a F.o⟩):p:=h
open KC in
def KC.vQ(e:PE)(bL:z')(wa ea:u')(wl wc el ec:Nat)(n:SN)(so:Bool)(w:t')(ha:n.a.aN=true->0<=n.a.var/\n.a.var<8)(hb:n.b.aN=true->0<=n.b.var/\n.b.var<8)(En:dD<|b6<|jl e n.a)(Cp:dD<|b6<|jl e n.b):
 Cl 315 #[.iface 328<|k' #[],k'<|θ<|KC.aL e,k'<|aJ bL (h' wa wl wc) n<|h' ea el ec,i' so] w (Rb w<|k'<|θ<|KC.aL<|KC.rZ e n so):=by exact Ĩ
open KB in
def KB.vQ(e:PE)(bL:z')(wa ea:u')(wl wc el ec:Nat)(n:SN)(so:Bool)(w:t')(ha:n.a.aN=true->0<=n.a.var/\n.a.var<8)(hb:n.b.aN=true->0<=n.b.var/\n.b.var<8)(En:dD<|b6<|jl e n.a)(Cp:dD<|b6<|jl e n.b):
 Cl 325 #[.iface 331<|k' #[],k'<|θ<|KB.aL e,k'<|aJ bL (h' wa wl wc) n<|h' ea el ec,i' so] w (Rb w<|k'<|θ<|KB.aL<|KB.rZ e n so):=by exact Ĩ
end
section
def Ļ{p:Prop}(h:p:=by
 have Y:=ſ λW=>vQ e bL wa ea wl wc el ec n so W ha hb En Cp;clear ha hb En Cp;generalize rZ e n so=c at Y|-;obtain⟨x,q,i,b,d,T,g⟩:=n;simp only[aJ]at Y hn|-;go_enter afD,afn;go_upto_region 1 with fail
 generalize u:(w.alloc<|j' (θ<|aL e) bN).alloc (j' iZ bN)=V;have B:J ((V.1[δ w.1]?=C' (j' (θ<|aL e) bN (0,0))/\V.1[δ w.1+1]?=C' (j' iZ bN (0,0)))/\Bl w V/\V.1[nb]?=C' (j' #[m' bL,h' wa wl wc,G x,G q,G i,G b,i' d.aN,G d.var,G d.bJ,i' T.aN,G T.var,G T.bJ,h' ea el ec,m' g] 152 (0,0))/\V.1[db]?=C' (j' #[.iface ib<|k' #[]] yR (0,0))/\V.1[fb]?=C' (x! so)):=by subst u;exact⟨eO,cU,aF cU hn,aF cU hd,aF cU hf⟩
 clear u;clear hn hd hf;have E:δ w.1+1<δ V.1:=À B.a.2;have b:=A B.c;have W:=A B.d;have K:=A B.D;go_wp2_with (first|(refine wpList_load_mid rfl bN (.tmp 4) rfl w.1.size 0 rfl (aL e) _ (bf B.a.1) fX rfl H ?_)|((first|go_at_call 315 | go_at_call 325);refine(Y.o _).mono ?_;rintro r b ⟨rfl,hb⟩;have f:J (Bl V b):=hb;clear hb;have U:=b5 (n:=17) (aF f.o B.a.2) rfl)|(refine wpList_store_mid rfl bN (.tmp 5) (.tmp 10) rfl (δ w.1+1) 0 (θ<|aL c) rfl rfl U H (bn _) ?_));have d:=cm (cs:=qd) (aF f.o B.a.2) (vs:=aL c) rfl;have C:=run_loadVar_mid (P:=Tryz.prog) (ψ b (δ w.1+1) 0<|aL c) (δ w.1+1) 0 bN (aL c) _ (bf d) fX rfl H
 refine aC (v:=k'<|θ<|aL c) (by simp[results,results314,results324,C,Act.put,asAddr]) rfl ⟨rfl,cM I _ _ _<|aq B.b f.o⟩):p:=h
open KC in
def KC.y5(e:PE)(bL:z')(wa ea:u')(wl wc el ec:Nat)(n:SN)(so:Bool)(nb db fb:Nat)(w:t')(hn:w.1[nb]?=C' (j' (aJ bL (h' wa wl wc) n<|h' ea el ec) 152 (0,0)))(hd:w.1[db]?=C' (j' #[.iface 328<|k' #[]] 381 (0,0)))(hf:w.1[fb]?=C' (x! so))(ha:n.a.aN=P'->0<=n.a.var/\n.a.var<8)(hb:n.b.aN=P'->0<=n.b.var/\n.b.var<8)(En:dD<|b6<|jl e n.a)(Cp:dD<|b6<|jl e n.b):
 Cl 314 #[k'<|θ<|KC.aL e,n'<|C'<|O db 0,n'<|C'<|O nb 0,n'<|C'<|O fb 0] w (Rb w<|k'<|θ<|KC.aL<|KC.rZ e n so):=Ļ
open KB in
def KB.y5(e:PE)(bL:z')(wa ea:u')(wl wc el ec:Nat)(n:SN)(so:Bool)(nb db fb:Nat)(w:t')(hn:w.1[nb]?=C' (j' (aJ bL (h' wa wl wc) n<|h' ea el ec) 152 (0,0)))(hd:w.1[db]?=C' (j' #[.iface 331<|k' #[]] 386 (0,0)))(hf:w.1[fb]?=C' (x! so))(ha:n.a.aN=P'->0<=n.a.var/\n.a.var<8)(hb:n.b.aN=P'->0<=n.b.var/\n.b.var<8)(En:dD<|b6<|jl e n.a)(Cp:dD<|b6<|jl e n.b):
 Cl 324 #[k'<|θ<|KB.aL e,n'<|C'<|O db 0,n'<|C'<|O nb 0,n'<|C'<|O fb 0] w (Rb w<|k'<|θ<|KB.aL<|KB.rZ e n so):=Ļ
end
section
variable {i t:Nat}{e:PE}
def KC.S0(e:PE)(h:i<8)(w:t'):(Instr.index 226 (k'<|θ (KC.aL e).tail)<|G i).run Tryz.prog w=.ok (k' #[(i' (e.at i).any),(G (e.at i).lo)]) w:=by rcases TR h with rfl|rfl|rfl|rfl|rfl|rfl|rfl|rfl<;>simp[Instr.index,ur<|underlying226,asIntOf,go_sem,KC.aL,PE.at]
def KB.S0(e:PE)(h:i<8)(w:t'):(Instr.index 248 (k'<|θ (KB.aL e).tail)<|G i).run Tryz.prog w=.ok (k' #[(G (e.at i).lo),(G (e.at i).hi)]) w:=by rcases TR h with rfl|rfl|rfl|rfl|rfl|rfl|rfl|rfl<;>simp[Instr.index,ur<|underlying248,asIntOf,go_sem,KB.aL,PE.at]
def KC.qtl(h:w.1[b]?=C' (j' (θ<|KC.aL e) t (0,0))):w.rangeAt b 1 (KC.aL e).tail:=λj v R=>by have:=bf h (j+1) v<|J' R;rwa[bW,xS]at this
def KB.qtl(h:w.1[b]?=C' (j' (θ<|KB.aL e) t (0,0))):w.rangeAt b 1 (KB.aL e).tail:=λj v R=>by have:=bf h (j+1) v<|J' R;rwa[bW,xS]at this
def KC.S1(h:w.1[b]?=C' (j' (θ<|KC.aL e) t (0,0)))(S:i<8):χ w (O b<|1+i*2)=C' (i' (e.at i).any)/\χ w (O b<|1+i*2+1)=C' (G (e.at i).lo):=by have E:=(A h).1;exact⟨by rw[E];exact(cz ..).trans (KC.iX e S).1,by rw[E];exact(cz ..).trans (KC.iX e S).2⟩
def KB.S1(h:w.1[b]?=C' (j' (θ<|KB.aL e) t (0,0)))(S:i<8):χ w (O b<|1+i*2)=C' (G (e.at i).lo)/\χ w (O b<|1+i*2+1)=C' (G (e.at i).hi):=by have E:=(A h).1;exact⟨by rw[E];exact(cz ..).trans (KB.iX e S).1,by rw[E];exact(cz ..).trans (KB.iX e S).2⟩
def KC.Kg(a b:VV):Bool:=(a.any==b.any&&a.lo==b.lo)||b.any
def KB.Kg(a b:VV):Bool:=decide (b.lo<=a.lo)&&decide (a.hi<=b.hi)
def KC.MX(a b:VV)(w:t')(d:dD<|b6 a)(e:dD<|b6 b):Cl 383 #[k' #[],KC.qv a,KC.qv b] w (Rb w<|i'<|KC.Kg a b):=K3 (k' #[]) a.any b.any a.lo b.lo w rfl d.lo e.lo
def KB.MX(a b:VV)(w:t')(_:dD<|b6 a)(_:dD<|b6 b):Cl 390 #[k' #[],KB.qv a,KB.qv b] w (Rb w<|i'<|KB.Kg a b):=LR (k' #[]) (b6 a) (b6 b) w rfl
def KC.fq(lo hi:PE):Bool:=if lo.r&&hi.r then(range 8).all (λi=>KC.Kg (lo.at i)<|hi.at i) else !lo.r
def KB.fq(lo hi:PE):Bool:=if lo.r&&hi.r then(range 8).all (λi=>KB.Kg (lo.at i)<|hi.at i) else !lo.r
def ľ{p:Prop}(h:p:=by
 have g:=ſ λi W=>MX (lo.at i) (hi.at i) W (hl i)<|hh i;simp only[KC.qv,KB.qv]at g;clear hl hh;obtain⟨a,e⟩:=Ea<|fq lo hi;rw[<-e];obtain⟨d,l⟩:=Ea lo.r;obtain⟨o,X⟩:=Ea hi.r;have c:(aL lo)[0]?=C' (i' d):=by rw[l];rfl
 have Y:(aL hi)[0]?=C' (i' o):=by rw[X];rfl
 have T:J (a=if d&&o then(range 8).all (λi=>Kg (lo.at i)<|hi.at i) else !d):=by show _=_;rw[e,l,X];rfl
 clear e l X;have f:=ſ λi (h:i<8) W=>S0 lo h W;go_enter afC,afm;go_upto_region 1 with fail
 generalize u:(w.alloc<|j' (θ<|aL lo) bN).alloc (j' (θ<|aL hi) bN)=V;have B:J ((d' V w.1.size (θ<|aL lo) bN/\d' V (δ w.1+1) (θ<|aL hi) bN)/\Bl w V):=by subst u;exact⟨eO,cU⟩
 clear u;have t:χ V (O w.1.size 0)=C' (i' d):=by rw[(A B.a.1).1];exact(cz ..).trans c
 have b:χ V (O (δ w.1+1) 0)=C' (i' o):=by rw[(A B.a.2).1];exact(cz ..).trans Y
 clear c Y;cases d
 .obtain rfl:a=P':=by rw[T.o];rfl
  go_wp2_with fail;go_ret;exact⟨rfl,B.A⟩
 cases o
 .obtain rfl:a=Q':=by rw[T.o];rfl
  go_wp2_with fail;go_ret;exact⟨rfl,B.A⟩
 have e:J (a=(range 8).all (λi=>Kg (lo.at i)<|hi.at i)):=by show _=_;rw[T.o];rfl
 have E:=À B.a.2;go_wp2_with (refine wpList_load_mid rfl Xx (.tmp 20) rfl w.1.size 1 rfl (aL lo).tail _ (qtl B.a.1) Xw rfl H ?_);clear t b;go_loopw[22] (λy wr=>∃i:Nat,i<=8/\y=G i/\J ((range i).all (λi=>Kg (lo.at i)<|hi.at i)=P'/\Bl V wr)) (λy _=>8-(intOf y).toNat)
 case atStart=>exact⟨0,I,rfl,rfl,aP _ _⟩
 obtain⟨i,b,rfl,c⟩:=hrel;by_cases L:i<8;rotate_left
 .have b:¬(i:Int)<8:=I;obtain rfl:i=8:=I;obtain rfl:a=P':=by rw[e.o];exact c.a
  go_wp2_with fail;go_ret;exact⟨rfl,aq B.A c.A⟩
 have b:(i:Int)<8:=I;have k:=f.o i L;have z:=c.A.size;obtain⟨q,b⟩:=Ea<|Kg (lo.at i)<|hi.at i;have Y:=ſ<|g.o i;rw[<-b]at Y;have g:=ſ b;clear b;have d:=BX;have N:=BV;go_upto_region 6 with fail
 generalize u:wr.alloc (j' #[(dF<|lo.at i),(dE<|lo.at i)] iH)=T;have X:J (Bl wr T/\d' T wr.1.size #[(dF<|lo.at i),(dE<|lo.at i)] iH):=by subst u;exact⟨aY,bj _ _⟩
 clear u;have S:J (∀w',Bl T w'->χ w' (O wr.1.size 0)=C' (dF<|lo.at i)/\χ w' (O wr.1.size 1)=C' (dE<|lo.at i)/\χ w' (O (δ w.1+1)<|1+i*2)=C' (dF<|hi.at i)/\χ w' (O (δ w.1+1)<|1+i*2+1)=C' (dE<|hi.at i)):=by intro w' j;have R:=(A<|aF j X.A).1;have F:=S1 (aF j<|aF X.a<|aF c.A B.a.2) L;exact⟨R 0,R 1,F.1,F.2⟩
 have j:=S.o T<|aP _ _;clear k
 go_region_held3 (λw'=>χ w' (O wr.1.size 0)=C' (dF<|lo.at i)/\χ w' (O wr.1.size 1)=C' (dE<|lo.at i)/\χ w' (O (δ w.1+1)<|1+i*2)=C' (dF<|hi.at i)/\χ w' (O (δ w.1+1)<|1+i*2+1)=C' (dE<|hi.at i)) (go_keep) (((first|go_at_call 383 | go_at_call 390);refine(Y.o _).mono ?_;rintro r f ⟨rfl,d⟩;have b:Bl T f:=aq ay d;have D:=ſ b;have P:=S.o f b;clear d b))
 all_goals
  clear j P;cases q
  .obtain rfl:a=Q':=by rw[e.o];exact uK g.o.symm L
   go_wp2_with fail;go_ret;exact⟨rfl,aq B.A<|aq c.A<|aq X.a D.o⟩
  go_wp2_with fail;go_roundw
  case rel=>exact⟨i+1,L,f',by rw[lq,c.a,<-g.o];rfl,aq c.A<|aq X.a D.o⟩
  exact H'):p:=h
open KC in
def KC.y!(lo hi:PE)(w:t')(hl:∀i,dD<|b6<|lo.at i)(hh:∀i,dD<|b6<|hi.at i):
 Cl 273 #[.iface 328<|k' #[],k'<|θ<|KC.aL lo,k'<|θ<|KC.aL hi] w (Rb w<|i'<|KC.fq lo hi):=ľ
open KB in
def KB.y!(lo hi:PE)(w:t')(hl:∀i,dD<|b6<|lo.at i)(hh:∀i,dD<|b6<|hi.at i):
 Cl 278 #[.iface 331<|k' #[],k'<|θ<|KB.aL lo,k'<|θ<|KB.aL hi] w (Rb w<|i'<|KB.fq lo hi):=ľ
end
section
variable {a e:PE}{o:Nat}{L:List A'}
def KC.qPE.sJ(i:Nat):PE.zero.at i=VV.z:=by unfold PE.at PE.zero;simp
def KB.qPE.sJ(i:Nat):PE.zero.at i=VV.z:=by unfold PE.at PE.zero;simp
def KC.wF(a b:VV):VV:=if (a.any==b.any&&a.lo==b.lo) then a else VV.fM
def KB.wF(a b:VV):VV:=⟨a.any,min a.lo b.lo,max a.hi b.hi⟩
def KC.MT(a b:VV)(w:t')(e:dD<|b6 a)(c:dD<|b6 b):Cl 387 #[k' #[],KC.qv a,KC.qv b] w (Rb w<|KC.qv<|KC.wF a b):=by refine(P9 (k' #[]) a.any b.any a.lo b.lo w rfl e.lo c.lo).mono ?_;rintro r d ⟨rfl,c⟩;refine⟨?_,c⟩;unfold KC.wF;split<;>rfl
def KB.MT(a b:VV)(w:t')(_:dD<|b6 a)(_:dD<|b6 b):Cl 394 #[k' #[],KB.qv a,KB.qv b] w (Rb w<|KB.qv<|KB.wF a b):=QM (k' #[]) (b6 a) (b6 b) w rfl
def KC.lO(a e:PE)(i:Nat):PE:=(range i).foldl (λs k=>s.put k<|KC.wF (a.at k)<|e.at k) a
def KB.lO(a e:PE)(i:Nat):PE:=(range i).foldl (λs k=>s.put k<|KB.wF (a.at k)<|e.at k) a
def KC.gg(a e:PE)(i:Nat):KC.lO a e (i+1)=(KC.lO a e i).put i (KC.wF (a.at i)<|e.at i):=by simp[KC.lO,kI]
def KB.gg(a e:PE)(i:Nat):KB.lO a e (i+1)=(KB.lO a e i).put i (KB.wF (a.at i)<|e.at i):=by simp[KB.lO,kI]
def KC.xj(a e:PE):∀(i:Nat),i<=8->∀j,i<=j->(KC.lO a e i).at j=a.at j
 |0,_,_,_=>rfl
 |i+1,h,j,hj=>by rw[KC.gg,PE.jO _ I,ax I,KC.xj a e i I j I]
def KB.xj(a e:PE):∀(i:Nat),i<=8->∀j,i<=j->(KB.lO a e i).at j=a.at j
 |0,_,_,_=>rfl
 |i+1,h,j,hj=>by rw[KB.gg,PE.jO _ I,ax I,KB.xj a e i I j I]
def Œ(h:p:=by
 have X:∀k,k<=8->∀i,dD (b6<|(lO a e k).at i):=by
  intro k;induction k with
  |zero=>exact λ_=>ha
  |succ k B=>
   intro c i;rw[gg,PE.jO _ I];split
   .exact hj _ _ (ha k)<|he k
   exact B I i
 exact X 8 I):p:=h
open KC in
def KC.aa4(ha:∀i,dD<|b6<|a.at i)(he:∀i,dD<|b6<|e.at i)(hj:∀a b:VV,dD (b6 a)->dD (b6 b)->dD (b6<|KC.wF a b)):∀i,dD (b6<|(KC.lO a e 8).at i):=Œ
open KB in
def KB.aa4(ha:∀i,dD<|b6<|a.at i)(he:∀i,dD<|b6<|e.at i)(hj:∀a b:VV,dD (b6 a)->dD (b6 b)->dD (b6<|KB.wF a b)):∀i,dD (b6<|(KB.lO a e 8).at i):=Œ
def KC.j8(a e:PE):PE:=if a.r then(if e.r then KC.lO a e 8 else a) else e
def KB.j8(a e:PE):PE:=if a.r then(if e.r then KB.lO a e 8 else a) else e
def KC.gF(w:t')(ao:u')(es:List PE):Prop:=∀j e,es[j]?=C' e->∃b o,ao=C' (O b o)/\w.rangeAt b (o+j*17) (KC.aL e)
def KB.gF(w:t')(ao:u')(es:List PE):Prop:=∀j e,es[j]?=C' e->∃b o,ao=C' (O b o)/\w.rangeAt b (o+j*17) (KB.aL e)
def KC.fD{a:t'}(h:w.rangeAt b o L)(c:Bl w a):a.rangeAt b o L:=λj v R=>aA (h j v R) c
def KB.fD{a:t'}(h:w.rangeAt b o L)(c:Bl w a):a.rangeAt b o L:=λj v R=>aA (h j v R) c
def KC.yX(a e:PE):∀i,(KC.lO a e i).r=a.r
 |0=>rfl
 |i+1=>by rw[KC.gg];exact KC.yX a e i
def KB.yX(a e:PE):∀i,(KB.lO a e i).r=a.r
 |0=>rfl
 |i+1=>by rw[KB.gg];exact KB.yX a e i
def œ(h:p:=by
 have s:=ſ<|M h<|M Hp hj;clear h Hp hj;obtain⟨k,hk⟩:=Ea<|ζ es;rw[<-hk]at hn|-;have o:=ſ hk;clear hk;go_enter afB,afl;go_upto_region 2 with fail
 generalize u:(w.alloc<|j' iZ bN).alloc (j' iZ bN)=V;have B:J ((V.1[δ w.1]?=C' (j' iZ bN (0,0))/\V.1[δ w.1+1]?=C' (j' (θ<|aL PE.zero) bN (0,0)))/\Below w.1.size w V):=by subst u;exact⟨eO,cU⟩
 clear u;go_wp2_with fail;go_loopw[12] (λF wr=>∃(j:Nat)(a:PE),j<=k/\F=G j/\J (a=(es.take j).foldl j8 PE.zero/\(∀i,dD<|b6<|a.at i)/\Below w.1.size w wr/\wr.1[δ w.1]?=C' (j' iZ bN (0,0))/\wr.1[δ w.1+1]?=C' (j' (θ<|aL a) bN (0,0)))) (λF _=>k-(intOf F).toNat)
 case atStart=>exact⟨0,PE.zero,bq _,rfl,rfl,λi=>by rw[qPE.sJ];exact⟨aj,aj⟩,B.A,B.a.1,B.a.2⟩
 obtain⟨j,a,hj,rfl,B⟩:=hrel;by_cases E:j<k;rotate_left
 .have g:¬(j:Int)<k:=I;obtain rfl:j=k:=I;have T:J (a=es.foldl j8 PE.zero):=by show _=_;rw[B.a,o.o,nB]
  have U:=b5 (n:=17) B.d rfl;go_wp2_with (first|(refine wpList_load_mid rfl bN (.tmp 5) rfl (δ w.1+1) 0 rfl (aL a) _ (bf B.D) fX rfl H ?_)|(refine wpList_store_mid rfl bN (.tmp 4) (.tmp 44) rfl w.1.size 0 (θ<|aL a) rfl rfl U H (bn _) ?_));have hq:=cm (cs:=qd) B.d (vs:=aL a) rfl;have C:=run_loadVar_mid (P:=Tryz.prog) (ψ wr w.1.size 0<|aL a) w.1.size 0 bN (aL a) _ (bf hq) fX rfl H;refine aC (v:=k'<|θ<|aL a) (by simp[results,results271,results276,C,Act.put,asAddr]) rfl ⟨by rw[T.o],cM (aD _) _ _ _ B.c⟩
 have g:(j:Int)<k:=I;obtain⟨e,l⟩:=La (l:=es) (i:=j) (by rw[<-o.o];exact E);obtain⟨b,o,rfl,g⟩:=s.a j e l;have hr:=fD g B.c;have C:=ſ<|M (Cr j8 PE.zero l)<|s.b e<|aK l;clear g l;have l:=b5 (n:=17) (bj wr<|j' iZ bN) rfl;go_upto_region 5 with(first|(refine wpList_load_mid rfl bN (.tmp 14) rfl b (o+j*17) rfl (aL e) _ hr fX rfl H ?_)|(refine wpList_store_mid rfl bN (.tmp 7) (.tmp 15) rfl wr.1.size 0 (θ<|aL e) rfl rfl l H (bn _) ?_))
 have x:J (Below wr.1.size wr (ψ (wr.alloc<|j' iZ bN) wr.1.size 0<|aL e)/\(ψ (wr.alloc<|j' iZ bN) wr.1.size 0<|aL e).1[δ wr.1]?=C' (j' (θ<|aL e) bN (0,0))):=⟨cM (aD _) _ _ _ aY,cm (cs:=qd) (bj wr<|j' iZ bN) rfl⟩
 try simp only[Act.put]
 generalize(wr.alloc<|j' iZ bN).setCells wr.1.size 0 (aL e)=U at x|-;have z:=B.c.size;have N:δ w.1+1<δ wr.1:=À B.D;have t:=aF x.a B.d;have o:=aF x.a B.D;have g:=ſ<|M t<|M o<|aq B.c x.a;clear t o hr l;obtain⟨D,l⟩:=Ea a.r;obtain⟨o,X⟩:=Ea e.r;have t:χ U (O (δ w.1+1) 0)=C' (i' D):=by rw[(A g.b).1];exact(cz ..).trans (by rw[l];rfl)
 have Y:χ U (O wr.1.size 0)=C' (i' o):=by rw[(A x.A).1];exact(cz ..).trans (by rw[X];rfl)
 have L:J (j8 a e=if D then(if o then lO a e 8 else a) else e):=by show _=_;rw[l,X];rfl
 clear l X;cases D
 .have l:=b5 (n:=17) g.b rfl;go_upto_region 13 with(first|(refine wpList_load_mid rfl bN (.tmp 7) rfl wr.1.size 0 rfl (aL e) _ (bf x.A) fX rfl H ?_)|(refine wpList_store_mid rfl bN (.tmp 5) (.tmp 19) rfl (δ w.1+1) 0 (θ<|aL e) rfl rfl l H (bn _) ?_))
  try simp only[Act.put]
  generalize u:ψ U (δ w.1+1) 0 (aL e)=l;have D:J (Below w.1.size w l/\l.1[δ w.1]?=C' (j' iZ bN (0,0))/\l.1[δ w.1+1]?=C' (j' (θ<|aL e) bN (0,0))):=by subst u;exact⟨cM I _ _ _ g.B,(dC _ _ _ _ _ I).trans g.a,cm g.b rfl⟩
  clear u;clear t Y;go_wp2_with fail;go_roundw
  case rel=>exact⟨j+1,e,E,f',by rw[C.a,<-B.a,L.o];rfl,C.A,D.a,D.b,D.B⟩
  simp[intOf];omega
 cases o
 .go_wp2_with fail;go_roundw
  case rel=>exact⟨j+1,a,E,f',by rw[C.a,<-B.a,L.o];rfl,B.b,g.B,g.a,g.b⟩
  simp[intOf];omega
 go_wp2_with (refine wpList_load_mid rfl Xx (.tmp 23) rfl wr.1.size 1 rfl (aL e).tail _ (qtl x.A) Xw rfl H ?_);obtain⟨l,o⟩:=Ea wr.1.size;rw[<-o]at N x|-;have u:l<δ U.1:=À x.A;have l:=ſ<|M B.a<|M B.b L.o;clear o t Y z;go_loopw[25] (λF wr=>∃i:Nat,i<=8/\F=G i/\J (Below w.1.size w wr/\wr.1[δ w.1]?=C' (j' iZ bN (0,0))/\wr.1[δ w.1+1]?=C' (j' (θ<|aL<|lO a e i) bN (0,0)))) (λF _=>8-(intOf F).toNat)
 case atStart=>exact⟨0,I,rfl,g.B,g.a,g.b⟩
 obtain⟨i,u,rfl,g⟩:=hrel;by_cases L:i<8;rotate_left
 .have o:¬(i:Int)<8:=I;obtain rfl:i=8:=I;go_wp2_with fail;go_roundw
  case rel=>exact⟨j+1,lO a e 8,E,f',by rw[C.a,<-l.a,l.B];rfl,aa4 l.b C.A s.B,g.a,g.b,g.B⟩
  simp[intOf];omega
 have o:(i:Int)<8:=I;have U:=λW=>S0 e L W;have j:=Gk;have N:=Gi;have o:=ſ λW=>MT (a.at i) (e.at i) W (l.b i)<|C.A i;simp only[KC.qv,KB.qv]at o;have F:=ſ<|xj a e i u i<|aD _;have j:=ſ<|gg a e i;generalize wF (a.at i) (e.at i)=l at o j;have l:δ w.1+1<δ wr.1:=À g.B;go_upto_region 11 with fail
 have X:J (Below w.1.size w (wr.alloc<|j' #[(dF<|e.at i),(dE<|e.at i)] iH)/\(wr.alloc<|j' #[(dF<|e.at i),(dE<|e.at i)] iH).1[δ wr.1]?=C' (j' #[(dF<|e.at i),(dE<|e.at i)] iH (0,0))/\(wr.alloc<|j' #[(dF<|e.at i),(dE<|e.at i)] iH).1[δ w.1+1]?=C' (j' (θ<|aL<|lO a e i) bN (0,0))):=⟨aq g.a aY,bj _ _,aF aY g.B⟩;have E:=ſ<|aF (cE wr<|j' #[(dF<|e.at i),(dE<|e.at i)] iH) g.b;generalize wr.alloc (j' #[(dF<|e.at i),(dE<|e.at i)] iH)=T at X E|-;have l:δ wr.1≠δ w.1+1:=I;clear U;refine wp_region_held_drew (S := λW' => Below w.1.size w W' /\ W'.1[δ wr.1]? = C' (j' #[(dF<|e.at i), (dE<|e.at i)] iH (0, 0))) H ⟨X.o.1.drew, X.o.2.1⟩ λaE => ?_;refine tq 0 (G i) ?_;refine tq 1 (.iface ib<|k' #[]) ?_;refine tq 2 (G i) ?_;refine tq 3 (n'<|C'<|O (δ w.1 + 1) 1) ?_;refine tq 4 (n'<|C'<|O (δ w.1 + 1)<|1 + i * 2) ?_;refine tr 6 (k' #[(dF<|e.at i), (dE<|e.at i)]) (λW' bm => (A bm.2).1) ?_;refine tq 7 (.func (.method "warrant/rules.join") #[.iface ib<|k' #[]] #[]) ?_;refine tq 8 (.func (.method "warrant/rules.join") #[.iface ib<|k' #[]] #[]) ?_;refine tq 9 (.iface ib<|k' #[]) ?_;refine tq 11 (n'<|C'<|O (δ w.1 + 1) 1) ?_;refine r1 5 λK g => ?_;obtain⟨t,Y⟩:=S1 X.B L;rw[F.o]at t Y;go_simp;refine g.out _ _ aE λaE=>?_;clear g K t Y;refine pt ?_;refine r1 10 λK g=>?_;go_simp;refine(o.o _).mono ?_;rintro r s ⟨rfl,o⟩;have D:J (Bl T s):=aq ay o;clear o;refine g.out _ _ ⟨aq X.a D.o,aF D.o X.b⟩ λaE=>?_;clear g K;refine pt ?_;refine tq 12 (n'<|C'<|O (δ w.1+1)<|1+i*2) ?_;refine r1 13 λK g=>?_;have hj:=aF D.o X.B;obtain⟨t,Y⟩:=S1 hj L;obtain⟨_,o⟩:=A hj;go_simp;refine g.out _ _ ⟨((aq X.a D.o).setCell (by dsimp only;omega) _).setCell (by dsimp only;omega) _,((bh _ _ _ _ l).trans<|bh _ _ _ _ l).trans<|aF D.o X.b⟩ λaE=>?_;clear g K t Y o;refine pt ?_;refine wpAnyH_done H ?_ _;go_wp2_with fail;go_roundw
 case rel=>
  refine⟨i+1,L,f',((aq X.a D.o).setCell (by dsimp only;omega) _).setCell (by dsimp only;omega) _,((bh _ _ _ _<|by show δ w.1≠δ w.1+1;omega).trans (bh _ _ _ _<|by show δ w.1≠δ w.1+1;omega)).trans<|aF D.o E.o,?_⟩;rw[j.o,aw (aw (aF D.o X.B) _) _,s5 _ L]
 simp[intOf];omega):p:=h
open KC in
theorem KC.B1(f:Option Addr)(c:Nat)(es:List PE)(w:World)(h:KC.gF w f es)(hn:es.length<=1000)(Hp:∀e∈es,∀i,dD<|b6<|e.at i)(hj:∀a b:VV,dD (b6 a)->dD (b6 b)->dD (b6<|KC.wF a b)):
 Cl 271 #[.iface 328<|.agg #[],.slice f es.length c] w (Rb w<|.agg (KC.aL<|es.foldl KC.j8 PE.zero).toArray):=by exact œ
open KB in
theorem KB.B1(f:Option Addr)(c:Nat)(es:List PE)(w:World)(h:KB.gF w f es)(hn:es.length<=1000)(Hp:∀e∈es,∀i,dD<|b6<|e.at i)(hj:∀a b:VV,dD (b6 a)->dD (b6 b)->dD (b6<|KB.wF a b)):
 Cl 276 #[.iface 331<|.agg #[],.slice f es.length c] w (Rb w<|.agg (KB.aL<|es.foldl KB.j8 PE.zero).toArray):=by exact œ
end
def Dz(rd:Bool)(vs:List Vl)(i:Nat):PE:=(range i).foldl (λs k=>s.put k ⟨Q',(vs.getD k ⟨0,0,0,Q',0,0⟩).lo,(vs.getD k ⟨0,0,0,Q',0,0⟩).hi⟩) ⟨rd,VV.z,VV.z,VV.z,VV.z,VV.z,VV.z,VV.z,VV.z⟩
def yJ(e:Bool)(E:List Vl)(i:Nat):Dz e E (i+1)=(Dz e E i).put i ⟨Q',(E.getD i ⟨0,0,0,Q',0,0⟩).lo,(E.getD i ⟨0,0,0,Q',0,0⟩).hi⟩:=by simp[Dz,kI]
def Kb(a l z:u')(Y q c rc x:Nat)(e:Bool)(rk:Int)(E:List Vl)(w:t')(h:jj w z E)(K:ζ E<=8):
  Cl 165 #[k' #[h' a Y q,h' l c rc,i' e,G rk,h' z (ζ E) x]] w (Rb w<|k'<|θ<|KB.aL<|Dz e E<|ζ E):=by
 have s:=ſ h;clear h;go_enter func165,ntmps165;go_upto_region 1 with fail
 generalize u:(w.alloc<|j' #[h' a Y q,h' l c rc,i' e,G rk,h' z (ζ E) x] 96).alloc (j' AH 250)=V;have B:J (V.1[δ w.1]?=C' (j' #[h' a Y q,h' l c rc,i' e,G rk,h' z (ζ E) x] 96 (0,0))/\V.1[δ w.1+1]?=C' (j' AH 250 (0,0))/\Bl w V):=by subst u;exact⟨eO.1,eO.2,cU⟩
 clear u;have f:=A B.a;have j:=b5 (n:=17) (bj V<|j' AH 250) rfl;go_upto_region 2 with(refine wpList_store_mid rfl 250 (.tmp 3) (.tmp 8) rfl V.1.size 0 (θ<|KB.aL<|Dz e E 0) rfl rfl j H (KB.bn _) ?_)
 have g:J (Below V.1.size V (ψ (V.alloc<|j' AH 250) V.1.size 0<|KB.aL<|Dz e E 0)/\(ψ (V.alloc<|j' AH 250) V.1.size 0<|KB.aL<|Dz e E 0).1[δ V.1]?=C' (j' (θ<|KB.aL<|Dz e E 0) 250 (0,0))):=⟨cM (aD _) _ _ _ aY,cm (cs:=[i' false,G 0,G 0,G 0,G 0,G 0,G 0,G 0,G 0,G 0,G 0,G 0,G 0,G 0,G 0,G 0,G 0]) (bj V<|j' AH 250) rfl⟩
 try simp only[Act.put]
 generalize(V.alloc<|j' AH 250).setCells V.1.size 0 (KB.aL<|Dz e E 0)=U at g|-;have b:δ w.1+1<δ V.1:=À B.b;generalize k:δ V.1=W at g b|-;have D:J (Bl w U/\U.1[δ w.1]?=C' (j' #[h' a Y q,h' l c rc,i' e,G rk,h' z (ζ E) x] 96 (0,0))/\U.1[δ w.1+1]?=C' (j' AH 250 (0,0))/\U.1[W]?=C' (j' (θ<|KB.aL<|Dz e E 0) 250 (0,0))):=by rw[<-k]at g|-;exact⟨aq B.B g.a,aF g.a B.a,aF g.a B.b,g.A⟩
 clear f j k;have f:=A D.b;go_wp2_with fail;clear f;go_loopw[12] (λy wr=>∃i:Nat,i<=ζ E/\y=G i/\J (Bl w wr/\wr.1[δ w.1+1]?=C' (j' AH 250 (0,0))/\wr.1[W]?=C' (j' (θ<|KB.aL<|Dz e E i) 250 (0,0)))) (λy _=>ζ E-(intOf y).toNat)
 case atStart=>exact⟨0,bq _,rfl,D.a,D.c,D.C⟩
 obtain⟨i,S,rfl,c⟩:=hrel;by_cases L:i<ζ E;rotate_left
 .have b:¬(i:Int)<(ζ E:Int):=I;have d:i=ζ E:=I;rw[d]at c;have g:=bf c.B;have U:=b5 (n:=17) c.b rfl;obtain⟨d,a⟩:=Ea<|Dz e E<|ζ E;rw[<-a]at g;have h:=ſ a;clear a;go_wp2_with (first|(refine wpList_load_mid rfl 250 (.tmp 3) rfl W 0 rfl (KB.aL d) _ g underlying250 rfl H ?_)|(refine wpList_store_mid rfl 250 (.tmp 2) (.tmp 26) rfl (δ w.1+1) 0 (θ<|KB.aL d) rfl rfl U H (KB.bn _) ?_));have a:=cm (cs:=[i' false,G 0,G 0,G 0,G 0,G 0,G 0,G 0,G 0,G 0,G 0,G 0,G 0,G 0,G 0,G 0,G 0]) c.b (vs:=KB.aL d) rfl;have C:=run_loadVar_mid (P:=Tryz.prog) (ψ wr (δ w.1+1) 0<|KB.aL d) (δ w.1+1) 0 250 (KB.aL d) _ (bf a) underlying250 rfl H;refine aC (v:=k'<|θ<|KB.aL d) (by simp[results,results165,C,Act.put,asAddr]) rfl ⟨by rw[h.o],cM I _ _ _ c.a⟩
 have b:(i:Int)<(ζ E:Int):=I;have g:i<8:=I;have a:(i:Int)<8:=I;obtain⟨v,R⟩:=La L;obtain⟨b,o,rfl,T,Q,p,b,P,h⟩:=s.o i v R;have t:=aA T c.a;have Y:=aA Q c.a;have k:=aA p c.a;have l:=aA b c.a;have F:=aA P c.a;have B:=aA h c.a;have a:J (Dz e E (i+1)=(Dz e E i).put i ⟨false,v.lo,v.hi⟩):=by show _=_;rw[yJ,getD,R];rfl
 clear T Q p b P h R;have j:W<δ wr.1:=À c.B;go_upto_region 5 with fail
 generalize u:wr.alloc (j' #[G v.aO,G v.lo,G v.hi,i' v.bO,G v.first,G v.rank] 73)=T;have X:J (Bl wr T/\T.1[δ wr.1]?=C' (j' #[G v.aO,G v.lo,G v.hi,i' v.bO,G v.first,G v.rank] 73 (0,0))):=by subst u;exact⟨aY,bj _ _⟩
 clear u;clear t Y k l F B;have f:=A X.A;have f:=aF X.a c.B;have o:=KB.S1 f g;obtain⟨_,d⟩:=A f;have s:δ wr.1≠W:=I;have x:=s.symm;have N:=ſ f;clear f;go_wp2_with fail;go_roundw
 case rel=>
  refine⟨i+1,L,f',((aq c.a X.a).setCell (by dsimp only;omega) _).setCell (by dsimp only;omega) _,((bh _ _ _ _<|by show δ w.1+1≠W;omega).trans (bh _ _ _ _<|by show δ w.1+1≠W;omega)).trans<|aF X.a c.b,?_⟩;rw[a.o,aw (aw N.o _) _,<-KB.s5 (Dz e E i) g ⟨false,v.lo,v.hi⟩]
 simp[intOf];omega
section
variable {P:Pm}{c:Ct}
def uF{p:Int}{th a:Nat->Bool}(h:∀m,th m=P'->a m=P')(b:P.rule p f n th=P'):P.rule p f n a=P':=by
 unfold Pm.rule at *;rw[eS]at *;rcases b with b|b
 .exact aI b
 refine aH<|De.2 ?_;obtain⟨m,d,F⟩:=De.1 b;refine⟨m,d,?_⟩;rw[eS,aS]at *;exact F.elim aI λF=>aH ⟨F.1,h m F.2⟩
def sR(P:Pm)(p:Int)(th:Nat->Nat->Bool):Prop:=∀f n,f<P.facts p->n<ζ P.nd->P.rule p f n (th f)=P'->th f n=P'
def FQ(P:Pm)(c:Ct):JQ P c=P'↔sR P c.aM λf=>qM c f (-1):=by
 simp only[JQ,sR,bZ,cq,eS,jY];constructor
 .intro h f n Y K a;rcases h f Y n K with h|h
  .rw[a]at h;cases h
  exact h
 intro h f Y n K;cases a:P.rule c.aM f n (qM c f<|-1)with
 |false=>exact aI rfl
 |true=>exact aH<|h f n Y K a
def TS(P:Pm)(c:Ct):KQ P c=P'↔∀f n,f<P.facts c.aM->n<ζ P.nd->qM c f (-1) n=P'->P.rule c.aM f n (qM c f<|(c.at n).uJ f)=P':=by
 simp only[KQ,bZ,cq,eS,jY];constructor
 .intro h f n Y K a;rcases h f Y n K with h|h
  .rw[a]at h;cases h
  exact h
 intro h f Y n K;cases a:qM c f (-1) n with
 |false=>exact aI rfl
 |true=>exact aH<|h f n Y K a
def wj(K:n<ζ c.nodes):c.at n∈c.nodes:=by rw[Ct.at,getD,aQ K];exact e9 K
def zY(K:¬n<ζ c.nodes):c.at n=tB:=by rw[Ct.at,getD,b? I];rfl
structure ZE(c:Ct):Prop where
  p:c.aM<=4
  cR:∀x∈c.nodes,cR 0 x.facts=P'
  bare:∀x∈c.nodes,x.reached=Q'/\x.aG=[]
  a! : c.cu=1->∀x∈c.nodes,ζ x.a!=ζ x.facts/\∀r∈x.a!,0<=r/\r<=100000
def Xc(h:ku c=P')(U:c.aM<=4):ZE c:=by
 unfold ku at h;simp only[aS,bZ]at h;have k:∀x∈c.nodes,e6 c.cu x=P':=λx F=>by have:=h.2 x F;unfold cB at this;rwa[aB U]at this
 unfold e6 at k;simp only[aS,jY,j2,bw]at k;refine⟨U,λx F=>(k x F).1.2,λx F=>⟨(k x F).1.1.1.1,(k x F).1.1.2⟩,λa x F=>?_⟩;have:=(k x F).2;unfold eF at this;rw[aB a]at this;simp only[aS,bw,bZ]at this;refine⟨this.1,λr a=>?_⟩;have:=this.2 r a;unfold rk at this;simpa using this
def Xn(h:ZE c)(a:c.cu=1):0<=(c.at n).uJ f:=by
 unfold Nd.uJ;cases e:(c.at n).a![(c.at n).facts.idxOf (f:Int)]? with
 |none=>rw[getD,e];exact cV 0
 |some r=>
  rw[getD,e];by_cases K:n<ζ c.nodes
  .exact((h.a! a _<|wj K).2 r<|aK e).1
  rw[zY K]at e;simp[tB]at e
def sX:∀(l:List Int)(Y:Int),cR Y l=P'->∀x∈l,Y<=x
 |[],_,_,x,h=>by cases h
 |a::l,Y,h,x,hx=>by
  simp only[cR,aS,bw]at h;rcases cO.1 hx with rfl|hx
  .exact h.1.1
  have:=sX l (a+1) h.2 x hx;omega
def zR(h:nZ P c=P'):ζ c.nodes=ζ P.nd/\∀x∈c.nodes,x.reached=P'->ζ x.aG=P.nv:=by
 unfold nZ at h;simp only[aS,bZ,bw,eS,jY]at h;refine⟨h.1,λx F a=>?_⟩;rcases(h.2 x F).2 with e|e
 .rw[a]at e;cases e
 exact e
def sO(c:Ct)(f n:Nat):qM c f (-1) n=P'↔(f:Int)∈(c.at n).facts:=by simp[qM,Nd.lQ]
structure ZN(c:Ct)(nv:Nat):Prop where
  p:c.aM=5
  ok:∀x∈c.nodes,x.reached=P'->ζ x.aG=nv/\0<=x.rank/\∀v∈x.aG,(v.aO=1/\v.bO=Q')\/(v.aO=2/\v.bO=P'/\x.rank<v.rank/\v.lo=0)\/(v.aO=2/\v.bO=Q'/\v.lo=0)
  bd:∀x∈c.nodes,∀v∈x.aG,(-2^63<=v.lo/\v.lo<=9223372036854775807)/\(-2^63<=v.first/\v.first<=9223372036854775807)
  hi:∀x∈c.nodes,∀v∈x.aG,v.hi=0
  bare:∀x∈c.nodes,x.facts=[]/\(x.reached=Q'->x.aG=[])
def WN{v:Vl}{r:Int}(h:(-9223372036854775808<=v.lo/\v.lo<=9223372036854775807)/\(-9223372036854775808<=v.first/\v.first<=9223372036854775807))(N:v.aO≠3):okV 5 (iD r v):=by
 rw[iD,ax N];split
 .exact qm _ h.1
 split
 .exact qm _ h.2
 exact D6
def gI{Q:Nat}(h:ZN c Q)(r:Int)(n:Nat):dZ 5 Q (gq c r n):=by
 unfold gq oE;split
 .exact fT _ _
 rename_i K;intro E e;cases e;by_cases X:n<ζ c.nodes
 .have C:=wj X;have b:(c.at n).reached=P':=by cases V:(c.at n).reached;(· exact absurd (aI V) K);rfl
  have a:=h.ok _ C b;refine⟨by simp[a.1],λv R=>?_⟩;obtain⟨u,b,rfl⟩:=bp.1 R;exact WN (h.bd _ C u b) (by rcases a.2.2 u b with k|k|k<;>omega)
 rw[zY X]at K;exact absurd (aI rfl) K
def Sv(m:mr P)(h:ZN c P.nv):mB P c=P'↔∀n,n<ζ P.nd->jk 5 (P.say 5 n<|gq c<|-1) (gq c (-1) n):=by simp only[mB,bZ,cq,h.p];exact⟨λk n K=>(jV (nH (aI rfl) m n<|gI h _)<|gI h _ _).1<|k n K,λk n K=>(jV (nH (aI rfl) m n<|gI h _)<|gI h _ _).2<|k n K⟩
def P3{x y:VV}(h:gL 5 x y)(k:gL 5 y x):x=y:=by
 rcases Yh h with e|e
 .exact e
 rcases Yh k with L|L
 .exact L.symm
 rw[e,L]
def P4{a b:EV}(c:dZ 5 n a)(d:dZ 5 n b)(h:jk 5 a b)(k:jk 5 b a):a=b:=by
 match a,b,h,k with
 |none,none,_,_=>rfl
 |some a,some b,h,k=>have C:=(c a rfl).1;have c:=(d b rfl).1;congr 1;refine Jk I λj f c=>?_;have V:=aQ f;have u:=aQ c;exact P3 (h j _ _ V u)<|k j _ _ u V
end
section
variable {P:Pm}{R:RS}{c:Ct}{x:Nd}
structure Ar(P:Pm)(p:Int)(R:RS):Prop where
  ins:E5 R (ζ P.nd)
  few:P.facts p<=68
  st:∀(n:Nat)(r:BS×List (Nat×Ef)),R[n]?=C' r->∀f,f<128->bt r.1 f=(decide (f<P.facts p)&&P.st p n f)
  PA:∀(n:Nat)(r:BS×List (Nat×Ef)),R[n]?=C' r->r.2.map Prod.fst=P.PA p n
  ad:∀(n:Nat)(r:BS×List (Nat×Ef)),R[n]?=C' r->∀e∈r.2,∀f,f<128->bt e.2.add f=(decide (f<P.facts p)&&P.ad p e.1 f)
  ps:∀(n:Nat)(r:BS×List (Nat×Ef)),R[n]?=C' r->∀e∈r.2,∀f,f<P.facts p->bt e.2.drop f=!P.ps p n e.1 f
def Š(e:Ef)(s:BS)(f:Nat)(l:E9 e)(Y:f<128):bt (IQ e s) f=((bt s f&&!bt e.drop f)||bt e.add f):=by rw[IQ,gT,oM l.drop Y]
def Í{α:Type}{l:List α}{f g:α->Bool}(h:∀x∈l,f x=g x):l.any f=l.any g:=by
 induction l with
 |nil=>rfl
 |cons a l B=>rw[xR,xR,h a ak,B λx F=>h x<|by simp[F]]
def wZ{p:Int}(h:Ar P p R){b:Nat->BS}(g:∀m f,P.facts p<=f->f<128->bt (b m) f=Q'){n:Nat}(K:n<ζ P.nd)(Y:f<128):bt (kg R b n) f=(decide (f<P.facts p)&&P.rule p f n λm=>bt (b m) f):=by
 obtain⟨r,a⟩:=La (l:=R) (i:=n) (by rw[h.ins.len];exact K);have l:=(h.ins.each r<|aK a).2.2;have V:kg R b n=Ï r.1 r.2 b:=by unfold kg;rw[a]
 rw[V];unfold Ï;rw[agF,xR,any_map,h.st n r a f Y];by_cases hF:f<P.facts p
 .simp only[hF,xT,eV];unfold Pm.rule;congr 1;rw[<-h.PA n r a,any_map];refine Í λe d=>?_;have C:=h.ad n r a e d f Y;have c:=h.ps n r a e d f hF;rw[show decide (f<P.facts p)=P' by simpa using hF,eV]at C;simp only[Function.comp];rw[Š _ _ _ (l e d).1 Y,C,c];simp only[xQ];cases P.ad p e.1 f<;>cases P.ps p n e.1 f<;>cases bt (b e.1) f<;>rfl
 simp only[hF,decide_false,C1,km];rw[any_eq_false];intro e d;have C:=h.ad n r a e d f Y;rw[show decide (f<P.facts p)=Q' by simpa using hF,C1]at C;simp only[Function.comp];rw[Š _ _ _ (l e d).1 Y,C,g e.1 f I Y];simp
structure Ý(P:Pm)(c:Ct):Prop where
  few:P.facts c.aM<=68
  len:ζ c.nodes=ζ P.nd
  facts:∀x∈c.nodes,∀f∈x.facts,0<=f/\f<P.facts c.aM
def UO(h:Ý P c)(F:x∈c.nodes):∀g∈N2 x,g<P.facts c.aM:=by intro g a;obtain⟨f,Y,rfl⟩:=bp.1 a;have:=h.facts x F f Y;omega
def Dr(h:Ý P c)(F:x∈c.nodes)(Y:f<128):bt (rT x) f=x.lQ f:=by
 rw[rT,Nd.lQ,lI _ _ Y λg a=>by have:=UO h F g a;have:=h.few;omega];congr 1;rw[eq_iff_iff];constructor
 .intro d;obtain⟨g,a,e⟩:=bp.1 d;have:=h.facts x F g a;rw[show(f:Int)=g by omega];exact a
 intro d;exact bp.2 ⟨f,d,ak⟩
def Dq(h:Ý P c):∀s∈c.nodes.map rT,bQ s:=by intro s y;obtain⟨x,F,rfl⟩:=bp.1 y;exact ie _ λg a=>by have:=UO h F g a;have:=h.few;omega
def tJ(h:Ý P c)(m:Nat)(Y:f<128):bt (cv (c.nodes.map rT) m) f=qM c f (-1) m:=by
 simp only[qM,Int.reduceNeg,Int.reduceLT,xT,Bool.true_or,x4];by_cases d:m<ζ c.nodes
 .have e:cv (c.nodes.map rT) m=rT (c.at m):=by rw[cv,Ct.at,getD,getD,bH,aQ d];rfl
  rw[e,Dr h (wj d) Y]
 have e:cv (c.nodes.map rT) m=(0,0):=by rw[cv,getD,b? I'];rfl
 rw[e,zY d,ji];simp[Nd.lQ,tB]
def Mu(h:Ý P c){m:Nat}{r:Int}(Y:P.facts c.aM<=f):qM c f r m=Q':=by
 unfold qM;have:(c.at m).lQ f=Q':=by
  rw[Nd.lQ,gB];intro d;by_cases X:m<ζ c.nodes
  .have:=h.facts _ (wj X) _ d;omega
  rw[zY X]at d;cases d
 rw[this];rfl
def Ss(h:Ý P c)(v:Ar P c.aM R):FT R (c.nodes.map rT) (ζ P.nd)=JQ P c:=by
 have a:∀m f,P.facts c.aM<=f->f<128->bt (cv (c.nodes.map rT) m) f=Q':=λm f C b=>by rw[tJ h m b];exact Mu h C
 rw[cK,FQ];simp only[FT,sR,bZ,cq];constructor
 .intro y f n Y K b;have:=(mS<|fe (Dq h) n).1 (y n K) f<|L' h.few;rw[wZ v a K<|L' h.few,tJ h n<|L' h.few]at this;refine this ?_;simp only[Y,xT,eV];rw[<-b];congr 1;funext m;exact tJ h m<|L' h.few
 intro y n K;refine(mS<|fe (Dq h) n).2 λf Y b=>?_;rw[wZ v a K Y,aS]at b;rw[tJ h n Y];refine y f n (J' b.1) K ?_;rw[<-b.2];congr 1;funext m;exact(tJ h m Y).symm
def SL:∀(S:List<|Int×Int)(l:List Int)(f:Nat),ζ l=68->f<68->(∀p∈S,0<=p.1)->(∀p∈S,p.1≠f)->(S.foldl (λl p=>QX l p.1 p.2) l)[f]?=l[f]?
 |[],l,f,_,_,_,_=>rfl
 |p::S,l,f,X,Y,D,hn=>by rw[e8,SL S _ f (by simp[QX,X]) Y (λq a=>D q<|by simp[a]) λq a=>hn q<|by simp[a]];rw[QX,eQ,ax];have:=hn p ak;have:=D p ak;omega
def vL:∀(l:List Int)(Y:Int),cR Y l=P'->l.Nodup
 |[],_,_=>vB
 |a::l,Y,h=>by simp only[cR,aS,bw]at h;refine ux.2 ⟨λd=>?_,vL l _ h.2⟩;have:=sX l (a+1) h.2 a d;omega
def MG:∀(o y:List Int)(l:List Int)(f:Nat),ζ l=68->f<68->o.Nodup->(∀g∈o,0<=g/\g<68)->ζ y=ζ o->(f:Int)∈o->((o.zip y).foldl (λl p=>QX l p.1 p.2) l)[f]?=y[o.idxOf (f:Int)]?
 |[],_,_,_,_,_,_,_,_,h=>by cases h
 |a::o,[],_,_,_,_,_,_,X,_=>by simp at X
 |a::o,r::y,l,f,X,Y,c,d,L,hm=>by
  rw[zip_cons_cons,e8];have b:=ux.1 c;by_cases e:a=(f:Int)
  .rw[SL _ _ f (by simp[QX,X]) Y (λp U=>(d p.1<|by simp[(of_mem_zip U).1]).1) λp U c=>b.1<|by rw[e,<-c];exact(of_mem_zip U).1];subst e;rw[QX,eQ,aB ak,aB I'];simp
  have t:(f:Int)∈o:=by rcases cO.1 hm with h|h;(· exact absurd h.symm e);exact h
  rw[MG o y _ f (by simp[QX,X]) Y b.2 (λg b=>d g<|by simp[b]) (J' L) t];have F:(a::o).idxOf (f:Int)=o.idxOf (f:Int)+1:=by rw[idxOf_cons,show(a==(f:Int))=Q' by simpa using e];rfl
  rw[F];rfl
structure ć(P:Pm)(c:Ct):Prop where
  s:Ý P c
  g:c.cu=1
  c:ZE c
def MF(h:ć P c)(F:x∈c.nodes)(Y:x.lQ f=P'):(ox x).2.getD f 0=x.uJ f:=by
 have d:(f:Int)∈x.facts:=by simpa[Nd.lQ]using Y
 have b:=h.s.facts x F;have a:=h.s.few;have a:=h.c.a! h.g x F;have j:f<68:=by have:=b _ d;omega
 unfold ox JW Nd.uJ;simp only;rw[b!<|by simp[a.1],getD,getD,MG x.facts x.a! _ f ak j (vL _ _<|h.c.cR x F) (λg c=>L'<|b g c) a.1 d]
def acL(r:RK)(a:Int):∀(o:List Nat)(f:Nat),(∀g∈o,g<128)->f<128->bt (qS r a o) f=(decide (f∈o)&&decide (r.2.getD f 0<a)):=by
 intro o;refine BG (P:=λo=>∀f:Nat,(∀g∈o,g<128)->f<128->bt (qS r a o) f=(decide (f∈o)&&decide (r.2.getD f 0<a))) ?_ ?_ o
 .intro f _ _;simp[qS,ji]
 intro l g B f h Y;have C:=B f (λx F=>h x<|by simp[F]) Y;rw[uY];split
 .rename_i b;rw[gT,C,lI [g] f Y λx F=>by rw[eX.1 F];exact h g ak];by_cases e:f=g
  .subst e;rw[show decide (r.2.getD f 0<a)=P' from dM b];simp
  simp[e]
 rename_i b;rw[C];by_cases e:f=g
 .subst e;rw[show decide (r.2.getD f 0<a)=Q' from di b];simp
 simp[e]
def X5(h:ć P c)(F:x∈c.nodes)(a:Int)(Y:f<128):bt (uX (ox x) a) f=(x.lQ f&&decide (x.uJ f<a)):=by
 have B:bQ (ox x).1:=Dq h.s _<|uw F;rw[uX,acL _ _ _ f (λg a=>((fz B g).1 a).1) Y];have e:(f∈dj (ox x).1)↔x.lQ f=P':=by rw[fz B];have:bt (ox x).1 f=x.lQ f:=Dr h.s F Y;rw[this];exact⟨λh=>h.2,λh=>⟨Y,h⟩⟩
 cases V:x.lQ f with
 |false=>
  have:decide (f∈dj (ox x).1)=Q':=by rw[gB,e,V];simp
  rw[this];rfl
 |true=>
  have:decide (f∈dj (ox x).1)=P':=by rw[uu,e,V]
  rw[this,MF h F V]
end
section
attribute [local go_sem] Oper.semAt_some
def Wn(ns:List Nd)(rank:Int)(m:Nat):BS:=uX (ox<|ns.getD m tB) rank
def Qe(q t m g N:Nat)(v:List Nd)(k:Int)(w:t')(hq:w.1[q]?=C' (j' (kL g N) 351 (0,0)))(D:w.1[t]?=C' (iN k))(u:w.1[g]?=C' (j' (θ<|gQ<|v.map ox) 354 (0,0)))(X:ζ v=N)(b:N<=60)(b:m<N)(B:∀x∈v,bQ (rT x)/\∀f∈dj (rT x),f<68)(b:kU w):
  Cl 243 #[G m,n'<|C'<|O q 0,n'<|C'<|O t 0] w (Rb w<|cn<|Wn v k m):=by
 obtain⟨x,F⟩:=La (l:=v) (i:=m) I;have c:=B x<|aK F;have e:Wn v k m=uX (ox x) k:=by rw[Wn,getD,F];rfl
 rw[e];have o:∀r∈v.map ox,ζ r.2=68:=λr hr=>by obtain⟨y,_,rfl⟩:=bp.1 hr;exact t!
 have l:(v.map ox)[m]?=C' (ox x):=by rw[bH,F];rfl
 have f:(m:Int)<N:=I;have T:∀W,Bl w W->W.rangeAt g (m*70) (xd<|ox x):=λW f j v R=>by rw[(sV o (aF f u) l (j:=j) (by have:=(aV.1 R).1;rwa[iW t!]at this)).1];exact R
 have Y:=ſ λW f=>SJ (ox x) k W c.1 t! c.2 f;obtain⟨z,f⟩:=Ea<|uX (ox x) k;rw[<-f]at Y|-;clear f e l o B c F;have E:=A hq;have y:=A D;have l1:=À hq;have l2:=À D;have F:=À u;have s:q≠δ w.1:=I;have c:t≠δ w.1:=I;have X:=ſ b;obtain⟨L,c⟩:=Ea<|xd<|ox x;have o:ζ L=70:=by rw[c];exact iW t!
 have C:∀W,Bl w W->W.rangeAt g (m*70) L:=by rw[c];exact T
 rw[<-c]at Y;clear T c hq D b u;simp only[cn]at Y;go_enter func243,ntmps243;go_wp2_with fail;generalize b:w.alloc fj=V;have B:J (Bl w V/\V.1[δ w.1]?=C' jo):=by subst b;exact⟨aY,bj _ _⟩
 clear b;have U:=aA (E.1 0) B.a;have f:=aA (y.1 0) B.a;have l:=C V B.a;have c:=ſ<|M U<|M f l;clear E y;refine wp_region_held_drew (S:=λr=>χ r (O q 0)=C' (cw g N)/\χ r (O t 0)=C' (G k)/\r.rangeAt g (m*70) L) H ⟨U,f,l⟩ λb=>?_;clear U f l;refine wpAnyH_take (i:=0) (v:=h' (C'<|O g 0) N N) rfl H H H (λ_ _ _ h=>h) (aI ⟨by rfl,λw u=>by have f:=u;clear C;go_simp⟩) (g') ?_;simp only[Act.put,cj,dp,da];refine wpAnyH_take (i:=1) (v:=G m) rfl H H H (λ_ _ _ h=>h) (aI ⟨by rfl,λw u=>by have f:=u;clear C;go_simp⟩) (g') ?_;simp only[Act.put,cj,dp,da];refine wpAnyH_take (i:=2) (v:=n'<|C'<|O g<|m*70) rfl H H H (λ_ _ _ h=>h) (aI ⟨by rfl,λw u=>by have f:=u;clear C;go_simp⟩) (g') ?_;simp only[Act.put,cj,dp,da];refine wpAnyH_take (i:=3) (v:=k'<|θ L) rfl H H H (λ_ _ _ h=>h) (yieldsIf_load_mid (by rfl) _ _ rfl _ _ rfl _ _ (λw u=>u.2.2) underlying354 rfl (by rw[o];kernel_rfl)) (g') ?_;simp only[Act.put,cj,dp,da];refine wpAnyH_take (i:=4) (v:=G k) rfl H H H (λ_ _ _ h=>h) (aI ⟨by rfl,λw u=>by have f:=u;clear C;go_simp⟩) (g') ?_;simp only[Act.put,cj,dp,da];refine r1 5 λK f=>?_;go_simp;refine(Y.o _<|X.o.below<|aq B.a (aP _ _).drew).mono ?_;rintro e t ⟨rfl,l⟩;have e:Bl V t:=aq (aP _ _).drew l;have U:=ſ e;clear l e;refine f.out _ _ ⟨aA c.a U.o,aA c.b U.o,λj v R=>aA (c.B j v R) U.o⟩ λb=>?_;clear f K;refine pt ?_;have W:=A<|aF U.o B.A;refine r1 6 λK f=>?_;go_simp;have c:∀(k o:Nat)(v:A'),k<δ w.1->χ t (O k o)=C' v->χ (κ (κ t (O w.1.size 0)<|Z z.1) (O w.1.size 1)<|Z z.2) (O k o)=C' v:=λk o v e h=>(bF<|(bh _ _ _ _ I').trans<|bh _ _ _ _ I').trans h;refine f.out _ _ ⟨c _ _ _ l1 b.1,c _ _ _ l2 b.2.1,λj v R=>c _ _ _ F<|b.2.2 j v R⟩ λ_=>?_;refine wpAnyH_done H ?_ _;clear c f b;go_wp2_with fail;have v:=aF U.o B.A;have b:χ (κ t (O w.1.size 0)<|Z z.1) (O w.1.size 0)=C' (Z z.1):=by rw[(A<|aw v _).1];rfl
 have r1:χ (κ (κ t (O w.1.size 0)<|Z z.1) (O w.1.size 1)<|Z z.2) (O w.1.size 1)=C' (Z z.2):=by rw[(A<|aw (aw v _) _).1];rfl
 refine aC (v:=cn z) (by simp[results243,go_sem,cn,b,r1]) rfl ⟨rfl,?_⟩;exact((aq B.a U.o).setCell (aD _) _).setCell (aD _) _
end
section
variable {a g:Nat}{c:List Nat}{W:t'}{β:Type}{v:List Nd}
attribute [local go_sem] Oper.semAt_some
def Ā(D:Nat):Deferred:={target:=.collected D,args:=#[]}
structure CO(B:Nat)(Ds:List Nat)(W:t'):Prop where
  nd:Ds.Nodup
  at_:∀D∈Ds,B<=D/\W.1[D]?=C' (.deferred<|C' [])
def CO.nil(B:Nat)(W:t'):CO B [] W:=⟨vB,λD h=>by cases h⟩
def CO.keeps{a:t'}(h:CO B c W)(b:KeepsOthers W a):CO B c a:=⟨h.nd,λD t=>⟨(h.at_ D t).1,b.same D _ (h.at_ D t).2 rfl⟩⟩
def CO.cons{D:Nat}(h:CO B c W)(t:W.1[D]?=C' (.deferred<|C' []))(v:B<=D)(K:D∉c):CO B (D::c) W:=
 ⟨ux.2 ⟨K,h.nd⟩,λE a=>by rcases cO.1 a with rfl|a;(· exact⟨v,t⟩);exact h.at_ E a⟩
def nT{F:Fence}{n:Nat}{P:Program}{g:Func}{r:Array A'}{R:Ending->t'->Prop}{B:Nat}(a:t'->Prop)(b:∀W D,a W->B<=D->W.1[D]?=C' (.deferred<|C' [])->a (W.putObj D<|.deferred D'))(d:∀W,a W->LeavesInM F n P g r R [] .returning W):∀(c:List Nat)(W:t'),CO B c W->a W->LeavesInM F n P g r R (c.map Ā) .returning W
 |[],W,_,hW=>d W hW
 |D::c,W,h,hW=>by have C:=h.at_ D ak;have e:=ux.1 h.nd;refine⟨ak,.inl ⟨_,_,rfl,run_takeDeferred C.2,?_⟩⟩;refine nT a b d c _ ⟨e.2,λE a=>⟨(h.at_ E<|by simp[a]).1,?_⟩⟩<|b W D hW C.1 C.2;rw[World.putObj_heap_other (by rintro rfl;exact e.1 a)];exact(h.at_ E<|by simp[a]).2
def Ee{f:Nat}(c:List Nat)(t:∀D∈c,D<B):OwnFrom B λ(_:β) W=>CO f c W:=λs W a q y b a=>⟨y.nd,λD d=>⟨(y.at_ D d).1,(b.block D (À (y.at_ D d).2) (λe=>by have:=(a D e.symm).1;have:=t D d;omega)).trans (y.at_ D d).2⟩⟩
def zf(p:β->Prop):OwnFrom B λ(s:β)(_:t')=>p s:=λ_ _ _ _ y _ _=>y
structure FR(w:t')(rb N g hq:Nat)(ns:List Nd)(W:t'):Prop where
  sys:W.1[δ w.1]?=C' (j' (dB rb N) 260 (0,0))
  res:W.1[δ w.1+1]?=C' (j' #[i' Q'] 4 (0,0))
  held:W.1[hq]?=C' (j' (kL g N) 351 (0,0))
  row:W.1[g]?=C' (j' (θ<|gQ<|ns.map ox) 354 (0,0))
  low:Bl w W
def FR.below{d:t'}{c:Nat}(h:FR w c N g b v W)(a:Bl W d):FR w c N g b v d:=⟨aF a h.sys,aF a h.res,aF a h.held,aF a h.row,aq h.low a⟩
def FR.own(C:δ w.1+1<B)(h:a<B)(i:g<B):OwnFrom B λ(_:β) W=>FR w b N g a v W:=λs W f b y c d=>
 have k:∀{q:Nat} {o:Obj},W.1[q]?=C' o->q<B->f.1[q]?=C' o:=fun {q _} e a=>(c.block q (À e) λe=>L'<|(d q e.symm).1).trans e
 ⟨k y.sys I,k y.res C,k y.held h,k y.row i,ownFrom_below (aD _) I s W f b y.low c d⟩
def FR.put(h:FR w b N g a v W):FR w b N g a v (κ W (O (δ w.1+1) 0)<|i' Q'):=by
 have k:∀{q:Nat} {L:Array A'} {t:Nat},W.1[q]?=C' (cL L t)->t≠4->(κ W (O (δ w.1+1) 0)<|i' Q').1[q]?=C' (cL L t):=by intro q L t e U;rw[bh _ _ _ _ (by rintro rfl;rw[h.res]at e;simp at e;exact U e.2.symm)];exact e
 exact⟨k h.sys aj,aw h.res _,k h.held aj,k h.row aj,h.low.setCell I' _⟩
def Hx{F:Fence}{n:Nat}{B0:Nat}{r:Array A'}{b:Bool}(U:r.getD 4 undef=n' (C'<|O (δ w.1+1) 0))(c:List Nat)(W:t')(d:CO B0 c W)(v:δ w.1+1<B0)(a:Bl w W)(e:W.1[δ w.1+1]?=C' (x! b)):
  LeavesInM F n Tryz.prog Tryz.f170 r (Rb w<|i' b) (c.map Ā) .returning W:=by
 refine nT (B:=B0) (λW=>Bl w W/\W.1[δ w.1+1]?=C' (x! b)) ?_ ?_ c W d ⟨a,e⟩
 .intro X D ⟨C,a⟩ t c;exact⟨C.trans<|belowK_b (w:=w) (aD _) _ D _ _ I c rfl rfl,by rw[World.putObj_heap_other I];exact a⟩
 intro X ⟨C,a⟩;obtain⟨E,_⟩:=A a;have a:=J' U;exact⟨i' b,by simp[results170,go_sem,a,E],rfl,C⟩
def é(R:RS)(ns:List Nd)(n f:Nat):Bool:=bt (kg R (Wn ns<|(ox<|ns.getD n tB).2.getD f 0) n) f
def þ(R:RS)(ns:List Nd)(n:Nat):Bool:=(dj<|rT<|ns.getD n tB).all<|é R ns n
def AU(R:RS)(ns:List Nd)(N:Nat):Bool:=(range N).all<|þ R ns
def SP(rb B N nc:Nat)(na:u')(R:RS)(ns:List Nd)(w:t')(v:og w B rb R)(o:E5 R N)(h:bX w na ns)(X:ζ ns=N)(Y:∀x∈ns,∀f∈x.facts,0<=f/\f<68)(c:∀x∈ns,ζ x.facts<=128/\ζ x.a!=ζ x.facts)(l:∀x∈ns,bQ (rT x)/\∀f∈dj (rT x),f<68)(b:kU w):
  Cl 170 #[cP rb N,h' na N nc] w (Rb w<|i'<|AU R ns N):=by
 have hN:=o.most;have p:J (∀W,Bl w W->Cl 242 #[h' na N nc] W λe w'=>∃g,e=o' (cw g N)/\d' w' g (θ<|gQ<|ns.map ox) 354/\Below W.1.size W w'):=by intro W j;have:=Ka na nc ns W (h.below j) Y c I;rwa[X]at this
 have U:=ſ<|M v<|M o<|M X<|M l b;clear v o h X Y c l b;simp only[cP];refine(gw (n:=6)).1 ?_;refine callsIn_of_wp_marks func170 rfl trivial ?_ rfl;simp only[ntmps170,kH,bR,de,Nat.reduceAdd,Nat.reduceSub,sF,sE,sD,sC,c!,dA]
 gi_wp2_with (refine⟨trivial,?_⟩;gi_at_call 242;refine(gw.2<|p.o _ cU).mono ?_;rintro e t ⟨g,rfl,l,c⟩;have b:=ſ<|M l c;clear l c)
 obtain⟨hq,c⟩:=Ea t.1.size;generalize j:t.alloc (j' (kL g N) 351)=F;have HF:J (FR w rb N g hq ns F/\hq<δ F.1):=by subst j;subst c;have e:=bP w (j' (dB rb N) 260)<|j' #[i' Q'] 4;refine⟨⟨aF aY<|aF b.A e.1,aF aY<|aF b.A e.2,bj _ _,aF aY b.a,aq (aq cU b.A) aY⟩,ak⟩
 rw[<-c];clear j c;refine wpIn_loop (λz wr=>∃(k:Nat)(Ds:List Nat)(u6 u7 u8 u9 ed u16 gm gk gh fy fw fo fi dd ck cd cc bo bl au ar u32 an ah ae u36:A'),(k<=N/\J (FR w rb N g hq ns wr/\CO F.1.size Ds wr/\AU R ns k=P'/\δ F.1<=δ wr.1))/\z={tmps:=#[k'<|dB rb N,h' na N nc,n'<|cA w.1.size,undef,n'<|C'<|O (δ w.1+1) 0,n'<|C'<|O hq 0,u6,u7,u8,u9,ed,h' na N nc,h' (C'<|O g 0) N N,h' (C'<|O g 0) N N,G N,G k,u16,gm,gk,gh,fy,fw,fo,fi,dd,ck,cd,cc,bo,bl,au,ar,u32,an,ah,ae,u36],defers:=Ds.map Ā}) (λz _=>N-(intOf<|z.tmps.getD 15 undef).toNat) ?_ ?_
 .exact⟨0,[],_,_,_,_,_,_,_,_,_,_,_,_,_,_,_,_,_,_,_,_,_,_,_,_,_,_,⟨bq _,HF.a,CO.nil _ _,rfl,aD _⟩,rfl⟩
 rintro z wr ⟨k,Ds,u6,u7,u8,u9,ed,u16,gm,gk,gh,fy,fw,fo,fi,dd,ck,cd,cc,bo,bl,au,ar,u32,an,ah,ae,u36,⟨b,HK⟩,rfl⟩;by_cases L:k<N;rotate_left
 .have b:¬(k:Int)<N:=I;have q:k=N:=I;have E:=A HK.a.res
  gi_wp2
  rw[<-q,HK.c];exact Hx (B0:=δ F.1) rfl Ds _ (HK.b.keeps<|KeepsOthers.setCell _ _ _) (L'<|À HF.a.res) (HK.a.low.setCell I' _) (aw (o:=0) HK.a.res<|i' P')
 have b:(k:Int)<N:=I;obtain⟨x,q⟩:=La (l:=ns) (i:=k) (by rw[U.c];exact L);have c:=U.d x<|aK q;have o:∀r∈ns.map ox,ζ r.2=68:=λr hr=>by obtain⟨y,_,rfl⟩:=bp.1 hr;exact t!
 have l:(ns.map ox)[k]?=C' (ox x):=by rw[bH,q];rfl
 obtain⟨cs,b⟩:=Ea<|xd<|ox x;have z:ζ cs=70:=by rw[b];exact iW t!
 have r:J (wr.rangeAt g (k*70) cs):=by intro j v E;rw[b]at E;rw[(sV o HK.a.row l (j:=j) (by have:=(aV.1 E).1;rwa[iW t!]at this)).1];exact E
 have j:cs.toArray.all (·.oneCell')=P':=all_oneCell_toArray (by rw[b];intro v E;simp only[xd,eN,dA,c!,cO,bp]at E;rcases E with rfl|rfl|⟨y,_,rfl⟩<;>rfl);have p:(Tryz.prog.info? 354).map (·.size)=C' (ζ cs):=by rw[z];kernel_rfl
 have HX:=ſ<|M q<|M c<|M b<|M j p;clear q c o l b j p;have b:(storeCells (O (δ wr.1+1) 0) cs).run Tryz.prog ((wr.alloc<|j' #[G k] 3).alloc<|j' Tryz.zeroCells354 354)=.ok () ((wr.alloc<|j' #[G k] 3).alloc<|j' (θ cs) 354):=by have e:δ (wr.alloc<|j' #[G k] 3).1=δ wr.1+1:=ak;have:=run_storeCells_new (P:=Tryz.prog) (wr.alloc<|j' #[G k] 3) 354 Tryz.zeroCells354 (θ cs) (by rw[kH];exact HX.D) (by rw[Tryz.zeroCells354_size,kH,z]) HX.d;rw[e]at this;simpa using this
 gi_upto_region 4 with(fail)
 refine nE.2 ?_;go_wp2_with (refine wpList_load_mid rfl 354 (.tmp 18) rfl g (k*70) rfl cs _ r.o underlying354 rfl HX.D ?_);clear b;generalize b:(wr.alloc<|j' #[G k] 3).alloc (j' (θ cs) 354)=j;have c:J (Below wr.1.size wr j/\j.1[δ wr.1]?=C' (iN k)/\d' j (δ wr.1+1) (θ cs) 354):=by subst b;exact⟨cU,eO.1,eO.2⟩
 clear b;obtain⟨⟨s1,s2⟩,b⟩:∃s:BS,s=rT x:=⟨_,rfl⟩;have T:χ j (O (δ wr.1+1) 0)=C' (Z s1):=by rw[(A c.B).1,HX.c,xd,ox,<-b];rfl
 have r:χ j (O (δ wr.1+1) 1)=C' (Z s2):=by rw[(A c.B).1,HX.c,xd,ox,<-b];rfl
 have ZJ:=ſ b;clear b
 gi_wp2_with (refine⟨trivial,?_⟩;gi_at_call 154;refine(gw.2<|tZ (s1,s2) _).mono ?_;rintro e w' ⟨rfl,rfl⟩)
 obtain⟨sb,p⟩:=Ea j.1.size;obtain⟨nb,b⟩:=Ea wr.1.size;generalize q:j.alloc (kK s1 s2)=l;have j:J (Below wr.1.size wr l/\l.1[nb]?=C' (iN k)/\d' l (nb+1) (θ cs) 354/\l.1[sb]?=C' (q! s1 s2)):=by subst q;subst p;subst b;exact⟨aq c.a aY,aF aY c.b,aF aY c.B,bj _ _⟩
 rw[<-p,<-b];clear q p b T r;have b:=À j.C;have b:=À j.c;have b:J (FR w rb N g hq ns l/\CO F.1.size Ds l):=⟨HK.a.below j.a,HK.b.keeps<|dJ j.a⟩;have q:0<δ w.1:=dh<|U.D 0 aj;have p:bQ (s1,s2):=by rw[ZJ.o];exact HX.b.1
 have c:=b.a.low.size;have r:=br HK.C j.a.size
 refine wpIn_rangeFunc_ownF rfl I (gf:=227) (lb:=(bM sb)) rfl trivial (λxs w=>Tryz.call227 xs w)
  (lJ 5 I (s1,s2) sb w.1.size l p ((A j.C).1 0) ((A j.C).1 1) (U.D.below b.a.low) q c) belowK_t (belowK_b c) (aP _ _) (λ_=>rfl)
  (λp W=>(FR w rb N g hq ns W/\CO F.1.size Ds W/\W.1[nb]?=C' (iN k)/\W.1[nb+1]?=C' (j' (θ cs) 354 (0,0))/\(qB p).all (é R ns k)=P')/\δ l.1<=δ W.1)
  (λc _ W=>(c=.ret/\FR w rb N g hq ns W/\CO F.1.size Ds W/\AU R ns N=Q')/\δ l.1<=δ W.1)
  (OwnFrom.and (OwnFrom.and (FR.own (L'<|À b.a.res) (À b.a.held)<|À b.a.row)<|OwnFrom.and (Ee Ds λD t=>À (b.A.at_ D t).2)<|OwnFrom.and (lH (λ_=>_) I)<|OwnFrom.and (lH (λ_=>_) I)<|zf _) λs W u q y l hr=>br y l.size)
  (λc=>OwnFrom.and (OwnFrom.and (zf _)<|OwnFrom.and (FR.own (L'<|À b.a.res) (À b.a.held)<|À b.a.row)<|OwnFrom.and (Ee Ds λD t=>À (b.A.at_ D t).2)<|zf _) λs W u q y l hr=>br y l.size)
  ⟨⟨b.a,b.A,j.b,j.c,rfl⟩,aD _⟩
  (λx=>{tmps:=#[k'<|dB rb N,h' na N nc,n'<|cA w.1.size,undef,n'<|C'<|O (δ w.1+1) 0,n'<|C'<|O hq 0,n'<|C'<|O nb 0,n'<|C'<|O (nb+1) 0,G x.1,u9,ed,h' na N nc,h' (C'<|O g 0) N N,h' (C'<|O g 0) N N,G N,G k,i' P',G k,n'<|C'<|O g<|k*70,k'<|θ cs,n'<|C'<|O (nb+1) 0,k' #[Z s1,Z s2],.func (.func 227) #[]<|bM sb,G x.1,dd,ck,cd,cc,bo,bl,au,ar,u32,an,ah,ae,u36],defers:=[]}) ?assign ?body ?done ?stop
 case assign=>
  intro l x W K hK
  gi_wp2
  exact hK
 case body=>
  rintro l p ⟨f,Y⟩ W ⟨⟨j,T,b0,b1,q⟩,r⟩ _;have s:f<68:=HX.b.2 f (by rw[<-ZJ.o];exact Y);have u:(f:Int)<68:=I;obtain⟨v,E⟩:=La (l:=(ox x).2) (i:=f) (by rw[show(ox x).2.length=68 from t!];exact s);have k0:χ W (O (nb+1)<|2+f)=C' (G v):=by rw[(A b1).1,cz,HX.c,xd,show 2+f=f+1+1 by omega];simp[eN,E]
  obtain⟨y1,y2⟩:=A b0;have t1:=A j.sys;have r1:=A j.res;obtain⟨u,V⟩:=Ea<|kg R (Wn ns v) k;have y:∀m,bQ (Wn ns v m):=by
   intro m;unfold Wn uX;refine Ns _ _ _ λz s=>?_;by_cases hm:m<ζ ns
   .have C:ns.getD m tB∈ns:=by rw[getD,aQ hm];exact e9 hm
    have:=(U.d _ C).2 z s;omega
   rw[getD,b? I]at s;have:z∈dj (0,0):=s;rw[fz ⟨aj,aj⟩]at this;exact this.1
  have z:bQ u:=by rw[V];exact yx U.b y k
  have C:J (∀(X:t')(q2:Nat),Below W.1.size W X->d' X q2 #[G v] 3->Cl 226 #[cP rb N,G k,.func (.func 243) #[]<|rQ hq q2] X (Rb X<|cn u)):=by intro X q2 s iS;have hF:=j.below s;rw[V];refine uD rb B N k _ R _ (Wn ns v) X (U.a.below hF.low) U.b L y (λxs w=>Tryz.call243 xs w) λm hm B s=>?_;exact Qe hq q2 m g N ns v B (aF s hF.held) (aF s iS) (aF s hF.row) U.c hN hm U.d<|U.D.below<|aq hF.low s
  obtain⟨ok,o⟩:=Ea<|bt u f;have HHS:J (∀X,Cl 245 #[cn u,G f] X<|Rb X<|i' ok):=by intro X;have:=YO u f X z I;rwa[adj z I,<-o]at this
  have X:é R ns k f=ok:=by rw[é,show ns.getD k tB=x by rw[getD,HX.a];rfl,show(ox x).2.getD f 0=v by rw[getD,E];rfl,<-V,o]
  have U:=ſ<|M j<|M T<|M b0<|M b1<|M q<|M r X;have s:=À b1;have s:δ w.1≠δ W.1:=by have:=À j.sys;omega
  have s:nb≠δ W.1:=by have:=À b0;omega
  clear j T b0 b1 q X o V z y E;simp only[cP,cn]at C HHS
  gi_upto_region 8 with(fail)
  clear y1 y2 t1 r1 k0;generalize o:W.alloc (j' #[G v] 3)=V;have B:J (Below W.1.size W V/\d' V W.1.size #[G v] 3):=by subst o;exact⟨aY,bj _ _⟩
  clear o;obtain⟨y1,y2⟩:=A<|aF B.a U.c;have t1:=A<|aF B.a U.a.sys
  gi_upto_region 9 with(refine⟨trivial,?_⟩;gi_at_call 226;refine(CallsIn.inRound l<|gw.2<|C.o _ _ B.a B.A).mono ?_;rintro e C ⟨rfl,z⟩;have v:=ſ<|aq B.a z;clear z y1 y2 t1)
  generalize s:C.alloc (kK u.1 u.2)=y;have o:J (Below W.1.size W y/\y.1[δ C.1]?=C' (q! u.1 u.2)):=by subst s;exact⟨aq v.o aY,bj _ _⟩
  clear s;obtain⟨y1,y2⟩:=A o.A;generalize δ C.1=y at o y1 y2|-;cases ok;rotate_left
  .gi_wp2_with (refine⟨trivial,?_⟩;gi_at_call 245;refine(CallsIn.inRound l<|gw.2<|HHS.o _).mono ?_;rintro e s ⟨rfl,E⟩;have u:=ſ<|aq o.a E;clear E y1 y2)
   refine⟨dJ u.o,u.o.mono U.a.low.size,⟨U.a.below u.o,U.b.keeps<|dJ u.o,aF u.o U.c,aF u.o U.d,?_⟩,br U.f u.o.size⟩;rw[nh,all_append,U.e];simp[U.F]
  gi_wp2_with (refine⟨trivial,?_⟩;gi_at_call 245;refine(CallsIn.inRound l<|gw.2<|HHS.o _).mono ?_;rintro e s ⟨rfl,E⟩;have u:=ſ<|aq o.a E;clear E y1 y2;have r1:=A<|aF u.o U.a.res)
  refine⟨(dJ u.o).trans<|KeepsOthers.setCell _ _ _,⟨rfl,(U.a.below u.o).put,(U.b.keeps<|dJ u.o).keeps<|KeepsOthers.setCell _ _ _,?_⟩,?_⟩;rotate_left
  .have C:=U.f;have l:=u.o.size;simp[World.setCell];omega
  refine uK (k:=k) ?_ L;rw[þ,show ns.getD k tB=x by rw[getD,HX.a];rfl,<-ZJ.o,vD];intro l;rw[bZ]at l;have:=l f Y;rw[U.F]at this;cases this
 case done=>
  rintro D z W t u ⟨⟨j,T,b0,b1,q⟩,r⟩ hK
  gi_wp2
  have e:((k:Int)+1)=((k+1:Nat):Int):=I;rw[e];have X:AU R ns (k+1)=P':=by rw[AU,lq];have C:=HK.c;unfold AU at C;rw[C];rw[þ,show ns.getD k tB=x by rw[getD,HX.a];rfl,<-ZJ.o,<-u];exact q
  refine⟨?_,?measure⟩
  .refine⟨k+1,D::Ds,?_⟩
   (repeat apply Exists.intro)
   refine⟨⟨L,j,T.cons hK I λhm=>L'<|À (b.A.at_ D hm).2,X,I⟩,rfl⟩
  exact H'
 rintro D c p W t u ⟨⟨rfl,j,T,q⟩,r⟩ hK
 gi_wp2
 rw[show AU R ns N=Q' from q];exact Hx (B0:=δ F.1) rfl (D::Ds) W (T.cons hK I λhm=>L'<|À (b.A.at_ D hm).2) (L'<|À HF.a.res) j.low j.res
end
