import Derived.Test.YtmipbiligijcpaaGreatDoorA05
namespace Go.Proofs.YtmipbiligijcpaaGreatDoor
set_option linter.all false
set_option maxHeartbeats 0
set_option maxRecDepth 99999
open Go.RowKit Go.Shelf Go.Proofs Go.Maps Tryz List open List renaming length->ζ,toArray->θ open _root_.Array renaming size->δ open World renaming setCell->κ,ownsRow->ρ,cell?->χ,grownBy->ξ open Value renaming ownBlock->φ open Value renaming slice->g',bool->h',agg->j',string->k',pointer->m',tuple->o' open Obj renaming cells->i' open Ending renaming returned->n' open Option renaming some->z',none->A' open Bool renaming true->N',false->O'
variable {B N a g k:Nat}{Q y:y'}{R:List x'}{W w:p'}{b:Option Nat}{p:Prop}{s:x'}
section
variable {o:Oper}{a:Act}{id:Nat}
def pT(ops:Array Oper):Bool:=ops.all λo=>match o.op with | .defer _=>O'|_=>N'
def yZ{ops:Array Oper}(h:pT ops=N'){i:Nat}(S:ops[i]?=z' o):∀c,o.op≠.defer c:=by intro c e;unfold pT at h;rw[Array.all_eq_true]at h;obtain⟨X,rfl⟩:=bq.1 S;have:=h i X;rw[e]at this;cases this
section
variable {P:Program}{ops:Array Oper}{Q:Exit->Act->p'->Prop}{md:Region.Mode}{l n:Nat}
def Ow{q:String}{c:Array y'}{R:y'->p'->Prop}(h:Rows P q c w R):RowsIn (Fence.wide.inRound l) n P q c w R:=λc L _=>by obtain⟨v,a,r,s⟩:=h c L;exact⟨v,a,r,stepsIn_wide.2 s⟩
def xX{K i:Act->p'->Prop}(f:∀c,o.op≠.defer c)(g:∀a w,K a w->i a w)(h:o.wp P a w K Q):o.wpIn (Fence.wide.inRound l) n P a w i Q:=by
 refine⟨λ_ _=>trivial,?_⟩;rw[show(Fence.wide.inRound l).round=z' l from rfl,Oper.semAt_some l _ _ f];unfold Oper.wp at h;generalize(execOp a.eval o).run P w=r at h;cases r with
 |ok x k=>
  cases x with
  |enter f b=>exact⟨(λh=>by cases h),CallsIn.inRound l<|j?.2 (bP h λe j d=>by cases e<;>first|exact g _ _ d|exact d)⟩
  |row row b=>exact⟨(λh=>by cases h),Ow<|Rows.mono h λv j d=>g _ _ d⟩
  |value v=>exact g _ _ h
  |skip=>exact g _ _ h
  |defer d=>exact g _ _ h
  |_=>exact h.elim
 |halt x k=>cases x<;>first|exact h|exact h.elim
def lD(b:pT ops=N')(W:¬LetsOut Q):∀(m:Nat)(g:Array Bool)(a:Act)(w:p'),wpAny P md ops Q m g a w->wpAnyIn (Fence.wide.inRound l) n P md ops Q m g a w
 |0,_,_,_,h=>h
 |m+1,g,a,w,h=>by
  refine⟨h.1,λi S=>?_⟩;have C:=h.2 i S;unfold wpOp at C;unfold wpOpIn;cases c:ops[i]? with
  |none=>rw[c]at C;exact lD b W m _ _ _ C
  |some o=>
   rw[c]at C;simp only at C|-;split
   .rename_i B;rw[aD B]at C;rcases C with C|C
    .exact xX (yZ b c) (λa w=>lD b W m _ a w) C
    exact absurd C.2 W
   rename_i B;rw[aA B]at C;exact⟨λ_ _=>trivial,lD b W m _ _ _ C⟩
theorem stR(S:World->Prop)(k:Nat)(hQ:¬LetsOut Q:=by rintro⟨_,_,h⟩;cases h.1)(hm:P.follows .mixedOrders=true:=by kernel_rfl)(tX:pT ops=true:=by kernel_rfl)(hS:S w.drew)(h:S w.drew->pz P .any ops Q S k ops.size (Array.replicate ops.size false) a w.drew):(Code.region id ops true).wpIn (Fence.wide.inRound l) n P Q a w:=
 wpIn_region_any hm (lD tX hQ _ _ _ _<|zN _ _ _ _<|h hS)
def sg(b:pT ops=N')(W:¬LetsOut Q):∀(c:List Oper)(a:Act)(w:p'),(∀o∈c,o∈ops.toList)->wpList P ops Q c a w->wpListIn (Fence.wide.inRound l) n P ops Q c a w
 |[],_,_,_,h=>h
 |o::r,a,w,d,h=>by
  have e:=λa w=>sg b W r a w λx F=>d x (by simp[F]);unfold wpList at h;unfold wpListIn;obtain⟨k,a⟩:=gF.1<|d o ak;have f:=H' a;split
  .rename_i B;rw[aD B]at h;rcases h with h|h
   .exact xX (yZ b f) e h
   exact absurd h.2 W
  rename_i B;rw[aA B]at h;exact⟨λ_ _=>trivial,e _ _ h⟩
theorem ags{l':List Oper}(hQ:¬LetsOut Q:=by rintro⟨_,_,h⟩;first|exact h|cases h.1)(tX:pT l'.toArray=true:=by kernel_rfl)(h:wpList P l'.toArray Q l' a w):(Code.region id l'.toArray false).wpIn (Fence.wide.inRound l) n P Q a w:=
 wpIn_region_lit (sg tX hQ l' a w (λ_ h=>h) h)
theorem tu{S:World->Prop}{k fuel:Nat}{listed:Array Bool}{a':Act}(i:Nat)(v:Value){d:Option Tmp}{op:Op}{ty:TypeId}{ps:String}{af:Array Edge}{gd:Option (Nat×Bool)}(hi:ops[i]?=some ⟨d,op,ty,ps,af,gd⟩:=by rfl)
  (hk:(decide (i<k)&&Gs md ops k&&Region.noSelect ops&&Region.free md ops listed i&&(Region.ready md ops listed).contains i)=true:=by kernel_rfl)
  (hQ:∀c a w,Q (.panic c) (a.put d v) w->Q (.panic c) a w:=by exact λ_ _ _ h=>h) (y:YieldsIf P ops S ⟨d,op,ty,ps,af,gd⟩ v a) (hS:S w:=by assumption) (ha:a.put d v=a':=by(try simp only[Act.put,cj,dm,cO]);rfl)
  (h:pz P md ops Q S k fuel (listed.setIfInBounds i true) a' w):pz P md ops Q S k (fuel+1) listed a w:=by
 simp only[aY,bM]at hk;obtain⟨⟨⟨⟨h1,h2⟩,h3⟩,h4⟩,h5⟩:=hk;subst ha;exact zO hi h1 h2 (Region.noSelect_spec h3) hQ fuel listed a w (Region.free_spec hi h4) (by simpa using h5) y hS h
end
end
def opW(aM:List Int)(o:lz):Int:=if o.aU then aM.getD o.var.toNat 0 else o.cg
def yR(n:Nat)(o:lz):Prop:=o.aU=N'->0<=o.var/\o.var<n
def O2{w:p'}{B e n:Nat}{v:y'}{D:List y'}(h:ρ w B e 1 v n D)(a:0<n):∃g a,v=g' (z'<|O g 0) n a/\B<=g/\n<=a/\∀j x,D[j]?=z' x->j<n->χ w (O g j)=z' x:=by
 rcases h.2 with⟨_,e⟩|⟨g,a,Y,R,b,c,T,d,y,U⟩
 .omega
 refine⟨g,a,R,b,T,λj x F f=>?_⟩;rw[<-U,xj,aD I]at F;simp only[World.cell?,c];simpa using F
def aas{p:Prop}(h:p:=by
 cases R:φ v with
 |none=>exact aP rfl
 |some k=>
  refine aR λe=>?_;obtain⟨Q,K,C⟩:=eK h k R;cases e;rw[C]at a
  simp at a):p:=h
structure NY(nv:Nat)(n:SN):Prop where
  aH:0<=n.aH/\n.aH<=6
  var:n.aH<=2->0<=n.var/\n.var<nv
  a:n.aH=0\/n.aH=1\/n.aH=3\/n.aH=4->yR nv n.a
  b:n.aH=1\/n.aH=4->yR nv n.b
def af6(n:SN)(aM:List Int):Int:=if n.aH=4/\oC n.test (opW aM n.a) (opW aM n.b)=O' then 1 else 0
section
variable {a X:Option Nat}{u v:p'}{E:List bI}
def FJ(s:x')(w:p')(D:s.size=0):
  Cl 246 #[k' s] w λe a=>e=n' (o' #[G<|i? s.1.1,h'<|iA s.1.1])/\a=w:=by
 have X:=fT.1 D;have K:J (Wm.f? s.1.1=A'):=by show _=_;rw[X];rfl
 have o:((s.size:Int)==0)=N':=by rw[dP];omega
 have a:(s.size:Int)<=0:=I;have t:decide (0<(s.size:Int))=O':=by rw[e9];omega
 clear D X;go_enter func246,ntmps246;go_wp2;go_ret2;exact⟨fg (by simp[i?,K.o])<|by simp[iA,K.o],rfl⟩
def rj(s:x')(w:p')(y:s.size<=3000):
  Cl 246 #[k' s] w λe a=>e=n' (o' #[G<|i? s.1.1,h'<|iA s.1.1])/\a=w:=by
 by_cases D:s.size=0
 .exact FJ s w D
 cases h:((s[0].toNat:Int)==45)with
 |true=>exact JQ s w y I h
 |false=>exact JP s w y I h
def strOf(l:bI):y':=k' ⟨θ l⟩
structure Rp(w:p')(pb B:Nat)(nv xv:y')(vs:List bI)(vb:Option Nat):Prop where
  box:∃vv,w.1[pb]?=z' (i' #[nv,vv,xv] 107 (0,0))/\ρ w B 9 1 vv (ζ vs) (vs.map strOf)/\φ vv=vb
  nodup:vs.Nodup
structure RF(pb:Nat)(vb:Option Nat)(w w':p'):Prop where
  os:w'.os=w.os
  tape:w'.tape=w.tape
  output:w'.output=w.output
  size:δ w.1<=δ w'.1
  block:∀k,k<δ w.1->k≠pb->some k≠vb->w'.1[k]?=w.1[k]?
def gj(w:p')(vb vb':Option Nat):Prop:=vb'=vb\/∃k,vb'=z' k/\δ w.1<=k
def RF.refl(N:Nat)(a:Option Nat)(w:p'):RF N a w w:=⟨rfl,rfl,rfl,aK,λ_ _ _ _=>rfl⟩
def RF.trans(h:RF N a u v)(K:gj u a X)(k:RF N X v w):RF N a u w:=by
 refine⟨k.os.trans h.os,k.tape.trans h.tape,k.output.trans h.output,bX h.size k.size,λj f C a=>?_⟩;refine(k.block j (eh f h.size) C ?_).trans<|h.block j f C a;rcases K with rfl|⟨q,rfl,b⟩
 .exact a
 simp;omega
def gj.trans{c:Option Nat}(h:gj u a b)(y:δ u.1<=δ v.1)(k:gj v b c):gj u a c:=by
 rcases k with rfl|⟨q,rfl,a⟩
 .exact h
 exact aR ⟨q,rfl,I⟩
def RF.bJ{a:p'}(h:Bl w a):RF N b w a:=⟨h.os,h.tape,h.output,h.size,λk a _ _=>h.block k a⟩
def RF.alloc(w:p')(o:Obj):RF N a w (w.alloc o):=RF.bJ<|aQ.alloc aK _
def km{a b c d}:=@RF.alloc a b c d
def RF.set(h:RF N b u w){a:Addr}(c:δ u.1<=a.block)(v:y'):RF N b u (w.setCell a v):=
 ⟨h.os,h.tape,h.output,by simpa[World.setCell]using h.size,λk a C b=>(aJ I).trans<|h.block k a C b⟩
def RF.dn{b:p'}{o:Obj}(h:RF N a (w.alloc o) b):RF N a w b:=(RF.alloc w o).trans (aP rfl) h
def Rp.lt(h:Rp w N B Q y E a):N<δ w.1:=by obtain⟨u,a,_⟩:=h.box;exact(bq.1 a).1
def Rp.Ex(h:Rp w N B Q y E a):∀k,a=z' k->B<=k/\k<δ w.1:=by obtain⟨u,_,b,rfl⟩:=h.box;exact λk a=>b.lt k a
def Rp.uG{a:p'}(h:Rp w N B Q y E b)(C:a.1[N]?=w.1[N]?)(c:∀k,b=z' k->a.1[k]?=w.1[k]?):Rp a N B Q y E b:=by
 obtain⟨u,b,a,R⟩:=h.box;refine⟨⟨u,C.trans b,⟨a.1,?_⟩,R⟩,h.nodup⟩;rcases a.2 with a|⟨g,b,Y,e,Q,p,d⟩
 .exact aP a
 refine aR ⟨g,b,Y,e,Q,(c g ?_).trans p,d⟩;rw[<-R,e];rfl
def Rp.below{b:p'}(h:Rp w N B Q y E a)(c:Bl w b):Rp b N B Q y E a:=
 h.uG (c.block N h.lt) (λk a=>c.block k (h.Ex k a).2)
def Rp.alloc(h:Rp w N B Q y E a)(o:Obj):Rp (w.alloc o) N B Q y E a:=h.below<|aQ.alloc aK _
def Rp.set(h:Rp w N B Q y E b){a:Addr}(C:a.block≠N)(c:some a.block≠b)(v:y'):Rp (w.setCell a v) N B Q y E b:=
 h.uG (aJ<|jH C) (λk a=>aJ λe=>c<|by rw[a,e])
def Ws.rf{b:p'}{t:Nat}{R:List x'}(h:Ws w g t R)(U:Rp w N B Q y E a)(c:some g≠a)(Y:RF N a w b):Ws b g t R:=by refine h.of_block<|Y.block g h.lt ?_ c;rintro rfl;obtain⟨u,a,_⟩:=U.box;obtain⟨Y,T,_⟩:=h;rw[T]at a;simp at a
def gj.ne(h:gj w a X)(b:g<δ w.1)(R:some g≠a):some g≠X:=by
 rcases h with rfl|⟨q,rfl,a⟩
 .exact R
 simp;omega
def aaU(a:x')(l:bI):(a.toList==(ByteArray.mk<|θ l).toList)=(a.1.1==l):=by rw[eM,eM]
def acy{x:bI}{k:Nat}(Q:E.Nodup)(a:k<ζ E)(b:E[k]=x):E.idxOf x=k:=by
 have d:x∈E:=b▸eG a;have N:=qu d;have d:=AQ N;rw[nodup_iff_pairwise_ne,pairwise_iff_getElem]at Q;rcases Nat.lt_trichotomy (E.idxOf x) k with h|h|h
 .exact absurd (d.trans b.symm)<|Q _ _ N a h
 .exact h
 exact absurd (b.trans d.symm)<|Q _ _ a N h
end
def ej(a b:u'):(a==b)=(b==a):=by rw[cC];simp;exact eq_comm
def Ju(s:x')(N B:Nat)(Q y:y')(E:List bI)(vb:Option Nat)(w:p')(i:ζ E<20000)(i:B<=δ w.1)(i:N<B)(hP:Rp w N B Q y E vb):
  Cl 113 #[m'<|z'<|O N 0,k' s] w λe i=>e=n' (G<|eS E s.1.1)/\∃X,Rp i N B Q y (cy E s.1.1) X/\RF N vb w i/\gj w vb X:=by
 obtain⟨u,r,o,z⟩:=hP.box;have HVB:J (φ u=vb):=z;clear z;obtain⟨i0,S,D,P,a⟩:=cI M3;have HI:J (Tryz.prog.info? 9=z' i0/\i0.zero=z' (k' ⟨#[]⟩)/\i0.size=1/\i0.bytes=16):=⟨S,D,P,a⟩;clear S D P a;have U:=hP.lt;have tX:=hP.nodup;obtain⟨q,t,rfl,S⟩:∃q t,u=g' q (ζ E) t/\∀k x,E[k]?=z' x->∃g,q=z' ⟨g,0,A'⟩/\χ w ⟨g,k,A'⟩=z' (strOf x):=by
  rcases o.2 with⟨rfl,D⟩|⟨g,t,Y,rfl,C,h2,h3,h4,l,c⟩
  .refine⟨A',0,by rw[D],λk x F=>?_⟩;have:=(aX.1 F).1;omega
  refine⟨_,t,rfl,λk x F=>⟨g,rfl,?_⟩⟩;have hk:=(aX.1 F).1;have i:(Y.toList.take<|ζ E*1)[k]?=z' (strOf x):=by rw[c];simp[F]
  rw[xj,aD I]at i;simp[World.cell?,h2];simpa using i
 have hx1:=A r;go_enter func113,ntmps113;go_wp2
 go_loop [5] (λi=>∃k:Nat,k<=ζ E/\i=G k/\J (∀j (h:j<ζ E),j<k->E[j]≠s.1.1)) (λi=>ζ E-(intOf i).toNat)
 case atStart=>exact⟨0,bm,rfl,by show ∀j h,_;intro j h f;omega⟩
 obtain⟨k,hk,rfl,T⟩:=hrel;by_cases L:k<ζ E
 .have c:(k:Int)<(ζ E:Int):=I;obtain⟨g,K,hc⟩:=S k _<|bj L;subst K;obtain⟨x,F⟩:∃x,E[k]=x:=⟨_,rfl⟩;rw[F]at hc;have TC:=aaU s x;unfold strOf at hc;by_cases P:x=s.1.1
  .have l:(x==s.toList)=N':=by rw[eM,P];simp
   have HV:J (eS E s.1.1=k/\cy E s.1.1=E):=by
    have d:s.1.1∈E:=by rw[<-P,<-F];exact eG L
    refine⟨?_,by simp[cy,d]⟩;simp only[eS,d,dQ];rw[acy tX L<|F.trans P]
   clear TC P F;go_wp2;go_ret;refine⟨by rw[HV.a];rfl,vb,?_,RF.refl _ _ _,aP rfl⟩;rw[HV.A];exact hP
  have l:(x==s.toList)=O':=by rw[eM];simpa using P
  have K:J (∀j (h:j<ζ E),j<k+1->E[j]≠s.1.1):=by
   show ∀j h,_;intro j h f;by_cases e:j=k
   .subst e;rw[F];exact P
   exact T.o j h I
  clear TC P F;go_wp2
  go_round
  case rel=>exact⟨k+1,I,e',K.o⟩
  exact F'
 obtain rfl:k=ζ E:=I;have d:s.1.1∉E:=by intro h;obtain⟨j,f,e⟩:=xE h;exact T.o j f f e
 have HV:J (eS E s.1.1=ζ E/\cy E s.1.1=E++[s.1.1]):=⟨by simp[eS,d],by simp[cy,d]⟩;have c:J (s.1.1∉E):=d;clear d;go_wp2_with (at_builtin;go_must (refine qN _ rfl (.tmp 29) (.tmp 31) 101 rfl B 9 i0 (k' ⟨#[]⟩) 1 16 underlying101 HI.a HI.b HI.c HI.C rfl aj _ _ _ rfl (o.alloc _) (O w.1.size 0) 1 1 [k' s] rfl rfl lT (by intro u a;simp at a;subst a;rfl) (by unfold maxLen;omega) I G' ?_));intro v4 f d W _ a;have z:=HVB.o;have c:some N≠φ (g' q (ζ E) t):=by intro e;have:=(o.lt N e.symm).1;omega
 have v:f.1[N]?=z' (i' #[Q,g' q (ζ E) t,y] 107 (0,0)):=by rw[W.block N G' c];exact(bR U).trans r
 obtain⟨ao4,V,p,rfl⟩:∃q n t,v4=g' q n t:=by
  rcases d.2 with⟨R,_⟩|⟨g,t,Y,R,_⟩
  .exact⟨_,_,_,R⟩
  exact⟨_,_,_,R⟩
 have b:V=ζ E+1:=by
  rcases d.2 with⟨R,D⟩|⟨g,t,Y,R,_⟩
  .omega
  cases R;rfl
 have c:J (V=ζ E+1):=b;have o:(V:Int)-1=(ζ E:Int):=I;have c:J ((V:Int)-1=(ζ E:Int)):=o;have f:(V:Int)<=20001:=I;clear o b;have HVB:J (φ (g' q (ζ E) t)=vb):=z;clear z hx1;have hx1:=A v;go_wp2;go_ret;have b:some N≠φ (g' ao4 V p):=by intro e;have:=(d.lt N e.symm).1;omega
 refine⟨by rw[HV.a,<-c.o];rfl,φ<|g' ao4 V p,?_,?_,?_⟩
 .rw[HV.A];have t:=x7 tX s.1.1;rw[HV.A]at t;refine⟨⟨_,?_,?_,rfl⟩,t⟩
  .simp[World.setCell,AV,v]
  have e:(E++[s.1.1]).map strOf=E.map strOf++[k' s]:=by simp[strOf]
  rw[bg,e];refine⟨d.1,?_⟩;rcases d.2 with h|⟨g,u,Y,R,C,h2,h3⟩
  .exact aP h
  refine aR ⟨g,u,Y,R,C,(aJ ?_).trans h2,h3⟩;show g≠N;omega
 .refine⟨W.os,W.tape,W.output,?_,λk hk C h2=>?_⟩
  .have:=W.size;simp[World.setCell]at this|-;omega
  rw[aJ<|show k≠N from C,W.block k G'<|by rw[HVB.o];exact h2];exact bR hk
 rcases a with h|h
 .exact aP<|h.trans HVB.o
 exact aR ⟨_,h,ak⟩
structure RO where
  var:Int
  c:Int
  word:x'
def gN:RO:=⟨0,0,emp⟩
def sC(vs:List bI)(s:x'):RO:=if iA s.1.1 then⟨-1,i? s.1.1,s⟩ else if Wm.nm s then⟨eS vs s.1.1,0,s⟩ else gN
def SR(s:x')(h:Wm.nm s=N'):iA s.1.1=O':=by
 have D:0<s.size:=by
  rcases IH s.size with e|e
  .rw[Wm.w7 s e]at h;cases h
  exact e
 have X:Wm.nX s[0]=N':=by
  cases e:Wm.nX s[0]with
  |true=>rfl
  |false=>rw[Wm.Dq s D e]at h;cases h
 have T:=Wm.fj s D;have a:97<=s[0].toNat:=by simp[Wm.nX]at X;exact X.1
 have z:s[0]≠45:=by intro e;rw[e]at a;exact absurd a aj
 have K:Wm.oS s.1.1=O':=by
  rw[Wm.oS,T,Wm.zE _ _ z];have Q:Wm.gS s[0]=O':=by simp[Wm.gS];omega
  simp[Wm.kE,Q]
 rw[iA,KX K];rfl
def abP(s:x'):bZ s=(iA s.1.1||Wm.nm s):=by rw[bZ,Bool.or_comm]
def CU(s:x')(N B:Nat)(Q h:y')(E:List bI)(f:Option Nat)(w:p')(y:s.size<=3000)(K:ζ E<20000)(v:B<=δ w.1)(a:N<B)(hP:Rp w N B Q h E f):
  Cl 179 #[m'<|z'<|O N 0,k' s] w λe b=>∃(z o:Int)(R:x')(X:Option Nat),
   e=n' (o' #[j' #[G z,G o,k' R],h'<|bZ s])/\J (sC E s=⟨z,o,R⟩)/\Rp b N B Q h (bS E s) X/\RF N f w b/\gj w f X:=by
 have U:=hP.lt;have g:some w.1.size≠f:=by intro e;have:=hP.Ex _ e.symm;omega
 rw[abP];cases c:iA s.1.1 with
 |true=>
  have j:Wm.nm s=O':=by cases e:Wm.nm s with|false=>rfl|true=>rw[SR s e]at c;cases c
  have T:J (bS E s=E):=by show _=_;simp[bS,j]
  have d:J (sC E s=⟨-1,i? s.1.1,s⟩):=by show _=_;simp[sC,c]
  go_enter func179,ntmps179;go_wp2_with (go_at_call 246;refine(rj _ _ y).mono ?_;rintro e b ⟨rfl,rfl⟩);refine aE (v:=o' #[j' #[G (-1),G<|i? s.1.1,k' s],h' N']) (by simp[results179,go_sem]) rfl ⟨_,_,_,f,rfl,d.o,?_,km,aP rfl⟩;rw[T.o];exact hP.alloc _
 |false=>
  cases j:Wm.nm s with
  |false=>
   have T:J (bS E s=E):=by show _=_;simp[bS,j]
   have d:J (sC E s=gN):=by show _=_;simp[sC,c,j]
   go_enter func179,ntmps179
   go_wp2_with (first
    |(go_at_call 246;refine(rj _ _ y).mono ?_;rintro e b ⟨rfl,rfl⟩)
    |(go_at_call 68;refine(ku y).mono ?_;rintro e b ⟨rfl,rfl⟩))
   refine aE (v:=o' #[j' #[G 0,G 0,k' ⟨#[]⟩],h' O']) (by simp[results179,go_sem]) rfl ⟨_,_,_,f,rfl,d.o,?_,km,aP rfl⟩;rw[T.o];exact hP.alloc _
  |true=>
   have T:J (bS E s=cy E s.1.1):=by show _=_;simp[bS,j]
   have d:J (sC E s=⟨eS E s.1.1,0,s⟩):=by show _=_;simp[sC,c,j]
   go_enter func179,ntmps179
   go_wp2_with (first
    |(go_at_call 246;refine(rj _ _ y).mono ?_;rintro e b ⟨rfl,rfl⟩)
    |(go_at_call 68;refine(ku y).mono ?_;rintro e b ⟨rfl,rfl⟩)
    |(go_at_call 113;refine(Ju s N B Q h E f _ K G' a<|hP.alloc _).mono ?_;rintro e F ⟨rfl,X,i,c,a⟩;have r:F.1[δ w.1]?=z' _:=(c.block w.1.size ak I g).trans<|cF w _;have L:=A r;have f:=(bq.1 r).1))
   have b:some w.1.size≠X:=a.ne ak g;refine aE (v:=o' #[j' #[G<|eS E s.1.1,G 0,k' s],h' N']) (by simp[results179,go_sem,L.1]) rfl ⟨_,_,_,X,rfl,d.o,?_,?_,?_⟩
   .rw[T.o];exact((i.set G' (H' b) _).set G' (H' b) _).set G' (H' b) _
   .exact((c.dn.set aK _).set aK _).set aK _
   rcases a with h|⟨q,h,a⟩
   .exact aP h
   exact aR ⟨q,h,by simp at a;omega⟩
def P9(s:x')(g a:Nat)(l:List x')(w:p')(X:ζ l<=4)(j:Ws w g 0 l):
  Cl 180 #[k' s,g' (z'<|O g 0) (ζ l) a] w λe a=>e=n' (h'<|l.any λx=>x.toList==s.toList)/\a=w:=by
 go_enter func180,ntmps180;go_wp2
 go_loop [5] (λi=>∃k:Nat,k<=ζ l/\i=G k/\J ((l.take k).any (λx=>x.toList==s.toList)=O')) (λi=>ζ l-(intOf i).toNat)
 case atStart=>exact⟨0,bm,rfl,by show _=_;simp⟩
 obtain⟨k,a,rfl,T⟩:=hrel;by_cases L:k<ζ l;rotate_left
 .obtain rfl:k=ζ l:=I;have e:=T.o;rw[jj]at e;have a:=hid e;clear e;go_wp2;go_ret;exact⟨bC a.o.symm,rfl⟩
 have a:(k:Int)<(ζ l:Int):=I;obtain⟨x,F⟩:=La L;have a:=j.cell k x F;rw[bH]at a;cases a:(x.toList==s.toList)with
 |true=>
  have v:J (l.any (λx=>x.toList==s.toList)=N'):=by show _=_;rw[xK];exact⟨x,aO F,a⟩
  go_wp2;go_ret;exact⟨bC v.o.symm,rfl⟩
 |false=>
  have v:J ((l.take<|k+1).any (λx=>x.toList==s.toList)=O'):=by show _=_;have X:=aX.1 F;rw[ep X.1,X.2,any_append,T.o];simp[a]
  go_wp2
  go_round
  case rel=>exact⟨k+1,I,e',v.o⟩
  exact F'
structure RN where
  bB:x'
  does:x'
  target:Int
  a:RO
  b:RO
  ops:Int
  sign:x'
  bD:x'
def aI(wv:y')(n:RN):Array y':=
 #[wv,k' n.bB,k' n.does,G n.target,G n.a.var,G n.a.c,k' n.a.word,G n.b.var,G n.b.c,k' n.b.word,G n.ops,k' n.sign,k' n.bD]
def lj{N:Nat}{a:Option Nat}{w b:p'}{k:Nat}{o:Obj}(Y:RF N a w b)(h:w.1[k]?=z' o)(C:k≠N)(c:some k≠a):b.1[k]?=z' o:=
 (Y.block k (bq.1 h).1 C c).trans h
def adT{p:Prop}(h:p:=by
 have U:=hP.lt;have k:=hP.Ex;have o:some w.1.size≠vb:=by intro e;have:=k _ e.symm;omega
 have j:some (δ w.1+1)≠vb:=by intro e;have:=k _ e.symm;omega
 first|(have _:=afw;have T:=hW.cell 2 x hx)|(have T:=hW.cell 1 x hx)
 have d:=hW.lt;go_enter func112,ntmps112;go_wp2_with fail;refine(CU x pb B nv xv vs vb _ hs hn G' PG ((hP.alloc _).alloc _)).mono ?_;rintro e F ⟨va,co,wd,d,rfl,V,i,E,r⟩;have q:=bE w (i' #[g' (z'<|O g off) len cap,k' n.bB,k' n.does,G n.target,G n.a.var,G n.a.c,k' n.a.word,G n.b.var,G n.b.c,k' n.b.word,G n.ops,k' n.sign,k' n.bD] 111)<|i' #[g' A' 0 0,k' ⟨#[]⟩,k' ⟨#[]⟩,G 0,G 0,G 0,k' ⟨#[]⟩,G 0,G 0,k' ⟨#[]⟩,G 0,k' ⟨#[]⟩,k' ⟨#[]⟩] 111;have l:=lj E q.1 I o;have k:=lj E q.2 I j;have y:=A l;have u:=A k;have f:=(bq.1 k).1;have D:δ w.1<δ F.1:=I;have N:δ w.1≠δ F.1:=I;have s:δ w.1+1≠δ F.1:=I
 have s:=r.ne G' o;have t:some (δ w.1+1)≠d:=r.ne ak j;clear q l k T;have j:=E.dn.dn;have k:gj w vb d:=by
  rcases r with h|⟨q,h,l⟩
  .exact aP h
  exact aR ⟨q,h,by simp at l;omega⟩
 cases o:bZ x with
 |false=>
  go_wp2_with fail;refine aE (v:=o' #[j'<|aI (g' (z'<|O g off) len cap) n,h' O']) (by simp[results112,go_sem,aI,y.1,u.1,f,D]) rfl ⟨n,d,by rw[o],(λe=>by rw[o]at e;cases e),?_,?_,k⟩
  .refine Rp.alloc ?_ _
   repeat(refine Rp.set ?_ G' (H' t) _)
   exact i
  refine RF.trans ?_ (aP rfl) km
  repeat(refine RF.set ?_ ak _)
  exact j
 |true=>
  go_wp2_with fail;refine aE (v:=o' #[j'<|aI (g' (z'<|O g off) len cap) {n with a:=⟨va,co,wd⟩,ops:=1},h' N']) (by simp[results112,go_sem,aI,y.1,u.1,f,D]) rfl ⟨_,d,by rw[o],(λ_=>by rw[V.o]),?_,?_,k⟩
  .refine Rp.alloc ?_ _
   repeat(refine Rp.set ?_ G' (by first|simpa using t|simpa using s) _)
   exact i
  refine RF.trans ?_ (aP rfl) km
  repeat(refine RF.set ?_ ak _)
  exact j):p:=h
def Rq(pb B g off len cap:Nat)(nv xv c:y')(vs:List bI)(vb:Option Nat)(R:List x')(x:x')(n:RN)(w:p')(hx:R[1]?=z' x)(L:(1:Int)<len)(hs:x.size<=3000)(hn:ζ vs<20000)(v:B<=δ w.1)(PG:pb<B)(hP:Rp w pb B nv xv vs vb)(hW:Ws w g off R)(b:some g≠vb):
  Cl 112 #[m'<|z'<|O pb 0,j' #[g' (z'<|O g off) len cap,k' n.bB,k' n.does,G n.target,G n.a.var,G n.a.c,k' n.a.word,G n.b.var,G n.b.c,k' n.b.word,G n.ops,k' n.sign,k' n.bD],G 1,G 2,c] w λe b=>∃(m:RN)(X:Option Nat),
   e=n' (o' #[j'<|aI (g' (z'<|O g off) len cap) m,h'<|bZ x])/\J (bZ x=N'->m={n with a:=sC vs x,ops:=1})/\Rp b pb B nv xv (bS vs x) X/\RF pb vb w b/\gj w vb X:=by
 exact adT
def Ro(pb B g off len cap:Nat)(nv xv c:y')(vs:List bI)(vb:Option Nat)(R:List x')(x:x')(n:RN)(w:p')(hx:R[2]?=z' x)(L:(2:Int)<len)(hs:x.size<=3000)(hn:ζ vs<20000)(v:B<=δ w.1)(PG:pb<B)(hP:Rp w pb B nv xv vs vb)(hW:Ws w g off R)(b:some g≠vb):
  Cl 112 #[m'<|z'<|O pb 0,j' #[g' (z'<|O g off) len cap,k' n.bB,k' n.does,G n.target,G n.a.var,G n.a.c,k' n.a.word,G n.b.var,G n.b.c,k' n.b.word,G n.ops,k' n.sign,k' n.bD],G 2,G 3,c] w λe b=>∃(m:RN)(X:Option Nat),
   e=n' (o' #[j'<|aI (g' (z'<|O g off) len cap) m,h'<|bZ x])/\J (bZ x=N'->m={n with a:=sC vs x,ops:=1})/\Rp b pb B nv xv (bS vs x) X/\RF pb vb w b/\gj w vb X:=by
 have afw:=True.intro;exact adT
def adU{p:Prop}(h:p:=by
 have U:=hP.lt;have k:=hP.Ex;have o:some w.1.size≠vb:=by intro e;have:=k _ e.symm;omega
 have j:some (δ w.1+1)≠vb:=by intro e;have:=k _ e.symm;omega
 first|(have _:=aam;have T:=hW.cell 2 x hx)|(have T:=hW.cell 1 x hx)
 have k:=hW.lt;go_enter func112,ntmps112;go_wp2_with fail;refine(CU x pb B nv xv vs vb _ hs I G' PG ((hP.alloc _).alloc _)).mono ?_;rintro e F ⟨va,co,wd,k,rfl,V,hP2,E,r⟩;have C:=bE w (i' #[g' (z'<|O g off) len cap,k' n.bB,k' n.does,G n.target,G n.a.var,G n.a.c,k' n.a.word,G n.b.var,G n.b.c,k' n.b.word,G n.ops,k' n.sign,k' n.bD] 111)<|i' #[g' A' 0 0,k' ⟨#[]⟩,k' ⟨#[]⟩,G 0,G 0,G 0,k' ⟨#[]⟩,G 0,G 0,k' ⟨#[]⟩,G 0,k' ⟨#[]⟩,k' ⟨#[]⟩] 111;have l:=lj E C.1 I o;have hb2:=lj E C.2 I j;have hx1:=A l;have u:=A hb2;have hz:=(bq.1 hb2).1;have D:δ w.1<δ F.1:=I;have N:δ w.1≠δ F.1:=I;have hq2:δ w.1+1≠δ F.1:=I;have s:=r.ne G' o;have U:some (δ w.1+1)≠k:=r.ne ak j;have j:ζ (bS vs x)<20000:=by have:=jP vs x;omega
 clear C T;have W:=E.dn.dn;have T:gj w vb k:=by
  rcases r with h|⟨q,h,C⟩
  .exact aP h
  exact aR ⟨q,h,by simp at C;omega⟩
 cases o:bZ x with
 |false=>
  clear l hb2;go_wp2_with fail;refine aE (v:=o' #[j'<|aI (g' (z'<|O g off) len cap) n,h' O']) (by simp[results112,go_sem,aI,hx1.1,u.1,hz,D]) rfl ⟨n,k,bS vs x,O',rfl,(by show _=_;rw[o];rfl),(λe=>by cases e),?_,?_,T⟩
  .refine Rp.alloc ?_ _
   repeat(refine Rp.set ?_ G' (H' U) _)
   exact hP2
  refine RF.trans ?_ (aP rfl) km
  repeat(refine RF.set ?_ ak _)
  exact W
 |true=>
  have hWz:=((hW.alloc<|i' #[g' (z'<|O g off) len cap,k' n.bB,k' n.does,G n.target,G n.a.var,G n.a.c,k' n.a.word,G n.b.var,G n.b.c,k' n.b.word,G n.ops,k' n.sign,k' n.bD] 111).alloc<|i' #[g' A' 0 0,k' ⟨#[]⟩,k' ⟨#[]⟩,G 0,G 0,G 0,k' ⟨#[]⟩,G 0,G 0,k' ⟨#[]⟩,G 0,k' ⟨#[]⟩,k' ⟨#[]⟩] 111).rf ((hP.alloc _).alloc _) hgv E
  first|(have _:=aam;have Y:=hWz.cell 3 z hzw;have hc3:=hWz.cell 4 y hyw)|(have Y:=hWz.cell 2 z hzw;have hc3:=hWz.cell 3 y hyw)
  have hg1:g≠δ w.1:=I;have hg2:g≠δ w.1+1:=I;have hg3:g≠δ F.1:=I;have agI:δ w.1≠g:=I;have agH:δ w.1+1≠g:=I;have agG:δ F.1≠g:=I;have afP:g<δ F.1:=I;go_wp2_with fail;refine(CU y pb B nv xv (bS vs x) k _ hsy j G' PG ?_).mono ?_
  .refine Rp.alloc ?_ _
   repeat(refine Rp.set ?_ G' (H' s) _)
   exact hP2
  rintro e W4 ⟨va',co',wd',vb4,rfl,HO',hP4,j,hn4⟩;have acC:gj F k vb4:=by
   rcases hn4 with h|⟨q,h,C⟩
   .exact aP h
   exact aR ⟨q,h,by simp at C;omega⟩
  have TP:=lj j (fG (zS<|zS<|zS<|zS<|zS l) _) I s;have Y:W4.1[δ w.1+1]?=_:=lj j (fG ((aJ ak).trans ((aJ ak).trans ((aJ ak).trans ((aJ ak).trans ((aJ ak).trans hb2))))) _) I U;simp at TP;have C:=hS.lt;have hsg:sb≠δ w.1:=I
  have hS4:Ws W4 sb 0 sl:=by
   have C:=((hS.alloc<|i' #[g' (z'<|O g off) len cap,k' n.bB,k' n.does,G n.target,G n.a.var,G n.a.c,k' n.a.word,G n.b.var,G n.b.c,k' n.b.word,G n.ops,k' n.sign,k' n.bD] 111).alloc<|i' #[g' A' 0 0,k' ⟨#[]⟩,k' ⟨#[]⟩,G 0,G 0,G 0,k' ⟨#[]⟩,G 0,G 0,k' ⟨#[]⟩,G 0,k' ⟨#[]⟩,k' ⟨#[]⟩] 111).rf ((hP.alloc _).alloc _) hsv E;refine Ws.rf ?_ (?_:Rp _ pb B nv xv (bS vs x) k) (r.ne G' hsv) j
   .refine Ws.alloc ?_ _
    repeat(refine Ws.set ?_ (H' hsg) _)
    exact C
   refine Rp.alloc ?_ _
   repeat(refine Rp.set ?_ G' (H' s) _)
   exact hP2
  have afQ:RF pb vb w W4:=by
   refine RF.trans ?_ T j;refine RF.trans ?_ (aP rfl) km
   repeat(refine RF.set ?_ ak _)
   exact W
  have k:δ F.1<δ W4.1:=by have:=j.size;simp at this;omega
  have k:gj w vb vb4:=T.trans I acC;have hm0:=acC.ne D s;have D:=acC.ne hz U;have F:=A TP;have q1:=A Y;clear TP Y hx1 u l hb2 j hn4 E r hWz hc3 N hq2 hW hS s U T W hP2 hP hg1 hg2 hg3 agI agH agG;have r1:δ w.1<δ W4.1:=I;have E:δ w.1+1<δ W4.1:=I;have j:δ w.1≠δ W4.1:=I;have j:δ w.1+1≠δ W4.1:=I;have j:δ W4.1≠δ w.1:=I;have j:δ W4.1≠δ w.1+1:=I;obtain⟨j,l⟩:∃j,(sl.any λq=>q.toList==z.toList)=j:=⟨_,rfl⟩;have s:=hid l;have r:∀W:p',Ws W sb 0 sl->Cl 180 #[k' z,g' (z'<|O sb 0) 4 sc] W λe w'=>e=n' (h' j)/\w'=W:=by intro W u;have:=P9 z sb sc sl W I u;rwa[hsl,l]at this
  have u:=hid r;clear l r;go_wp2_with fail;refine(u.o _ ?_).mono ?_
  .refine Ws.alloc ?_ _
   repeat(refine Ws.set ?_ (H' hsg) _)
   exact hS4
  rintro e C ⟨rfl,rfl⟩;clear u;cases l:bZ y with
  |true=>
   go_wp2_with fail;refine aE (v:=o' #[j'<|aI (g' (z'<|O g off) len cap) {n with a:=⟨va,co,wd⟩,b:=⟨va',co',wd'⟩,sign:=z,ops:=2},h' j]) (by simp[results112,go_sem,aI,F.1,q1.1,r1,E]) rfl ⟨_,vb4,bS (bS vs x) y,j,rfl,(by show _=_;rw[o,l,s.o];rfl),(λ_=>⟨by rw[V.o,HO'.o],rfl⟩),?_,?_,k⟩
   .refine Rp.alloc ?_ _
    repeat(refine Rp.set ?_ G' (by first|simpa using D|simpa using hm0) _)
    exact hP4
   refine RF.trans ?_ (aP rfl) km
   repeat(refine RF.set ?_ ak _)
   exact afQ
  |false=>
   go_wp2_with fail;refine aE (v:=o' #[j'<|aI (g' (z'<|O g off) len cap) {n with a:=⟨va,co,wd⟩,b:=⟨va',co',wd'⟩,sign:=z,ops:=2},h' O']) (by simp[results112,go_sem,aI,F.1,q1.1,r1,E]) rfl ⟨_,vb4,bS (bS vs x) y,O',rfl,(by show _=_;rw[o,l,s.o];rfl),(λ_=>⟨by rw[V.o,HO'.o],rfl⟩),?_,?_,k⟩
   .refine Rp.alloc ?_ _
    repeat(refine Rp.set ?_ G' (by first|simpa using D|simpa using hm0) _)
    exact hP4
   refine RF.trans ?_ (aP rfl) km
   repeat(refine RF.set ?_ ak _)
   exact afQ):p:=h
def Jk(pb B g off len cap:Nat)(nv xv:y')(vs:List bI)(vb:Option Nat)(R:List x')(x z y:x')(sb sc:Nat)(sl:List x')(n:RN)(w:p')(hx:R[1]?=z' x)(hzw:R[2]?=z' z)(hyw:R[3]?=z' y)(L:(1:Int)<len)(c:(2:Int)<len)(f:(3:Int)<len)(hs:x.size<=3000)(hsy:y.size<=3000)(c:ζ vs+1<20000)(hsl:ζ sl=4)(hS:Ws w sb 0 sl)(hsv:some sb≠vb)(v:B<=δ w.1)(PG:pb<B)(hP:Rp w pb B nv xv vs vb)(hW:Ws w g off R)(hgv:some g≠vb):
  Cl 112 #[m'<|z'<|O pb 0,j' #[g' (z'<|O g off) len cap,k' n.bB,k' n.does,G n.target,G n.a.var,G n.a.c,k' n.a.word,G n.b.var,G n.b.c,k' n.b.word,G n.ops,k' n.sign,k' n.bD],G 1,G 4,g' (z'<|O sb 0) 4 sc] w λe w'=>∃(m:RN)(X:Option Nat)(c:List bI)(t:Bool),
   e=n' (o' #[j'<|aI (g' (z'<|O g off) len cap) m,h' t])/\J (t=(bZ x&&bZ y&&sl.any (λq=>q.toList==z.toList)))/\J (t=N'->m={n with a:=sC vs x,b:=sC (bS vs x) y,sign:=z,ops:=2}/\c=bS (bS vs x) y)/\Rp w' pb B nv xv c X/\RF pb vb w w'/\gj w vb X:=by
 exact adU
def Jj(pb B g off len cap:Nat)(nv xv:y')(vs:List bI)(vb:Option Nat)(R:List x')(x z y:x')(sb sc:Nat)(sl:List x')(n:RN)(w:p')(hx:R[2]?=z' x)(hzw:R[3]?=z' z)(hyw:R[4]?=z' y)(L:(2:Int)<len)(c:(3:Int)<len)(f:(4:Int)<len)(hs:x.size<=3000)(hsy:y.size<=3000)(c:ζ vs+1<20000)(hsl:ζ sl=4)(hS:Ws w sb 0 sl)(hsv:some sb≠vb)(v:B<=δ w.1)(PG:pb<B)(hP:Rp w pb B nv xv vs vb)(hW:Ws w g off R)(hgv:some g≠vb):
  Cl 112 #[m'<|z'<|O pb 0,j' #[g' (z'<|O g off) len cap,k' n.bB,k' n.does,G n.target,G n.a.var,G n.a.c,k' n.a.word,G n.b.var,G n.b.c,k' n.b.word,G n.ops,k' n.sign,k' n.bD],G 2,G 5,g' (z'<|O sb 0) 4 sc] w λe w'=>∃(m:RN)(X:Option Nat)(c:List bI)(t:Bool),
   e=n' (o' #[j'<|aI (g' (z'<|O g off) len cap) m,h' t])/\J (t=(bZ x&&bZ y&&sl.any (λq=>q.toList==z.toList)))/\J (t=N'->m={n with a:=sC vs x,b:=sC (bS vs x) y,sign:=z,ops:=2}/\c=bS (bS vs x) y)/\Rp w' pb B nv xv c X/\RF pb vb w w'/\gj w vb X:=by
 have aam:=True.intro;exact adU
section
variable {a:Option Nat}
def bs(l:u'):x':=⟨θ l⟩
def opsL:List x':=[⟨#[43]⟩,⟨#[45]⟩,⟨#[42]⟩,⟨#[47]⟩]
def E5:List x':=[⟨#[60]⟩,⟨#[60,61]⟩,⟨#[61,61]⟩,⟨#[33,61]⟩]
def gq(vs:List bI)(ws:List x'):Option (RN×List bI):=
 match ws with
 |[w0]=>if w0.toList==[114,101,116,117,114,110] then z' (⟨emp,w0,-1,gN,gN,0,emp,emp⟩,vs) else A'
 |[w0,w1]=>if w0.toList==[103,111,116,111] then(if Wm.nm w1 then z' (⟨emp,w0,-1,gN,gN,0,emp,w1⟩,vs) else A') else if w0.toList==[111,117,116,112,117,116] then(if bZ w1 then z' (⟨emp,w0,-1,sC vs w1,gN,1,emp,emp⟩,bS vs w1) else A') else A'
 |[w0,w1,w2]=>if Wm.nm w0&&w1.toList==[61] then(if w2.toList==[105,110,112,117,116] then z' (⟨emp,⟨vo⟩,eS vs w0.1.1,gN,gN,0,emp,emp⟩,cy vs w0.1.1) else if bZ w2 then z' (⟨emp,⟨#[61]⟩,eS vs w0.1.1,sC (cy vs w0.1.1) w2,gN,1,emp,emp⟩,bS (cy vs w0.1.1) w2) else A') else A'
 |[w0,w1,w2,w3,w4]=>if Wm.nm w0&&w1.toList==[61] then(if bZ w2&&bZ w4&&opsL.any (λq=>q.toList==w3.toList) then z' (⟨emp,⟨#[61]⟩,eS vs w0.1.1,sC (cy vs w0.1.1) w2,sC (bS (cy vs w0.1.1) w2) w4,2,w3,emp⟩,bS (bS (cy vs w0.1.1) w2) w4) else A') else A'
 |[w0,w1,w2,w3,w4,w5]=>if w0.toList==[105,102]&&w4.toList==[103,111,116,111] then(if Wm.nm w5&&(bZ w1&&bZ w3&&E5.any (λq=>q.toList==w2.toList)) then z' (⟨emp,w0,-1,sC vs w1,sC (bS vs w1) w3,2,w2,w5⟩,bS (bS vs w1) w3) else A') else A'
 |_=>A'
def jc(w:p')(pb B:Nat)(nv xv wv:y')(vb:Option Nat)(r:Option<|RN×List bI)(e:Ending)(w':p'):Prop:=
 ∃(m:RN)(vb':Option Nat)(vt:List bI)(ok:Bool),e=n' (o' #[j'<|aI wv m,h' ok])/\J (r=if ok then z' (m,vt) else A')/\Rp w' pb B nv xv vt vb'/\RF pb vb w w'/\gj w vb vb'
def Rp.drew{B:Nat}{Q y:y'}{E:List bI}(h:Rp w N B Q y E a):Rp w.drew N B Q y E a:=h.uG rfl (λ_ _=>rfl)
def RF.drew{u:p'}(h:RF N a u w):RF N a u w.drew:=⟨h.os,h.tape,h.output,h.size,h.block⟩
def Z8(N B a:Nat)(q:t')(Q y:y')(E:List bI)(b:Option Nat)(w:p')(hP:Rp w N B Q y E b):
  Cl 69 #[m'<|z'<|O N 0,g' q 0 a] w (jc w N B Q y (g' q 0 a) b<|gq E []):=by
 unfold jc;go_enter func69,ntmps69;go_wp2_with fail;refine aE (v:=o' #[j'<|aI (g' (q) 0 a) ⟨emp,emp,-1,gN,gN,0,emp,emp⟩,h' O']) (by simp[results69,go_sem,aI,gN,emp]) rfl ⟨⟨emp,emp,-1,gN,gN,0,emp,emp⟩,b,E,O',rfl,rfl,?_,?_,aP rfl⟩
 .exact(hP.alloc _).alloc _
 exact km.trans (aP rfl) km
def aea(N B g t b:Nat)(Q y:y')(E:List bI)(c:Option Nat)(u:x') (w:p')(T:u.size<=3000)(v:B<=δ w.1)(a:N<B)(hP:Rp w N B Q y E c)(j:Ws w g t [u]):
  Cl 69 #[m'<|z'<|O N 0,g' (z'<|O g t) 1 b] w (jc w N B Q y (g' (z'<|O g t) 1 b) c<|gq E [u]):=by
 have U:=hP.lt;have k:=hP.Ex;have R:=j.lt;have a:g≠δ w.1:=I;have q:g≠δ w.1+1:=I;have s:δ w.1≠g:=I;have a:δ w.1+1≠g:=I;have a:=j.cell 0 u rfl;rw[e!]at a;have d:J (gq E [u]=if (u.toList==[114,101,116,117,114,110]) then z' (⟨emp,u,-1,gN,gN,0,emp,emp⟩,E) else A'):=by show _=_;rfl
 unfold jc;go_enter func69,ntmps69;go_wp2_with (first|(go_at_call 68;refine(ku T).mono ?_;rintro e a ⟨rfl,rfl⟩))
 go_region_held3 (λa=>χ a (O g t)=z' (k' u)/\χ a (O (δ w.1+1) 0)=z' (g' (z'<|O g t) 1 b)/\χ a (O (δ w.1+1) 1)=z' (k' ⟨#[]⟩)/\χ a (O (δ w.1+1) 2)=z' (k' u)/\χ a (O (δ w.1+1) 3)=z' (G (-1))/\χ a (O (δ w.1+1) 4)=z' (G 0)/\χ a (O (δ w.1+1) 5)=z' (G 0)/\χ a (O (δ w.1+1) 6)=z' (k' ⟨#[]⟩)/\χ a (O (δ w.1+1) 7)=z' (G 0)/\χ a (O (δ w.1+1) 8)=z' (G 0)/\χ a (O (δ w.1+1) 9)=z' (k' ⟨#[]⟩)/\χ a (O (δ w.1+1) 10)=z' (G 0)/\χ a (O (δ w.1+1) 11)=z' (k' ⟨#[]⟩)/\χ a (O (δ w.1+1) 12)=z' (k' ⟨#[]⟩)) (go_keep) (fail)
 go_wp2_with fail;refine aE (v:=o' #[j'<|aI (g' (z'<|O g t) 1 b) ⟨emp,u,-1,gN,gN,0,emp,emp⟩,h'<|u.toList==[114,101,116,117,114,110]]) (by simp[results69,go_sem,aI,gN,emp]) rfl ⟨⟨emp,u,-1,gN,gN,0,emp,emp⟩,c,E,(u.toList==[114,101,116,117,114,110]),rfl,d.o,?_,?_,aP rfl⟩
 .refine Rp.drew ?_;exact(hP.alloc _).alloc _
 refine RF.drew ?_;exact km.trans (aP rfl) km
end
def RM(N B g t f:Nat)(Q y:y')(E:List bI)(h:Option Nat)(u b:x') (w:p')(T:u.size<=3000)(S:b.size<=3000)(D:(u.toList==[103,111,116,111])=N')(v:B<=δ w.1)(a:N<B)(hP:Rp w N B Q y E h)(j:Ws w g t [u,b]):
  Cl 69 (Lu N g t f) w (jc w N B Q y (g' (z'<|O g t) 2 f) h<|gq E [u,b]):=by
 have U:=hP.lt;have k:=hP.Ex;have R:=j.lt;have a:g≠δ w.1:=I;have q:g≠δ w.1+1:=I;have s:δ w.1≠g:=I;have a:δ w.1+1≠g:=I;have a:=j.cell 0 u rfl;rw[e!]at a;have c:=j.cell 1 b rfl;have d:J (gq E [u,b]=if Wm.nm b then z' (⟨emp,u,-1,gN,gN,0,emp,b⟩,E) else A'):=by show _=_;simp only[gq,D,dQ]
 unfold jc;go_enter func69,ntmps69;go_wp2_with (first|(go_at_call_of 68 (k' u);refine(ku T).mono ?_;rintro e a ⟨rfl,rfl⟩)|(go_at_call_of 68 (k' b);refine(ku S).mono ?_;rintro e a ⟨rfl,rfl⟩));refine aE (v:=o' #[j'<|aI (g' (z'<|O g t) 2 f) ⟨emp,u,-1,gN,gN,0,emp,b⟩,h'<|Wm.nm b]) (by simp[results69,go_sem,aI,gN,emp]) rfl ⟨⟨emp,u,-1,gN,gN,0,emp,b⟩,h,E,(Wm.nm b),rfl,d.o,?_,?_,aP rfl⟩
 .exact(hP.alloc _).alloc _
 exact km.trans (aP rfl) km
def Wc(N B g t f:Nat)(Q y:y')(E:List bI)(h:Option Nat)(u b:x') (w:p')(T:u.size<=3000)(S:b.size<=3000)(D:(u.toList==[103,111,116,111])=O')(C:(u.toList==[111,117,116,112,117,116])=O')(v:B<=δ w.1)(a:N<B)(hP:Rp w N B Q y E h)(j:Ws w g t [u,b]):
  Cl 69 (Lu N g t f) w (jc w N B Q y (g' (z'<|O g t) 2 f) h<|gq E [u,b]):=by
 have U:=hP.lt;have k:=hP.Ex;have R:=j.lt;have a:g≠δ w.1:=I;have q:g≠δ w.1+1:=I;have s:δ w.1≠g:=I;have a:δ w.1+1≠g:=I;have a:=j.cell 0 u rfl;rw[e!]at a;have c:=j.cell 1 b rfl;have d:J (gq E [u,b]=A'):=by show _=_;simp only[gq,D,C];rfl
 unfold jc;cases V:Wm.nm u
 all_goals
  go_enter func69,ntmps69;go_wp2_with (first|(go_at_call_of 68 (k' u);refine(ku T).mono ?_;rintro e a ⟨rfl,rfl⟩));refine aE (v:=o' #[j'<|aI (g' (z'<|O g t) 2 f) ⟨emp,u,-1,gN,gN,0,emp,emp⟩,h' O']) (by simp[results69,go_sem,aI,gN,emp]) rfl ⟨⟨emp,u,-1,gN,gN,0,emp,emp⟩,h,E,O',rfl,d.o,?_,?_,aP rfl⟩
  .exact(hP.alloc _).alloc _
  exact km.trans (aP rfl) km
def Q!(h:p:=by
 unfold jc;go_enter func69,ntmps69;go_wp2_with (first|(go_at_call_of 68 (k' u);refine(ku T).mono ?_;rintro e a ⟨rfl,rfl⟩));refine aE (v:=o' #[j'<|aI (g' (z'<|O g t) 3 f) ⟨emp,u,-1,gN,gN,0,emp,emp⟩,h' O']) (by simp[results69,go_sem,aI,gN,emp]) rfl ⟨⟨emp,u,-1,gN,gN,0,emp,emp⟩,h,E,O',rfl,d.o,?_,?_,aP rfl⟩
 .exact(hP.alloc _).alloc _
 exact km.trans (aP rfl) km):p:=h
def RY(N B g t f:Nat)(Q y:y')(E:List bI)(h:Option Nat)(u b W:x') (w:p')(T:u.size<=3000)(S:b.size<=3000)(a:W.size<=3000)(V:Wm.nm u=O')(v:B<=δ w.1)(a:N<B)(hP:Rp w N B Q y E h)(j:Ws w g t [u,b,W]):
  Cl 69 #[m'<|z'<|O N 0,g' (z'<|O g t) 3 f] w (jc w N B Q y (g' (z'<|O g t) 3 f) h<|gq E [u,b,W]):=by
 have U:=hP.lt;have k:=hP.Ex;have R:=j.lt;have a:g≠δ w.1:=I;have q:g≠δ w.1+1:=I;have s:δ w.1≠g:=I;have a:δ w.1+1≠g:=I;have a:=j.cell 0 u rfl;rw[e!]at a;have c:=j.cell 1 b rfl;have Y:=j.cell 2 W rfl;have d:J (gq E [u,b,W]=A'):=by show _=_;simp only[gq,V];rfl
 exact Q!
def RX(N B g t f:Nat)(Q y:y')(E:List bI)(h:Option Nat)(u b W:x') (w:p')(T:u.size<=3000)(S:b.size<=3000)(a:W.size<=3000)(V:Wm.nm u=N')(C:(b.toList==[61])=O')(v:B<=δ w.1)(a:N<B)(hP:Rp w N B Q y E h)(j:Ws w g t [u,b,W]):
  Cl 69 #[m'<|z'<|O N 0,g' (z'<|O g t) 3 f] w (jc w N B Q y (g' (z'<|O g t) 3 f) h<|gq E [u,b,W]):=by
 have U:=hP.lt;have k:=hP.Ex;have R:=j.lt;have a:g≠δ w.1:=I;have q:g≠δ w.1+1:=I;have s:δ w.1≠g:=I;have a:δ w.1+1≠g:=I;have a:=j.cell 0 u rfl;rw[e!]at a;have c:=j.cell 1 b rfl;have Y:=j.cell 2 W rfl;have d:J (gq E [u,b,W]=A'):=by show _=_;simp only[gq,V,C];rfl
 exact Q!
def adR(h:p:=by
 have U:=hP.lt;have k:=hP.Ex;have R:=hW.lt;have b:g≠δ w.1:=I;have q:g≠δ w.1+1:=I;have s:δ w.1≠g:=I;have b:δ w.1+1≠g:=I;have b:=hW.cell 0 w0 rfl;rw[e!]at b;have c:=hW.cell 1 w1 rfl;have Y:=hW.cell 2 w2 rfl;have E:=hW.cell 3 w3 rfl;have b:=hW.cell 4 w4 rfl;have d:J (gq vs [w0,w1,w2,w3,w4]=A'):=by show _=_;first|(have _:=afu;simp only[gq,XD,h1];rfl)|(simp only[gq,XD];rfl)
 unfold jc;go_enter func69,ntmps69;go_wp2_with (first|(go_at_call_of 68 (k' w0);refine(ku XA).mono ?_;rintro e b ⟨rfl,rfl⟩));refine aE (v:=o' #[j'<|aI (g' (z'<|O g off) 5 cap) ⟨emp,w0,-1,gN,gN,0,emp,emp⟩,h' O']) (by simp[results69,go_sem,aI,gN,emp]) rfl ⟨⟨emp,w0,-1,gN,gN,0,emp,emp⟩,vb,vs,O',rfl,d.o,?_,?_,aP rfl⟩
 .exact(hP.alloc _).alloc _
 exact km.trans (aP rfl) km):p:=h
def RW(N B g off cap:Nat)(Q y:y')(vs:List bI)(vb:Option Nat)(w0 w1 w2 w3 w4:x') (w:p')(XA:w0.size<=3000)(S:w1.size<=3000)(a:w2.size<=3000)(z:w3.size<=3000)(P:w4.size<=3000)(XD:Wm.nm w0=O')(v:B<=δ w.1)(a:N<B)(hP:Rp w N B Q y vs vb)(hW:Ws w g off [w0,w1,w2,w3,w4]):
  Cl 69 #[m'<|z'<|O N 0,g' (z'<|O g off) 5 cap] w (jc w N B Q y (g' (z'<|O g off) 5 cap) vb<|gq vs [w0,w1,w2,w3,w4]):=by
 exact adR
def RV(N B g off cap:Nat)(Q y:y')(vs:List bI)(vb:Option Nat)(w0 w1 w2 w3 w4:x') (w:p')(XA:w0.size<=3000)(S:w1.size<=3000)(a:w2.size<=3000)(z:w3.size<=3000)(P:w4.size<=3000)(XD:Wm.nm w0=N')(h1:(w1.toList==[61])=O')(v:B<=δ w.1)(a:N<B)(hP:Rp w N B Q y vs vb)(hW:Ws w g off [w0,w1,w2,w3,w4]):
  Cl 69 #[m'<|z'<|O N 0,g' (z'<|O g off) 5 cap] w (jc w N B Q y (g' (z'<|O g off) 5 cap) vb<|gq vs [w0,w1,w2,w3,w4]):=by
 have afu:=True.intro;exact adR
def adS(h:p:=by
 have U:=hP.lt;have k:=hP.Ex;have R:=hW.lt;have c:g≠δ w.1:=I;have q:g≠δ w.1+1:=I;have s:δ w.1≠g:=I;have c:δ w.1+1≠g:=I;have c:=hW.cell 0 w0 rfl;rw[e!]at c;have c:=hW.cell 1 w1 rfl;have Y:=hW.cell 2 w2 rfl;have E:=hW.cell 3 w3 rfl;have c:=hW.cell 4 w4 rfl;have C:=hW.cell 5 w5 rfl;have d:J (gq vs [w0,w1,w2,w3,w4,w5]=A'):=by show _=_;first|(have _:=afv;simp only[gq,h0,h4];rfl)|(simp only[gq,h0];rfl)
 unfold jc;cases V:Wm.nm w0
 all_goals
  go_enter func69,ntmps69;go_wp2_with (first|(go_at_call_of 68 (k' w0);refine(ku XA).mono ?_;rintro e c ⟨rfl,rfl⟩));refine aE (v:=o' #[j'<|aI (g' (z'<|O g off) 6 cap) ⟨emp,w0,-1,gN,gN,0,emp,emp⟩,h' O']) (by simp[results69,go_sem,aI,gN,emp]) rfl ⟨⟨emp,w0,-1,gN,gN,0,emp,emp⟩,vb,vs,O',rfl,d.o,?_,?_,aP rfl⟩
  .exact(hP.alloc _).alloc _
  exact km.trans (aP rfl) km):p:=h
def RU(N B g off cap:Nat)(Q y:y')(vs:List bI)(vb:Option Nat)(w0 w1 w2 w3 w4 w5:x') (w:p')(XA:w0.size<=3000)(S:w1.size<=3000)(a:w2.size<=3000)(z:w3.size<=3000)(P:w4.size<=3000)(b:w5.size<=3000)(h0:(w0.toList==[105,102])=O')(v:B<=δ w.1)(a:N<B)(hP:Rp w N B Q y vs vb)(hW:Ws w g off [w0,w1,w2,w3,w4,w5]):
  Cl 69 #[m'<|z'<|O N 0,g' (z'<|O g off) 6 cap] w (jc w N B Q y (g' (z'<|O g off) 6 cap) vb<|gq vs [w0,w1,w2,w3,w4,w5]):=by
 exact adS
def RT(N B g off cap:Nat)(Q y:y')(vs:List bI)(vb:Option Nat)(w0 w1 w2 w3 w4 w5:x') (w:p')(XA:w0.size<=3000)(S:w1.size<=3000)(a:w2.size<=3000)(z:w3.size<=3000)(P:w4.size<=3000)(b:w5.size<=3000)(h0:(w0.toList==[105,102])=N')(h4:(w4.toList==[103,111,116,111])=O')(v:B<=δ w.1)(a:N<B)(hP:Rp w N B Q y vs vb)(hW:Ws w g off [w0,w1,w2,w3,w4,w5]):
  Cl 69 #[m'<|z'<|O N 0,g' (z'<|O g off) 6 cap] w (jc w N B Q y (g' (z'<|O g off) 6 cap) vb<|gq vs [w0,w1,w2,w3,w4,w5]):=by
 have afv:=True.intro;exact adS
def Fg(N B g t h:Nat)(Q y:y')(E:List bI)(i:Option Nat)(u:x')(c:Nat)(R:List x')(w:p')(T:u.size<=3000)(X:c<=3001)(F:R[0]?=z' u)(e:gq E R=A')(U:((c:Int)==0)=O')(b:(0:Int)<c)(a:((c:Int)==1)=O')(k:((c:Int)==2)=O')(f:((c:Int)==3)=O')(P:((c:Int)==5)=O')(K:((c:Int)==6)=O')(v:B<=δ w.1)(a:N<B)(hP:Rp w N B Q y E i)(j:Ws w g t R):
  Cl 69 (ka N g t c h) w (jc w N B Q y (kW g t c h) i<|gq E R):=by
 have U:=hP.lt;have k:=hP.Ex;have a:=j.lt;have a:g≠δ w.1:=I;have q:g≠δ w.1+1:=I;have s:δ w.1≠g:=I;have a:δ w.1+1≠g:=I;have a:=j.cell 0 u F;rw[e!]at a;have d:J (gq E R=A'):=by show _=_;exact e
 unfold jc;clear e;cases V:Wm.nm u
 all_goals
  go_enter func69,ntmps69;go_wp2_with (first|(go_at_call_of 68 (k' u);refine(ku T).mono ?_;rintro e a ⟨rfl,rfl⟩));refine aE (v:=o' #[j'<|aI (kW g t c h) ⟨emp,u,-1,gN,gN,0,emp,emp⟩,h' O']) (by simp[results69,go_sem,aI,gN,emp]) rfl ⟨⟨emp,u,-1,gN,gN,0,emp,emp⟩,i,E,O',rfl,d.o,?_,?_,aP rfl⟩
  .exact(hP.alloc _).alloc _
  exact km.trans (aP rfl) km
section
variable {a:Option Nat}
def gj.dn{o:Obj}{X:Option Nat}(h:gj (w.alloc o) a X):gj w a X:=by
 rcases h with h|⟨q,h,a⟩
 .exact aP h
 exact aR ⟨q,h,by simp at a;omega⟩
def RF.snoc{u:p'}(h:RF N a u w)(o:Obj):RF N a u (w.alloc o):=h.trans (aP rfl) km
def mf{B:Nat}{Q y:y'}{E:List bI}(h:Rp w N B Q y E a){k:Nat}(b:δ w.1<=k):some k≠a:=by intro e;have:=h.Ex _ e.symm;omega
def Wb(N B g t P:Nat)(Q y:y')(E:List bI)(f:Option Nat)(u b:x') (w:p')(T:u.size<=3000)(S:b.size<=3000)(K:ζ E<20000)(D:(u.toList==[103,111,116,111])=O')(C:(u.toList==[111,117,116,112,117,116])=N')(v:B<=δ w.1)(a:N<B)(hP:Rp w N B Q y E f)(j:Ws w g t [u,b])(h:some g≠f):
  Cl 69 (Lu N g t P) w (jc w N B Q y (g' (z'<|O g t) 2 P) f<|gq E [u,b]):=by
 have U:=hP.lt;have k:=hP.Ex;have R:=j.lt;have c:g≠δ w.1:=I;have q:g≠δ w.1+1:=I;have s:δ w.1≠g:=I;have c:δ w.1+1≠g:=I;have c:=j.cell 0 u rfl;rw[e!]at c;have c:=j.cell 1 b rfl;have d:J (gq E [u,b]=if bZ b then z' (⟨emp,u,-1,sC E b,gN,1,emp,emp⟩,bS E b) else A'):=by show _=_;simp only[gq,D,C,dQ];rfl
 cases V:Wm.nm u
 all_goals
  go_enter func69,ntmps69;go_wp2_with (first|(go_at_call_of 68 (k' u);refine(ku T).mono ?_;rintro e c ⟨rfl,rfl⟩));refine(Rq N B g t 2 P Q y _ E f [u,b] b ⟨⟨#[]⟩,u,-1,⟨0,0,⟨#[]⟩⟩,⟨0,0,⟨#[]⟩⟩,0,⟨#[]⟩,⟨#[]⟩⟩ _ rfl aj S K G' a ((hP.alloc _).alloc _) ((j.alloc _).alloc _) h).mono ?_;rintro e o ⟨m,L,rfl,r,x,u,a⟩;have l:o.1[δ w.1]?=z' _:=lj u (bE w _ _).1 I<|mf hP aK;have F:=A l;have f:=(bq.1 l).1;have N:δ w.1≠δ o.1:=I;have p:δ o.1≠δ w.1:=I;have z:=a.ne G'<|mf hP aK;have i:=u.dn.dn;have c:=a.dn.dn;clear l u a;simp only[aI];go_wp2_with fail;refine aE (v:=o' #[j'<|aI (g' (z'<|O g t) 2 P) m,h'<|bZ b]) (by simp[results69,go_sem,aI,F.1,f]) rfl ?_;unfold jc;refine⟨m,L,bS E b,(bZ b),rfl,(by show _=_;rw[d.o];cases h:bZ b with|false=>rfl|true=>rw[r.o h];rfl),?_,?_,c⟩
  .repeat(first|with_reducible refine Rp.drew ?_|with_reducible refine Rp.alloc ?_ _|with_reducible refine Rp.set ?_ G' (H' z) _)
   exact x
  repeat(first|with_reducible refine RF.drew ?_|with_reducible refine RF.snoc ?_ _|with_reducible refine RF.set ?_ ak _)
  exact i
end
def QH(w:p')(l:List x')(a:Array y')(k:Nat)(b:k=δ w.1)(c:a.toList=l.map k'):Ws (w.alloc<|i' a 9) k 0 l:=by subst b;refine⟨_,cv,?_⟩;rw[xC,c,c! ak]
def Q?(h:p:=by
 repeat(first|with_reducible refine Rp.drew ?_|with_reducible refine Rp.alloc ?_ _|with_reducible refine Rp.set ?_ G' (by first|simpa using s|simpa using c) _)
 exact x):p:=h
def Q9(h:p:=by
 repeat(first|with_reducible refine RF.drew ?_|with_reducible refine RF.snoc ?_ _|with_reducible refine RF.set ?_ ak _)
 exact i):p:=h
def aa8(N B g t cap:Nat)(Q y:y')(E:List bI)(f:Option Nat)(u b W i Y p:x') (w:p')(T:u.size<=3000)(S:b.size<=3000)(a:W.size<=3000)(z:i.size<=3000)(P:Y.size<=3000)(l:p.size<=3000)(K:ζ E+1<20000)(D:(u.toList==[105,102])=N')(e:(Y.toList==[103,111,116,111])=N')(v:B<=δ w.1)(a:N<B)(hP:Rp w N B Q y E f)(j:Ws w g t [u,b,W,i,Y,p])(h:some g≠f):
  Cl 69 #[m'<|z'<|O N 0,g' (z'<|O g t) 6 cap] w (jc w N B Q y (g' (z'<|O g t) 6 cap) f<|gq E [u,b,W,i,Y,p]):=by
 have U:=hP.lt;have k:=hP.Ex;have R:=j.lt;have c:g≠δ w.1:=I;have q:g≠δ w.1+1:=I;have s:δ w.1≠g:=I;have c:δ w.1+1≠g:=I;have c:=j.cell 0 u rfl;rw[e!]at c;have c:=j.cell 1 b rfl;have c:=j.cell 2 W rfl;have c:=j.cell 3 i rfl;have c:=j.cell 4 Y rfl;have C:=j.cell 5 p rfl;have d:J (gq E [u,b,W,i,Y,p]=if Wm.nm p&&(bZ b&&bZ i&&E5.any (λq=>q.toList==W.toList)) then z' (⟨emp,u,-1,sC E b,sC (bS E b) i,2,W,p⟩,bS (bS E b) i) else A'):=by show _=_;simp only[gq,D,e,xq,dQ]
 cases V:Wm.nm u
 all_goals
  go_enter func69,ntmps69;go_wp2_with (first|(go_at_call_of 68 (k' u);refine(ku T).mono ?_;rintro e c ⟨rfl,rfl⟩)|(go_at_call_of 68 (k' p);refine(ku l).mono ?_;rintro e c ⟨rfl,rfl⟩));refine(Jk N B g t 6 cap Q y E f [u,b,W,i,Y,p] b W i (δ w.1+1+1) 4 E5 ⟨⟨#[]⟩,u,-1,⟨0,0,⟨#[]⟩⟩,⟨0,0,⟨#[]⟩⟩,0,⟨#[]⟩,p⟩ _ rfl rfl rfl aj aj aj S z K rfl (QH _ E5 _ _ ak rfl) (mf hP I) G' a (((hP.alloc _).alloc _).alloc _) (((j.alloc _).alloc _).alloc _) h).mono ?_;rintro e o ⟨m,L,a,h,rfl,f,r,x,u,e⟩;have l:o.1[δ w.1]?=z' _:=lj u (fG (bE w _ _).1 _) I<|mf hP aK;have F:=A l;have D:=(bq.1 l).1;have X:δ w.1≠δ o.1:=I;have T:δ o.1≠δ w.1:=I;have s:=e.ne G'<|mf hP aK;have c:some w.1.size≠L:=s;have i:=u.dn.dn.dn;have b:=e.dn.dn.dn;clear l u e;simp only[aI];cases v:Wm.nm p
  case false=>
   go_wp2_with fail;refine aE (v:=o' #[j'<|aI (g' (z'<|O g t) 6 cap) m,h' O']) (by simp[results69,go_sem,aI,gN,emp,F.1,D]) rfl ?_;unfold jc;refine⟨m,L,a,O',rfl,(by show _=_;rw[d.o,v];rfl),?_,?_,b⟩
   .exact Q?
   exact Q9
  go_wp2_with fail;refine aE (v:=o' #[j'<|aI (g' (z'<|O g t) 6 cap) m,h' h]) (by simp[results69,go_sem,aI,gN,emp,F.1,D]) rfl ?_;unfold jc;refine⟨m,L,a,h,rfl,(by show _=_;rw[d.o,v,<-f.o];cases h with|false=>rfl|true=>rw[(r.o rfl).1,(r.o rfl).2];rfl),?_,?_,b⟩
  .exact Q?
  exact Q9
def aaI {p:Prop} (h:p:=by
  have U:=hP.lt;have k:=hP.Ex;have R:=hW.lt;have a:g≠δ w.1:=I;have Q:g≠δ w.1+1:=I;have s:δ w.1≠g:=I;have a:δ w.1+1≠g:=I;have a:=hW.cell 0 w0 rfl;rw[e!]at a;have c:=hW.cell 1 w1 rfl;have Y:=hW.cell 2 w2 rfl
  first
    |(
       have _:=y!;have d:J (gq vs [w0,w1,w2]=z' (⟨emp,⟨vo⟩,eS vs w0.1.1,gN,gN,0,emp,emp⟩,cy vs w0.1.1)):=by
         show _=_
         simp only[gq,XD,h1,h2];rfl)
    |(first
         | have _:=Gx
           have E:=hW.cell 3 w3 rfl;have y:=hW.cell 4 w4 rfl;have d:J (gq vs [w0,w1,w2,w3,w4]=if bZ w2&&bZ w4&&opsL.any (λq=>q.toList==w3.toList) then z' (⟨emp,⟨#[61]⟩,eS vs w0.1.1,sC (cy vs w0.1.1) w2,sC (bS (cy vs w0.1.1) w2) w4,2,w3,emp⟩,bS (bS (cy vs w0.1.1) w2) w4) else A'):=by show _=_;simp only[gq,XD,h1,xq,dQ]
         |have d:J (gq vs [w0,w1,w2]=if bZ w2 then z' (⟨emp,⟨#[61]⟩,eS vs w0.1.1,sC (cy vs w0.1.1) w2,gN,1,emp,emp⟩,bS (cy vs w0.1.1) w2) else A'):=by
             show _=_
             simp only[gq,XD,h1,h2];rfl)
  go_enter func69,ntmps69;go_wp2_with (first|(go_at_call_of 68 (k' w0);refine(ku XA).mono ?_;rintro e a ⟨rfl,rfl⟩))
  first|(have _:=y!;refine(Ju w0 pb B nv xv vs vb _ hn G' PG ((hP.alloc _).alloc _)).mono ?_)|(refine(Ju w0 pb B nv xv vs vb _ I G' PG ((hP.alloc _).alloc _)).mono ?_)
  rintro e o ⟨rfl,L,x,u,k⟩;have l:o.1[δ w.1]?=z' _:=lj u (bE w _ _).1 I<|mf hP aK;have X:o.1[δ w.1+1]?=z' _:=lj u (bE w _ _).2 I<|mf hP I;have F:=A l;have R:=A X;have P:δ w.1+1<δ o.1:=(bq.1 X).1;have D:δ w.1<δ o.1:=I;have a:δ w.1≠δ o.1:=I;have T:δ o.1≠δ w.1:=I;have a:δ w.1+1≠δ o.1:=I;have W:δ o.1≠δ w.1+1:=I;have s:some w.1.size≠L:=k.ne G'<|mf hP aK;have E:some (δ w.1+1)≠L:=k.ne ak<|mf hP I;have i:=u.dn.dn;have c:=k.dn.dn
  first|(have _:=y!;clear l X u k)|skip
  go_wp2_with fail
  first
    |(
       have _:=y!
       refine aE (v:=o' #[j'<|aI (g' (z'<|O g off) 3 cap) ⟨emp,⟨vo⟩,eS vs w0.1.1,gN,gN,0,emp,emp⟩,h' N']) (by simp[results69,go_sem,aI,gN,emp,F.1,D]) rfl ?_)
    |(
       first|(have _:=Gx;(have j:ζ (cy vs w0.1.1)+1<20000:=I'<|kY vs w0.1.1);have a:Ws o g off [w0,w1,w2,w3,w4]:=((hW.alloc _).alloc _).rf ((hP.alloc _).alloc _) hgv u)|((have j:ζ (cy vs w0.1.1)<20000:=I'<|kY vs w0.1.1);have a:Ws o g off [w0,w1,w2]:=((hW.alloc _).alloc _).rf ((hP.alloc _).alloc _) hgv u)
       have K:some g≠L:=k.ne G' hgv
       first|(have _:=Gx;refine(Jj pb B g off 5 cap nv xv (cy vs w0.1.1) L [w0,w1,w2,w3,w4] w2 w3 w4 o.1.size 4 opsL ⟨⟨#[]⟩,⟨#[61]⟩,eS vs w0.1.1,⟨0,0,⟨#[]⟩⟩,⟨0,0,⟨#[]⟩⟩,0,⟨#[]⟩,⟨#[]⟩⟩ _ rfl rfl rfl aj aj aj Xz hs4 j rfl (QH _ opsL _ _ ak rfl) (mf x aK) G' PG ((x.set G' (by simpa using E) _).alloc _) ((a.set (by simpa using Q) _).alloc _) K).mono ?_;rintro e C ⟨m,y,P,t,rfl,f,r,N,b,D⟩)|(refine(Ro pb B g off 3 cap nv xv _ (cy vs w0.1.1) L [w0,w1,w2] w2 ⟨⟨#[]⟩,⟨#[61]⟩,eS vs w0.1.1,⟨0,0,⟨#[]⟩⟩,⟨0,0,⟨#[]⟩⟩,0,⟨#[]⟩,⟨#[]⟩⟩ _ rfl aj Xz j G' PG ((x.set G' (by simpa using E) _).alloc _) ((a.set (by simpa using Q) _).alloc _) K).mono ?_;rintro e C ⟨m,y,rfl,r,N,b,D⟩)
       have e:C.1[δ w.1]?=z' _:=lj b (fG ((aJ ak).trans l) _) I s;clear l X F R;have F:=A e;have V:δ w.1<δ C.1:=(bq.1 e).1;have j:δ w.1≠δ C.1:=I;have a:δ C.1≠δ w.1:=I
       have a:gj w vb y:=c.trans I (v:=o) (by rcases D with h|⟨q,h,j⟩;exact aP h;exact aR ⟨q,h,by simp at j;omega⟩);have s:some w.1.size≠y:=D.ne G' s;have Q:RF pb vb w C:=by
         refine RF.trans ?_ c b
         with_reducible refine RF.snoc ?_ _
         with_reducible refine RF.set ?_ ak _
         exact i
       clear e b D u k c i;simp only[aI];go_wp2_with fail
       first|(have _:=Gx;refine aE (v:=o' #[j'<|aI (g' (z'<|O g off) 5 cap) m,h' t]) (by simp[results69,go_sem,aI,gN,emp,F.1,V]) rfl ?_)|(refine aE (v:=o' #[j'<|aI (g' (z'<|O g off) 3 cap) m,h'<|bZ w2]) (by simp[results69,go_sem,aI,gN,emp,F.1,V]) rfl ?_))
  unfold jc
  first|(have _:=y!;refine⟨⟨emp,⟨vo⟩,eS vs w0.1.1,gN,gN,0,emp,emp⟩,L,cy vs w0.1.1,N',rfl,d.o,?_,?_,c⟩)|((first|(have _:=Gx;refine⟨m,y,P,t,rfl,(by show _=_;rw[d.o,<-f.o];cases t with|false=>rfl|true=>rw[(r.o rfl).1,(r.o rfl).2];rfl),?_,?_,a⟩)|(refine⟨m,y,bS (cy vs w0.1.1) w2,(bZ w2),rfl,(by show _=_;rw[d.o];cases h:bZ w2 with|false=>rfl|true=>rw[r.o h];rfl),?_,?_,a⟩)))
  · repeat(first|with_reducible refine Rp.drew ?_|with_reducible refine Rp.alloc ?_ _|with_reducible refine Rp.set ?_ G' (by first|simpa using s|simpa using E) _)
    first|(have _:=y!;exact x)|(exact N)
  repeat(first|with_reducible refine RF.drew ?_|with_reducible refine RF.snoc ?_ _|with_reducible refine RF.set ?_ ak _)
  first|(have _:=y!;exact i)|(exact Q)):p:=h
def RP(pb B g off cap:Nat)(nv xv:y')(vs:List bI)(vb:Option Nat)(w0 w1 w2:x') (w:p')(XA:w0.size<=3000)(S:w1.size<=3000)(Xz:w2.size<=3000)(hn:ζ vs+1<20000)(XD:Wm.nm w0=N')(h1:(w1.toList==[61])=N')(h2:(w2.toList==[105,110,112,117,116])=O')(v:B<=δ w.1)(PG:pb<B)(hP:Rp w pb B nv xv vs vb)(hW:Ws w g off [w0,w1,w2])(hgv:some g≠vb):
  Cl 69 #[m'<|z'<|O pb 0,g' (z'<|O g off) 3 cap] w (jc w pb B nv xv (g' (z'<|O g off) 3 cap) vb<|gq vs [w0,w1,w2]):=by
 exact aaI
def aa7(pb B g off cap:Nat)(nv xv:y')(vs:List bI)(vb:Option Nat)(w0 w1 w2:x') (w:p')(XA:w0.size<=3000)(S:w1.size<=3000)(Xz:w2.size<=3000)(hn:ζ vs<20000)(XD:Wm.nm w0=N')(h1:(w1.toList==[61])=N')(h2:(w2.toList==[105,110,112,117,116])=N')(v:B<=δ w.1)(PG:pb<B)(hP:Rp w pb B nv xv vs vb)(hW:Ws w g off [w0,w1,w2])(hgv:some g≠vb):
  Cl 69 #[m'<|z'<|O pb 0,g' (z'<|O g off) 3 cap] w (jc w pb B nv xv (g' (z'<|O g off) 3 cap) vb<|gq vs [w0,w1,w2]):=by
 have y! := True.intro;exact aaI
def RQ(pb B g off cap:Nat)(nv xv:y')(vs:List bI)(vb:Option Nat)(w0 w1 w2 w3 w4:x') (w:p')(XA:w0.size<=3000)(S:w1.size<=3000)(Xz:w2.size<=3000)(z:w3.size<=3000)(hs4:w4.size<=3000)(hn:ζ vs+2<20000)(XD:Wm.nm w0=N')(h1:(w1.toList==[61])=N')(v:B<=δ w.1)(PG:pb<B)(hP:Rp w pb B nv xv vs vb)(hW:Ws w g off [w0,w1,w2,w3,w4])(hgv:some g≠vb):
  Cl 69 #[m'<|z'<|O pb 0,g' (z'<|O g off) 5 cap] w (jc w pb B nv xv (g' (z'<|O g off) 5 cap) vb<|gq vs [w0,w1,w2,w3,w4]):=by
 have Gx:=True.intro;exact aaI
section
variable {E:List bI}
def L9(N B g t e:Nat)(Q y:y')(E:List bI)(j:Option Nat)(R:List x')(w:p')(f:wb R)(K:ζ E+3<20000)(v:B<=δ w.1)(a:N<B)(hP:Rp w N B Q y E j)(hW:Ws w g t R)(h:some g≠j):
  Cl 69 (ka N g t (ζ R) e) w (jc w N B Q y (kW g t (ζ R) e) j<|gq E R):=by
 match R,f,hW with
 |[],_,_=>exact Z8 N B e _ Q y E j w hP
 |[u],f,hW=>exact aea N B g t e Q y E j u w (f.word u ak) v a hP hW
 | [u,b],f,hW=>
  have c:=f.word u ak;have U:=f.word b ak;cases D:(u.toList==[103,111,116,111])with
  |true=>exact RM N B g t e Q y E j u b w c U D v a hP hW
  |false=>
   cases C:(u.toList==[111,117,116,112,117,116])with
   |true=>exact Wb N B g t e Q y E j u b w c U I D C v a hP hW h
   |false=>exact Wc N B g t e Q y E j u b w c U D C v a hP hW
 | [u,b,W],f,hW=>
  have c:=f.word u ak;have U:=f.word b ak;have k:=f.word W ak;cases V:Wm.nm u with
  |false=>exact RY N B g t e Q y E j u b W w c U k V v a hP hW
  |true=>
   cases C:(b.toList==[61])with
   |false=>exact RX N B g t e Q y E j u b W w c U k V C v a hP hW
   |true=>
    cases d:(W.toList==[105,110,112,117,116])with
    |true=>exact aa7 N B g t e Q y E j u b W w c U k I V C d v a hP hW h
    |false=>exact RP N B g t e Q y E j u b W w c U k I V C d v a hP hW h
 | [u,b,W,i,Y],f,hW=>
  have c:=f.word u ak;have U:=f.word b ak;have k:=f.word W ak;have S:=f.word i ak;have P:=f.word Y ak;cases V:Wm.nm u with
  |false=>exact RW N B g t e Q y E j u b W i Y w c U k S P V v a hP hW
  |true=>
   cases C:(b.toList==[61])with
   |false=>exact RV N B g t e Q y E j u b W i Y w c U k S P V C v a hP hW
   |true=>exact RQ N B g t e Q y E j u b W i Y w c U k S P I V C v a hP hW h
 | [u,b,W,i,Y,p],f,hW=>
  have c:=f.word u ak;have U:=f.word b ak;have k:=f.word W ak;have S:=f.word i ak;have P:=f.word Y ak;have K:=f.word p ak;cases D:(u.toList==[105,102])with
  |false=>exact RU N B g t e Q y E j u b W i Y p w c U k S P K D v a hP hW
  |true=>
   cases d:(Y.toList==[103,111,116,111])with
   |false=>exact RT N B g t e Q y E j u b W i Y p w c U k S P K D d v a hP hW
   |true=>exact aa8 N B g t e Q y E j u b W i Y p w c U k S P K I D d v a hP hW h
 |[u,b,W,i],f,hW=>exact Fg N B g t e Q y E j u _ _ w (f.word u ak) f.len rfl rfl ak ak ak ak ak ak ak v a hP hW
 |u::b::W::i::Y::p::c::r,f,hW=>have X:ζ (u::b::W::i::Y::p::c::r)=ζ r+7:=ak;refine Fg N B g t e Q y E j u _ _ w (f.word u ak) f.len rfl rfl ?_ ?_ ?_ ?_ ?_ ?_ ?_ v a hP hW;all_goals(rw[X];first|(rw[dB];omega)|omega)
def fO(r:RO)(o:lz):Prop:=if o.aU then r.var=o.var/\0<=o.var else r.var=-1/\r.c=o.cg
def zD(k:Int):x':=if k=0\/k=1 then⟨#[61]⟩ else if k=2 then⟨vo⟩ else if k=3 then⟨#[111,117,116,112,117,116]⟩ else if k=4 then⟨#[105,102]⟩ else if k=5 then⟨#[103,111,116,111]⟩ else⟨#[114,101,116,117,114,110]⟩
structure tN(m:RN)(n:SN):Prop where
  bD:m.bD=n.bD
  aH:0<=n.aH/\n.aH<=6
  does:m.does=zD n.aH
  target:m.target=if n.aH<=2 then n.var else -1
  var:n.aH<=2->0<=n.var
  a:n.aH=0\/n.aH=1\/n.aH=3\/n.aH=4->fO m.a n.a
  b:n.aH=1\/n.aH=4->fO m.b n.b
  ops:m.ops=if n.aH=0\/n.aH=3 then 1 else if n.aH=1\/n.aH=4 then 2 else 0
  op:n.aH=1->n.op=Wm.tV m.sign.1.1/\Wm.wX m.sign.1.1=N'
  test:n.aH=4->n.test=Wm.uu m.sign.1.1/\Wm.x! m.sign.1.1=N'
  bB:m.bB=emp
  gnm:n.aH=4\/n.aH=5->Wm.nm n.bD=N'
  gno:n.aH≠4->n.aH≠5->n.bD=emp
def pK(E:List bI)(s:x')(h:bZ s=N'):fO (sC E s) (nW E s):=by
 unfold fO sC nW;cases K:Wm.nm s with
 |true=>rw[SR s K];simp[pC]
 |false=>
  have T:iA s.1.1=N':=by unfold bZ at h;rw[K]at h;simpa using h
  simp[T]
def NH(i:x'):opsL.any (λq=>q.toList==i.toList)=Wm.wX i.1.1:=by rw[eM i];simp only[opsL,qM,any_nil,Wm.wX,eM,xu];rw[ej [43],ej [45],ej [42],ej [47]];simp[qL]
def NF(i:x'):E5.any (λq=>q.toList==i.toList)=Wm.x! i.1.1:=by rw[eM i];simp only[E5,qM,any_nil,Wm.x!,eM,xu];rw[ej [60],ej [60,61],ej [61,61],ej [33,61]];simp[qL]
def Xp{a:Array UInt8}(h:(s.toList==a.toList)=N'):s=⟨a⟩:=by rw[dP,eM]at h;exact data_inj h
def w6(l:u')(X:Wm.SU l=O')(h:Wm.nm s=N'):(s.toList==l)=O':=by rw[dB,eM];intro e;unfold Wm.nm at h;rw[e,X]at h;cases h
structure pq(vs:List bI)(ws:List x'):Prop where
  no:gq vs ws=A'->(iz vs ws).2.1=O'
  yes:∀m vt,gq vs ws=z' (m,vt)->(iz vs ws).2.1=N'/\(iz vs ws).2.2=vt/\tN m (iz vs ws).1
def kz(h:gq E R=A')(a:(iz E R).2.1=O'):pq E R:=
 ⟨λ_=>a,λm a e=>by rw[h]at e;cases e⟩
def nh{b:Bool}{m:RN}{a:List bI}(h:gq E R=if b then z' (m,a) else A')(d:(iz E R).2.1=b)(N:b=N'->(iz E R).2.2=a/\tN m (iz E R).1):pq E R:=by
 cases b with
 |false=>exact kz h d
 |true=>
  refine⟨λe=>?_,λc a e=>?_⟩
  .rw[h]at e;cases e
  rw[h]at e;cases e;exact⟨d,N rfl⟩
def sn(E:List bI)(u:x')(r:List x')(h:Wm.nm u=N'):iz E (u::r)=fp E (u::r):=by unfold iz;simp only;rw[w6 [111,117,116,112,117,116] aj h,w6 [105,102] aj h,w6 [103,111,116,111] aj h,w6 [114,101,116,117,114,110] aj h];rfl
def ado(E:List bI)(u:x')(r:List x')(h:Wm.nm u=O'):fp E (u::r)=gQ E:=by
 unfold fp;split
 .rename_i e;cases e;rw[h];rfl
 rfl
def F5(E:List bI)(R:List x')(h:ζ R≠2):oO E R=gQ E:=by
 unfold oO;split
 .simp at h
 rfl
def BX(E:List bI)(R:List x')(h:ζ R≠2):jX E R=gQ E:=by
 unfold jX;split
 .simp at h
 rfl
def Jm(E:List bI)(u:x')(r:List x')(C:ζ (u::r)≠1)(a:ζ (u::r)≠2)(N:(z7 E<|u::r).2.1=O'\/(u.toList==[105,102])=O')(d:(fp E<|u::r).2.1=O'):(iz E<|u::r).2.1=O':=by
 unfold iz;simp only;split
 .rw[F5 E _ a];rfl
 split
 .rename_i h;rcases N with N|N
  .exact N
  rw[N]at h;cases h
 split
 .rw[BX E _ a];rfl
 split
 .simp only[bU]at C;simp only;rw[dB];omega
 exact d
def s9{l:u'}(h:(s.toList==l)=N'):s.toList=l:=H' h
def DE{l:u'}(h:(s.toList==l)=N'):s=⟨θ l⟩:=Xp (a:=θ l) h
def aa5(E:List bI)(u:x'):pq E [u]:=by
 refine nh (b:=(u.toList==[114,101,116,117,114,110])) rfl ?_ ?_;rotate_left
 .intro h;have y:iz E [u]=(⟨6,0,0,0,o0,o0,emp⟩,N',E):=by simp[iz,s9 h]
  rw[y];exact⟨rfl,⟨rfl,ak,DE h,rfl,ak,ak,ak,rfl,ak,ak,rfl,ak,λ_ _=>rfl⟩⟩
 cases h:(u.toList==[114,101,116,117,114,110])with
 |true=>simp[iz,s9 h]
 |false=>
  simp only[iz,h];rw[F5 E _ ak,zk E _ ak,BX E _ ak];split;· rfl
  split;· rfl
  split;· rfl
  rfl
def aa4(E:List bI)(u b:x'):pq E [u,b]:=by
 cases D:(u.toList==[103,111,116,111])with
 |true=>
  have y:iz E [u,b]=(⟨5,0,0,0,o0,o0,b⟩,Wm.nm b,E):=by simp[iz,s9 D,jX]
  refine nh (b:=Wm.nm b) (by simp only[gq,D,dQ];rfl) (by rw[y]) ?_;intro K;rw[y];exact⟨rfl,⟨rfl,ak,DE D,rfl,ak,ak,ak,rfl,ak,ak,rfl,λ_=>K,ak⟩⟩
 |false=>
  cases C:(u.toList==[111,117,116,112,117,116])with
  |true=>
   have y:iz E [u,b]=(⟨3,0,0,0,nW E b,o0,emp⟩,bZ b,bS E b):=by simp[iz,s9 C,oO]
   refine nh (b:=bZ b) (by simp only[gq,D,C,dQ];rfl) (by rw[y]) ?_;intro K;rw[y];exact⟨rfl,⟨rfl,ak,DE C,rfl,ak,λ_=>pK E b K,ak,rfl,ak,ak,rfl,ak,λ_ _=>rfl⟩⟩
  |false=>
   refine kz (by simp only[gq,D,C];rfl) ?_;simp only[iz,D,C];simp only[eF,eV];split
   .rw[zk E _ ak];rfl
   split
   .rfl
   rfl
def Q8(h:p:=by
 refine kz (by simp only[gq,V];rfl)<|Jm E u _ ak ak (aP<|by rw[zk E _ ak];rfl) ?_
 rw[ado E u _ V];rfl):p:=h
def aa3(E:List bI)(u b W:x'):pq E [u,b,W]:=by
 cases V:Wm.nm u with
 |false=>exact Q8
 |true=>
  cases C:(b.toList==[61])with
  |false=>refine kz (by simp only[gq,V,C];rfl) ?_;rw[sn E u _ V];simp only[fp,V,C];rfl
  |true=>
   cases a:(W.toList==[105,110,112,117,116])with
   |true=>
    have y:iz E [u,b,W]=(⟨2,eS E u.1.1,0,0,o0,o0,emp⟩,N',cy E u.1.1):=by rw[sn E u _ V];simp only[fp,V,C,a];rfl
    refine nh (b:=N') (by simp only[gq,V,C,a];rfl) (by rw[y]) ?_;intro _;rw[y];exact⟨rfl,⟨rfl,ak,rfl,rfl,λ_=>pC _ _,ak,ak,rfl,ak,ak,rfl,ak,λ_ _=>rfl⟩⟩
   |false=>
    have y:iz E [u,b,W]=(⟨0,eS E u.1.1,0,0,nW (cy E u.1.1) W,o0,emp⟩,bZ W,bS (cy E u.1.1) W):=by rw[sn E u _ V];simp only[fp,V,C,a];rfl
    refine nh (b:=bZ W) (by simp only[gq,V,C,a];rfl) (by rw[y]) ?_;intro K;rw[y];exact⟨rfl,⟨rfl,ak,rfl,rfl,λ_=>pC _ _,λ_=>pK _ W K,ak,rfl,ak,ak,rfl,ak,λ_ _=>rfl⟩⟩
def aa2(E:List bI)(u b W i Y:x'):pq E [u,b,W,i,Y]:=by
 cases V:Wm.nm u with
 |false=>exact Q8
 |true=>
  cases C:(b.toList==[61])with
  |false=>refine kz (by simp only[gq,V,C];rfl) ?_;rw[sn E u _ V];simp only[fp,V,C];rfl
  |true=>
   have y:iz E [u,b,W,i,Y]=(⟨1,eS E u.1.1,Wm.tV i.1.1,0,nW (cy E u.1.1) W,nW (bS (cy E u.1.1) W) Y,emp⟩,bZ W&&Wm.wX i.1.1&&bZ Y,bS (bS (cy E u.1.1) W) Y):=by rw[sn E u _ V];simp only[fp,V,C];rfl
   have a:(bZ W&&Wm.wX i.1.1&&bZ Y)=(bZ W&&bZ Y&&opsL.any (λq=>q.toList==i.toList)):=by rw[NH,uj,Bool.and_comm<|Wm.wX _,uj]
   refine nh (b:=bZ W&&bZ Y&&opsL.any (λq=>q.toList==i.toList)) (by simp only[gq,V,C];rfl) (by rw[y,<-a]) ?_;intro K;rw[NH]at K;simp only[aY]at K;rw[y];exact⟨rfl,⟨rfl,ak,rfl,rfl,λ_=>pC _ _,λ_=>pK _ W K.1.1,λ_=>pK _ Y K.1.2,rfl,λ_=>⟨rfl,K.2⟩,ak,rfl,ak,λ_ _=>rfl⟩⟩
def aa1(E:List bI)(u b W i Y p:x'):pq E [u,b,W,i,Y,p]:=by
 have a:(fp E [u,b,W,i,Y,p]).2.1=O':=by unfold fp;simp only;split<;>rfl
 cases D:(u.toList==[105,102])with
 |false=>exact kz (by simp only[gq,D];rfl)<|Jm E u _ ak ak (aR D) a
 |true=>
  have R:iz E [u,b,W,i,Y,p]=z7 E [u,b,W,i,Y,p]:=by simp[iz,s9 D]
  cases d:(Y.toList==[103,111,116,111])with
  |false=>refine kz (by simp only[gq,D,d];rfl) ?_;rw[R];simp only[z7,d];rfl
  |true=>
   have y:iz E [u,b,W,i,Y,p]=(⟨4,0,0,Wm.uu W.1.1,nW E b,nW (bS E b) i,p⟩,bZ b&&Wm.x! W.1.1&&bZ i&&Wm.nm p,bS (bS E b) i):=by rw[R];simp only[z7,d];rfl
   have a:(bZ b&&Wm.x! W.1.1&&bZ i&&Wm.nm p)=(Wm.nm p&&(bZ b&&bZ i&&E5.any (λq=>q.toList==W.toList))):=by rw[NF,Bool.and_comm _<|Wm.nm p];congr 1;rw[uj,Bool.and_comm<|Wm.x! _,uj]
   refine nh (b:=Wm.nm p&&(bZ b&&bZ i&&E5.any (λq=>q.toList==W.toList))) (by simp only[gq,D,d];rfl) (by rw[y,<-a]) ?_;intro K;rw[NF]at K;simp only[aY]at K;rw[y];exact⟨rfl,⟨rfl,ak,DE D,rfl,ak,λ_=>pK _ b K.2.1.1,λ_=>pK _ i K.2.1.2,rfl,ak,λ_=>⟨rfl,K.2.2⟩,rfl,λ_=>K.1,ak⟩⟩
def Q7(h:p:=by
 refine kz rfl (Jm E u _ ak ak (aP<|by rw[zk E _ ak];rfl) ?_);unfold fp;simp only
 split<;>rfl):p:=h
def Fe(E:List bI)(R:List x'):pq E R:=by
 match R with
 |[]=>exact kz rfl rfl
 |[u]=>exact aa5 E u
 |[u,b]=>exact aa4 E u b
 |[u,b,W]=>exact aa3 E u b W
 |[u,b,W,i,Y]=>exact aa2 E u b W i Y
 |[u,b,W,i,Y,p]=>exact aa1 E u b W i Y p
 |[u,b,W,i]=>exact Q7
 |u::b::W::i::Y::p::c::r=>exact Q7
end
section
variable {i:Nat}
structure RC where
  n:RN
  wa:t'
  wl:Nat
  wc:Nat
abbrev RC.wv(c:RC):y':=g' c.wa c.wl c.wc
def fE(c:RC):List y':=(aI c.wv c.n).toList
def sA(l:List RC):List y':=l.flatMap fE
def jN(c:RC):ζ (fE c)=13:=rfl
def Bc(l:List RC)(c:RC):sA (l++[c])=sA l++fE c:=by simp[sA]
def Bd(c:RC)(l:List RC):sA (c::l)=fE c++sA l:=by simp[sA]
def L?:∀(l:List RC)(k:Nat)(c:RC)(j:Nat),l[k]?=z' c->j<13->(sA l)[k*13+j]?=(fE c)[j]?
 |[],k,c,j,h,_=>by simp at h
 |d::l,0,c,j,h,hj=>by simp at h;subst h;rw[Bd,e6,bH,gI<|by rw[jN];exact hj]
 |d::l,k+1,c,j,h,hj=>by rw[Bd,eB<|by rw[jN];omega,jN,show(k+1)*13+j-13=k*13+j by omega];exact L? l k c j (H' h) hj
def mW(w:p')(g cap:Nat)(cl:List RC):Prop:=∃cur,w.1[g]?=z' (i' cur 111 (0,0))/\cur.size=cap*13/\cur.toList.take (ζ cl*13)=sA cl/\ζ cl<=cap
def mW.cells{D:List RC}(h:mW w g a D)(k:Nat)(c:RC)(a:D[k]?=z' c)(j:Nat)(f:j<13):χ w (O g<|k*13+j)=(aI c.wv c.n)[j]?:=by obtain⟨Y,b,_,U,_⟩:=h;have X:=(aX.1 a).1;have C:=L? D k c j a f;rw[<-U,xj,aD I]at C;simp only[World.cell?,b];simpa[fE]using C
def mW.all{D:List RC}(h:mW w g a D)(k:Nat)(c:RC)(a:D[k]?=z' c):χ w (O g<|k*13)=z' (bk c.wa c.wl c.wc)/\χ w (O g<|k*13+1)=z' (k' c.n.bB)/\χ w (O g<|k*13+2)=z' (k' c.n.does)/\χ w (O g<|k*13+3)=z' (G c.n.target)/\χ w (O g<|k*13+4)=z' (G c.n.a.var)/\χ w (O g<|k*13+5)=z' (G c.n.a.c)/\χ w (O g<|k*13+6)=z' (k' c.n.a.word)/\χ w (O g<|k*13+7)=z' (G c.n.b.var)/\χ w (O g<|k*13+8)=z' (G c.n.b.c)/\χ w (O g<|k*13+9)=z' (k' c.n.b.word)/\χ w (O g<|k*13+10)=z' (G c.n.ops)/\χ w (O g<|k*13+11)=z' (k' c.n.sign)/\χ w (O g<|k*13+12)=z' (k' c.n.bD):=
 ⟨h.cells k c a 0 I,h.cells k c a 1 I,h.cells k c a 2 I,h.cells k c a 3 I,h.cells k c a 4 I,h.cells k c a 5 I,h.cells k c a 6 I,h.cells k c a 7 I,h.cells k c a 8 I,h.cells k c a 9 I,h.cells k c a 10 I,h.cells k c a 11 I,h.cells k c a 12 I⟩
def mW.lt{D:List RC}(h:mW w g a D):g<δ w.1:=by obtain⟨Y,a,_⟩:=h;exact(bq.1 a).1
def mW.of_block{b:p'}{D:List RC}(h:mW w g a D)(c:b.1[g]?=w.1[g]?):mW b g a D:=by obtain⟨Y,C,a⟩:=h;exact⟨Y,c.trans C,a⟩
def k!(cl:List RC)(j:Nat):x':=match cl[j]? with|some c=>c.n.bB|none=>emp
def iT(cl:List RC)(g:x'):Nat->List Int
 |0=>[]
 |k+1=>iT cl g k++(if (k! cl k).toList==g.toList then[(k:Int)] else[])
def iY(cl:List RC)(i:Nat)(l:x'):Nat->Bool
 |0=>O'
 |k+1=>iY cl i l k||(decide (k≠i)&&(k! cl k).toList==l.toList)
def jZ(m:RN):Bool:=!(m.does.toList==[103,111,116,111])&&!(m.does.toList==[114,101,116,117,114,110])
def eP(cl:List RC)(m:RN)(k:Nat):List Int:=if m.bD.toList.isEmpty then[] else iT cl m.bD k
def wj(cl:List RC)(i:Nat)(m:RN):List Int:=eP cl m (ζ cl)++(if jZ m then[(i:Int)+1] else[])
def rm(cl:List RC)(i:Nat)(m:RN):Bool:=(!m.bB.toList.isEmpty&&iY cl i m.bB (ζ cl))||(!m.bD.toList.isEmpty&&(eP cl m<|ζ cl).isEmpty)||(jZ m&&decide (i+1=ζ cl))
def mJ(cl:List RC):Nat->Bool
 |0=>N'
 |k+1=>mJ cl k&&(match cl[k]? with|some c=>!rm cl k c.n|none=>N')
def Qk(cl:List RC):Bool:=mJ cl<|ζ cl
def PB(D:List RC)(g:x')(k:Nat):ζ (iT D g k)<=k:=by
 induction k with
 |zero=>simp[iT]
 |succ k B=>simp only[iT,bg];split<;>simp<;>omega
def GX(D:List RC)(m:RN)(k:Nat):ζ (eP D m k)<=k:=by
 unfold eP;split
 .simp
 exact PB _ _ _
def oW{D:List RC}{c:RC}(h:D[k]?=z' c):k! D k=c.n.bB:=by rw[k!,h]
def sE{D:List RC}{c:RC}(h:D[i]?=z' c)(a:rm D i c.n=N'):Qk D=O':=by
 have X:∀k,i<k->mJ D k=O':=by
  intro k;induction k with
  |zero=>intro h;omega
  |succ k B=>
   intro b;rw[mJ];by_cases e:i=k
   .subst e;rw[h];simp[a]
   rw[B I];rfl
 exact X _ (aX.1 h).1
def Ur {D:List RC}{l:x'} (h:iY D i l k=N'):∀n,k<=n->iY D i l n=N':=by
  intro n K;induction n with
  | zero => obtain rfl:k=0:=I
            exact h
  |succ n B=>
    by_cases e:k=n+1
    · subst e;exact h
    rw[iY,B I];rfl
def KD(D:List RC)(m:RN)(k:Nat)(d:RC)(h:D[k]?=z' d):eP D m (k+1)=if !m.bD.toList.isEmpty&&(d.n.bB.toList==m.bD.toList) then eP D m k++[(k:Int)] else eP D m k:=by
 unfold eP;cases l:m.bD.toList.isEmpty with
 |true=>simp
 |false=>simp only[Cs,eN,eF,eV];rw[iT,oW h];split<;>simp
def Uq(D:List RC)(i:Nat)(l:x')(k:Nat)(d:RC)(h:D[k]?=z' d):iY D i l (k+1)=(iY D i l k||(decide (k≠i)&&(d.n.bB.toList==l.toList))):=by rw[iY,oW h]
def acq:(Tryz.prog.info? 36).map (λi=>(i.zero,i.size,i.bytes))=z' (z'<|g' A' 0 0,1,24):=M
def acr:(Tryz.prog.info? 111).map (λi=>(i.zero,i.size,i.bytes))=z' (z'<|j' #[g' A' 0 0,k' ⟨#[]⟩,k' ⟨#[]⟩,G 0,G 0,G 0,k' ⟨#[]⟩,G 0,G 0,k' ⟨#[]⟩,G 0,k' ⟨#[]⟩,k' ⟨#[]⟩],13,168):=M
end
section
variable {u:y'}{D:List RC}{d:List y'}{o:Obj}
def Jh(h:p:=by
 go_enter func70,ntmps70;go_wp2;go_ret
 exact⟨rfl,rfl⟩):p:=h
def Pe(N:Nat)(T z c:t')(n r t x a q:Nat)(w:p')(b:w.1[N]?=z' (i' #[g' T n r,g' z t x,g' c a q] 107 (0,0)))(h:n=0\/60<n\/8<t):
  Cl 70 (cB N) w λe a=>e=n' (h' O')/\a=w:=by
 have L:=A b;by_cases D:n=0
 .subst D;exact Jh
 have o:((n:Int)==0)=O':=by rw[dB];omega
 by_cases C:60<n
 .have V:decide (60<(n:Int))=N':=by rw[bM];omega
  exact Jh
 have V:decide (60<(n:Int))=O':=by rw[e9];omega
 have u:decide (8<(t:Int))=N':=by rw[bM];omega
 exact Jh
def pj{a b:Bool}(h:a=N')(k:b=N'):(a&&b)=N':=by rw[h,k];rfl
def Vj(cl:List RC)(k:Nat)(n:RN)(m:Nat):Prop:=(!n.bB.toList.isEmpty&&iY cl k n.bB m)=O'
def RF.drewN{a:Option Nat}{u:p'}(h:RF N a u w)(n:Nat):RF N a u (w.drewN n):=⟨h.os,h.tape,h.output,h.size,h.block⟩
def RF.then{a:Option Nat}{u v:p'}(h:RF N a u v)(k:Bl v w):RF N a u w:=h.trans (aP rfl)<|RF.bJ k
structure N0(w:p')(pb g cap:Nat)(vv:y')(cl:List RC)(k:Nat)(xv:y')(qp:List y')(W:p'):Prop where
  box:W.1[pb]?=z' (i' #[g' (z'<|O g 0) (ζ cl) cap,vv,xv] 107 (0,0))
  rf:RF pb A' w W
  row:mW W g cap cl
  next:ρ W w.1.size 36 1 xv (ζ qp) qp
  len:ζ qp=k
  edges:∀j ev c,qp[j]?=z' ev->cl[j]?=z' c->ρ W w.1.size 3 1 ev (ζ<|wj cl j c.n) ((wj cl j c.n).map G)
def N0.below{b:p'}(h:N0 w N g a u D k y d W)(e:Bl W b):N0 w N g a u D k y d b:=
 ⟨(e.block N (bq.1 h.box).1).trans h.box,RF.then h.rf e,h.row.of_block<|e.block g h.row.lt,gA h.next e,h.len,λj d c a b=>gA (h.edges j d c a b) e⟩
def N0.Te{c:p'}(h:N0 w N g a u D k y d W)(U:N<δ w.1)(b:ξ (W.alloc o) c<|φ y):c.1[N]?=z' (i' #[g' (z'<|O g 0) (ζ D) a,u,y] 107 (0,0)):=
 (((j6 W o _).trans b).block N (bq.1 h.box).1<|BH (λk a=>(h.next.lt k a).1) U).trans h.box
def N0.step{e:p'}{E r:y'}{c:RC}(h:N0 w N g a u D k y d W)(T:D[k]?=z' c)(U:N<δ w.1)(f:g<δ w.1/\g≠N/\δ w.1<=δ W.1)(X:ρ W w.1.size 3 1 r (ζ<|wj D k c.n) ((wj D k c.n).map G))(b:ξ (W.alloc o) e<|φ y)(p:ρ e w.1.size 36 1 E (ζ<|d++[r])<|d++[r]):N0 w N g a u D (k+1) E (d++[r]) (κ e (O N 2) E):=by
 have c:=(j6 W o _).trans b;have s:∀q,q<δ w.1->some q≠φ y:=λq i=>BH (λk a=>(h.next.lt k a).1) i;have v:=(c.block N I<|s N U).trans h.box;have a:=(c.block g I<|s g f.1)
 have b:∀{g:y'} {j:List Int},ρ W w.1.size 3 1 g (ζ j) (j.map G)->ρ (κ e (O N 2) E) w.1.size 3 1 g (ζ j) (j.map G):=λl=>
  (l.kept c<|uD l h.next aj).kept (cQ e N 2 E) (dE l U)
 refine⟨?_,?_,?_,?_,by rw[bg,h.len];rfl,?_⟩
 .rw[zS v];rfl
 .refine⟨c.os.trans h.rf.os,c.tape.trans h.rf.tape,c.output.trans h.rf.output,by have:=c.size;simp[World.setCell];have:=f.2.2;omega,λq i C j=>?_⟩;refine(aJ C).trans ((c.block q (I' f.2.2)<|s q i).trans<|h.rf.block q i C j)
 .exact h.row.of_block ((aJ f.2.1).trans a)
 .exact p.kept (cQ e N 2 E)<|dE p U
 intro j g a f K;by_cases e:j<ζ d
 .rw[gI e]at f;exact b<|h.edges j g a f K
 have p:j=ζ d:=by have:=(aX.1 f).1;simp at this;omega
 subst p;rw[eB aK]at f;simp at f;subst f;rw[h.len]at K|-;rw[T]at K;cases K;exact b X
def Dp{m:RN}(C:(!m.bB.toList.isEmpty&&iY D k m.bB (ζ D))=O')(a:(!m.bD.toList.isEmpty&&(eP D m<|ζ D).isEmpty)=O')(N:(jZ m&&decide (k+1=ζ D))=O'):(match z' (⟨m,A',0,0⟩:RC)with|some c=>!rm D k c.n|none=>N')=N':=by show(!rm D k m)=N';rw[rm,C,a,N];rfl
def Q6(h:p:=by
 clear G0;cases U:(c.n.does.toList==[103,111,116,111])with
 |true=>
  have Qc:J (wj D k c.n=L):=by show _=_;unfold wj;rw[f.o,show jZ c.n=O' by unfold jZ;simp[U]];simp
  have HK2:J (mJ D (k+1)=N'):=by show _=_;rw[mJ,HR.o,T];exact pj rfl (Dp K.o (by rw[f.o];exact HA.o) (by unfold jZ;simp[U]))
  go_wp2_with (first|(at_builtin;refine fz rfl (.tmp 114) (.tmp 116) 25 rfl w.1.size 36 i2 (g' A' 0 0) 1 24 underlying25 Qy.a Qy.b Qy.c Qy.C rfl aj _ _ _ rfl (HX.o.alloc _) (O wr.1.size 0) 1 1 [g' la (ζ L) lc] rfl rfl lT (by intro u C;simp at C;subst C;rfl) acA acz G' ?_;intro v6 W6 Q l aap;obtain⟨xa6,xc6,rfl⟩:=aV Q;have E:=YO.o.Te S.a l;have x61:=A E));refine⟨⟨k+1,xa6,ζ qp+1,xc6,qp++[g' la (ζ L) lc],I,e',HK2,?_,?_⟩,by simp[intOf];omega⟩
  .exact((YO.o).step T S.a ⟨S.b.1,S.b.2.1,I⟩ (by rw[Qc.o];exact c8 o I) l<|by rw[bg];exact Q).box
  exact(YO.o).step T S.a ⟨S.b.1,S.b.2.1,I⟩ (by rw[Qc.o];exact c8 o I) l (by rw[bg];exact Q)
 |false=>
  cases hd2:(c.n.does.toList==[114,101,116,117,114,110])with
  |true=>
   have Qc:J (wj D k c.n=L):=by show _=_;unfold wj;rw[f.o,show jZ c.n=O' by unfold jZ;simp[U,hd2]];simp
   have HK2:J (mJ D (k+1)=N'):=by show _=_;rw[mJ,HR.o,T];exact pj rfl (Dp K.o (by rw[f.o];exact HA.o) (by unfold jZ;simp[U,hd2]))
   go_wp2_with (first|(at_builtin;refine fz rfl (.tmp 114) (.tmp 116) 25 rfl w.1.size 36 i2 (g' A' 0 0) 1 24 underlying25 Qy.a Qy.b Qy.c Qy.C rfl aj _ _ _ rfl (HX.o.alloc _) (O wr.1.size 0) 1 1 [g' la (ζ L) lc] rfl rfl lT (by intro u C;simp at C;subst C;rfl) acA acz G' ?_;intro v6 W6 Q l aap;obtain⟨xa6,xc6,rfl⟩:=aV Q;have E:=YO.o.Te S.a l;have x61:=A E));refine⟨⟨k+1,xa6,ζ qp+1,xc6,qp++[g' la (ζ L) lc],I,e',HK2,?_,?_⟩,by simp[intOf];omega⟩
   .exact((YO.o).step T S.a ⟨S.b.1,S.b.2.1,I⟩ (by rw[Qc.o];exact c8 o I) l<|by rw[bg];exact Q).box
   exact(YO.o).step T S.a ⟨S.b.1,S.b.2.1,I⟩ (by rw[Qc.o];exact c8 o I) l (by rw[bg];exact Q)
  |false=>
   by_cases aaq:k+1=ζ D
   .have HB:J (Qk D=O'):=by refine sE T ?_;unfold rm;rw[show jZ c.n=N' by unfold jZ;simp[U,hd2]];simp[aaq]
    have hli:((k:Int)==(ζ D:Int)-1)=N':=by rw[dP];omega
    go_wp2_with fail;go_ret;exact⟨bC HB.o.symm,(by rw[HB.o];exact λh=>by cases h),RF.then hbF P⟩
   have hli:((k:Int)==(ζ D:Int)-1)=O':=by rw[dB];omega
   have Qc:J (wj D k c.n=L++[(k:Int)+1]):=by show _=_;unfold wj;rw[f.o,show jZ c.n=N' by unfold jZ;simp[U,hd2]];simp
   have HK2:J (mJ D (k+1)=N'):=by show _=_;rw[mJ,HR.o,T];exact pj rfl (Dp K.o (by rw[f.o];exact HA.o)<|by simp[aaq])
   go_wp2_with (first
    |(at_builtin;refine fz rfl (.tmp 105) (.tmp 108) 36 rfl t.1.size 3 X (G 0) 1 8 underlying36 HI.a HI.b HI.c HI.C rfl aj _ _ _ rfl (o.alloc _) (O wr.1.size 0) 1 1 [G ((k:Int)+1)] rfl rfl lT (by intro u C;simp at C;subst C;rfl) (by unfold maxLen;omega) I (by have:=P.size;simp;omega) ?_;intro v4 W4 ti W afI;obtain⟨la4,lc4,rfl⟩:=aV ti;have Iq:Bl t W4:=(P.alloc P.size _).grown W (by have:=P.size;simp;omega) λq hq=>(o.lt q hq).1;have Qd:J (N0 w N g cap (g' z vl x) D k (g' xa xl xc) qp W4):=adE.o.below Iq;have HX4:J (ρ W4 w.1.size 36 1 (g' xa xl xc) (ζ qp) qp):=Qd.o.next;have hw4:δ w.1<=δ W4.1:=Qd.o.rf.size;have x41:=A Qd.o.box)
    |(at_builtin;refine fz rfl (.tmp 114) (.tmp 116) 25 rfl w.1.size 36 i2 (g' A' 0 0) 1 24 underlying25 Qy.a Qy.b Qy.c Qy.C rfl aj _ _ _ rfl (HX4.o.alloc _) (O W4.1.size 0) 1 1 [g' la4 (ζ L+1) lc4] rfl rfl lT (by intro u C;simp at C;subst C;rfl) acA acz G' ?_;intro v6 W6 Q l aap;obtain⟨xa6,xc6,rfl⟩:=aV Q;have E:=Qd.o.Te S.a l;have x61:=A E))
   refine⟨⟨k+1,xa6,ζ qp+1,xc6,qp++[g' la4 (ζ L+1) lc4],I,e',HK2,?_,?_⟩,by simp[intOf];omega⟩
   .exact((Qd.o).step T S.a ⟨S.b.1,S.b.2.1,I⟩ (by rw[Qc.o,bg,fq];exact c8 ti I) l<|by rw[bg];exact Q).box
   exact(Qd.o).step T S.a ⟨S.b.1,S.b.2.1,I⟩ (by rw[Qc.o,bg,fq];exact c8 ti I) l<|by rw[bg];exact Q):p:=h
theorem Ji(h:p:=by
 clear HMK wC B;go_wp2_with fail;cases hg:c.n.bD.toList.isEmpty with
 |true=>
  have HE:J (eP D c.n (m+1)=eP D c.n m):=by show _=_;rw[p.o.1,hg];rfl
  clear p;go_quiet (fail);go_wp2_with fail;go_quiet (fail);go_wp2_with fail;go_roundw
  case rel=>
   refine⟨m+1,by omega,by go_num,HD2,?_,below_drewN P _⟩;rw[HE.o];exact own_drewN o _
  simp[intOf];omega
 |false=>
  cases V:(d.n.bB.toList==c.n.bD.toList)with
  |false=>
   have HE:J (eP D c.n (m+1)=eP D c.n m):=by show _=_;rw[p.o.1,hg,V];rfl
   clear p;go_quiet (fail);go_wp2_with fail;go_quiet (fail);go_wp2_with fail;go_roundw
   case rel=>
    refine⟨m+1,by omega,by go_num,HD2,?_,below_drewN P _⟩;rw[HE.o];exact own_drewN o _
   simp[intOf];omega
  |true=>
   have HE:J (eP D c.n (m+1)=eP D c.n m++[(m:Int)]):=by show _=_;rw[p.o.1,hg,V];rfl
   have hhl:=GX D c.n m;clear p;go_quiet (fail);revert nq;intro R;go_wp2_with fail;go_quiet (fail)
   try simp only[World.drewN_drewN]
   have TD:=own_drewN o<|R+nq;have TQ:=below_drewN P<|R+nq;generalize wr.drewN (R+nq)=F at TD TQ|-;go_wp2_with (at_builtin;refine fz rfl (.tmp 81) (.tmp 83) 36 rfl t.heap.size 3 X (G 0) 1 8 underlying36 HI.o.1 HI.o.2.1 HI.o.2.2.1 HI.o.2.2.2 rfl aj _ _ _ rfl (TD.alloc _) (O F.heap.size 0) 1 1 [G m] rfl rfl lT (by intro u C;simp at C;subst C;rfl) (by unfold maxLen;omega) I (by have:=TQ.size;simp;omega) ?_;intro v4 W4 ti W afI)
   all_goals
    go_roundw
    case rel=>
     refine⟨m+1,by omega,by go_num,HD2,?_,(TQ.alloc TQ.size _).grown W (by have:=TQ.size;simp;omega) λq hq=>(TD.lt q hq).1⟩;rw[HE.o,bg,fq];exact ti
    simp[intOf];omega):p:=h
def Kc(N g cap vl x:Nat)(z:t')(D:List RC)(w:p')(d:w.1[N]?=z' (i' #[g' (z'<|O g 0) (ζ D) cap,g' z vl x,g' A' 0 0] 107 (0,0)))(j:mW w g cap D)(v:0<ζ D)(v:ζ D<=60)(v:vl<=8):
  Cl 70 (cB N) w λe v=>e=n' (h'<|Qk D)/\(Qk D=N'->∃y qp,N0 w N g cap (g' z vl x) D (ζ D) y qp v)/\RF N A' w v:=by
 have L:=A d;obtain⟨X,S,a,P,b⟩:=cI lJ;have HI:J (Tryz.prog.info? 3=z' X/\X.zero=z' (G 0)/\X.size=1/\X.bytes=8):=⟨S,a,P,b⟩;clear S a P b;obtain⟨i2,S,a,P,b⟩:=cI acq;have Qy:J (Tryz.prog.info? 36=z' i2/\i2.zero=z' (g' A' 0 0)/\i2.size=1/\i2.bytes=24):=⟨S,a,P,b⟩;clear S a P b;have v:((ζ D:Int)==0)=O':=by rw[dB];omega
 have e1:decide (60<(ζ D:Int))=O':=by rw[e9];omega
 have e2:decide (8<(vl:Int))=O':=by rw[e9];omega
 go_enter func70,ntmps70;go_wp2_with fail;have S:J (N<δ w.1/\(g<δ w.1/\g≠N/\True)/\True):=⟨(bq.1 d).1,⟨j.lt,?_,trivial⟩,trivial⟩;rotate_left
 .rintro rfl;obtain⟨v,T,_⟩:=j;rw[d]at T;simp at T
 go_loopw[4] (λi wr=>∃(k:Nat)(xa:t')(xl xc:Nat)(qp:List y'),k<=ζ D/\i=G k/\J (mJ D k=N')/\wr.1[N]?=z' (i' #[g' (z'<|O g 0) (ζ D) cap,g' z vl x,g' xa xl xc] 107 (0,0))/\J (N0 w N g cap (g' z vl x) D k (g' xa xl xc) qp wr)) (λi _=>ζ D-(intOf i).toNat)
 case atStart=>
  refine⟨0,A',0,0,[],I,rfl,rfl,d,⟨d,RF.refl _ _ _,j,dj,rfl,λj j c h=>by simp at h⟩⟩
 clear L d;obtain⟨k,xa,xl,xc,qp,j,rfl,HR,r,s⟩:=hrel;have Y:=s.o.rf;have L:=A r;by_cases b:k<ζ D;rotate_left
 .obtain rfl:k=ζ D:=I;go_wp2_with fail;go_ret;exact⟨bC HR.o.symm,λ_=>⟨_,qp,s.o⟩,Y⟩
 obtain⟨c,T⟩:=La b;have d:=s.o.row.all k c T;have b:(k:Int)<(ζ D:Int):=I;have b:=s.o.row.lt;have j:N<δ wr.1:=(bq.1 r).1;go_wp2_with fail;have hbX:=cF wr<|CK c.wa c.wl c.wc c.n.bB c.n.does c.n.target c.n.a.var c.n.a.c c.n.a.word c.n.b.var c.n.b.c c.n.b.word c.n.ops c.n.sign c.n.bD;have hbP:=fG r<|CK c.wa c.wl c.wc c.n.bB c.n.does c.n.target c.n.a.var c.n.a.c c.n.a.word c.n.b.var c.n.b.c c.n.b.word c.n.ops c.n.sign c.n.bD;have a:=s.o.row.of_block<|rY wr (CK c.wa c.wl c.wc c.n.bB c.n.does c.n.target c.n.a.var c.n.a.c c.n.a.word c.n.b.var c.n.b.c c.n.b.word c.n.ops c.n.sign c.n.bD) g b;have hbF:=RF.snoc Y<|CK c.wa c.wl c.wc c.n.bB c.n.does c.n.target c.n.a.var c.n.a.c c.n.a.word c.n.b.var c.n.b.c c.n.b.word c.n.ops c.n.sign c.n.bD;have j:δ (wr.alloc<|CK c.wa c.wl c.wc c.n.bB c.n.does c.n.target c.n.a.var c.n.a.c c.n.a.word c.n.b.var c.n.b.c c.n.b.word c.n.ops c.n.sign c.n.bD).1=δ wr.1+1:=ak;have b:ξ wr (wr.alloc<|CK c.wa c.wl c.wc c.n.bB c.n.does c.n.target c.n.a.var c.n.a.c c.n.a.word c.n.b.var c.n.b.c c.n.b.word c.n.ops c.n.sign c.n.bD) A':=zT;have adE:J (N0 w N g cap (g' z vl x) D k (g' xa xl xc) qp<|wr.alloc<|CK c.wa c.wl c.wc c.n.bB c.n.does c.n.target c.n.a.var c.n.a.c c.n.a.word c.n.b.var c.n.b.c c.n.b.word c.n.ops c.n.sign c.n.bD):=s.o.below<|aQ.alloc aK _;have r:δ w.1<=δ wr.1:=Y.size;generalize wr.alloc (CK c.wa c.wl c.wc c.n.bB c.n.does c.n.target c.n.a.var c.n.a.c c.n.a.word c.n.b.var c.n.b.c c.n.b.word c.n.ops c.n.sign c.n.bD)=t at hbX hbP a hbF j b adE|-;clear d L;go_loopw[5,7] (λv i wi=>∃m:Nat,m<=ζ D/\i=G m/\J (Vj D k c.n m)/\ρ wi t.1.size 3 1 v (ζ<|eP D c.n m) ((eP D c.n m).map G)/\Bl t wi) (λ_ i _=>ζ D-(intOf i).toNat)
 case atStart=>
  have e:eP D c.n 0=[]:=by unfold eP iT;split<;>rfl
  refine⟨0,I,rfl,by show(_&&_)=O';simp[iY],?_,aQ⟩;rw[e];exact dj
 obtain⟨m,b,rfl,B,o,P⟩:=hrel;rename_i wi;have b:=(P.block _ I).trans hbX;have e:=(P.block N I).trans hbP;have hNi:=a.of_block<|P.block g I;have a:=A b;have a:=A e;by_cases hml:m<ζ D;rotate_left
 .obtain rfl:m=ζ D:=I;obtain⟨la,lc,rfl⟩:=aV o;obtain⟨L,l⟩:∃L,eP D c.n (ζ D)=L:=⟨_,rfl⟩;have a:ζ L<=60:=by have:=GX D c.n<|ζ D;rw[l]at this;omega
  rw[l]at o;have f:J (eP D c.n (ζ D)=L):=l;rw[l];clear l;have K:J (Vj D k c.n<|ζ D):=B;clear B;have YO:J (N0 w N g cap (g' z vl x) D k (g' xa xl xc) qp wr):=adE.o.below P;have HX:J (ρ wr w.1.size 36 1 (g' xa xl xc) (ζ qp) qp):=YO.o.next;have b:ζ qp=k:=YO.o.len;have a:δ w.1<=δ wr.1:=YO.o.rf.size;have acA:ζ qp+1<=maxLen:=by unfold maxLen;omega
  have acz:(ζ qp+1)*24<=140737488355328:=I;clear b;by_cases G0:(!c.n.bD.toList.isEmpty&&L.isEmpty)=N'
  .have HB:J (Qk D=O'):=by refine sE T ?_;unfold rm;rw[f.o,G0];simp
   simp only[aY,jo,og]at G0;obtain⟨hg,rfl⟩:=G0;go_wp2_with fail;go_ret;exact⟨bC HB.o.symm,(by rw[HB.o];exact λh=>by cases h),RF.then hbF P⟩
  rw[jl]at G0;have HA:J ((!c.n.bD.toList.isEmpty&&L.isEmpty)=O'):=G0;cases hg:c.n.bD.toList.isEmpty with
  |true=>exact Q6
  |false=>
   have a:((ζ L:Int)==0)=O':=by
    rw[hg]at G0;cases L with
    |nil=>simp at G0
    |cons a b=>rw[dB];simp;omega
   exact Q6
 obtain⟨d,Q⟩:=La hml;have Y:=(hNi.all m d Q).2.1;have g:(m:Int)<(ζ D:Int):=I;have p:=(show J (_/\_)from⟨KD D c.n m d Q,Uq D k c.n.bB m d Q⟩);have a:((m:Int)==(k:Int))=!decide (m≠k):=by rw[cC];simp;omega
 have HMK:J (((m:Int)==(k:Int))=!decide (m≠k)):=a;clear a;by_cases wC:(!c.n.bB.toList.isEmpty&&(decide (m≠k)&&(d.n.bB.toList==c.n.bB.toList)))=N'
 .have HB:J (Qk D=O'):=by
   refine sE T ?_;have e1:iY D k c.n.bB (m+1)=N':=by rw[p.A];simp only[aY]at wC;rw[wC.2.1,wC.2.2];simp
   have e2:=Ur e1 (ζ D) I;unfold rm;simp only[aY]at wC;rw[e2,wC.1];simp
  simp only[aY]at wC;obtain⟨hl,a,hld⟩:=wC;rw[jo]at hl;have hmk:((m:Int)==(k:Int))=O':=by rw[HMK.o,a];rfl
  have afN:((m:Int) !=(k:Int))=N':=by simp only[bne,hmk];rfl
  clear HMK a p;go_wp2_with fail;go_quiet (fail);go_wp2_with fail;go_ret;exact⟨bC HB.o.symm,(by rw[HB.o];exact λh=>by cases h),(RF.then hbF P).drewN _⟩
 rw[jl]at wC;have HD2:J (Vj D k c.n<|m+1):=by show(_&&_)=O';have a:(!c.n.bB.toList.isEmpty&&iY D k c.n.bB m)=O':=B.o;rw[p.A,Bool.and_or_distrib_left,a,wC];rfl
 cases hl:c.n.bB.toList.isEmpty with
 |true=>exact Ji
 |false=>
  cases hmk:((m:Int)==(k:Int))with
  |true=>
   have afN:((m:Int) !=(k:Int))=O':=by simp only[bne,hmk];rfl
   exact Ji
  |false=>
   have afN:((m:Int) !=(k:Int))=N':=by simp only[bne,hmk];rfl
   have hld:(d.n.bB.toList==c.n.bB.toList)=O':=by
    have e1:decide (m≠k)=N':=by have:=HMK.o;rw[hmk]at this;simpa using this.symm
    rw[hl,e1]at wC;simpa using wC
   exact Ji
end
section
variable {D:List RC}{a:List PN}{m:RN}{n:SN}
structure Vh(c:RC)(p:PN):Prop where
  bB:c.n.bB=p.bB
  n:tN {c.n with bB:=emp} p.n
  wd:p.n.aH=1->∃w0 w1,p.ws=[w0,w1,c.n.a.word,c.n.sign,c.n.b.word]
structure AG(cl:List RC)(pl:List PN):Prop where
  len:ζ cl=ζ pl
  each:∀(j:Nat)(c:RC)(p:PN),cl[j]?=z' c->pl[j]?=z' p->Vh c p
def iu(cl:List RC)(j:Nat):bI:=(k! cl j).1.1
def tJ(a b:x'):(a.toList==b.toList)=decide (a.1.1=b.1.1):=by rw[eM,eM,cC];simp
def j2(a:x'):a.toList.isEmpty=decide (a.1.1=[]):=by rw[eM,cC];simp
def D1(D:List RC)(i:Nat)(l:x'):∀n,iY D i l n=N'↔∃k,k<n/\k≠i/\iu D k=l.1.1
 |0=>by simp[iY]
 |n+1=>by
  rw[iY,eZ,D1 D i l n,tJ];simp only[aY,bM];constructor
  .rintro(⟨k,C,a,N⟩|⟨C,a⟩)
   .exact⟨k,I,a,N⟩
   exact⟨n,I,C,a⟩
  rintro⟨k,C,a,N⟩;by_cases e:k=n
  .subst e;exact aR ⟨a,N⟩
  exact aP ⟨k,I,a,N⟩
def zl(D:List RC)(g:x'):∀n,(∀k,k<n->iu D k≠g.1.1)->iT D g n=[]
 |0,_=>rfl
 |n+1,h=>by rw[iT,zl D g n λk a=>h k I,tJ,show decide ((k! D n).1.1=g.1.1)=O' from dp<|h n I];rfl
def Lh(cl:List RC)(n:Nat):Prop:=∀i j,i<j->j<n->iu cl i≠[]->iu cl i≠iu cl j
def GV(D:List RC)(g:x')(c:g.1.1≠[]):∀n,Lh D n->∀k,k<n->iu D k=g.1.1->iT D g n=[(k:Int)]
 |0,_,k,a,_=>I
 |n+1,Q,k,a,he=>by
  rw[iT,tJ];by_cases e:k=n
  .subst e;rw[zl D g k λj f e=>Q j k f I (by rw[e];exact c)<|by rw[e,he]];have:decide ((k! D k).1.1=g.1.1)=N':=eC he;rw[this];rfl
  rw[GV D g c n (λi j a b=>Q i j a I) k I he];have z:(k! D n).1.1≠g.1.1:=by intro u;exact Q k n I I (by rw[he];exact c) (by rw[he];exact u.symm)
  rw[dp z];rfl
def dA(cl:List RC):Nat->List (bI×Nat)
 |0=>[]
 |k+1=>dA cl k++(if iu cl k=[] then[] else[(iu cl k,k)])
def pV(D:List RC)(x:bI):∀n,x∈iw (dA D n)↔∃k,k<n/\iu D k≠[]/\iu D k=x
 |0=>by simp[dA,iw]
 |n+1=>by
  have B:=pV D x n;unfold iw at B|-;rw[dA,fq,iF,B];constructor
  .rintro(⟨k,C,a⟩|h)
   .exact⟨k,I,a⟩
   split at h
   .simp at h
   rename_i z;simp at h;exact⟨n,I,z,h.symm⟩
  rintro⟨k,C,a,N⟩;by_cases e:k=n
  .subst e;rw[aA a];exact aR (by simp[N])
  exact aP ⟨k,I,a,N⟩
def ur(S:List<|bI×Nat)(p:bI×Nat)(v:bI):mZ (S++[p]) v=if p.1=v then(p.2:Int) else mZ S v:=by
 unfold mZ;rw[reverse_append];simp only[reverse_cons,reverse_nil,gg,I1,find?_cons];by_cases e:p.1=v
 .simp[e]
 have:(p.1==v)=O':=by simpa using e
 rw[this,aA e]
def A5(D:List RC)(x:bI)(F:x≠[]):∀n,Lh D n->∀k,k<n->iu D k=x->mZ (dA D n) x=k
 |0,_,k,a,_=>I
 |n+1,Q,k,a,he=>by
  rw[dA];by_cases e:k=n
  .subst e;rw[aA<|by rw[he];exact F,ur,aD he]
  have z:iu D n≠x:=by intro u;exact Q k n I I (by rw[he];exact F) (by rw[he];exact u.symm)
  have B:=A5 D x F n (λi j a b=>Q i j a I) k I he;split
  .rw[iE];exact B
  rw[ur,aA z];exact B
def QO(D:List RC)(x:bI):∀n,0<n->mZ (dA D n) x<(n:Int)
 |0,h=>I
 |n+1,_=>by
  have a:mZ (dA D n) x<(n:Int)+1:=by
   rcases IH n with e|e
   .subst e;simp[dA,mZ]
   have:=QO D x n e;omega
  rw[dA];split
  .rw[iE];exact_mod_cast a
  rw[ur];split
  .simp only;omega
  exact_mod_cast a
def MT(h:AG D a){k:Nat}(b:k<ζ D):(a.map PN.bB)[k]?=z' (k! D k):=by have T:=bj b;have U:=bj (l:=a) (i:=k)<|I' h.len;rw[a!,U,oW T,(h.each k _ _ T U).bB];rfl
def pP{D:List RC}{a:List PN}(h:AG D a):∀k,k<=ζ D->Lh D k->kC 0 [] ((a.map PN.bB).take k)=z' (dA D k)
 |0,_,_=>by simp[kC,dA]
 |k+1,a,hd=>by
  rw[yM (pP h k I λi j a b=>hd i j a I)<|MT h I,j2];by_cases e:iu D k=[]
  .rw[show decide ((k! D k).1.1=[])=N' from eC e];simp[dA,e]
  rw[show decide ((k! D k).1.1=[])=O' from dp e];have K:(k! D k).1.1∉iw (dA D k):=by rw[pV];rintro⟨j,C,a,N⟩;exact hd j k C I a N
  simp only[eF,eV,K];simp[dA,e];rfl
def yN{D:List RC}{b:List PN}(h:AG D b):∀k,k<=ζ D->∀S,kC 0 [] ((b.map PN.bB).take k)=z' S->Lh D k
 |0,_,_,_=>λi j _ f=>I
 |k+1,a,S,hp=>by
  have a:=MT h (k:=k) I;cases d:kC 0 [] ((b.map PN.bB).take k)with
  |none=>have:=F1 (Xm:=(b.map PN.bB).take<|k+1) (k:=k) (by rw[take_take,n? I];exact d);rw[this]at hp;cases hp
  |some c=>
   have Q:=yN h k I c d;have l:=pP h k I Q;rw[yM l a,j2]at hp;intro i j t f z;by_cases e:j=k;rotate_left
   .exact Q i j t I z
   subst e;intro u;have b:iu D j≠[]:=by rw[<-u];exact z
   rw[show decide ((k! D j).1.1=[])=O' from dp b]at hp;have B:(k! D j).1.1∈iw (dA D j):=(pV D _ j).2 ⟨i,t,z,u⟩;simp only[eF,eV,B,dQ]at hp;cases hp
def Ma(D:List RC):Qk D=N'↔∀i c,D[i]?=z' c->rm D i c.n=O':=by
 constructor
 .intro h i c T;cases a:rm D i c.n with
  |false=>rfl
  |true=>rw[sE T a]at h;cases h
 intro h;have:∀k,k<=ζ D->mJ D k=N':=by
  intro k;induction k with
  |zero=>intro _;rfl
  |succ k B=>intro a;rw[mJ,B I,bj (by omega:k<ζ D)];simp[h k _<|bj (by omega:k<ζ D)]
 exact this _ aK
def zr(h:tN {m with bB:=emp} n):jZ m=!(n.aH==5||n.aH==6):=by have Q:=h.does;have a:=h.aH;rw[jZ,Q,eM];obtain⟨k,Q⟩:∃k:Int,n.aH=k:=⟨_,rfl⟩;rw[Q]at a|-;have:k=0\/k=1\/k=2\/k=3\/k=4\/k=5\/k=6:=I;rcases this with rfl|rfl|rfl|rfl|rfl|rfl|rfl<;>decide
def uT(h:tN {m with bB:=emp} n):(!m.bD.toList.isEmpty)=jumps n.aH:=by
 have a:=h.bD;rw[j2,a];unfold jumps;by_cases a:n.aH=4\/n.aH=5
 .have K:=h.gnm a
  have:n.bD.1.1≠[]:=by
   intro e;have:n.bD.size=0:=by have:=Wm.bT n.bD;rw[e]at this;exact this.symm
   rw[Wm.w7 _ this]at K;cases K
  simp[this,a]
 have:=h.gno (λe=>a<|aP e) λe=>a<|aR e;rw[this];have d:(n.aH==4)=O':=by simpa using λe=>a<|aP e
 have l:(n.aH==5)=O':=by simpa using λe=>a<|aR e
 rw[d,l];rfl
def M5(h:tN {m with bB:=emp} n)(f:jumps n.aH=N'):m.bD.1.1≠[]:=by have:=uT h;rw[f,j2]at this;simpa using this
def vO{cl:List RC}(z:m.bD.1.1≠[]):(eP cl m<|ζ cl).isEmpty=N'↔∀k,k<ζ cl->iu cl k≠m.bD.1.1:=by
 have l:eP cl m (ζ cl)=iT cl m.bD (ζ cl):=by rw[eP,j2,dp z];rfl
 rw[l,og];constructor;rotate_left
 .intro h;exact zl cl m.bD _ h
 intro h k a e;have X:∀n,k<n->(k:Int)∈iT cl m.bD n:=by
  intro n;induction n with
  |zero=>intro h;omega
  |succ n B=>
   intro K;rw[iT,iF];by_cases u:k=n
   .subst u;rw[tJ,show decide ((k! cl k).1.1=m.bD.1.1)=N' from eC e];exact aR ak
   exact aP<|B I
 have:=X (ζ cl) a;rw[h]at this;simp at this
def Gl{b:List PN}(h:AG D b)(o:0<ζ D):dX (b.map PN.nc)=Qk D:=by
 have X:=h.len;rw[dX,w8];by_cases Q:Lh D (ζ D);rotate_left
 .have r:kC 0 [] (b.map PN.bB)=A':=by
   cases U:kC 0 [] (b.map PN.bB)with
   |none=>rfl
   |some S=>exfalso;refine Q<|yN h (ζ D) aK S ?_;rw[c! G'];exact U
  rw[r];simp only;unfold Lh at Q;simp only[Classical.not_forall,Classical.not_not]at Q;obtain⟨i,j,t,f,z,l⟩:=Q;obtain⟨c,T⟩:=La (l:=D) (i:=i) I;symm;refine sE T ?_;have v:iu D i=c.n.bB.1.1:=by rw[iu,oW T]
  have B:iY D i c.n.bB (ζ D)=N':=(D1 D i c.n.bB _).2 ⟨j,f,I,by rw[<-v];exact l.symm⟩;rw[rm,B,j2,dp<|by rw[<-v];exact z];rfl
 have U:=pP h (ζ D) aK Q;rw[c! G']at U;rw[U];simp only;have t:∀(i:Nat)(c:RC),D[i]?=z' c->(!c.n.bB.toList.isEmpty&&iY D i c.n.bB (ζ D))=O':=by
  intro i c T;rw[Bool.and_eq_false_iff];by_cases e:c.n.bB.1.1=[]
  .left;rw[j2,eC e];rfl
  right;cases B:iY D i c.n.bB (ζ D) with
  |false=>rfl
  |true=>
   obtain⟨k,C,r,N⟩:=(D1 D i c.n.bB _).1 B;have B:=(aX.1 T).1;have v:iu D i=c.n.bB.1.1:=by rw[iu,oW T]
   rcases Nat.lt_or_gt_of_ne r with L|E
   .exact absurd (N.trans v.symm) (Q k i L B<|by rw[N];exact e)
   exact absurd (v.trans N.symm) (Q i k E C<|by rw[v];exact e)
 have s:∀(i:Nat)(c:RC)(p:PN),D[i]?=z' c->b[i]?=z' p->((!c.n.bD.toList.isEmpty&&(eP D c.n<|ζ D).isEmpty)=O'↔(!jumps p.n.aH||decide (p.n.bD.1.1∈iw (dA D<|ζ D)))=N'):=by
  intro i c p T y;have d:=(h.each i c p T y).n;have g:c.n.bD=p.n.bD:=d.bD;rw[uT d];cases f:jumps p.n.aH with
  |false=>simp
  |true=>
   have z:=M5 d f;simp only[eN,uf,ko,bM];rw[pV,<-g,<-jl,vO z];constructor
   .intro F
    false_or_by_contra
    rename_i a;exact F λk f e=>a ⟨k,f,by rw[e];exact z,e⟩
   rintro⟨k,f,_,e⟩ F;exact F k f e
 obtain⟨c,T⟩:=La (l:=D) (i:=ζ D-1) I;obtain⟨p,y⟩:=La (l:=b) (i:=ζ D-1) I;have a:rF (dA D<|ζ D) (b.map PN.nc)=!jZ c.n:=by
  unfold rF;have g:(b.map PN.nc).getLast?=z' p.nc:=by rw[IG,b9,a!,<-X,y];rfl
  rw[g];simp only[b9];have d:=(h.each _ c p T y).n;rw[zr d,ub];have R:=QO D p.n.bD.1.1 (ζ D) o;unfold jh Hb;show(!(if p.n.aH==4 then _ else if p.n.aH==5 then _ else if p.n.aH==6 then _ else _:List Int).contains _)=_;have o:=d.aH;have S:(((ζ b-1:Nat):Int)+1)=(ζ b:Int):=I;by_cases w:p.n.aH=4
  .simp[w,S]
  by_cases P:p.n.aH=5
  .have:¬((ζ b:Int)=mZ (dA D<|ζ D) p.nc.n.bD.1.1):=by intro e;have u:mZ (dA D<|ζ D) p.nc.n.bD.1.1<(ζ D:Int):=R;omega
   simp[P,this]
  by_cases K:p.n.aH=6
  .simp[K]
  have j:(p.n.aH==4)=O':=H' w;have l:(p.n.aH==5)=O':=H' P;have g:(p.n.aH==6)=O':=H' K;rw[j,l,g];simp[S]
 rw[a,cC,Ma,aY];constructor
 .rintro⟨C,r⟩ i d a;obtain⟨q,f⟩:=La (l:=b) (i:=i)<|I' ((aX.1 a).1);rw[rm,t i d a,(s i d q a f).2 ?_];rotate_left
  .have:=bV.1 C q.nc<|IF<|aO f;exact this
  by_cases e:i+1=ζ D
  .have:i=ζ D-1:=I;subst this;rw[T]at a;cases a;have:jZ c.n=O':=H' r;rw[this];rfl
  simp[e]
 intro F;constructor;rotate_left
 .have:=F _ c T;unfold rm at this;simp only[lX]at this;have r:=this.2;rw[show decide (ζ D-1+1=ζ D)=N' from eC I,xJ]at r;rw[r];rfl
 rw[lL,bV];intro x b;obtain⟨q,c,rfl⟩:=bG.1 b;obtain⟨i,B,rfl⟩:=xE c;have f:=bj B;obtain⟨d,a⟩:=La (l:=D) (i:=i) I;refine(s i d _ a f).1 ?_;have:=F i d a;unfold rm at this;simp only[lX]at this;exact this.1.2
def Wo(h:AG D a)(b:0<ζ D)(b:Qk D=N'){S:List (bI×Nat)}(U:kC 0 [] (a.map PN.bB)=z' S)(i:Nat)(c:RC)(p:PN)(T:D[i]?=z' c)(y:a[i]?=z' p):wj D i c.n=jh S p.nc i:=by
 have X:=h.len;have Q:Lh D (ζ D):=yN h (ζ D) aK S (by rw[c! G'];exact U);have W:=pP h (ζ D) aK Q;rw[c! G',U]at W;cases W;have e:=(Ma D).1 b i c T;unfold rm at e;simp only[lX]at e;have hrel:=(h.each i c p T y).n;have i:=hrel.bD;have d:=uT hrel;rw[wj,zr hrel];unfold jh Hb;show _=(if p.n.aH==4 then _ else if p.n.aH==5 then _ else if p.n.aH==6 then _ else _:List Int);cases f:jumps p.n.aH with
 |false=>
  have a:c.n.bD.toList.isEmpty=N':=by rw[f]at d;simpa using d
  have K:eP D c.n (ζ D)=[]:=by rw[eP,a];rfl
  unfold jumps at f;rw[lX]at f;rw[K,f.1,f.2];cases p.n.aH==6<;>rfl
 |true=>
  have z:=M5 hrel f;have a:c.n.bD.toList.isEmpty=O':=by rw[j2,dp z]
  have b:∃k,k<ζ D/\iu D k=c.n.bD.1.1:=by
   have g:=e.1.2;rw[a]at g;simp only[Cs,eN]at g
   false_or_by_contra
   rename_i d;have:=(vO (cl:=D) z).2 λk h e=>d ⟨k,h,e⟩;rw[this]at g;cases g
  obtain⟨k,h,l⟩:=b;have V:eP D c.n (ζ D)=[(k:Int)]:=by rw[eP,a];exact GV D c.n.bD z _ Q k h l
  have R:mZ (dA D<|ζ D) p.nc.n.bD.1.1=k:=by show mZ (dA D<|ζ D) p.n.bD.1.1=k;rw[<-i];exact A5 D _ z _ Q k h l
  rw[V,R];unfold jumps at f;have g:=H' f;rcases g with e|e
  .simp[e]
  simp[e]
end
section
variable {D:List RC}{a:List PN}{c:RC}{p:PN}
def tQ(s:x')(k fr:Nat)(rest:List x'):Prop:=
 if k<=s.size then rest.map (·.data.toList)=Wm.z6 (Wm.sub s.1.1 fr k) (s.1.1.drop k) else rest=[]
def Kt(s:x'):tQ s 0 0 (MQ s):=by rw[tQ,aD bm,Wm.sub_self,xC];exact Wm.y8 s
def Tn(s:x')(k b:Nat)(q:List x')(a:k<s.size)(Y:b<=k)(c:((s[k].toNat:Int)==10)=O')(h:tQ s k b q):tQ s (k+1) b q:=by
 unfold tQ at h|-;rw[aD I]at h;rw[aD I,h,drop_cons s k a,Wm.sk s.1.1 b k (k+1) Y I,sub_one s k a];have:s[k]≠10:=by intro e;rw[e]at c;exact absurd c aj
 rw[Wm.z6];simp[this]
def Tm(s:x')(k b:Nat)(q:List x')(a:k<=s.size)(Y:b<=k)(d:∀h:k<s.size,((s[k].toNat:Int)==10)=N')(h:tQ s k b q):∃r,q=s.extract b k::r/\tQ s (k+1) (k+1) r:=by
 have c:=Wm.bT s;unfold tQ at h;rw[aD a]at h;by_cases L:k<s.size
 .have a:s[k]=10:=by have:=d L;rw[dP]at this;exact IE (by have e:(10:UInt8).toNat=10:=rfl;omega)
  rw[drop_cons s k L,Wm.z6]at h;simp only[a,dQ]at h
  match q,h with
  |x::r,h=>
   simp only[fA,xL]at h;refine⟨r,?_,?_⟩
   .rw[data_inj (a:=x) (b:=s.extract b k)<|by rw[j0];exact h.1]
   rw[tQ,aD I,Wm.sub_self];exact h.2
 obtain rfl:k=s.size:=I;rw[show s.1.1.drop s.size=[] from qO I,Wm.z6]at h
 match q,h with
 |x::r,h=>
  simp only[fA,xL,map_eq_nil_iff]at h;refine⟨r,?_,?_⟩
  .rw[data_inj (a:=x) (b:=s.extract b s.size)<|by rw[j0];exact h.1]
  rw[tQ,aA I];exact h.2
def Jq(u:x')(r:List x')(h:0<u.size):kZ (u::r)=((u[0].toNat:Int)==35):=by
 unfold kZ;simp only;rw[Wm.fj u h];simp only;rw[cC,dP,dP];constructor
 .intro e;rw[e];rfl
 intro e;exact IE (by have u:(35:UInt8).toNat=35:=rfl;omega)
def Po(s:x')(h:0<s.size):s.1.1=(s.extract 0<|s.size-1).1.1++[s[s.size-1]]:=by rw[j0];have k:=Wm.bT s;have e:=Wm.uv s (s.size-1) I;rw[show s.size-1+1=s.size by omega,c! I]at e;simp only[Wm.sub,xC,Nat.sub_zero];exact e
def UH(s:x')(h:0<s.size):rO s=((s[s.size-1].toNat:Int)==58):=by
 rw[rO,Lib.hasSuffix,cC,dP,isSuffixOf_iff_suffix,Po s h];constructor
 .rintro⟨t,U⟩;have:=(append_inj' U rfl).2;simp only[xL,and_true]at this;rw[<-this];rfl
 intro a;have:s[s.size-1]=58:=IE (by have u:(58:UInt8).toNat=58:=rfl;omega);rw[this];exact⟨_,rfl⟩
def Ta(s:x')(h:0<s.size)(T:rO s=N'):jw s=s.extract 0 (s.size-1):=by have k:=Wm.bT s;apply data_inj;rw[j0];show Lib.trimSuffix s.1.1 [58]=_;rw[Lib.trimSuffix,aD<|show Lib.hasSuffix s.1.1 [58]=N' from T];simp[Wm.sub]
structure P!(w:p')(c:RC)(p:PN):Prop where
  rel:Vh c p
  ws:∃g off,c.wa=z' (O g off)/\Ws w g off p.ws
  wl:c.wl=ζ p.ws
structure lr(w:p')(cl:List RC)(pl:List PN):Prop where
  len:ζ cl=ζ pl
  each:∀(j:Nat)(c:RC)(p:PN),cl[j]?=z' c->pl[j]?=z' p->P! w c p
def lr.rel(h:lr w D a):AG D a:=⟨h.len,λj c p a b=>(h.each j c p a b).rel⟩
def P!.mono{a:p'}(h:P! w c p)(B:∀g t R,Ws w g t R->Ws a g t R):P! a c p:=by obtain⟨g,t,C,a⟩:=h.ws;exact⟨h.rel,⟨g,t,C,B _ _ _ a⟩,h.wl⟩
def lr.mono{a:p'}{b:List PN}(h:lr w D b)(B:∀g t R,Ws w g t R->Ws a g t R):lr a D b:=
 ⟨h.len,λj c p a b=>(h.each j c p a b).mono B⟩
def lr.snoc(h:lr w D a)(T:P! w c p):lr w (D++[c]) (a++[p]):=by exact afV
end
section
variable {c:p'}{u:x'}{e size n t:Nat}{v:y'}{E a:List bI}{V:List PN}{D:List RC}{r rw:List x'}{q:List (List x')}{m:RN}
def Fj(s:x')(w:p')(h:decide (3000<(s.size:Int))=N'):
  Cl 38 #[k' s] w λe a=>e=n' (o' #[m' A',G 1])/\a=w:=by
 go_enter func38,ntmps38;go_wp2;go_ret2;exact⟨rfl,rfl⟩
def Vi(w:p')(r:Pr)(e:Ending)(w':p'):Prop:=
 Bl w w' /\
 match r with
 | .inl false=>e=n' (o' #[m' A',G 1])
 | .inl true=>e=n' (o' #[m' A',G 2])
 | .inr (pl,vs)=>∃pb g cap va vc xv cl qp ps,e=n' (o' #[m'<|z'<|O pb 0,G 0])/\δ w.1<=pb/\w'.1[pb]?=z' (i' #[g' (z'<|O g 0) (ζ pl) cap,g' va (ζ vs) vc,xv] 107 (0,0))/\δ w.1<=g/\mW w' g cap cl/\lr w' cl pl/\kC 0 [] (pl.map PN.bB)=z' ps/\ρ w' w.1.size 36 1 xv (ζ qp) qp/\ζ qp=ζ pl/\(∀(j:Nat)(ev:y')(p:PN),qp[j]?=z' ev->pl[j]?=z' p->ρ w' w.1.size 3 1 ev (ζ<|jh ps p.nc j) ((jh ps p.nc j).map G))
structure PS(w:p')(s:x')(k:Nat)(nv:y')(vs:List bI)(vb:Option Nat)(acc:List PN)(cl:List RC)(W:p'):Prop where
  rp:Rp W w.1.size (δ w.1+1) nv (g' A' 0 0) vs vb
  row:ρ W (δ w.1+1) 111 13 nv (ζ cl) (sA cl)
  Ah:lr W cl acc
  far:∀c∈cl,∀a,c.wa=z' a->some a.block≠vb
  low:Bl w W
  Je:ζ vs<=3*k
  UJ:ζ cl<=k
def PS.below(h:PS w s k Q E b V D W)(a:Bl W c):PS w s k Q E b V D c:=
 ⟨h.rp.below a,gA h.row a,h.Ah.mono<|r! a,h.far,h.low.trans<|a.mono h.low.size,h.Je,h.UJ⟩
def PS.next{a:Option Nat}(h:PS w s k Q E a V D W):PS w s (k+1) Q E a V D W:=
 ⟨h.rp,h.row,h.Ah,h.far,h.low,I' h.Je,I' h.UJ⟩
def G6(h:ρ w B 9 1 v (ζ<|u::r) ((u::r).map k')):∃a b,v=g' (z'<|O a 0) (ζ r+1) b/\B<=a/\ζ r+1<=b/\b<=maxLen/\Ws w a 0 (u::r):=by
 rcases h.2 with⟨_,D⟩|⟨g,b,Y,R,a,c,T,d,_,U⟩
 .simp at D
 exact⟨g,b,R,a,T,d,Y,c,H' U⟩
def BK(h:rO u=O'):jS E (u::r)=(emp,0,iz E<|u::r):=by simp[jS,h]
structure py(vs:List bI)(ws rw:List x')(bB:x')(k:Nat):Prop where
  no:gq vs rw=A'->(jS vs ws).2.2.2.1=O'
  yes:∀m vt,gq vs rw=z' (m,vt)->(jS vs ws).1=bB/\ws.drop (jS vs ws).2.1=rw/\(jS vs ws).2.2.2.1=N'/\(jS vs ws).2.2.2.2=vt/\tN m (jS vs ws).2.2.1
def Ke(h:rO u=O'):py E (u::r) (u::r) emp 0:=by
 have y:=Fe E<|u::r;rw[show py E (u::r) (u::r) emp 0↔py E (u::r) (u::r) emp 0 from Iff.rfl];refine⟨λe=>?_,λm d e=>?_⟩
 .rw[BK h];exact y.no e
 rw[BK h];obtain⟨a,b,c⟩:=y.yes m d e;exact⟨rfl,rfl,a,b,c⟩
def Gp(h:rO u=N')(K:Wm.nm (jw u)=O'):(jS E<|u::r).2.2.2.1=O':=by simp[jS,h,K,gQ]
def Gn(h:rO u=N')(K:Wm.nm (jw u)=N'):py E (u::r) r (jw u) 1:=by
 have hs:=Fe E r
 match r,hs with
 |[],_=>refine⟨λ_=>by simp[jS,h,K,gQ],λm d e=>by simp[gq]at e⟩
 |x::r,hs=>
  have X:jS E (u::x::r)=(jw u,1,iz E<|x::r):=by simp[jS,h,K]
  refine⟨λe=>?_,λm d e=>?_⟩
  .rw[X];exact hs.no e
  rw[X];obtain⟨a,b,c⟩:=hs.yes m d e;exact⟨rfl,rfl,a,b,c⟩
def yr(h:kZ R=O')(a:(jS E R).2.2.2.1=O'):nN E V (R::q)=A':=by rw[nN,h,a];rfl
def Sm(vs:List bI)(ws:List x'):PN:=⟨(jS vs ws).1,ws.drop (jS vs ws).2.1,(jS vs ws).2.2.1⟩
def Me{b:x'}(h:kZ R=O')(X:py E R rw b k)(b:gq E rw=z' (m,a)):nN E V (R::q)=nN a (V++[Sm E R]) q:=by obtain⟨_,_,N,d,_⟩:=X.yes m a b;rw[nN,h,N,d];rfl
def Fk(h:bZ s=N'):(sC E s).word=s:=by
 unfold sC;split
 .rfl
 split
 .rfl
 rename_i C a;unfold bZ at h;simp_all
def Ot(h:gq E rw=z' (m,a))(a:m.ops=2)(Q:m.does=⟨#[61]⟩):∃u b,rw=[u,b,m.a.word,m.sign,m.b.word]:=by
 unfold gq at h;split at h
 .split at h<;>cases h
  simp at a
 .repeat' (split at h)
  all_goals(cases h)
  all_goals(simp at a)
 .repeat' (split at h)
  all_goals(cases h)
  all_goals(simp at a)
 .rename_i u b W i Y;split at h;rotate_left
  .cases h
  split at h
  .rename_i C;cases h;simp only[aY]at C;exact⟨u,b,by rw[Fk C.1.1,Fk C.1.2]⟩
  cases h
 .rename_i u b W i Y p;split at h;rotate_left
  .cases h
  rename_i D;split at h
  .cases h;simp only at Q;rw[Q]at D;simp at D
  cases h
 cases h
def Md{bB:x'}{wa:t'}{wl wc:Nat}(X:py E R rw bB k)(d:gq E rw=z' (m,a)):Vh ⟨{m with bB:=bB},wa,wl,wc⟩ (Sm E R)/\(Sm E R).ws=rw:=by
 obtain⟨C,c,_,_,l⟩:=X.yes m a d;refine⟨⟨C.symm,?_,λb=>?_⟩,c⟩;rotate_left
 .have a:(jS E R).2.2.1.aH=1:=b;have V:m.ops=2:=by rw[l.ops,a];rfl
  have f:m.does=⟨#[61]⟩:=by rw[l.does,a];rfl
  obtain⟨u,b,e⟩:=Ot d V f;exact⟨u,b,c.trans e⟩
 have:({({m with bB:=bB}:RN)with bB:=emp}:RN)=m:=by have:=l.bB;cases m;simp at this|-;exact this.symm
 show tN {({m with bB:=bB}:RN)with bB:=emp} _;rw[this];exact l
def abJ{a:Option Nat}{D:List y'}(h:ρ W B e size v n D)(d:RF N a W c)(C:φ v=A'\/φ v≠z' N)(b:φ v=A'\/φ v≠a):ρ c B e size v n D:=by
 have L:=h.lt;refine⟨h.1,?_⟩;rcases h.2 with a|⟨g,c,Y,V,Q,p,f⟩
 .exact aP a
 subst V;refine aR ⟨g,c,Y,rfl,Q,(d.block g (L g rfl).2 ?_ ?_).trans p,f⟩
 .rcases C with C|C
  .cases C
  intro e;exact C (by rw[e];rfl)
 rcases b with b|b
 .cases b
 exact b
def lr.Z6{b:p'}{d:List PN}(h:lr w D d)(B:∀c∈D,∀a,c.wa=z' a->∀t R,Ws w a.block t R->Ws b a.block t R):lr b D d:=by refine⟨h.len,λj c p a b=>?_⟩;have d:=h.each j c p a b;obtain⟨g,t,C,b⟩:=d.ws;exact⟨d.rel,⟨g,t,C,B c (aO a) _ C _ _ b⟩,d.wl⟩
def lr.lt{b:List PN}(h:lr w D b):∀c∈D,∀a,c.wa=z' a->a.block<δ w.1:=by intro c T a a;obtain⟨j,f⟩:=EJ T;have r:=(aX.1 f).1;obtain⟨p,U⟩:=La (l:=b) (i:=j)<|I' h.len;obtain⟨g,t,C,b⟩:=(h.each j c p f U).ws;rw[C]at a;cases a;exact b.lt
def N4{D:List y'}(h:Ws W g t R)(b:ρ W B e size v n D)(l:9≠e):some g≠φ v:=by intro R;obtain⟨Q,K,a⟩:=eK b g R.symm;obtain⟨Y,T,_⟩:=h;rw[T]at a;simp at a;exact l a.2.1
def N6{L:Array y'}{f:Nat×Nat}(h:Ws W g t R)(a:W.1[N]?=z' (i' L e f))(l:9≠e):g≠N:=by rintro rfl;obtain⟨Y,T,_⟩:=h;rw[T]at a;simp at a;exact l a.2.1
def afT{p:Prop}(h:p:=by
 refine⟨Y.os.trans h.low.os,Y.tape.trans h.low.tape,Y.output.trans h.low.output,bX h.low.size Y.size,λq a=>?_⟩;have C:=h.low.size;refine(Y.block q I I ?_).trans<|h.low.block q a;intro e;have:=(h.rp.Ex q e.symm).1
 omega):p:=h
def PS.call{b:p'}{c X:Option Nat}(h:PS w s k Q E c V D W)(hP:Rp b w.1.size (δ w.1+1) Q (g' A' 0 0) a X)(Y:RF w.1.size c W b)(K:gj W c X)(R:ζ a<=3*(k+1)):PS w s (k+1) Q a X V D b:=by
 obtain⟨u,a,a,z⟩:=h.rp.box;have d:=h.rp.lt;refine⟨hP,?_,?_,?_,?_,R,I' h.UJ⟩
 .exact abJ h.row Y (dE h.row I) (by rw[<-z];exact uD h.row a aj)
 .exact h.Ah.Z6 λc T a b t R j=>j.rf h.rp (h.far c T a b) Y
 .exact λc T a b=>K.ne (h.Ah.lt c T a b)<|h.far c T a b
 exact afT
def PS.add{C:p'}{S:y'}{d:Option Nat}{c:RC}{p:PN}(h:PS w s k Q E d V D W)(b:ξ W C<|φ Q)(e:ρ C (δ w.1+1) 111 13 S (ζ<|D++[c])<|sA<|D++[c])(T:P! W c p)(f:∀a,c.wa=z' a->some a.block≠d)(X:ζ D<k):PS w s k S E d (V++[p]) (D++[c]) (κ C (O w.1.size 0) S):=by
 obtain⟨u,p,o,z⟩:=h.rp.box;have l:b' C w.1.size #[Q,u,g' A' 0 0] 107:=(b.block _ h.rp.lt<|BH (λk i=>(h.row.lt k i).1) I).trans p;have c:=cQ C w.1.size 0 S
 have d:∀g t R,Ws W g t R->Ws (κ C (O w.1.size 0) S) g t R:=λg t R j=>
  j.of_block ((aJ<|N6 j p aj).trans<|b.block g j.lt<|N4 j h.row aj)
 refine⟨⟨⟨u,?_,?_,z⟩,h.rp.nodup⟩,?_,?_,?_,?_,h.Je,G'⟩
 .rw[zS l];rfl
 .exact(o.kept b<|uD o h.row aj).kept c<|dE o I
 .exact e.kept c<|dE e I
 .exact(h.Ah.snoc T).mono d
 .intro d K a c;rcases iF.1 K with C|C
  .exact h.far d C a c
  simp at C;subst C;exact f a c
 have C:=h.low.size;refine⟨b.os.trans h.low.os,b.tape.trans h.low.tape,b.output.trans h.low.output,by have:=b.size;simp[World.setCell];omega,λq a=>?_⟩;refine(aJ G').trans ((b.block q I<|BH (λk i=>(h.row.lt k i).1) I).trans<|h.low.block q a)
def Fo(P:y')(h:P.oneCell'=N')(n:RN):∀u∈(aI P n).toList,u.oneCell'=N':=by
 intro u C;simp only[aI,cM,mem_nil_iff,dz]at C;rcases C with rfl|rfl|rfl|rfl|rfl|rfl|rfl|rfl|rfl|rfl|rfl|rfl|rfl
 .exact h
 all_goals rfl
def Cf{a:Option Nat}(P:y')(n:RN)(C:P.oneCell'=N')(h:PS w s k Q E a V D W):
  ρ ((W.alloc<|i' (aI P n) 111).alloc<|i' (aI P n) 111) (δ w.1+1) 111 13 Q (ζ D) (sA D) /\
  (∀(j:Nat)(u:y'),(aI P n).toList[j]?=z' u->χ ((W.alloc<|i' (aI P n) 111).alloc<|i' (aI P n) 111) (((O (δ W.1+1) 0):Addr).add j)=z' u) /\
  (∀u∈(aI P n).toList,u.oneCell'=N') /\
  δ w.1+1<=δ ((W.alloc<|i' (aI P n) 111).alloc<|i' (aI P n) 111).1:=
 ⟨(h.row.alloc _).alloc _,vK W _ _ _,Fo P C n,by have:=h.rp.lt;simp;omega⟩
def PS.kept{a f:Obj}(h:PS w s k Q E b V D W)(b:ξ ((W.alloc a).alloc f) c<|φ Q):∃u,c.1[δ w.1]?=z' (i' #[Q,u,g' A' 0 0] 107 (0,0)):=by obtain⟨u,c,_,_⟩:=h.rp.box;exact⟨u,((((j6 W a _).trans<|j6 _ f _).trans b).block _ h.rp.lt<|BH (λk a=>(h.row.lt k a).1) I).trans c⟩
def E7{P:Program}{ops:Array Oper}{o:Oper}{a:Act}{K:Act->p'->Prop}{Q:Exit->Act->p'->Prop}{E:Prop}
  (q:o.guard=A') (s x:Operand) (t:TypeId) (p:o.op=Op.call {callee:=Callee.builtin Builtin.append,args:=#[s,x],argTypes:=#[t,t]})
  (k:Nat) (e:TypeId) (i:TypeInfo) (z:y') (size bytes:Nat) (C:P.underlying t=z' (.slice e)) (U:P.info? e=z' i) (N:i.zero=z' z) (W:i.size=size) (l:i.bytes=bytes) (h6:z.cells.size=size) (V:0<size)
  (v:y') (n:Nat) (f:List y') (y:a.eval s=v) (D:ρ w k e size v n f)
  (L:Addr) (m c:Nat) (b:List y') (F:a.eval x=g' (z' L) m c) (hn:ζ b=m*size) (T:∀j u,b[j]?=z' u->χ w (L.add j)=z' u) (R:∀u∈b,u.oneCell'=N')
  (u:n+m<=maxLen) (Y:(n+m)*bytes<=140737488355328) (hB:k<=δ w.1)
  (X:∀g j,ρ j k e size g (n+m) (f++b)->ξ w j (φ v)->K (a.put o.dst g) j):
  if Region.wanted o (yielded ops a.tmps)=N' then Oper.wp P o a w K Q else E:=by
 have B:Region.wanted o (yielded ops a.tmps)=N':=by simp[Region.wanted,q]
 rw[aD B];obtain⟨g,j,r,r1,q,_⟩:=run_append_own_at (P:=P) (w:=w) k t o.type e i z size bytes C U N W l h6 V v n f D L m c b hn T R u Y hB;obtain⟨U,T,rfl⟩:=aV D;simp[Oper.wp,execOp,p,resolve,invoke,builtin,y,F,r,Result.andThen];exact X g j r1 q
def Fh(h:ρ w B 111 13 v (ζ D)<|sA D)(a:0<ζ D):∃g a,v=g' (z'<|O g 0) (ζ D) a/\B<=g/\mW w g a D:=by
 rcases h.2 with⟨_,e⟩|⟨g,a,Y,R,b,c,T,_,y,U⟩
 .omega
 exact⟨g,a,R,b,Y,c,y,U,T⟩
def RF.MA{a:p'}(h:RF N A' W a):RF N b W a:=⟨h.os,h.tape,h.output,h.size,λk a C _=>h.block k a C ak⟩
def Sr{a:p'}{u x:Nat}{z:t'}{y:y'}{d:List y'}(h:PS w s k (gX g (ζ D) u) E b V D W)(b:δ w.1+1<=g)(k:0<ζ D)(o:Qk D=N')(C:N0 W w.1.size g u (g' z (ζ E) x) D (ζ D) y d a)(Y:RF w.1.size A' W a)(i:Bl w a):Vi w (Pr.ok V E) (n'<|o' #[m'<|cV w.1.size,G 0]) a:=by
 have hrel:=h.Ah.rel;have L:=h.Ah.len;have b:=(Gl hrel k).trans o;obtain⟨S,B⟩:∃S,kC 0 [] (V.map PN.bB)=z' S:=by
  unfold dX at b;rw[w8]at b;cases e:kC 0 [] (V.map PN.bB)with
  |none=>rw[e]at b;simp at b
  |some S=>exact⟨S,rfl⟩
 have b:=h.low.size;refine⟨i,δ w.1,g,u,z,x,y,D,d,S,rfl,aK,?_,I,C.row,?_,B,c8 C.next b,C.len.trans L,?_⟩
 .rw[C.box,L]
 .exact h.Ah.Z6 λc T a d t R j=>j.rf h.rp (h.far c T a d) Y.MA
 intro j a p f U;have r:=(aX.1 U).1;have T:=bj (l:=D) (i:=j) I;have l:=C.edges j a _ f T;rw[Wo hrel k o B j _ p T U]at l;exact c8 l b
def Ms(y:s.size<=3000)(h:nN [] [] (BJ s)=z' (V,E))(U:ia V E=O'):iD s=Pr.prg:=by rw[iD,aA I,h];simp only[U];rfl
def WH(y:s.size<=3000)(h:nN [] [] (BJ s)=z' (V,E))(U:ia V E=N'):iD s=Pr.ok V E:=by rw[iD,aA I,h];simp only[U];rfl
end
section
variable {fr:Nat}
def P6:u'->Nat
 |[]=>0
 |b::r=>b.toNat % 128+128*P6 r
def Ho(n:Nat):P6 (fJ n)=n:=by
 by_cases h:n<128
 .rw[en h];simp only[P6,uc];omega
 rw[lQ h];simp only[P6,uc];rw[Ho<|n / 128];omega
def D!(n:Nat):0<ζ (fJ n):=by
 by_cases h:n<128
 .rw[en h];simp
 rw[lQ h];simp
def UI(n k:Nat)(a:k<ζ (fJ n)):128<=((fJ n).getD k 0).toNat↔k+1<ζ (fJ n):=by
 by_cases h:n<128
 .rw[en h]at a|-;simp at a;subst a;simp[uc];omega
 rw[lQ h]at a|-;have:=D!<|n / 128;cases k with
 |zero=>simp only[getD_cons_zero,bU,uc];omega
 |succ k=>simp only[getD_cons_succ,bU]at a|-;rw[UI (n / 128) k I];omega
def DRd(w:p')(rb:Nat)(s:x')(at':Nat):Prop:=w.1[rb]?=z' (i' #[k' s,G at',h' O'] 124 (0,0))
def H!(w:p')(rb:Nat)(s:x')(l:u'):Prop:=∃a,DRd w rb s a/\a<=s.size/\s.1.1.drop a=l
def AJ(w w':p')(rb:Nat)(s:x')(l:u'):Prop:=H! w' rb s l/\ξ w w' (z' rb)
def H!.lt{w:p'}{l:u'}(h:H! w a s l):a<δ w.1:=by obtain⟨a,h,_⟩:=h;exact blt h
def o?{a b:p'}{q:Option Nat}(h:ξ a b q)(n:Nat):ξ a (b.drewN n) q:=⟨h.os,h.tape,h.output,h.size,h.block⟩
def tm(w:p')(q:Option Nat):ξ w w q:=⟨rfl,rfl,rfl,aK,λ_ _ _=>rfl⟩
def byte_at{l r:u'}(h:s.1.1.drop fr=l++r)(a:Nat)(C:fr<=a)(c:a<fr+ζ l):∃q:a<s.size,s[a]=l.getD (a-fr) 0:=by
 have X:ζ s.1.1=s.size:=rfl;have N:=cZ length h;rw[xA,bg]at N;refine⟨I,?_⟩;have e:(s.1.1.drop fr)[a-fr]?=l[a-fr]?:=by rw[h,gI I]
 rw[getElem?_drop,show fr+(a-fr)=a by omega,bj I,bj I]at e;rw[bN,bj I];exact cJ e
def uX{l r:u'}(h:s.1.1.drop fr=l++r)(Y:fr<=s.size):fr+ζ l<=s.size/\s.1.1.drop (fr+ζ l)=r:=by have X:ζ s.1.1=s.size:=rfl;have N:=cZ length h;rw[xA,bg]at N;refine⟨I,?_⟩;rw[<-Cy,h,drop_left]
def Nw{W:p'}{c:Nat}(h:DRd W c s a):(intOf ((χ W<|O c 1).getD<|G 0)).toNat=a:=by rw[(A h).1 1];simp[intOf]
def rN(k n:Nat)(s:x')(r:u')(w:p')(h:H! w k s<|fJ n++r)(d:n<18446744073709551616)(y:s.size<=60000):
  Cl 108 (cB k) w λe c=>e=n' (Z n)/\AJ w c k s r:=by
 obtain⟨l,h,Y,c⟩:=h;obtain⟨z,f⟩:∃z,ζ (fJ n)=z+1:=⟨ζ (fJ n)-1,I'<|D! n⟩;have i:=fP d;have d:=uX c Y;have U:J ((∀a,l<=a->a<=l+z->∃q:a<s.size,s[a]=(fJ n).getD (a-l) 0/\(128<=s[a].toNat↔a<l+z))/\ζ (fJ n)=z+1/\s.1.1.drop l=fJ n++r/\s.1.1.drop (l+z+1)=r):=by refine⟨λa C j=>?_,f,c,by rw[<-d.2,f];rfl⟩;obtain⟨q,e⟩:=byte_at c a C I;refine⟨q,e,?_⟩;rw[e,UI n (a-l) I];omega
 have j:=d.1;rw[f]at j i;clear c d f;have d:=hid h;have L:=blt h;have E:=A h;clear h;go_enter func108,ntmps108;go_wp2_with fail;clear E;go_loopw[] (λwr=>∃a:Nat,l<=a/\a<=l+z/\J (DRd wr k s a/\ξ w wr (z' k))) (λwr=>l+z-(intOf ((χ wr<|O k 1).getD<|G 0)).toNat)
 case atStart=>exact⟨l,aK,I,d.o,tm _ _⟩
 obtain⟨a,S,c,B⟩:=hrel;have E:=A B.a;obtain⟨q,e,d⟩:=U.a a S c;clear e;have i:(a:Int)<(s.size:Int):=I;have j:=UInt8.toNat_lt s[a];by_cases c:a<l+z
 .have X:(128:Int)<=(s[a].toNat:Int):=by have:=d.2 c;omega
  clear d;go_wp2_with fail;go_quiet (fail);go_wp2_with fail;have Q:DRd (κ (wr.drewN nq) (O k 1)<|G ((a:Int)+1)) k s (a+1):=H (show(wr.drewN nq).1[k]?=_ from B.a) _;refine⟨⟨a+1,I,I,Q,(o? B.A _).trans<|cQ _ _ _ _⟩,?_⟩;rw[Nw Q,Nw B.a];omega
 have X:¬(128:Int)<=(s[a].toNat:Int):=by have:=mt d.1 c;omega
 clear d;go_wp2_with fail;go_quiet (fail);go_wp2_with fail;have c:decide ((s.size:Int)<=(a:Int))=O':=dp I;have c:¬s.size<=a:=I;have c:¬(9:Int)<IntKind.i64.wrap ((a:Int)-(l:Int)):=by simp[IntKind.wrap,IntKind.bits,IntKind.signed];omega
 go_quiet (fail);go_wp2_with fail;clear E;go_loopw[4,5] (λd y c=>∃(x:Int)(v:Nat),(l:Int)-1<=x/\x<=(a:Int)/\y=G x/\d=Z v/\J (v=P6 ((fJ n).drop (x+1-(l:Int)).toNat) % 18446744073709551616)/\J (DRd c k s a/\ξ w c (z' k))) (λ_ y _=>(intOf y+1-(l:Int)).toNat)
 case atStart=>
  refine⟨a,0,I,I,rfl,rfl,?_,B.a,o? B.A _⟩;show 0=_;rw[drop_of_length_le<|by rw[U.b];omega];rfl
 obtain⟨x,v,L,c,rfl,rfl,K,f⟩:=hrel;have E:=A f.a;have D:v<18446744073709551616:=by rw[K.o];exact AU _ I
 by_cases c:(l:Int)<=x
 .obtain⟨q,rfl⟩:∃q:Nat,x=(q:Int):=⟨x.toNat,I⟩;obtain⟨X,e,_⟩:=U.a q I I;have p:=hid e;clear e;have j:(q:Int)<(s.size:Int):=I;have Y:=UInt8.toNat_lt s[q];go_wp2_with fail;refine⟨⟨(q:Int)-1,(128*v+s[q].toNat % 128) % 18446744073709551616,I,I,rfl,?_,?_,f.a,f.A⟩,by simp[intOf];omega⟩
  .congr 1;simp[IntKind.wrap,IntKind.bits,IntKind.signed]
  show _=_;have C:=U.b;have c:=K.o;rw[show((q:Int)+1-(l:Int)).toNat=q-l+1 by omega]at c;rw[show((q:Int)-1+1-(l:Int)).toNat=q-l by omega,mX I,P6,p.o,bN,bj I,xH];omega
 go_wp2_with fail;obtain rfl:x=(l:Int)-1:=I;obtain rfl:v=n:=by have:=K.o;rw[show((l:Int)-1+1-(l:Int)).toNat=0 by omega,xC,Ho]at this;omega
 clear E;obtain⟨V,g⟩:=Ea<|κ wr (O k 1)<|G ((a:Int)+1);rw[<-g];have Q:DRd V k s (a+1):=by rw[g];exact H f.a _
 have T:ξ w V (z' k):=by rw[g];exact f.A.trans<|cQ _ _ _ _
 refine(JO v v aK D V).mono ?_;rintro e F ⟨y,rfl,o,R⟩;have P:=(R.block k<|blt Q).trans Q;have h:ξ w F (z' k):=T.trans ⟨R.os,R.tape,R.output,R.size,λk c _=>R.block k c⟩;have N:∃t u,y=g' (z' t) (ζ<|fJ v) u/\∀q,(convert 157 9<|g' (z' t) (ζ<|fJ v) u).run Tryz.prog (F.drewN q)=.ok (k' ⟨θ<|fJ v⟩) (F.drewN q):=by obtain⟨t,u,c,_⟩:=u? o<|KZ v;refine⟨t,u,c,λq=>?_⟩;obtain⟨d,d,W,k6⟩:=u? (own_drewN o q)<|KZ v;rw[c]at W;cases W;exact k6
 obtain⟨t,u,rfl,kc⟩:=N;have c:=kc 0;have c:(l:Int)<=((a+1:Nat):Int):=I;have W:((a+1:Nat):Int)<=(s.size:Int):=I;have D:(l:Int)<=a+1:=I;have c:(a:Int)+1<=(s.size:Int):=I;have u:=hid<|Aa P h;have E:=A P;clear g Q T o R P h;go_wp2_with fail;go_quiet (fail);go_wp2_with fail
 all_goals
  rename_i c;rw[Lib.extract_toList,U.c,show a+1-l=ζ (fJ v) by rw[U.b];omega,take_left]at c
 .simp at c
 go_ret;exact⟨rfl,⟨a+1,u.a,I,by rw[show a+1=l+z+1 by omega];exact U.C⟩,o? u.A _⟩
def o!(c:Nat)(x:Int)(s:x')(r:u')(w:p')(h:H! w c s<|yh x++r)(F:ga x)(y:s.size<=60000):
  Cl 176 (cB c) w λe f=>e=n' (G x)/\AJ w f c s r:=by
 obtain⟨n,K⟩:=Ea<|N3 x;obtain⟨C,d⟩:=F;have a:n<18446744073709551616/\(if n % 2=0 then x=(n:Int) / 2 else x=-((n:Int) / 2)-1):=by rw[K];unfold N3;split<;>split<;>omega
 have Y:=hid<|rN c n s r w (by rw[K];exact h) a.1 y;have c:=hid a.2;obtain⟨a,-⟩:=a;clear h K C d;go_enter func176,ntmps176;go_wp2_with fail;refine bP Y.o ?_;rintro e t ⟨rfl,(f:J _)⟩;have a:=c.o;by_cases d:n % 2=0
 .rw[aD d]at a;have e:((n:Int) % 2==0)=N':=by rw[dP];omega
  have c:=hid a;clear a;go_wp2_with fail;go_ret;exact⟨by rw[c.o];rfl,f.o⟩
 rw[aA d]at a;have e:((n:Int) % 2==0)=O':=by rw[dB];omega
 have c:=hid a;clear a;go_wp2_with fail;go_ret;exact⟨by rw[c.o];rfl,f.o⟩
def gD(a n k:Nat)(s:x')(r:u')(w:p')(h:H! w a s<|fJ n++r)(K:n<=k)(c:k<=100000)(y:s.size<=60000):
  Cl 64 (mF a k) w λe c=>e=n' (G n)/\AJ w c a s r:=by
 have Y:=hid<|rN a n s r w h I y;clear h;go_enter func64,ntmps64;go_wp2_with fail;refine bP Y.o ?_;rintro e t ⟨rfl,Q⟩;have a:=hid Q;have g:¬((k:Int)<n):=I;clear Q;go_wp2_with fail;go_ret;exact⟨rfl,a.o⟩
def P0(c:Nat)(s:x')(b:UInt8)(r:u')(w:p')(h:H! w c s<|b::r)(y:s.size<=60000):
  Cl 177 (cB c) w λe d=>e=n' (G b.toNat)/\AJ w d c s r:=by
 obtain⟨a,h,Y,f⟩:=h;obtain⟨L,e⟩:=byte_at (l:=[b]) f a aK ak;have d:=uX (l:=[b]) f Y;rw[oh]at e;have j:=hid<|Aa e d;have k:=hid h;have E:=A h;clear h e d f;have i:¬(s.size:Int)<=(a:Int):=I;have r:(a:Int)<(s.size:Int):=I;have d:=UInt8.toNat_lt s[a];go_enter func177,ntmps177;go_wp2_with fail;go_quiet (fail);go_wp2_with fail;obtain⟨V,g⟩:=Ea<|κ (w.drewN nq) (O c 1)<|G ((a:Int)+1);rw[<-g];have Q:b' V c #[k' s,G ((a:Int)+1),h' O'] 124:=by rw[g];exact H (show(w.drewN nq).1[c]?=_ from k.o) _
 have d:ξ w V (z' c):=by rw[g];exact(o? (tm w _) _).trans<|cQ _ _ _ _
 have c:=hid<|Aa Q d;clear E;have E:=A Q;clear Q d g;go_quiet (fail);go_wp2_with fail;go_ret;exact⟨by rw[j.a];rfl,⟨a+1,c.a,j.b,j.B⟩,o? c.A _⟩
end
section
variable {b o D r:Nat}{j p g:Int}{v:Vl}{T:t'}
def H!.far{l:u'}(h:H! w a s l)(c:a≠b)(v:y'):H! (κ w (O b o) v) a s l:=by obtain⟨a,h,k⟩:=h;exact⟨a,(aJ c).trans h,k⟩
def AJ.far{l:u'}(h:AJ w W a s l)(c:a<δ w.1)(c:δ w.1<=b)(v:y'):AJ w (κ W (O b o) v) a s l:=⟨h.1.far I v,PH h.2 c v⟩
def AJ.alloc{l:u'}(h:AJ w W a s l)(o:Obj):AJ w (W.alloc o) a s l:=by obtain⟨⟨a,C,k⟩,c⟩:=h;exact⟨⟨a,(bR<|blt C).trans C,k⟩,TV c o⟩
def aar{n:Nat}(X:ga j)(h:j+(n:Int)<=9223372036854775807):GY j n=j+(n:Int):=by obtain⟨C,a⟩:=X;simp only[GY,wrap64,IntKind.wrap,IntKind.bits,IntKind.signed];simp;omega
def Wf(X:ga j):IntKind.u64.wrap (9223372036854775807-IntKind.u64.wrap j)=9223372036854775807-j:=by obtain⟨C,a⟩:=X;simp only[IntKind.wrap,IntKind.bits,IntKind.signed];simp;omega
def A4{c:Int}(h:gG p g c v=N')(D:0<=c)(S:Le v)(a:p=6\/g=1):
    (p=6/\∃(j:Int)(n:Nat),v=⟨3,j,GY j n,O',0,0⟩/\fD p g v=yh j++fJ n/\ga j/\j+(n:Int)<=9223372036854775807)\/
    (¬p=6/\g=1/\((∃j,v=⟨1,j,0,O',0,0⟩/\ga j/\fD p g v=1::yh j)\/(v=⟨2,0,0,O',0,0⟩/\fD p g v=[2,0])\/
      ∃(f:Int)(k:Nat),v=⟨2,0,0,N',f,(k:Int)⟩/\ga f/\(k<=100000/\c<(k:Int))/\fD p g v=2::1::(yh f++fJ k))):=by
  obtain⟨u,j,l,e,f,rk⟩:=v;have C:=S.lo;have c:=S.hi;have N:=S.first;simp only[ga]at C c;by_cases U:p=6
  · left
    simp[gG,U]at h;obtain⟨⟨⟨⟨rfl,rfl⟩,rfl⟩,rfl⟩,R⟩:=h;refine⟨U,j,(l-j).toNat,?_,by simp[fD,U],C,I⟩;rw[aar C I];congr 1;omega
  right;have a:g=1:=I;refine⟨U,a,?_⟩;cases e with
  |true=>simp[gG,U,nw]at h;obtain⟨⟨⟨⟨⟨_,d⟩,q⟩,rfl⟩,rfl⟩,rfl⟩:=h;obtain⟨k,rfl⟩:∃k:Nat,rk=k:=⟨rk.toNat,I⟩;exact aR<|aR ⟨f,k,rfl,N,⟨I,d⟩,by simp[fD,U,a,dS]⟩
  |false=>
    simp[gG,U]at h;rcases h with⟨⟨⟨rfl,rfl⟩,rfl⟩,rfl⟩|⟨⟨⟨⟨rfl,rfl⟩,rfl⟩,rfl⟩,rfl⟩
    · exact aP ⟨j,rfl,C,by simp[fD,U]⟩
    exact aR<|aP ⟨rfl,by simp[fD,U,a]⟩
def VBx(W w:p')(p g:Int)(na:t')(nl nc:Nat)(v:Vl):Prop:=W.1[δ w.1]?=z' (i' #[G p,G g,g' na nl nc] 51 (0,0))/\W.1[δ w.1+1]?=z' (i' nL 73 (0,0))/\W.1[δ w.1+2]?=z' (i' (nJ v.aH v.lo v.hi v.bY v.first v.rank) 73 (0,0))
def Qt(W w:p')(p g:Int)(na:t')(nl nc rb:Nat)(s:x')(v:Vl)(l:u'):Prop:=VBx W w p g na nl nc v/\AJ w W rb s l/\rb<δ w.1
def Qt.call{d:p'}{l c:u'}(h:Qt W w p g T D r a s v l)(Q:AJ W d a s c):Qt d w p g T D r a s v c:=by obtain⟨C,a,N⟩:=h;exact⟨⟨j4 C.1 Q.2 I,j4 C.2.1 Q.2 I,j4 C.2.2 Q.2 I⟩,⟨Q.1,a.2.trans Q.2⟩,N⟩
def Qt.set{F:p'->Prop}{c:Nat}{l:u'}(h:Qt W w p g T D r c s v l){x:y'}(a:Vl)(d:(nJ v.aH v.lo v.hi v.bY v.first v.rank).setIfInBounds o x=(nJ a.aH a.lo a.hi a.bY a.first a.rank))(k:∀V,J (Qt V w p g T D r c s a l)->F V):F (κ W (O (δ w.1+2) o) x):=by obtain⟨h,a,N⟩:=h;refine k _ ⟨⟨(aJ G').trans h.1,(aJ G').trans h.2.1,?_⟩,a.far N I x,N⟩;rw[H h.2.2,d]
def Qt.fin{l:u'}(h:Qt W w p g T D r a s v l)(U N d c C t:y'):AJ w (κ (κ (κ (κ (κ (κ W (O (δ w.1+1) 0) U) (O (δ w.1+1) 1) N) (O (δ w.1+1) 2) d) (O (δ w.1+1) 3) c) (O (δ w.1+1) 4) C) (O (δ w.1+1) 5) t) a s l:=by have N:=h.2.2;have:=ud w.1.size;exact(((((h.2.1.far N this _).far N this _).far N this _).far N this _).far N this _).far N this _
def Up(p g t:Int)(na:t')(D nc:Nat)(W:Nat)(s:x')(v:Vl)(r:u')(w:p')(h:H! w W s<|fD p g v++r)(R:gG p g t v=N')(x:0<=t)(hi:Le v)(f:p=6\/g=1)(hs:s.size<=60000):
  Cl 109 #[m'<|z'<|O W 0,j' #[G p,G g,g' na D nc]] w λe t=>e=n' (Vs v)/\AJ w t W s r:=by
 have L:=h.lt;go_enter func109,ntmps109;go_upto_region 2 with(fail)
 obtain⟨V0,X⟩:=Ea ((((w.alloc<|i' #[G p,G g,g' na D nc] 51).alloc<|i' nL 73).alloc<|i' nL 73));rw[<-X];have q:J (Qt V0 w p g na D nc W s ⟨0,0,0,O',0,0⟩<|fD p g v++r):=by
  rw[X];refine⟨⟨?_,?_,?_⟩,((AJ.alloc ⟨h,tm w _⟩ _).alloc _).alloc _,L⟩
  .rw[bR G',bR ak,cF]
  .rw[bR ak];exact(bE w _ _).2
  have:=cF ((w.alloc<|i' #[G p,G g,g' na D nc] 51).alloc<|i' nL 73)<|i' nL 73;simpa using this
 clear X h;have E:=A q.a.1;have N:=A q.a.2.2;rcases A4 R x hi f with⟨U,j,n,rfl,e,X,hn⟩|⟨U,f,T⟩
 .rw[e,fK]at q;clear R hi f e;have L:(p==6)=N':=by rw[dP];exact U
  clear U;go_wp2_with fail;refine q.o.set (F:=λV=>Calls _ _ _ V _) ⟨3,0,0,O',0,0⟩ rfl λV1 c=>?_;clear E N;refine(o! W j s _ V1 c.b.1 X hs).mono ?_;rintro e t ⟨rfl,C⟩;have u:=hid<|c.o.call C;clear C;have N:=A u.a.2.2;go_wp2_with fail;refine u.o.set (F:=λV=>Calls _ _ _ V _) ⟨3,j,0,O',0,0⟩ rfl λV2 z=>?_;clear N;have x:=X.1;refine(rN W n s _ V2 z.b.1 I hs).mono ?_;rintro e W2 ⟨rfl,C⟩;have B:=hid<|z.o.call C;clear C;have N:=A B.a.2.2;have E:=A B.a.2.1;have F:¬(IntKind.u64.wrap (9223372036854775807-IntKind.u64.wrap j)<(n:Int)):=by rw[Wf X];omega
  clear X x hn;go_wp2_with fail;refine aE (v:=Vs ⟨3,j,GY j n,O',0,0⟩) (by simp[results109,go_sem,E.1,Vs,GY]) rfl ⟨rfl,?_⟩;exact B.o.set (F:=λV=>Qt V w p g na D nc W s ⟨3,j,GY j n,O',0,0⟩ r) _ rfl (λ_ h=>h) |>.fin _ _ _ _ _ _
 obtain⟨b,l,o⟩:∃b l,fD p g v++r=b::l:=by rcases T with⟨_,-,-,e⟩|⟨-,e⟩|⟨_,_,-,-,-,e⟩<;>rw[e]<;>exact⟨_,_,rfl⟩
 rw[o]at q;have Y:=hid<|Aa T o;have L:(p==6)=O':=by rw[dB];exact U
 have x:(g==1)=N':=by rw[dP];exact f
 clear T o U f R;go_wp2_with fail;refine(P0 W s b l V0 q.b.1 hs).mono ?_;rintro e t ⟨rfl,C⟩;have c:=hid<|q.o.call C;clear C E N;have E:=A c.a.1;have N:=A c.a.2.2;have r1:=A c.a.2.1;obtain⟨T,o⟩:=Y.o;clear Y;rcases T with⟨j,rfl,X,e⟩|T
 .rw[e]at o;cases o;clear e hi;rw[show(((1:UInt8).toNat:Nat):Int)=1 from rfl];go_wp2_with fail;refine c.o.set (F:=λV=>Calls _ _ _ V _) ⟨1,0,0,O',0,0⟩ rfl λV1 u=>?_;clear E N r1;refine(o! W j s _ V1 u.b.1 X hs).mono ?_;rintro e W2 ⟨rfl,C⟩;have z:=hid<|u.o.call C;clear C;have N:=A z.a.2.2;have E:=A z.a.2.1;go_wp2_with fail;refine aE (v:=Vs ⟨1,j,0,O',0,0⟩) (by simp[results109,go_sem,E.1,Vs]) rfl ⟨rfl,?_⟩;exact z.o.set (F:=λV=>Qt V w p g na D nc W s ⟨1,j,0,O',0,0⟩ r) _ rfl (λ_ h=>h) |>.fin _ _ _ _ _ _
 obtain⟨y,q,U,hq,hy,T⟩:∃(y:Nat)(q:u'),b=2/\l=fJ y++q/\y<=1/\((y=0/\v=⟨2,0,0,O',0,0⟩/\q=r)\/(y=1/\∃(f:Int)(k:Nat),v=⟨2,0,0,N',f,(k:Int)⟩/\ga f/\k<=100000/\q=yh f++(fJ k++r))):=by
  rcases T with⟨R,e⟩|⟨f,k,R,e2,e3,e⟩<;>rw[e]at o<;>cases o
  .exact⟨0,r,rfl,by rw[en I];rfl,I,aP ⟨rfl,R,rfl⟩⟩
  exact⟨1,yh f++(fJ k++r),rfl,by rw[en<|show 1<128 by omega,<-fK (yh f)];rfl,I,aR ⟨rfl,f,k,R,e2,e3.1,rfl⟩⟩
 subst U hq;have Y:=hid T;clear o T hi;rw[show(((2:UInt8).toNat:Nat):Int)=2 from rfl];go_wp2_with fail;refine c.o.set (F:=λV=>Calls _ _ _ V _) ⟨2,0,0,O',0,0⟩ rfl λV1 u=>?_;clear E N r1;refine(gD W y 1 s _ V1 u.b.1 hy I hs).mono ?_;rintro e W2 ⟨rfl,C⟩;have z:=hid<|u.o.call C;clear C;have N:=A z.a.2.2;have E:=A z.a.2.1;rcases Y.o with⟨rfl,rfl,rfl⟩|⟨rfl,f,k,rfl,o,U,rfl⟩
 .go_wp2_with fail;refine aE (v:=Vs ⟨2,0,0,O',0,0⟩) (by simp[results109,go_sem,E.1,Vs]) rfl ⟨rfl,?_⟩;exact z.o.fin _ _ _ _ _ _
 clear Y;go_wp2_with fail;refine z.o.set (F:=λV=>Calls _ _ _ V _) ⟨2,0,0,N',0,0⟩ rfl λV2 B=>?_;clear E N;refine(o! W f s _ V2 B.b.1 o hs).mono ?_;rintro e o ⟨rfl,C⟩;have c:=hid<|B.o.call C;clear C;have N:=A c.a.2.2;go_wp2_with fail;refine c.o.set (F:=λV=>Calls _ _ _ V _) ⟨2,0,0,N',f,0⟩ rfl λc j=>?_;clear N;refine(gD W k 100000 s _ c j.b.1 U I hs).mono ?_;rintro e n ⟨rfl,C⟩;have c:=hid<|j.o.call C;clear C;have N:=A c.a.2.2;have E:=A c.a.2.1;go_wp2_with fail;refine aE (v:=Vs ⟨2,0,0,N',f,(k:Int)⟩) (by simp[results109,go_sem,E.1,Vs]) rfl ⟨rfl,?_⟩;exact c.o.set (F:=λV=>Qt V w p g na D nc W s ⟨2,0,0,N',f,(k:Int)⟩ r) _ rfl (λ_ h=>h) |>.fin _ _ _ _ _ _
end
end Go.Proofs.YtmipbiligijcpaaGreatDoor
