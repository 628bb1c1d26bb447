import Derived.Test.YtmipbiligijcpaaGreatDoorA12
import Derived.Test.YtmipbiligijcpaaGreatDoorA13
namespace Go.Proofs.YtmipbiligijcpaaGreatDoor
set_option linter.all false
set_option maxHeartbeats 0
set_option maxRecDepth 99999
open Go.RowKit Go.Shelf Go.Proofs Go.Maps Tryz List open List renaming length->ζ,toArray->θ open _root_.Array renaming size->δ open World renaming setCell->κ,ownsRow->ρ,cell?->χ,setCells->ψ open Value renaming ownBlock->φ open Value renaming slice->h',bool->i',agg->k',string->m',pointer->n',tuple->p' open Obj renaming cells->j' open Ending renaming returned->o' open Option renaming some->C',none->D' open Bool renaming true->P',false->Q'
variable {s:z'}{w:t'}
def j7(nv:Nat)(e:PE):Nd:=⟨[],[],e.r,0,kr e nv⟩
def R?{p:Prop}(h:p:=by
 rw[h.2.2,cy,aQ<|by rw[h.2.1];exact S]
 exact(a E rfl).2 _<|e9 _):p:=h
def abW{Q:Nat}{e:PE}{v:EV}(h:PR Q e v)(a:dZ 6 Q v):oE (j7 Q e) (-1)=v:=by
 unfold oE;cases v with
 |none=>rw[aB (aI<|by rw[show e=PE.zero from h];rfl)]
 |some E=>
  rw[ax<|by simp[j7,h.1]];congr 1;show(kr e Q).map (iD<|-1)=E;rw[kr,h.1,aB rfl,Wd,fF];refine Eq.trans (eJ λi S=>?_)<|DX h;have S:=cq.1 S;show iD (-1) (ò<|e.at i)=e.at i;have:okV 6 (e.at i):=by exact R?
  have a:=(Kw this).1;rw[mO];show(⟨Q',(e.at i).lo,(e.at i).hi⟩:VV)=_;rw[<-a]
def acx{P:Pm}{y:List PE}(s:cF P)(T:mr P)(t:ζ P.nx=ζ P.nd)(X:ζ y=ζ P.nd)(j:KB.nL P<|bK y)(q:wU P y):ZF P 6 ⟨6,2,y.map<|j7 P.nv⟩:=by
 have d:=s.most;have d:=s.nv;obtain⟨C,V⟩:∃C:Nat->EV,∀m,PR P.nv (bK y m) (C m)/\dZ 6 P.nv (C m):=⟨λm=>Classical.choose<|j m,λm=>Bn<|j m⟩
 have b:∀e∈y,∃v,PR P.nv e v/\dZ 6 P.nv v:=λe l=>by
  obtain⟨i,S⟩:=dN.1 l;have:bK y i=e:=by rw[bK,cy,S];rfl
  rw[<-this];exact j i
 have c:∀e∈y,ζ (kr e P.nv)<=8/\(e.r=P'->ζ (kr e P.nv)=P.nv)/\∀v∈kr e P.nv,v.aO=3/\v.bO=Q'/\v.first=0/\v.rank=0/\v.lo<=v.hi/\dK v.lo/\dK v.hi:=λe l=>by
  obtain⟨v,h,a⟩:=b e l;unfold kr;cases g:e.r with
  |false=>simp
  |true=>
   simp only[b8,xe];refine⟨d,λ_=>trivial,λu B=>?_⟩;obtain⟨i,S,rfl⟩:=bp.1 B;have S:=cq.1 S;cases v with
   |none=>rw[show e=PE.zero from h]at g;cases g
   |some E=>
    have:okV 6 (e.at i):=by exact R?
    obtain⟨_,k,f,w⟩:=Kw this;exact⟨rfl,rfl,rfl,rfl,k,f,w⟩
 refine⟨?_,?_,?_⟩
 .simp only[ku,Á,aS,bw,bZ,bA];refine⟨⟨ak,by rw[X];omega⟩,λx F=>?_⟩;obtain⟨e,l,rfl⟩:=bp.1 F;obtain⟨h,a,N⟩:=c e l;rw[cB,ax aj];cases g:e.r with
  |false=>simp[j7,g,ky,kr]
  |true=>simp only[j7,g,b8,eM,rk,aS,bw,bZ,isEmpty_nil,oj,eS];refine⟨⟨⟨h,I,I⟩,aH trivial⟩,λv R=>?_⟩;obtain⟨b,k,f,w,o,_⟩:=N v R;simp[eE,b,k,f,w,o]
 .have z:∀x∈y.map (j7 P.nv),ζ (dv 6 2 x)<=300:=λx F=>by
   obtain⟨e,l,rfl⟩:=bp.1 F;obtain⟨h,a,N⟩:=c e l;rw[dv,ax aj];split;rotate_left
   .simp
   simp only[n!,bR,aW];rw[ax aj];have b:ζ (iI<|ζ (j7 P.nv e).aG)<=1:=gX (k:=0) (by show(kr e P.nv).length<_;omega)
   have b:=ke (f:=eY 6 2) (b:=20) (j7 P.nv e).aG λv R=>by
    obtain⟨_,_,_,_,o,K,k⟩:=N v R;have b:=yt K
    have o:ζ (iI (v.hi-v.lo).toNat)<=10:=gX (k:=9) (by
     obtain⟨R,b⟩:=K;obtain⟨i,b⟩:=k
     omega)
    rw[eY,aB rfl];simp;omega
   have W:ζ (j7 P.nv e).aG<=8:=h;simp at *;omega
  have:=ke (f:=dv 6 2) (b:=300) (y.map<|j7 P.nv) z;simp only[iF,oH,aW,bR,de,bA]at this|-;have a:ζ (iI<|ζ y)<=1:=gX (k:=0) (by rw[X];omega);rw[X]at this;omega
 have p:nZ P ⟨6,2,y.map<|j7 P.nv⟩=P':=by
  simp only[nZ,aS,bw,bZ,eS,jY,bA];refine⟨X,λx F=>?_⟩;obtain⟨e,l,rfl⟩:=bp.1 F;refine⟨λf Y=>(by cases Y),?_⟩;cases g:e.r with
  |false=>exact aI g
  |true=>exact aH<|(c e l).2.1 g
 have r:∀n,gq ⟨6,2,y.map<|j7 P.nv⟩ (-1) n=C n:=λn=>by
  have:(⟨6,2,y.map<|j7 P.nv⟩:Ct).at n=j7 P.nv (bK y n):=by
   rw[Ct.at,bK,cy,bH,cy];cases y[n]? with
   |none=>rfl
   |some e=>rfl
  rw[gq,this];exact abW (V n).1 (V n).2
 have B:mB P ⟨6,2,y.map<|j7 P.nv⟩=P':=by simp only[mB,bZ,cq];intro n K;rw[show gq ⟨6,2,y.map<|j7 P.nv⟩ (-1)=C from funext r];exact(jV (nH (aH rfl) T n λm=>(V m).2) (V n).2).2<|(JP s T t V).1 q n K
 simp only[gS,p,B];simp
section
attribute [local go_sem] Oper.semAt_some
def zw{S:Nat->Obj->Prop}{w W:t'}(h:Ky S w W)(y:∀k o,S k o->δ w.1<=k):Bl w W:=
 ⟨h.os,h.tape,h.output,h.size,λk a=>by
  cases a:w.1[k]? with
  |none=>have:=Array.getElem?_eq_none_iff.1 a;omega
  |some o=>exact h.keep k o a λV=>L'<|y k o V⟩
def Xm(nv N:Nat)(hs:List PE)(i:Nat):List Nd:=(range N).map λk=>if k<i then j7 nv (bK hs k) else qR
def SH(Q N:Nat)(y:List PE):Xm Q N y 0=replicate N qR:=by unfold Xm;refine Dd.2 ⟨ak,λb a=>?_⟩;obtain⟨k,_,rfl⟩:=bp.1 a;simp
def SI(Q N:Nat)(y:List PE){i:Nat}(h:i<N):(Xm Q N y i).set i (j7 Q<|bK y i)=Xm Q N y (i+1):=by
 refine dQ λk=>?_;rw[eQ];unfold Xm;rw[bA,uA,bH,bH];by_cases a:i=k
 .subst a;rw[aB rfl,aB h,jv h];simp
 rw[ax a];cases a:(range N)[k]? with
 |none=>rfl
 |some q=>
  obtain⟨C,b⟩:=aV.1 a;rw[Jr]at b;subst b;simp only[gD,dq];by_cases N:k<i
  .rw[aB N,aB I]
  rw[ax N,ax I]
def Xl(Q:Nat)(y:List PE):Xm Q (ζ y) y (ζ y)=y.map (j7 Q):=by
 refine dQ λk=>?_;unfold Xm bK;rw[bH,bH];rcases iL k (ζ y) with h|h
 .rw[jv h,aQ h];simp[h,cy]
 rw[b?<|by simpa using h,b? h];rfl
def zS(g s u:Nat)(D:List NC)(P:Pm)(pa ta:u')(pl pc tc:Nat)(R:List Int)(f:Int)(w:t')(hP:PM w g s D P)(j:cF P)(T:mr P)(ho:kF P)(F:ζ P.nx=ζ P.nd)(l:kU w)(V:jQ w u<|h' pa pl pc)(x:u<δ w.1)(z:b7 w ta R)(X:∀t∈R,dK t)(L:ζ R<=maxLen)(fw:dK f):
  Cl 89 #[gi g (ζ P.nd) s P.nv,k' #[h' pa pl pc,h' ta (ζ R) tc,G f]] w λe K=>∃nb Y,e=o' (cw nb<|ζ P.nd)/\jX w.1.size K nb (Y.map<|j7 P.nv)/\ζ Y=ζ P.nd/\KB.nL P (bK Y)/\wU P Y/\Below w.1.size w K:=by
 have hm:=j.most;have U:=j.nv;have E:=ſ λW hW=>As g s P.nv D P W (hP.below hW) j;have g:=dh<|l 0 aj;have bl:=ſ λq db B hb Y W C h2 g h4 h5=>KN q db B hb P Y W C h2 j T ho F g h4 h5;have dd:J (∀Y:List PE,ζ Y=ζ P.nd->KB.nL P (bK Y)->wU P Y->wU P (Fa P Y<|ζ P.nd)):=λY C h2 g=>(MA j T F C _ (aD _) h2 g).1
 have ed:=ſ λ(e:PE) W=>yQ e P.nv W U;have Wy:J (∀W4 q db B sb tb,Below w.1.size w W4->KB.mR W4 B q P->W4.1[db]?=C' (j' #[.iface 331<|k' #[]] 386 (0,0))->W4.1[sb]?=C' (Ő q db<|ζ P.nd)->W4.1[tb]?=C' (ő (h' pa pl pc) ta (ζ R) tc f)->Cl 144 #[KB.dw q db<|ζ P.nd,h' pa pl pc,.func (.func 145) #[]<|rQ sb tb] W4 λe K=>∃Y hb,e=o' (cw hb<|ζ P.nd)/\δ w.1<=hb/\K.1[hb]?=C' (j' (θ<|KB.aU Y) KB.bN (0,0))/\Bl W4 K/\ζ Y=ζ P.nd/\KB.nL P (bK Y)/\wU P Y):=by
  intro W4 q db B sb tb b4 hRl D hsb htb;have s:=b4.size
  have hr:=KB.uB (σ:=Unit) (λ_ _=>False) (λ_ _=>True) q db B 145 u P (rQ sb tb) pa pl pc W4 (λs _ _ _=>s) (λ_ x u next=>SD P R x u next) (Ĭ P.nv) (λ_ Y wt=>gu P Y wt) () (λW hW=>hRl.below<|zw hW λ_ _ h=>h.elim) D (λh=>h) j T ho F (snB j T F R)
   ⟨λ_ _ h=>h.elim,λ_ _ _ _ _ h=>h.elim,λ_ _ _ h _=>h,λ_ h=>h,λ_ h=>h,I,λD w=>Tryz.call145 D w,?_⟩ ⟨D',rfl,fT _ _⟩ (l.below b4) (V.keep λo u h=>aA h b4) trivial
  .refine hr.mono ?_;rintro e K ⟨s,Y,rfl,C,_,g,h4,h5⟩;exact⟨Y,_,rfl,I,C,zw g λ_ _ h=>h.elim,h5.len,h5.hd,λi hi=>h4.snd i hi<|ji i⟩
  intro s Y wt W x g hS s hb _ _ hk;have g:=zw hk λ_ _ h=>h.elim;have:=Eu q db B x sb tb P (h' pa pl pc) ta tc R f (bK Y x) (KB.j8 (bK Y x)<|KB.bU P (bK Y) x) W (aF g hsb) (aF g htb) (hRl.below g) j F (hS.low x s) (z.below<|aq b4 g) X L (XK j T F R hS.hd hb).bin;refine this.mono ?_;rintro e K ⟨C,h2⟩;exact⟨C,trivial,Ky.of h2⟩
 obtain⟨N,p⟩:=Ea<|ζ P.nd;obtain⟨nv,r⟩:∃nv,nv=P.nv:=⟨_,rfl⟩;have K:=ſ p;have g:=ſ r;rw[<-p]at E bl dd Wy hm|-;rw[<-r]at E ed U|-;obtain⟨i2,b,k,m,g⟩:=cG El;have L3:J (_/\_/\_/\_):=⟨b,k,m,g⟩;clear hP j T ho F l V p r b k m g z X L;generalize ζ R=tn at *;simp only[gi,KB.dw]at E bl Wy|-;go_enter func89,ntmps89;go_upto_region 1 with(fail)
 refine å (F:=Code.wp _ _ _ _) λW0 U=>?_;obtain⟨r,m⟩:=A U.b;go_upto_region 2 with(go_at_call 143;refine(E.o _ U.a).mono ?_;rintro e D ⟨q,db,rfl,a1,a2,l⟩;have B:=ſ<|M a1<|M a2 l;clear a1 a2 l r m)
 refine oP (F:=Code.wp _ _ _ _) λF u=>?_;have s:=u.a;have g:=aq B.B s;have x:=aq U.a g;obtain⟨r,m⟩:=A u.b;obtain⟨y1,y2⟩:=A<|aF g U.c;go_upto_region 3 with(go_at_call 144;refine(Wy.o F q db W0.1.size D.1.size (δ w.1+1) x (B.a.below s) (aF s B.b) u.b<|aF g U.c).mono ?_;rintro e W3 ⟨T,hb,rfl,a1,a2,l,k,j,b⟩;have z:=ſ<|M a1<|M a2<|M l<|M k<|M j b;clear a1 a2 l k j b r m y1 y2)
 have E:=z.c;have D:=aq x E;obtain⟨y1,y2⟩:=A<|aF E<|aF g U.c;go_wp2_with fail;clear y1 y2;have x:=z.a;have p:=ſ<|M ((B.a.below s).below E)<|M (aF E<|aF s B.b)<|M (aF E u.b)<|M (aF E<|aF g U.b) D;go_loopw[19] (λiv wr=>∃(j:Nat)(Y:List PE),iv=G j/\((j:Int)<=f\/j=0)/\J (wr.1[hb]?=C' (j' (θ<|KB.aU Y) KB.bN (0,0))/\ζ Y=N/\KB.nL P (bK Y)/\wU P Y/\Kx (λk=>k=hb) W3 wr)) (λiv _=>(f-intOf iv).toNat)
 case atStart=>exact⟨0,T,rfl,aH rfl,z.b,z.d,z.e,z.E,vx⟩
 obtain⟨j,Y,rfl,hj,HK⟩:=hrel;have b:ú W3 wr (KB.Pf++[242,86]):=λk L t C h2=>HK.D.box C λe=>by subst e;rw[z.b]at C;rw[<-(eU<|dW C).2.1]at h2;revert h2;decide
 have ae:=ſ<|M (p.a.ty λk L t C h2=>b k L t C<|eC.2<|aI h2)<|M (b _ _ _ p.b aj)<|M (b _ _ _ p.c aj)<|b _ _ _ p.d aj;clear b;have g:=fw.2;by_cases L:(j:Int)<f
 .obtain⟨r,m⟩:=A ae.c;go_wp2_with (go_at_call 148;refine(bl.o q db W0.1.size hb Y wr ae.a ae.b HK.b HK.c HK.a).mono ?_;rintro e X ⟨⟨v,rfl⟩,a1,a2,l⟩;have HX:=ſ<|M a1<|M a2 l;clear a1 a2 l r m);go_roundw
  case rel=>exact⟨j+1,Fa P Y N,f',aI I,HX.a,by rw[tv];exact HK.b,HX.B,dd.o Y HK.b HK.c HK.d,HK.D.trans HX.b⟩
  exact H'
 ·
  go_upto_region 8 with(at_make;refine eK _ rfl (.tmp 26) (.tmp 26) 46 rfl wr.1.size 96 i2 _ 5 underlying46 L3.a L3.b L3.c .i64 .i64 N N N rfl rfl rfl rfl (by rw[L3.C];omega) (by unfold maxLen;omega) ak ?_;intro W4 l F;have b:=ſ<|M l F;clear l F)
  have r:J (W4.1[δ wr.1]?=C' (j' (θ<|eD<|replicate N ñ) 96 (0,0))/\Below wr.1.size wr W4):=by exact ĳ
  have l:=À HK.a;have l:δ w.1<δ W3.1:=by have:=À ae.C;have:=HK.D.size;have:=À p.d;omega
  have l:=HK.D.size;have H4:=ſ (M (aF r.A HK.a)<|M (aF r.A ae.C)<|show Below w.1.size w W4 from aq (p.D.trans<|HK.D.below I λk e=>I) r.A);have l:=À r.a;generalize l:δ wr.1=nb at *;clear b;go_wp2_with fail;go_loopw[30] (λiv q=>∃(i:Nat)(b:List VN),i<=N/\iv=G i/\J (AG nb nb N b q/\b.map Mi=Xm nv N Y i/\Kx (λk=>k=nb) W4 q)) (λiv _=>N-(intOf iv).toNat)
  case atStart=>exact⟨0,_,bq _,rfl,G2 r.a,by rw[SH,rO];rfl,vx⟩
  obtain⟨i,b,hi,rfl,HL⟩:=hrel;by_cases m:i<N;rotate_left
  .have lF:¬(i:Int)<N:=I;obtain rfl:i=N:=I;go_wp2_with fail;refine aC (v:=h' (C'<|O nb 0) i i) (by simp[results89,go_sem]) rfl ⟨nb,rfl,Y,?_,HK.b,HK.c,HK.d,?_⟩
   .have C:=HL.a.fr (B':=δ w.1) I I;rw[HL.b]at C;have h2:=Xl nv Y;rw[HK.b]at h2;rwa[h2]at C
   exact H4.B.trans (HL.B.below I λk e=>I)
  have lF:(i:Int)<N:=I;have f:=HL.B.box H4.a I;have hg2:=HL.B.box H4.b I;have g:Y[i]?=C' (bK Y i):=by unfold bK;rw[cy,aQ<|by rw[HK.b];exact m];rfl
  have YF:wr.rangeAt hb (i*17) (KB.aL<|bK Y i):=by obtain⟨l,o,e,hr⟩:=KB.j9 f i _ g;cases e;rwa[bW]at hr
  have Wz:=ſ<|SI nv N Y m;generalize bK Y i=e at *;go_upto_region 11 with(first|(refine wpList_load_mid rfl KB.bN (.tmp 33) rfl hb (i*17) rfl (KB.aL e) _ YF KB.fX rfl H ?_)|(refine wpList_store_mid rfl KB.bN (.tmp 9) (.tmp 34) rfl wr.1.size 0 (θ<|KB.aL e) rfl rfl (b5 (n:=17) (bj _ _) rfl) H (KB.bn _) ?_))
  refine Ll (F:=Code.wp _ _ _ _) rfl λU HU=>?_;simp only[Act.put];have f:=bf HU.a;obtain⟨y1,y2⟩:=A<|aF HU.A hg2;have l:=ſ<|HL.a.below HU.A;have g:=HL.B.size;go_upto_region 12 with(first|(refine wpList_load_mid rfl KB.bN (.tmp 9) rfl wr.1.size 0 rfl (KB.aL e) _ f KB.fX rfl H ?_)|(go_at_call 149;refine(ed.o e U).mono ?_;rintro _ X ⟨a,c,rfl,a1,a2⟩;have HX:=ſ<|M a1 a2;clear a1 a2 y1 y2 f)|(refine wpList_store_mid rfl 96 (.tmp 41) (.tmp 40) rfl nb (i*5) #[h' D' 0 0,h' D' 0 0,i' e.r,G 0,h' a (ζ<|kr e nv) c] rfl rfl (vH (l.o.below HX.A).fE<|by rw[l.o.len];exact m) H (ď _ _ _ _) ?_))
  obtain⟨e2,he2,Wk,I1⟩:=l.o.first (x:=i) (rk:=0) (rd:=e.r) m HX.a rfl HX.A (L' HU.A.size);have l:=ſ (M I1<|show Kx (λk=>k=nb) W4 (ψ X nb (i*5)<|sN e2)from tD (S:=λk=>k=nb) (aI rfl) (HL.B.trans<|Kx.of<|aq HU.A HX.A) _ _);have s:J ((b.set i e2).map Mi=Xm nv N Y (i+1)):=by show _=_;rw[mx,HL.b,Wk,<-Wz.o];rfl
  rw[he2]at l;generalize ψ X nb (i*5) [h' D' 0 0,h' D' 0 0,i' e.r,G 0,h' a (ζ<|kr e nv) c]=Y at l|-;simp only[Act.put];clear he2 Wk I1;go_wp2_with fail;go_roundw
  case rel=>exact⟨i+1,b.set i e2,m,f',l.a,s.o,l.A⟩
  exact H'
end
section
variable {P:Pm}{y:List PE}
def cD{x:Int}(h:0<=x/\x<=100000):dK x:=⟨I,I⟩
def BM:∀(l:List Int)(Y:Int),cR Y l=P'->∀x∈l,Y<=x/\x<=100000
 |[],_,_,x,h=>by cases h
 |a::l,Y,h,x,hx=>by
  simp only[cR,aS,bw]at h;rcases cO.1 hx with rfl|hx
  .exact h.1
  have:=BM l (a+1) h.2 x hx;omega
def adH{c:Ct}(o:ku c=P')(U:c.aM<=4):ny c:=by
 unfold ku at o;simp only[Á,aS,bw,bZ,eS]at o;obtain⟨⟨⟨⟨c,c⟩,N⟩,d⟩,l⟩:=o;refine⟨⟨I,I⟩,by rcases N with h|h;(· rw[h];exact cD I);rw[h.1];exact cD I,λn K=>?_,I⟩
 have h:=l n K;unfold cB at h;rw[aB U]at h;simp only[e6,aS,bw,j2]at h;obtain⟨⟨⟨⟨N,e⟩,b⟩,C⟩,t⟩:=h;have X:=p? C;have a:(∀r∈n.a!,dK r)/\ζ n.a!<=100001:=by
  unfold eF at t;split at t
  .simp only[aS,bw,bZ,rk]at t;exact⟨λr a=>cD<|t.2 r a,I⟩
  rw[j2.1 t];simp
 exact⟨λf Y=>cD<|L'<|BM _ _ C f Y,a.1,by rw[e];exact cD I,by rw[b];simp,I,I,by rw[b];simp⟩
def adI{s:Nat×List Nd}(b:cF P)(i:mI P s y (0,0)):ny (gJ s.2):=by
 have d:=b.most;have a:=i.iI;refine⟨cD<|show 0<=(5:Int)/\(5:Int)<=100000 by omega,cD<|show 0<=(1:Int)/\(1:Int)<=100000 by omega,λn K=>?_,by show ζ s.2*88<=_;rw[i.len];omega⟩;have h:=i.zm n K;have a:0<=n.rank/\n.rank<=100000:=by
  cases V:n.reached with
  |true=>have:=h.zJ V;omega
  |false=>have:=h.out V;omega
 have R:ζ n.aG<=8:=by
  cases V:n.reached with
  |true=>rw[(h.zJ V).1];exact b.nv
  |false=>rw[(h.out V).2];simp
 refine⟨by rw[h.fr.1];simp,by rw[h.fr.2];simp,cD a,λv R=>?_,by rw[h.fr.1];simp,by rw[h.fr.2];simp,I⟩;have k:=h.each v R;refine⟨?_,k.lo,by rw[k.hi];exact cD I,k.first,?_⟩
 .rcases k.form with f|f|f
  .rw[f.1];exact cD I
  .rw[f.1];exact cD I
  rw[f.1];exact cD I
 rcases k.form with f|f|f
 .rw[f.2.2.2];exact cD I
 .exact cD I
 rw[f.2.2.2.2];exact cD I
def adJ(g:cF P)(X:ζ y=ζ P.nd)(j:KB.nL P<|bK y):ny ⟨6,2,y.map<|j7 P.nv⟩:=by
 have d:=g.most;refine⟨cD<|show 0<=(6:Int)/\(6:Int)<=100000 by omega,cD<|show 0<=(2:Int)/\(2:Int)<=100000 by omega,λn K=>?_,by show(y.map<|j7 P.nv).length*88<=_;rw[bA,X];omega⟩;obtain⟨e,l,rfl⟩:=bp.1 K;obtain⟨i,b⟩:=dN.1 l;have R:∃v,PR P.nv e v/\dZ 6 P.nv v:=by
  have:bK y i=e:=by rw[bK,cy,b];rfl
  rw[<-this];exact j i
 obtain⟨v,h,a⟩:=R;have L:ζ (kr e P.nv)<=8:=by
  unfold kr;split
  .rw[xe];exact g.nv
  simp
 refine⟨λf Y=>(by cases Y),λf Y=>(by cases Y),cD<|show 0<=(0:Int)/\(0:Int)<=100000 by omega,λu C=>?_,by simp[j7],by simp[j7],by show(kr e P.nv).length*48<=_;omega⟩;have C:u∈kr e P.nv:=C;unfold kr at C;cases c:e.r with
 |false=>rw[c]at C;simp at C
 |true=>
  rw[c,aB rfl]at C;obtain⟨k,S,rfl⟩:=bp.1 C;have S:=cq.1 S;cases v with
  |none=>rw[show e=PE.zero from h]at c;cases c
  |some E=>
   have:okV 6 (e.at k):=by rw[h.2.2,cy,aQ<|by rw[h.2.1];exact S];exact(a E rfl).2 _<|e9 _
   obtain⟨_,_,f,w⟩:=Kw this;exact⟨cD<|show 0<=(3:Int)/\(3:Int)<=100000 by omega,f,w,cD<|show 0<=(0:Int)/\(0:Int)<=100000 by omega,cD<|show 0<=(0:Int)/\(0:Int)<=100000 by omega⟩
end
section
attribute [local go_sem] Oper.semAt_some
structure ġ(P:Pm)(p:Int)(nb:Nat)(c:Ct)(w w':t'):Prop where
  pr:c.aM=p
  gr:c.cu=if p=6 then 2 else 1
  len:ζ c.nodes=ζ P.nd
  at_:bX w' (C'<|O nb 0) c.nodes
  ok:ZF P p c
  zJ:ny c
  b:Bl w w'
def ĝ(a b:Int)(x:u')(j c:Nat):((gO a b x j c)).all (·.oneCell')=P':=all_oneCell_toArray (cs:=[G a,G b,h' x j c]) (by
 intro u C;simp only[cO,g!,gC]at C
 rcases C with rfl|rfl|rfl<;>rfl)
def UX(g q Y:Nat)(D:List NC)(P:Pm)(p:Int)(pa ta:u')(pl x tc:Nat)(R:List Int)(f:Int)(w:t')(hP:PM w g q D P)(s:Au P)(hp:1<=p/\p<=6)(b:kU w)(l:jQ w Y<|h' pa pl x)(j:Y<δ w.1)(C:b7 w ta R)(B:∀t∈R,dK t)(z:ζ R<=maxLen)(t:dK f):
  Cl 43 #[gi g (ζ P.nd) q P.nv,G p,k' #[h' pa pl x,h' ta (ζ R) tc,G f]] w λe j=>∃k c,e=o' (k' #[G p,G c.cu,h' (C'<|O k 0) (ζ P.nd)<|ζ P.nd])/\ġ P p k c w j:=by
 have HS:=ſ λr W j=>Ey g q Y D P p pa pl x W (hP.below j) s.ok s.nx s.key ⟨hp.1,r⟩ (b.below j) (l.keep λo u h=>aA h j) (by have:=j.size;omega);have HK:=ſ λW j=>tN g q Y D P pa pl x W (hP.below j) s.ok s.cs s.op s.nx (b.below j) (l.keep λo u h=>aA h j) (by have:=j.size;omega);have HR:=ſ λW j=>zS g q Y D P pa ta pl x tc R f W (hP.below j) s.ok s.cs s.op s.nx (b.below j) (l.keep λo u h=>aA h j) (by have:=j.size;omega) (C.below j) B z t;have T:=ſ s;obtain⟨N,E⟩:=Ea<|ζ P.nd;obtain⟨f,m⟩:=Ea P.nv;have K:=ſ E;have HNv:=ſ m;have f:dK p:=⟨I,I⟩;rw[<-E,<-m]at HS HK HR|-;clear hP s b l C B z E m;generalize ζ R=tn at *;simp only[gi]at HS HK HR|-;go_enter func43,ntmps43;go_upto_region 1 with(fail)
 refine ā (F:=Code.wp _ _ _ _) λV B=>?_;have HZ:=ſ B.D;obtain⟨E,x2⟩:=A B.b;obtain⟨y1,y2⟩:=A B.c;by_cases l:p=5
 .subst l;go_wp2_with (first|(go_at_call 88;refine(HK.o _ B.a).mono ?_;rintro e X ⟨k,s,hs,rfl,z,F,b⟩;have m:=ſ<|M b<|M z F;clear z F b E x2 y1 y2;have U:=b5 (n:=3) (aF m.a B.d) rfl)|(refine wpList_store_mid rfl 51 (.tmp 6) (.tmp 15) rfl (δ w.1+1+1) 0 #[G 5,G 1,h' (C'<|O k 0) N N] rfl rfl U H (ĝ _ _ _ _ _) ?_));have L:=cm (cs:=[G 0,G 0,h' D' 0 0]) (aF m.a B.d) (vs:=[G 5,G 1,h' (C'<|O k 0) N N]) rfl;have C:=run_loadVar_mid (P:=Tryz.prog) (ψ X (δ w.1+1+1) 0 [G 5,G 1,h' (C'<|O k 0) N N]) (δ w.1+1+1) 0 51 _ _ (bf L) underlying51 rfl H;have hz:=HZ.o;refine aC (v:=k' #[G 5,G 1,h' (C'<|O k 0) N N]) (by simp[results,results43,C,Act.put,asAddr]) rfl ⟨k,gJ s.2,rfl,?_⟩;exact⟨rfl,rfl,m.B.len,m.b.set<|show δ w.1+1+1<δ V.1 by omega,acw T.o.ok T.o.cs m.B,adI T.o.ok m.B,cM I _ _ _<|aq B.a m.a⟩
 by_cases h6:p=6
 .subst h6;go_wp2_with (first|(go_at_call 89;refine(HR.o _ B.a).mono ?_;rintro e X ⟨k,hs,rfl,z,f,o,F,b⟩;have m:=ſ<|M b<|M z<|M f<|M o F;clear z F b E x2 y1 y2;have U:=b5 (n:=3) (aF m.a B.d) rfl)|(refine wpList_store_mid rfl 51 (.tmp 6) (.tmp 22) rfl (δ w.1+1+1) 0 #[G 6,G 2,h' (C'<|O k 0) N N] rfl rfl U H (ĝ _ _ _ _ _) ?_));have L:=cm (cs:=[G 0,G 0,h' D' 0 0]) (aF m.a B.d) (vs:=[G 6,G 2,h' (C'<|O k 0) N N]) rfl;have C:=run_loadVar_mid (P:=Tryz.prog) (ψ X (δ w.1+1+1) 0 [G 6,G 2,h' (C'<|O k 0) N N]) (δ w.1+1+1) 0 51 _ _ (bf L) underlying51 rfl H;have hz:=HZ.o;refine aC (v:=k' #[G 6,G 2,h' (C'<|O k 0) N N]) (by simp[results,results43,C,Act.put,asAddr]) rfl ⟨k,⟨6,2,hs.map<|j7 P.nv⟩,rfl,?_⟩;exact⟨rfl,rfl,by rw[bA];exact m.c.trans K.o,(HNv.o▸m.b:jX _ _ _<|hs.map<|j7 P.nv).set<|show δ w.1+1+1<δ V.1 by omega,acx T.o.ok T.o.cs T.o.nx (m.c.trans K.o) m.d m.D,adJ T.o.ok (m.c.trans K.o) m.d,cM I _ _ _<|aq B.a m.a⟩
 have r:p<=4:=I;go_wp2_with (first|(go_at_call 90;refine(HS.o r _ B.a).mono ?_;rintro e X ⟨k,l,rfl,z,F,b⟩;have m:=ſ<|M b<|M z F;clear z F b E x2 y1 y2;have U:=b5 (n:=3) (aF m.a B.d) rfl)|(refine wpList_store_mid rfl 51 (.tmp 6) (.tmp 29) rfl (δ w.1+1+1) 0 #[G p,G 1,h' (C'<|O k 0) N N] rfl rfl U H (ĝ _ _ _ _ _) ?_));have L:=cm (cs:=[G 0,G 0,h' D' 0 0]) (aF m.a B.d) (vs:=[G p,G 1,h' (C'<|O k 0) N N]) rfl;have C:=run_loadVar_mid (P:=Tryz.prog) (ψ X (δ w.1+1+1) 0 [G p,G 1,h' (C'<|O k 0) N N]) (δ w.1+1+1) 0 51 _ _ (bf L) underlying51 rfl H;have hz:=HZ.o;refine aC (v:=k' #[G p,G 1,h' (C'<|O k 0) N N]) (by simp[results,results43,C,Act.put,asAddr]) rfl ⟨k,⟨p,1,l.map uU⟩,rfl,?_⟩;exact⟨rfl,by rw[ax h6],by rw[bA];exact m.c,m.b.set<|show δ w.1+1+1<δ V.1 by omega,Tv (ME T.o.ok T.o.nx ⟨hp.1,r⟩) ⟨hp.1,r⟩ m.B,adH (Tv (ME T.o.ok T.o.nx ⟨hp.1,r⟩) ⟨hp.1,r⟩ m.B).ok r,cM I _ _ _<|aq B.a m.a⟩
end
def QG(g d r:Nat)(T:u')(D:List NC)(P:Pm)(c:Ct)(w:t')(hP:PM w g d D P)(s:Au P)(h:bX w T c.nodes)(B:∀x∈c.nodes,jR x)(o:ku c=P')(b:kU w):
  Cl 45 #[gi g (ζ P.nd) d P.nv,k'<|gO c.aM c.cu T (ζ c.nodes) r] w (Rb w<|G<|gS P c):=by
 have a:(1<=c.aM/\c.aM<=6)/\(c.cu=1\/c.cu=2)/\ζ c.nodes<=60:=by
  unfold ku Á at o;simp at o;refine⟨⟨o.1.1.1.1,o.1.1.1.2⟩,?_,o.1.2⟩;rcases o.1.1.2 with h|h
  .exact aH h
  exact aI h.1
 have q:ζ c.nodes≠ζ P.nd->gS P c=6:=by intro z;rw[gS,nZ,di z];rfl
 have f:=ſ λX U W j=>sn g d r T D P c W (hP.below j) s.ok s.cs s.op s.nx (h.below j) B o X U;have l:=ſ λX U W j=>wR g d r T D P c W (hP.below j) s.ok s.cs s.op s.nx (h.below j) B o X U;have t:=ſ λX U W j=>Be g d r T D P c W (hP.below j) s.ok s.nx s.key (h.below j) B o X ⟨a.1.1,U⟩ a.2.1<|b.below j;have p:=s.ok.most;have i:=a.2.2;have y:=a.1;have C:=ſ q;clear q hP s h B o b a;generalize gS P c=a at t f l C|-;generalize c.aM=u at t f l y|-;generalize c.cu=h at t f l|-;generalize ζ P.nd=N at t f l C p|-;generalize ζ c.nodes=a at t f l C i|-;simp only[gi]at t f l|-;by_cases X:a=N;rotate_left
 .have v:((a:Int)==(N:Int))=Q':=by simp;omega
  have k:=C.o X;go_enter func45,ntmps45;go_upto_region 1 with fail
  refine Et (F:=Code.wp _ _ _ _) λa U=>?_;have E:=A U.a.1;have b:=A U.a.2;go_wp2_with fail;go_ret;exact⟨by rw[k];rfl,U.b⟩
 subst X;have F:=ſ<|t.o rfl;have g:=ſ<|f.o rfl;have f:=ſ<|l.o rfl;go_enter func45,ntmps45;go_upto_region 1 with fail
 refine Et (F:=Code.wp _ _ _ _) λa U=>?_;have E:=A U.a.1;have b:=A U.a.2;by_cases l:u=5
 .subst l;go_wp2_with (go_at_call 93;refine(g.o rfl _ U.b).mono ?_;rintro e t ⟨rfl,a⟩;have c:=ſ a;clear a E b);go_ret;exact⟨rfl,aq U.b c.o⟩
 by_cases d:u=6
 .subst d;go_wp2_with (go_at_call 94;refine(f.o rfl _ U.b).mono ?_;rintro e t ⟨rfl,a⟩;have c:=ſ a;clear a E b);go_ret;exact⟨rfl,aq U.b c.o⟩
 have d:u<=4:=I;have K:=ſ<|F.o d;clear F g f d y;go_wp2_with (go_at_call 95;refine(K.o _ U.b).mono ?_;rintro e t ⟨rfl,a⟩;have c:=ſ a;clear a E b);go_ret;exact⟨rfl,aq U.b c.o⟩
def ZO(w:t')(s t:z')(e:Ending)(w':t'):Prop:=∃(cl:List N5)(na:u')(nc:Nat),e=o' (p' #[h' na (ζ cl) nc,G<|xB s t])/\cl.map N5.n=xA s t/\ρ w' w.1.size 96 5 (h' na (ζ cl) nc) (ζ cl) (fG cl)/\(∀x∈cl,fW w' w.1.size x)/\I9 cl/\Bl w w'
def ZO.nil{w b:t'}{s t:z'}{a:Int}(h:xB s t=a/\xA s t=[])(c:Bl w b):ZO w s t (o'<|p' #[h' D' 0 0,G a]) b:=
 ⟨[],D',0,by rw[h.1];rfl,h.2.symm,cY _ _ _ _,λx F=>(by cases F),List.Pairwise.nil,c⟩
def fW.mono{W:t'}{B f:Nat}{x:N5}(h:fW W B x)(a:f<=B):fW W f x:=⟨bC h.f a,bC h.r a,bC h.v a,h.ap⟩
def XP{c:Ct}(o:ku c=P'):∀x∈c.nodes,ζ x.aG<=8:=by
 intro x F;have h:=PF o x F;unfold cB at h;split at h
 .unfold e6 at h;simp only[aS,j2]at h;rw[h.1.1.2];simp
 split at h
 .unfold eM at h;simp only[aS,bw]at h;exact h.1.1.1.2
 unfold ky at h;simp only[aS,j2]at h;rw[h.2];simp
def JB(s t:z')(w:t')(a:Env w)(b:kU w):Cl 20 #[m' s,m' t] w (ZO w s t):=by
 have X:=ſ b;have c:=ſ a;clear b a;go_enter func20,ntmps20;go_wp2_with fail;refine(qh s w c.o).mono ?_;rintro e j ⟨a,C⟩;have r:=ſ a;clear a;cases U:jG s with
 |inl b=>
  rw[U]at C;have Y:=ſ<|adP (t:=t) U;clear U;cases b
  .obtain rfl:=C;go_wp2_with fail;exact aC (v:=p' #[h' D' 0 0,G 1]) (by simp[results20,go_sem]) rfl (ZO.nil Y.o<|aq r.o aY)
  obtain rfl:=C;go_wp2_with fail;exact aC (v:=p' #[h' D' 0 0,G 2]) (by simp[results20,go_sem]) rfl (ZO.nil Y.o<|aq r.o aY)
 |inr q=>
  obtain⟨c,E⟩:=q;rw[U]at C;obtain⟨g,w,D,S,rfl,i,l,b,a,L⟩:=C;have d:=M3 U a l b L;have k:=D2 U a;obtain⟨P,hP⟩:=Ea<|e! c S<|ζ E;have f:ζ E=P.nv:=by rw[hP];rfl
  have h:ζ c=ζ P.nd:=by rw[hP];exact(bA _).symm
  rw[<-hP]at d k;have y:=ſ<|M d k;have W:J ((È t.1.1=D'->xB s t=5/\xA s t=[])/\∀c,È t.1.1=C' c->xB s t=gS P c/\xA s t=if gS P c=0 then c.nodes.map uh else[]):=⟨λQ=>Vj U Q,λc Q=>by rw[hP];exact Vi U a Q⟩;rw[f,h];clear i l b a L d k hP f h U;go_upto_region 2 with fail
  refine wK (F:=Code.wp _ _ _ _) λq a=>?_;have d:=ſ<|M (aq r.o a.b)<|M a.a<|y.a.below a.b;generalize δ j.1=N at d|-;go_wp2_with fail;refine(vR t q).mono ?_;rintro e r ⟨a,o⟩;have j:=ſ<|M o<|M (aq d.a o)<|M (aF o d.b)<|d.B.below o;clear o;rcases a with⟨c,a,i,R,d,u,rfl,p,o,b⟩|⟨d,rfl⟩;rotate_left
  .have Y:=ſ<|W.a d;clear d;go_wp2_with fail;exact aC (v:=p' #[h' D' 0 0,G 5]) (by simp[results20,go_sem]) rfl (ZO.nil Y.o<|aq j.b aY)
  obtain⟨B,k⟩:=QB d;obtain⟨l,_⟩:=vo d;have h:ζ c.nodes=ζ a:=by rw[u];simp
  have a:bX r i c.nodes:=by rw[u];exact uS (by rw[h]at p;exact p) λx F=>(o x F).own
  have f:∀x∈c.nodes,ζ x.facts<=100000/\ζ x.aG<=1000:=λx F=>⟨br (k x F).2.1 aj,br (XP l x F) aj⟩;have K:=ſ<|M a<|M (λx F=>(k x F).1)<|M l f;have Y:=ſ<|W.A c d;clear d u p o b k l a h f;go_upto_region 5 with fail
  refine wK (F:=Code.wp _ _ _ _) λp h=>?_;have T:=ſ<|M (aq j.b h.b)<|M h.a<|M (aF h.b j.c)<|M (j.C.below h.b)<|K.a.below h.b;have a:=br j.a.size h.b.size;generalize δ r.1=a at T|-;obtain⟨a,v⟩:=Ea<|gS P c;have d:J (Cl 45 #[gi g (ζ P.nd) w P.nv,k'<|gO c.aM c.cu i (ζ c.nodes) R] p<|Rb p<|G a):=by rw[v];exact QG g w R i D P c p T.d y.A T.D K.b K.c<|X.o.below T.a
  have f:J (xB s t=a/\xA s t=if a=0 then c.nodes.map uh else[]):=by rw[v];exact Y.o
  clear v;simp only[gi]at d;have E:=A T.b;have h:=A T.c;by_cases D:a=0;rotate_left
  .have b:=J' D;have g:J (xB s t=a/\xA s t=[]):=⟨f.a,by rw[f.A,ax D]⟩;clear D;go_wp2_with (go_at_call 45;refine d.o.mono ?_;rintro e o ⟨rfl,b⟩;have z:=ſ<|aq T.a b;clear b E h);exact aC (v:=p' #[h' D' 0 0,G a]) (by simp[results20,go_sem]) rfl (ZO.nil g.o z.o)
  subst D;go_upto_region 10 with(go_at_call 45;refine d.o.mono ?_;rintro e o ⟨rfl,b⟩;have z:=ſ<|M (aq T.a b)<|M (aF b T.b)<|T.D.below b;clear b E h)
  have E:=A z.b;go_wp2_with (go_at_call 46;refine(Ps i R c.nodes o z.B B K.C).mono ?_;rintro e a ⟨D,l,rc,rfl,b,i,d,y,a⟩;have B:=ſ<|M b<|M i<|M d<|M y a;clear b i d y a E);have L:ζ c.nodes=ζ D:=by have:=cQ length B.a;simpa using this.symm
  refine aC (v:=p' #[h' l (ζ c.nodes) rc,G 0]) (by simp[results20,go_sem]) rfl ⟨D,l,rc,?_,?_,?_,?_,B.d,?_⟩
  .rw[f.a,L]
  .rw[B.a,f.A];simp
  .have:=B.b;rw[L]at this;exact bC this z.a.size
  .exact λx F=>(B.c x F).mono z.a.size
  exact aq z.a B.D
section
variable {p:Int}{c:Ct}
attribute [local go_sem] Oper.semAt_some
def ZP(s:z')(p:Int)(e:Ending):Prop:=match jG s with
 | .inl b=>e=o' (p' #[m' ⟨#[]⟩,G<|if b then 2 else 1])
 | .inr q=>∃ps c,kN 0 [] (q.1.map PN.bL)=C' ps/\e=o' (p' #[m' ⟨θ<|iF c⟩,G 0])/\c.aM=p/\c.cu=(if p=6 then 2 else 1)/\ZF (e! q.1 ps<|ζ q.2) p c/\ny c
def aec{b:Bool}(h:jG s=.inl b):ZP s p (o'<|p' #[m' ⟨#[]⟩,G<|if b then 2 else 1]):=by rw[ZP,h]
def agJ{K:List PN}{E:List bD}{S:List (bD×Nat)}(h:jG s=.inr (K,E))(C:kN 0 [] (K.map PN.bL)=C' S)(a:c.aM=p)(N:c.cu=(if p=6 then 2 else 1))(d:ZF (e! K S<|ζ E) p c)(l:ny c):ZP s p (o'<|p' #[m' ⟨θ<|iF c⟩,G 0]):=by rw[ZP,h];exact⟨S,c,C,rfl,a,N,d,l⟩
def Za(h:ku c=P')(y:ζ (iF c)<=60000):encR c=(⟨θ<|iF c⟩,0):=by rw[encR,enc,h];simp[y]
def Di(s:z')(p:Int)(N:Nat)(u o:u')(X x tc:Nat)(R:List Int)(f:Int)(w:t')(B:Env w)(b:kU w)(hp:1<=p/\p<=6)(q:jQ w N<|h' u X x)(t:N<δ w.1)(t:X<=200)(l:b7 w o R)(r:∀t∈R,dK t)(t:ζ R<=20)(k:0<=f/\f<=8):
  Cl 18 #[m' s,G p,k' #[h' u X x,h' o (ζ R) tc,G f]] w λe w'=>ZP s p e/\Bl w w':=by
 have HE:=ſ B;have Y:=hp.1;have t:=hp.2;have t:=k.1;have t:=k.2;have ff:J (∀g z D P W,PM W g z D P->Au P->Bl w W->Cl 43 #[gi g (ζ P.nd) z P.nv,G p,k' #[h' u X x,h' o (ζ R) tc,G f]] W λe w'=>∃m c,e=o' (k' #[G p,G c.cu,h' (C'<|O m 0) (ζ P.nd)<|ζ P.nd])/\ġ P p m c W w'):=λg z D P W C h2 j=>UX g z N D P p u o X x tc R f W C h2 hp (b.below j) (q.keep λo u h=>aA h j) (L' j.size) (l.below j) r (by unfold maxLen;omega) ⟨I,I⟩;have f:(X:Int)<=200:=I;have f:(ζ R:Int)<=20:=I;clear B b q l r k;generalize ζ R=tn at *;go_enter func18,ntmps18;go_upto_region 1 with fail
 refine oP (F:=Code.wp _ _ _ _) λo U=>?_;have f:J (Env o):=HE.o.below U.a;go_wp2_with fail;refine(qh s o f.o).mono ?_;rintro e W1 ⟨b,C⟩;have r:=ſ b;clear b;cases F:jG s with
 |inl b=>
  rw[F]at C;have T:=ſ<|aec (p:=p) F;clear F;cases b
  .obtain rfl:=C;go_wp2_with fail;exact aC (v:=p' #[m' ⟨#[]⟩,G 1]) (by simp[results18,go_sem]) rfl ⟨T.o,aq (aq U.a r.o) aY⟩
  obtain rfl:=C;go_wp2_with fail;exact aC (v:=p' #[m' ⟨#[]⟩,G 2]) (by simp[results18,go_sem]) rfl ⟨T.o,aq (aq U.a r.o) aY⟩
 |inr q=>
  obtain⟨K,E⟩:=q;rw[F]at C;obtain⟨g,z,D,ps,rfl,hg,l,B,q,L⟩:=C;have C:=M3 F q l B L;have k:=D2 F q;obtain⟨P,hP⟩:=Ea<|e! K ps<|ζ E;have b:ζ E=P.nv:=by rw[hP];rfl
  have f:ζ K=ζ P.nd:=by rw[hP];exact(bA _).symm
  rw[<-hP]at C k;have o:J (∀c:Ct,c.aM=p->c.cu=(if p=6 then 2 else 1)->ZF P p c->ny c->ZP s p (o'<|p' #[m' ⟨θ<|iF c⟩,G 0])):=λc h2 N t s=>agJ F q h2 N (hP▸t) s;have s:=ſ λW (j:Bl W1 W)=>ff.o g z D P W (C.below j) k<|aq (aq U.a r.o) j;rw[b,f];clear hg l B L C k f F q hP ff b;simp only[gi]at s;go_upto_region 2 with fail
  refine oP (F:=Code.wp _ _ _ _) λq b=>?_;obtain⟨E,g⟩:=A b.b;obtain⟨l,t⟩:=A<|aF (aq r.o b.a) U.b;go_upto_region 8 with fail
  have j:J (∀(c:Ct) m X,ġ P p m c q X->Cl 42 #[k' #[G p,G c.cu,h' (C'<|O m 0) (ζ P.nd)<|ζ P.nd]] X (Rb X<|p' #[m' ⟨θ<|iF c⟩,G 0])):=λc m X h=>by have:=Lz (C'<|O m 0) (ζ P.nd) c X h.at_ h.zJ;rwa[Za h.ok.ok h.ok.small,h.pr,h.len]at this
  go_wp2_with (first|(go_at_call 43;refine(s.o _ b.a).mono ?_;rintro e X ⟨m,c,rfl,k⟩;have f:=ſ k;clear k E g l t)|(go_at_call 42;refine(j.o c m X f.o).mono ?_;rintro e Y ⟨rfl,(g:J _)⟩));exact aC (v:=p' #[m' ⟨θ<|iF c⟩,G 0]) (by simp[results18,go_sem]) rfl ⟨o.o c f.o.pr f.o.gr f.o.ok f.o.zJ,aq (aq (aq (aq U.a r.o) b.a) f.o.b) g.o⟩
end
def Zr{P:Pm}{c:Ct}(h:gS P c=0):nZ P c=P':=by
 unfold gS at h;cases Y:nZ P c with
 |true=>rfl
 |false=>rw[Y]at h;simp at h
def VR{s:z'}{p:Int}{K:List PN}{E:List bD}{S:List (bD×Nat)}{c:Ct}(h:jG s=Pr.ok K E)(C:kN 0 [] (K.map PN.bL)=C' S)(d:ZF (e! K S<|ζ E) p c)(l:ny c):xB s ⟨θ<|iF c⟩=0/\xA s ⟨θ<|iF c⟩=c.nodes.map uh:=by
 have Q:È (⟨θ<|iF c⟩:z').1.1=C' c:=by show È (iF c).toArray.toList=C' c;rw[toList_toArray];exact EJ d.ok l d.small
 have:=Vi h C Q;rw[d.chk]at this;exact⟨this.1,by rw[this.2,aB rfl]⟩
section
variable {P:Pm}{c:Ct}
def Up(h:nZ P c=P'):c.nodes.all (A! (P.nv:Int))=P':=by
 rw[bZ];intro x F;unfold A!;cases a:x.reached with
 |false=>simp
 |true=>have:=(zR h).2 x F a;simp[this]
def abR(s:Au P)(o:ku c=P')(B:ny c)(h:gS P c=0):nZ P c=P'/\(c.aM<=4->sR P c.aM λf=>qM c f<|-1)/\(5<=c.aM->ę P c.aM (gq c<|-1)):=by
 have Y:=Zr h;have a:=(uR o).1;refine⟨Y,λU=>?_,λU=>?_⟩
 .unfold gS at h;rw[Y,ax ak,aB U]at h;cases y:JQ P c with
  |false=>rw[y]at h;simp at h
  |true=>exact(FQ P c).1 y
 have y:mB P c=P':=by
  unfold gS at h;rw[Y,ax ak,ax I]at h;cases y:mB P c with
  |false=>rw[y]at h;simp at h
  |true=>rfl
 have b:c.aM=5\/c.aM=6:=I
 have a:∀n,dZ c.aM P.nv (gq c (-1) n):=λn=>by
  rcases b with e|e
  .rw[e];exact gI (Ũ o e B.nodes<|Up Y).env _ n
  rw[e];exact(F6 o e B.nodes<|Up Y).ok n
 refine⟨a,λn K=>?_⟩;unfold mB at y;rw[bZ]at y;exact(jV (nH b s.cs n a)<|a n).1 (y n<|by rw[cq];exact K)
end
section
variable {m:List PN}{E:List bD}{S:List (bD×Nat)}
def YQ(h:jG s=Pr.ok m E):∀p∈m,∀y∈l4 p,GW y:=by
 obtain⟨_,_,_,b,_⟩:=kt h;obtain⟨a,V,u,_⟩:=BP _ _ _ _ _ b;rw[c!]at V;subst V;intro p U y B;have d:l4 p∈(A6 s).filter (λR=>!po R):=by rw[<-u];exact bp.2 ⟨p,U,rfl⟩
 exact TV s _ (C!.1 d).1 y B
def KS(h:jG s=Pr.ok m E):ζ (mJ m)<=3001/\∀p∈m,ζ (fU p)<=3001:=by
 obtain⟨f,_⟩:=kt h;have C:=DV h;have a:ζ (mJ m)<=3001:=I;refine⟨a,λp U=>br ?_ a⟩
 have:∀l:List PN,p∈l->ζ (fU p)<=ζ (mJ l):=λl=>by
  induction l with
  |nil=>intro h;cases h
  |cons q r B=>
   intro h;have e:mJ (q::r)=fU q++mJ r:=by simp[mJ]
   rw[e,aW];rcases cO.1 h with rfl|h
   .omega
   have:=B h;omega
 exact this m U
def acC(h:jG s=Pr.ok m E)(U:kN 0 [] (m.map PN.bL)=C' S):∀n∈(e! m S<|ζ E).nd,wV (e! m S<|ζ E).nv n:=λn K=>by obtain⟨p,g,rfl⟩:=bp.1 K;exact(Ex h U).nin p g
def Lt(h:jG s=Pr.ok m E)(U:kN 0 [] (m.map PN.bL)=C' S){F:List Int}(L:∀x∈F,dK x){f:Nat}(Y:f<=2000){c:Ct}(o:ku c=P')(B:ny c)(g:gS (e! m S<|ζ E) c=0){r:Int×List Int×List (Nat×List Int)}(t:r=h! m S f 0 (replicate (ζ E) 0) F [] [])(j k T:u')(C l w z:Nat)(W:t')(Q:eH W k r.2.2)(X:bX W T<|c.nodes.map uh):
  Cl 24 #[m'<|MZ s,G c.aM,k' #[G r.1,h' j C l,h' k (ζ r.2.2) w],h' T (ζ<|c.nodes.map uh) z] W (Rb W<|i' P'):=by
 have i:=D2 h U;have a:=acC h U;obtain⟨K,D,N⟩:=abR i o B g;have q:=YQ h;have b:∀p∈m,∀y∈p.ws,(32:UInt8)∉y.1.1:=λp g y e d=>by have:=(((zt<|q p g).1 y e).2 32 d).1;rw[LK]at this;cases this
 obtain⟨d,P⟩:=KS h;obtain⟨y,p,d,e,g⟩:=G4 m [] E (adQ h) q P;have u:=g S3 rfl;simp only[S3,c!]at u;have g:=aeD (ps:=S) h b;have v:=Xh h U L f;rw[<-t]at v;have R:ζ r.2.2<=2000:=by have:=(O6 m S f 0 (replicate (ζ E) 0) F [] []).1;rw[<-t]at this;simp at this;omega
 have b:=Yp i a g v R B K (uR o).1 D N;have a:MZ s=⟨θ<|mJ m⟩:=by rw[MZ,h]
 rw[a];refine Qt _ c.aM r.1 j k T C l w z (ζ E) r.2.2 _ _ _ W (uR o).1 (λV g=>?_) Q X b;have Y:=SS ⟨θ<|mJ m⟩ y V (by rw[p]) d (by rw[e];exact(by have:=i.ok.most;simpa[e!]using this)) (by show(mJ m).toArray.size<=100000;simp;omega);rw[show y.foldl eL S3=_ from u]at Y;exact Y
end
def Fq{x:Int}(h:-9223372036854775808<=x/\x<=9223372036854775807):wrap64 x=x:=by unfold wrap64;omega
def FI{d n:Int}(Q:0<=d)(K:0<n):0<=d.tmod n/\d.tmod n<n:=by rw[Int.tmod_eq_emod_of_nonneg Q];exact⟨Int.emod_nonneg _ I,Int.emod_lt_of_pos _ K⟩
def uP(c n:Int)(w:t')(T:-9223372036854775808<=c/\c<=9223372036854775807)(K:0<n/\n<=3000):
  Cl 16 #[G c,G n] w λe a=>a=w/\∃r:Nat,e=o' (G r)/\(r:Int)<n:=by
 have V:¬n=0:=I;by_cases h:c<0
 .have Y:=dM h;obtain⟨C,a⟩:=FI (d:=-(c+1)) (n:=n) I K.1;have B:J ((wrap64<|-(wrap64<|c+1)).tmod n=(-(c+1)).tmod n):=by show _=_;rw[Fq (x:=c+1) I,Fq (x:=-(c+1)) I]
  have d:J (0<=(-(c+1)).tmod n/\(-(c+1)).tmod n<n):=⟨C,a⟩;clear h C a;go_enter func16,ntmps16;go_wp2;go_ret;refine⟨rfl,((-(c+1)).tmod n).toNat,?_,?_⟩
  .rw[Da d.a,<-B.o];rfl
  have:=d.o;omega
 have Y:=di h;obtain⟨C,a⟩:=FI (d:=c) (n:=n) I K.1;have d:J (0<=c.tmod n/\c.tmod n<n):=⟨C,a⟩;clear h C a;go_enter func16,ntmps16;go_wp2;go_ret;refine⟨rfl,(c.tmod n).toNat,?_,?_⟩
 .rw[Da d.a];rfl
 have:=d.o;omega
section
variable {p:Prop}
attribute [local go_sem] Oper.semAt_some
abbrev FH(a b:A')(r:Nat):Obj:=j' #[a,b,G r] 38 (0,0)
def K8:(Tryz.prog.info? 2).map (λi=>(i.zero,i.size,i.bytes))=C' (C'<|G 0,1,8):=H
def BA{S:List Int}{j:Nat}{x:Int}(h:S[j]?=C' x):(S.take<|j+1).map G=(S.take j).map G++[G x]:=by have X:=(aV.1 h).1;rw[cX X,(aV.1 h).2,eR];rfl
def tn3(x y:u')(j c i d:Nat)(r:Int):(#[h' x j c,h' y i d,G r]).all (·.oneCell')=P':=all_oneCell_toArray (cs:=[h' x j c,h' y i d,G r]) (by
 intro u C;simp only[cO,g!,gC]at C
 rcases C with rfl|rfl|rfl<;>rfl)
def ŝ (h:p:=by
            go_wp2_with (first|(refine wpList_load_mid rfl 38 (.tmp 7) rfl (δ w.1+1) 0 rfl [h' a j c,h' a2 i c2,G r] _ YF underlying38 rfl H ?_)|(refine wpList_store_mid rfl 38 (.tmp 6) (.tmp 51) rfl w.1.size 0 #[h' a j c,h' a2 i c2,G r] rfl rfl ht H (tn3 _ _ _ _ _ _ _) ?_));have hq:=cm (cs:=[h' D' 0 0,h' D' 0 0,G 0]) HW.o (vs:=[h' a j c,h' a2 i c2,G r]) rfl;have C:=run_loadVar_mid (P:=Tryz.prog) (ψ wr w.1.size 0 [h' a j c,h' a2 i c2,G r]) w.1.size 0 38 _ _ (bf hq) underlying38 rfl H;refine aC (v:=k' #[h' a j c,h' a2 i c2,G r]) (by simp[results,results19,C,Act.put,asAddr]) rfl ⟨h' a j c,h' a2 i c2,r,rfl,I,?_,?_,cM (aD _) _ _ _ HQ.d⟩
            · have h1:=HL.b
              have e:=ck.A;rw[dG]at e;rw[ck.a,map_take]at h1;rw[e];exact⟨h1.1,h1.2.imp id λ⟨g,k,d,k1,k2,f,l⟩=>⟨g,k,d,k1,I,(dC _ _ _ _ _ I).trans<|(HQ.c g (L'<|À f) I).trans f,l⟩⟩
            have h1:=HQ.b;have e:=cd.A;rw[dG]at e;rw[cd.a,map_take]at h1;rw[e]
            exact⟨h1.1,h1.2.imp id λ⟨g,k,d,k1,k2,f,l⟩=>⟨g,k,d,k1,I,(dC _ _ _ _ _ I).trans f,l⟩⟩):p:=h
def Ş (h:p:=by
      go_loopw[9] (λiv wx=>∃(i:Nat)(a2:u')(c2:Nat),i<=n/\i<=20/\iv=G i/\J (wx.1[δ w.1+1]?=C' (FH (h' a j c) (h' a2 i c2) r)/\ρ wx B2 2 1 (h' a2 i c2) i ((ts.take i).map G)/\(∀q,q<B2->q≠δ w.1+1->wx.1[q]?=W5.1[q]?)/\Below w.1.size w wx/\B2<=δ wx.1)) (λiv _=>n-(intOf iv).toNat)
      case atStart=>exact⟨0,D',0,bq _,I,rfl,HL.a,cY _ _ _ _,λ_ _ _=>rfl,HL.d,I⟩
      obtain⟨i,a2,c2,hi,hi2,rfl,HQ⟩:=hrel;by_cases lG:i<n/\i<20;rotate_left
      · have cd:J (ts.take i=ts.take 20/\ζ (ts.take 20)=i):=by
          have:=HM.A;rcases iL i n with h|h
          · obtain rfl:i=20:=I
            exact⟨rfl,by rw[dG];omega⟩
          exact⟨by rw[b! I,b! I],by rw[dG];omega⟩
        have hw0:=(HQ.c w.1.size I I).trans HL.c;have YF:=bf (L:=[h' a j c,h' a2 i c2,G r]) HQ.a;have ht:=b5 (n:=3) hw0 rfl;have HW:=ſ hw0;clear hw0;have fy:(i:Int)<n->¬(i:Int)<20:=I;by_cases YI:(i:Int)<n
        · have hi4:=fy YI
          exact ŝ
        exact ŝ
      obtain⟨hl3,ah⟩:=lG;have lF:(i:Int)<n:=I;have gh:(i:Int)<20:=I;obtain⟨x,hx⟩:=La (l:=ts) (i:=i) (by rw[<-HM.A];exact hl3);obtain⟨b,o,rfl,c0⟩:=H0.A i x hx;have Wz:=ſ<|BA hx;have HC0:=ſ<|aA c0 HQ.d;have hbl:=dh c0;clear c0 hx;go_upto_region 9 with fail
      refine st (λW'=>W'.1[δ w.1+1]?=C' (FH (h' a j c) (h' a2 i c2) r)/\χ W' (O b<|o+i)=C' (G x)) 8 (hS:=⟨HQ.a,HC0.o⟩) (h:=λaE=>?_);refine tt 0 (n'<|C'<|O (δ w.1+1) 1) (h:=?_);refine tt 1 (h' a2 i c2) (y:=λW' bm=>by have k1:=(A bm.1).1;clear aE bm;go_simp) (h:=?_);refine tt 2 (h' (C'<|O b o) n tc) (h:=?_);refine tt 3 (G i) (h:=?_);refine tt 4 (n'<|C'<|O b<|o+i) (h:=?_);refine tt 5 (G x) (y:=λW' bm=>by have k1:=bm.2;clear aE bm;go_simp) (h:=?_);refine rt 6 (h:=λK hK=>?_);go_simp;refine hK.out _ _ (λ_=>⟨aF (cE wr.drew _) aE.1,aA aE.2<|cE wr.drew _⟩) ?_;clear hK K;refine pt ?_;refine NZ (F:=λV=>pX _ _ _ _ _ _ _ _ _ V) λT HT=>?_;have HF:=ſ<|bu HQ.b HT.A;have aa:=br HQ.D HT.A.size;refine rt 7 (h:=λK hK=>?_);refine dS rfl (.tmp 43) (.tmp 48) 23 rfl B2 2 i1 (G 0) 1 8 underlying23 ZL.a ZL.b ZL.c ZL.C rfl aj (h' a2 i c2) i ((ts.take i).map G) rfl HF.o (O wr.1.size 0) 1 1 [G x] rfl rfl (Nc HT.a) (by intro u hu;rw[eX.1 hu];rfl) (by unfold maxLen;omega) I aa ?_;intro v7 W7 o7 g7 n7;obtain⟨a7,c7,rfl⟩:=aX o7;have zM:∀q,q<B2->some q≠φ (h' a2 i c2):=λq hq e=>by have:=(HF.o.lt q e.symm).1;omega
      have Ep:∀q,q<B2->W7.1[q]?=wr.1[q]?:=λq hq=>(g7.block q (ep hq aa)<|zM q hq).trans<|HT.A.block q<|ep hq HQ.D;have H7:=ſ<|M ((Ep (δ w.1+1) I).trans HQ.a)<|M Ep<|M o7<|M (show Below B2 wr W7 from(HT.A.mono HQ.D).grown g7 aa λq e=>(HF.o.lt q e).1) g7.size;refine hK.out _ _ (λ_=>⟨H7.a,(bF<|Ep b I).trans HC0.o⟩) ?_;clear hK K o7 g7 n7 zM Ep aE;refine pt ?_;refine rt 8 (h:=λK hK=>?_);go_simp;refine hK.out _ _ (λh=>absurd h aj) ?_;clear hK K;refine pt ?_;refine rt 9 (h:=λK hK=>?_);have k1:=(A H7.a).1;have k2:=(A H7.a).2 1;go_simp
      refine hK.out _ _ (λh=>absurd h aj) ?_;clear hK K k1 k2;refine pt ?_;refine dt (h:=?_);have HY:J ((κ W7 (O (δ w.1+1) 1)<|h' a7 (i+1) c7).1[δ w.1+1]?=C' (FH (h' a j c) (h' a7 (i+1) c7) r)/\ρ (κ W7 (O (δ w.1+1) 1)<|h' a7 (i+1) c7) B2 2 1 (h' a7 (i+1) c7) (i+1) ((ts.take<|i+1).map G)/\(∀q,q<B2->q≠δ w.1+1->(κ W7 (O (δ w.1+1) 1)<|h' a7 (i+1) c7).1[q]?=W5.1[q]?)/\Below w.1.size w (κ W7 (O (δ w.1+1) 1)<|h' a7 (i+1) c7)/\B2<=δ (κ W7 (O (δ w.1+1) 1)<|h' a7 (i+1) c7).1):=by
        refine⟨by rw[aw H7.a];rfl,by rw[Wz.o];exact nO H7.c H7.a aj,λq h1 h2=>(bh _ _ _ _ h2).trans<|(H7.b q h1).trans<|HQ.c q h1 h2,(HQ.d.trans<|H7.d.mono I).setCell (Nat.le_succ _) _,?_⟩;have:=H7.D;have e:δ (κ W7 (O (δ w.1+1) 1)<|h' a7 (i+1) c7).1=δ W7.1:=by simp[World.setCell]
        rw[e];omega
      generalize κ W7 (O (δ w.1+1) 1) (h' a7 (i+1) c7)=Y at HY|-;go_wp2_with fail;go_roundw
      case rel=>exact⟨i+1,a7,c7,hl3,ah,f',HY.o⟩
      exact H'):p:=h
def LZ(C W:u')(qc tc:Nat)(ps ts:List Int)(f:Int)(w:t')(h1:b7 w C ps)(h2:b7 w W ts)(L:ζ ps<=maxLen)(E:ζ ts<=maxLen)(hn:dK f):
  Cl 19 #[h' C (ζ ps) qc,h' W (ζ ts) tc,G f] w λe C=>∃(a b:A')(r:Nat),e=o' (k' #[a,b,G r])/\r<=8/\ρ C w.1.size 3 1 a (ζ<|ps.take 200) ((ps.take 200).map G)/\ρ C w.1.size 2 1 b (ζ<|ts.take 20) ((ts.take 20).map G)/\Below w.1.size w C:=by
 have gk:=ſ λW=>uP f 9 W hn I;have H0:=ſ<|M h1 h2;obtain⟨N,X,U,B,D⟩:=cG nW;have l:J (_/\_/\_/\_):=⟨X,U,B,D⟩;obtain⟨i1,F,t,z,R⟩:=cG K8;have ZL:J (_/\_/\_/\_):=⟨F,t,z,R⟩;obtain⟨m,hm⟩:=Ea<|ζ ps;obtain⟨n,s⟩:=Ea<|ζ ts;rw[<-hm]at L|-;rw[<-s]at E|-;have HM:=ſ<|M hm s;unfold maxLen at L E;clear h1 h2 hm s X U B D F t z R;go_enter func19,ntmps19;go_upto_region 1 with fail
 refine oP (F:=Code.wp _ _ _ _) λf U=>?_;go_upto_region 2 with(go_at_call 16;refine(gk.o _).mono ?_;rintro e t ⟨rfl,r,rfl,hr⟩)
 refine oP (F:=Code.wp _ _ _ _) λV B=>?_;have C:=ſ<|M U.B B.B;have D:=U.B;have f:=B.b;rw[D]at f|-;clear D;go_wp2_with fail;have t:=C.o;go_loopw[8] (λiv wr=>∃(j:Nat)(a:u')(c:Nat),j<=m/\j<=200/\iv=G j/\J (wr.1[δ w.1+1]?=C' (FH (h' a j c) (h' D' 0 0) r)/\ρ wr V.1.size 3 1 (h' a j c) j ((ps.take j).map G)/\wr.1[δ w.1]?=C' (FH (h' D' 0 0) (h' D' 0 0) 0)/\Below w.1.size w wr/\δ V.1<=δ wr.1)) (λiv _=>m-(intOf iv).toNat)
 case atStart=>exact⟨0,D',0,bq _,I,rfl,f,cY _ _ _ _,aF B.a U.b,aq U.a B.a,aD _⟩
 obtain⟨j,a,c,hj,z,rfl,s⟩:=hrel;by_cases lG:j<m/\j<200;rotate_left
 .have HL:=ſ (M s.a<|M s.b<|M s.c<|M s.d s.D)
  obtain⟨B2,f⟩:=Ea wr.1.size;have f:=s.D;have ck:J (ps.take j=ps.take 200/\ζ (ps.take 200)=j):=by
   have:=HM.a;rcases iL j m with h|h
   .obtain rfl:j=200:=I;exact⟨rfl,by rw[dG];omega⟩
   exact⟨by rw[b! I,b! I],by rw[dG];omega⟩
  clear s;generalize wr=W5 at *;by_cases C:j<m
  .have lF:(j:Int)<m:=I;have f:¬(j:Int)<200:=I;go_wp2_with fail;exact Ş
  have lF:¬(j:Int)<m:=I;go_wp2_with fail;exact Ş
 obtain⟨hl3,ah⟩:=lG;have lF:(j:Int)<m:=I;have gh:(j:Int)<200:=I;obtain⟨x,hx⟩:=La (l:=ps) (i:=j) (by rw[<-HM.a];exact hl3);obtain⟨b,o,rfl,c0⟩:=H0.a j x hx;have Wz:=ſ<|BA hx;have HC0:=ſ<|aA c0 s.d;have hbl:=dh c0;clear c0 hx;go_upto_region 5 with fail
 refine st (λW'=>W'.1[δ w.1+1]?=C' (FH (h' a j c) (h' D' 0 0) r)/\χ W' (O b<|o+j)=C' (G x)) 8 (hS:=⟨s.a,HC0.o⟩) (h:=λaE=>?_);refine tt 0 (n'<|C'<|O (δ w.1+1) 0) (h:=?_);refine tt 1 (h' a j c) (y:=λW' bm=>by have k1:=(A bm.1).1;clear aE bm;go_simp) (h:=?_);refine tt 2 (h' (C'<|O b o) m qc) (h:=?_);refine tt 3 (G j) (h:=?_);refine tt 4 (n'<|C'<|O b<|o+j) (h:=?_);refine tt 5 (G x) (y:=λW' bm=>by have k1:=bm.2;clear aE bm;go_simp) (h:=?_);refine rt 6 (h:=λK hK=>?_);go_simp;refine hK.out _ _ (λ_=>⟨aF (cE wr.drew _) aE.1,aA aE.2<|cE wr.drew _⟩) ?_;clear hK K;refine pt ?_;refine NZ (F:=λV=>pX _ _ _ _ _ _ _ _ _ V) λT HT=>?_;have HF:=ſ<|bu s.b HT.A;have aa:=br s.D HT.A.size;have D:δ w.1+1<δ V.1:=I;refine rt 7 (h:=λK hK=>?_);refine dS rfl (.tmp 24) (.tmp 29) 36 rfl V.1.size 3 N (G 0) 1 8 underlying36 l.a l.b l.c l.C rfl aj (h' a j c) j ((ps.take j).map G) rfl HF.o (O wr.1.size 0) 1 1 [G x] rfl rfl (Nc HT.a) (by intro u hu;rw[eX.1 hu];rfl) (by unfold maxLen;omega) I aa ?_;intro v7 W7 o7 g7 n7;obtain⟨a7,c7,rfl⟩:=aX o7;have zM:∀q,q<δ V.1->some q≠φ (h' a j c):=λq hq e=>by have:=(HF.o.lt q e.symm).1;omega
 have Ep:∀q,q<δ V.1->W7.1[q]?=wr.1[q]?:=λq hq=>(g7.block q (ep hq aa)<|zM q hq).trans<|HT.A.block q<|ep hq s.D;have H7:=ſ<|M ((Ep (δ w.1+1) D).trans s.a)<|M ((Ep w.1.size I).trans s.c)<|M o7<|M (show Below V.1.size wr W7 from(HT.A.mono s.D).grown g7 aa λq e=>(HF.o.lt q e).1) g7.size;refine hK.out _ _ (λ_=>⟨H7.a,(bF<|Ep b I).trans HC0.o⟩) ?_;clear hK K o7 g7 n7 zM Ep aE;refine pt ?_;refine rt 8 (h:=λK hK=>?_);go_simp;refine hK.out _ _ (λh=>absurd h aj) ?_;clear hK K;refine pt ?_;refine rt 9 (h:=λK hK=>?_);have k1:=(A H7.a).1;have k2:=(A H7.a).2 0;go_simp
 refine hK.out _ _ (λh=>absurd h aj) ?_;clear hK K k1 k2;refine pt ?_;refine dt (h:=?_);have HY:J ((κ W7 (O (δ w.1+1) 0)<|h' a7 (j+1) c7).1[δ w.1+1]?=C' (FH (h' a7 (j+1) c7) (h' D' 0 0) r)/\ρ (κ W7 (O (δ w.1+1) 0)<|h' a7 (j+1) c7) V.1.size 3 1 (h' a7 (j+1) c7) (j+1) ((ps.take<|j+1).map G)/\(κ W7 (O (δ w.1+1) 0)<|h' a7 (j+1) c7).1[δ w.1]?=C' (FH (h' D' 0 0) (h' D' 0 0) 0)/\Below w.1.size w (κ W7 (O (δ w.1+1) 0)<|h' a7 (j+1) c7)/\δ V.1<=δ (κ W7 (O (δ w.1+1) 0)<|h' a7 (j+1) c7).1):=by
  refine⟨by rw[aw H7.a];rfl,by rw[Wz.o];exact nO H7.c H7.a aj,(bh _ _ _ _ I').trans H7.b,(s.d.trans<|H7.d.mono I).setCell (Nat.le_succ _) _,?_⟩;have:=H7.D;have e:δ (κ W7 (O (δ w.1+1) 0)<|h' a7 (j+1) c7).1=δ W7.1:=by simp[World.setCell]
  rw[e];omega
 generalize κ W7 (O (δ w.1+1) 0) (h' a7 (j+1) c7)=Y at HY|-;go_wp2_with fail;go_roundw
 case rel=>exact⟨j+1,a7,c7,hl3,ah,f',HY.o⟩
 exact H'
end
section
variable {B c n:Nat}{e:Ending}{a:u'}{D:List Int}
def OJ(w:t')(a:Env w):Cl 15 #[] w (Rb w<|i' P'):=by
 have hP:Cl 17 #[m' ⟨#[108,58,32,120,32,61,32,105,110,112,117,116,10,32,105,102,32,120,32,60,32,49,48,32,103,111,116,111,32,108,10,32,111,117,116,112,117,116,32,120,10,114,101,116,117,114,110]⟩] w (Rb w<|p' #[m' exO,G 0]):=by have:=ye UZ w a;rwa[U1.1,U1.2]at this
 have l:(exO.toList==[108,58,32,120,32,61,32,105,110,112,117,116,10,105,102,32,120,32,60,32,49,48,32,103,111,116,111,32,108,10,111,117,116,112,117,116,32,120,10,114,101,116,117,114,110,10])=P':=by rw[eT];rfl
 go_enter func15,ntmps15;go_wp2_with (go_at_call 17;refine hP.mono ?_;rintro e t ⟨rfl,l⟩);go_ret;exact⟨rfl,l⟩
def Ci{e:Nat}(h:ρ w B e 1 (h' a n c) n<|D.map G):b7 w a D/\n=ζ D/\n<=c/\c<=maxLen:=by
 have C:=h.1;rw[bA,rJ]at C;rcases h.2 with⟨R,D⟩|⟨g,a,Y,R,_,_,b,k,_⟩
 .simp at R;refine⟨λj x f=>?_,C.symm,I,by unfold maxLen;omega⟩;have:=(aV.1 f).1;omega
 simp at R;obtain⟨rfl,rfl⟩:=R;refine⟨λj x f=>⟨g,0,rfl,?_⟩,C.symm,b,k⟩;have:=h.cells (g:=g) rfl j (G x) (by rw[bH,f];rfl);rwa[fH]at this
def acj(h:ρ w B 3 1 (h' a n c) n<|D.map G)(F:∀x∈D,dK x)(g:0<δ w.1):∃N,N<δ w.1/\jQ w N (h' a n c):=by
 obtain⟨S,K,T,d⟩:=Ci h;subst K;rcases D with _|⟨y,z⟩
 .exact⟨0,g,a,[],c,rfl,T,d,λj x f=>by simp at f⟩
 obtain⟨b,o,rfl,k⟩:=S 0 y rfl;refine⟨b,dh k,_,y::z,c,rfl,T,d,λj x f=>?_⟩;obtain⟨X,b,e,i⟩:=S j x f;cases e;exact⟨o,rfl,F x<|aK f,i⟩
def ZO.at_{a:t'}{t:z'}(h:ZO w s t e a):∃(T:u')(r:Nat),e=o' (p' #[h' T (ζ<|xA s t) r,G<|xB s t])/\bX a T (xA s t)/\Bl w a:=by
 obtain⟨D,T,r,rfl,b,N,d,l,c⟩:=h;have X:ζ D=ζ (xA s t):=by rw[<-b];simp
 refine⟨T,r,by rw[X],?_,c⟩;rw[<-b];exact uS N λx F=>(d x F).own
def agD{a:t'}(h:Ģ w a s e):∃(p g:Int)(i:u')(n R:Nat)(a:Int),e=o' (p' #[k'<|gO p g i n R,G a])/\∀c,È s.1.1=C' c->p=c.aM/\g=c.cu:=by
 rcases h with⟨c,D,i,R,V,u,rfl,f,o,b⟩|⟨V,rfl⟩
 .exact⟨_,_,i,_,R,0,rfl,λd Q=>by rw[V]at Q;cases Q;exact⟨rfl,rfl⟩⟩
 exact⟨0,0,D',0,0,5,rfl,λd Q=>by rw[V]at Q;cases Q⟩
end
def ĉ(s:z')(p:Int)(x:z'):Prop:=∀pn vs,jG s=Pr.ok pn vs->∃ps c,kN 0 [] (pn.map PN.bL)=C' ps/\x=⟨θ<|iF c⟩/\c.aM=p/\c.cu=(if p=6 then 2 else 1)/\ZF (e! pn ps<|ζ vs) p c/\ny c
def ZP.at_{s:z'}{p:Int}{e:Ending}(h:ZP s p e):∃x,e=o' (p' #[m' x,G<|A2 s])/\ĉ s p x:=by
 unfold ZP at h;cases a:jG s with
 |inl b=>rw[a]at h;refine⟨⟨#[]⟩,?_,λK E f=>by rw[a]at f;cases f⟩;rw[show A2 s=if b then 2 else 1 by rw[A2,a];cases b<;>rfl];exact h
 |inr q=>rw[a]at h;obtain⟨S,c,C,f,N⟩:=h;refine⟨_,by rw[show A2 s=0 by rw[A2,a]];exact f,λK E d=>?_⟩;rw[a]at d;cases d;exact⟨S,c,C,rfl,N⟩
section
variable {t:z'}{m:List PN}{E:List bD}{F:List Int}
def M8(h:jG s=Pr.ok m E):∃S,kN 0 [] (m.map PN.bL)=C' S:=by
 obtain⟨_,_,o,_⟩:=kt h;simp only[i6,aS]at o;have b:=o.2;unfold ef at b;rw[D!]at b;cases e:kN 0 [] (m.map PN.bL)with
 |none=>rw[e]at b;simp at b
 |some S=>exact⟨S,rfl⟩
def Xi{S:List (bD×Nat)}(h:jG s=Pr.ok m E)(U:kN 0 [] (m.map PN.bL)=C' S)(a:ζ F<=100){f:Nat}(Y:f<=2000):Xj s F f=(0,h! m S f 0 (replicate (ζ E) 0) F [] [],ζ E):=by rw[Xj,h];simp only;rw[ax I];rw[ğ,U];simp only[rK]
def NI{a:t'}{v:A'}(h:CP w w.1.size v F)(c:Bl w a):CP a a.1.size v F:=by obtain⟨q,a,C,b,N,d⟩:=h;refine⟨q,a,C,b,N,λj x f=>?_⟩;obtain⟨b,o,e,L,T⟩:=d j x f;exact⟨b,o,e,ep L c.size,(bF<|c.block b L).trans T⟩
def Yv{B V:Nat}{m:u'}(X:100<ζ F)(h:CP w B (bk m (ζ F) V) F):CP w B (h' m (ζ<|F.take 100) V) (F.take 100):=by
 obtain⟨q,b,e,C,a,N⟩:=h;cases e;refine⟨_,_,rfl,I',a,λj x f=>?_⟩;have r:=(aV.1 f).1;rw[xH]at f;split at f
 .exact N j x f
 cases f
def ĕ(s:z')(c:Ct):Prop:=∃pn vs ps,jG s=Pr.ok pn vs/\kN 0 [] (pn.map PN.bL)=C' ps/\ku c=P'/\ny c/\gS (e! pn ps<|ζ vs) c=0
def acm{x:z'}{p:Int}(D:A2 s=0)(F:ĉ s p x):xB s x=0/\∃c,xA s x=c.nodes.map uh/\c.aM=p/\ĕ s c:=by
 cases a:jG s with
 |inl b=>exfalso;unfold A2 at D;rw[a]at D;cases b<;>cases D
 |inr q=>obtain⟨K,E⟩:=q;obtain⟨S,c,C,rfl,N,d,l,e⟩:=F K E a;obtain⟨b,k⟩:=VR a C l e;exact⟨b,c,k,N,K,E,S,a,C,l.ok,e,l.chk⟩
def acp(h:xB s t≠0):xA s t=[]:=by rw[xA,ax h]
def aco(D:A2 s=0)(h:xB s t=0):∃c,È t.1.1=C' c/\xA s t=c.nodes.map uh/\ĕ s c:=by
 cases a:jG s with
 |inl b=>exfalso;unfold A2 at D;rw[a]at D;cases b<;>cases D
 |inr q=>
  obtain⟨K,E⟩:=q;obtain⟨S,U⟩:=M8 a;cases Q:È t.1.1 with
  |none=>rw[(Vj a Q).1]at h;cases h
  |some c=>
   obtain⟨V,u⟩:=Vi a U Q;obtain⟨Y,_,_,F⟩:=vo Q;have f:gS (e! K S<|ζ E) c=0:=by rw[<-V];exact h
   rw[aB f]at u;exact⟨c,rfl,u,K,E,S,a,U,Y,F,f⟩
def Ę(s:z')(ins:List Int)(r:Int×List Int×List (Nat×List Int)):Prop:=∃pn vs ps f,jG s=Pr.ok pn vs/\kN 0 [] (pn.map PN.bL)=C' ps/\f<=2000/\r=h! pn ps f 0 (replicate (ζ vs) 0) ins [] []
def SE(D:A2 s=0)(F:List Int)(X:ζ F<=100)(m:u')(V f:Nat)(Y:f<=2000)(W:t')(a:Env W)(i:CP W W.1.size (bk m (ζ F) V) F):
  Cl 23 #[m' s,h' m (ζ F) V,G f] W λe g=>∃(r:Int×List Int×List (Nat×List Int))(j d:u')(q h k:Nat),e=o' (p' #[k' #[G r.1,h' j q h,h' d (ζ r.2.2) k],G 0])/\Ę s F r/\eH g d r.2.2/\Bl W g:=by
 cases c:jG s with
 |inl b=>exfalso;unfold A2 at D;rw[c]at D;cases b<;>cases D
 |inr q=>obtain⟨K,E⟩:=q;obtain⟨S,U⟩:=M8 c;have:=RE s F m V (f:Int) W a i;rw[Xi c U X Y]at this;refine this.mono ?_;rintro e g ⟨o,a,a,P,rfl,l⟩;obtain⟨j,h,rfl⟩:=aX l.1;obtain⟨d,k,rfl,_,p⟩:=Sk l;exact⟨_,j,d,_,h,k,rfl,⟨K,E,S,f,c,U,Y,rfl⟩,p,o⟩
def Ia{c:Ct}(a:ĕ s c)(B:∀x∈F,dK x){r:Int×List Int×List (Nat×List Int)}(z:Ę s F r)(j h T:u')(v o q t:Nat)(W:t')(u:eH W h r.2.2)(L:List Nd)(C:L=c.nodes.map uh)(p:bX W T L):
  Cl 24 #[m'<|MZ s,G c.aM,k' #[G r.1,h' j v o,h' h (ζ r.2.2) q],h' T (ζ L) t] W (Rb W<|i' P'):=by
 subst C;obtain⟨K,E,S,C,m,N,d,l⟩:=a;obtain⟨a,g,b,f,i,k,y,w⟩:=z;obtain⟨rfl,rfl⟩:a=K/\g=E:=by rw[C]at i;cases i;exact⟨rfl,rfl⟩
 obtain rfl:b=S:=by rw[m]at k;cases k;rfl
 exact Lt C m B y N d l w j h T v o q t W u p
end
def Ae{w a:t'}{q:Nat}{o:Obj}(h:w.1[q]?=C' o)(b:Bl w a):a.1[q]?=C' o:=(b.block q (by have:=(bG.1 h).1;exact this)).trans h
def Uy(s t:z')(u f fu:Int)(qa ta m:u')(qc tc ic:Nat)(S R F:List Int)(w:t')(l:Env w)(hT:kU w)(C:b7 w qa S)(h2:b7 w ta R)(hl1:ζ S<=maxLen)(I1:ζ R<=maxLen)(E:∀x∈S,dK x)(Q:∀x∈R,dK x)(L:dK u)(o:dK f)(K:dK fu)(d:∀x∈F,dK x)(i:CP w w.1.size (bk m (ζ F) ic) F):
  Cl 8 #[m' s,G u,h' qa (ζ S) qc,h' ta (ζ R) tc,G f,m' t,h' m (ζ F) ic,G fu] w (Rb w<|i' P'):=by
 have HE:=ſ l;have U:=ſ λW=>uP u 6 W L I;have gm:=ſ λW=>uP fu 2001 W K I;have V:=ſ λW (j:Bl w W)=>LZ qa ta qc tc S R f W (C.below j) (h2.below j) hl1 I1 o;obtain⟨y,v⟩:=Ea<|A2 s;have ee:J (∀W,Bl w W->Cl 17 #[m' s] W (Rb W<|p' #[m'<|MZ s,G y])):=λW j=>by rw[v];exact ye s W<|l.below j
 have D:J (∀W (a b:A') (r:Nat) (p:Int) (B:Nat) (c z:List Int),Bl w W->1<=p->p<=6->r<=8->ρ W B 3 1 a (ζ c) (c.map G)->ρ W B 2 1 b (ζ z) (z.map G)->(∀x∈c,dK x)->(∀x∈z,dK x)->ζ c<=200->ζ z<=20->Cl 18 #[m' s,G p,k' #[a,b,G r]] W λe g=>(∃x,e=o' (p' #[m' x,G y])/\ĉ s p x)/\Bl W g):=by intro W a b r p B c z j hp1 fo hr ha hb k hy lx ly;obtain⟨N,c1,rfl⟩:=aX ha;obtain⟨b1,Y,rfl⟩:=aX hb;have f:=l.below j;obtain⟨pb,u,hpk⟩:=acj ha k (by obtain⟨⟨te,pe,hc⟩,_⟩:=f;have:=dh hc;omega);rw[v];exact(Di s p pb N b1 (ζ c) c1 Y z r W f (hT.below j) ⟨hp1,fo⟩ hpk u lx (Ci hb).1 hy ly I).mono λe g h=>⟨h.1.at_,h.2⟩
 have bo:J (∀x W,Bl w W->Cl 20 #[m' s,m' x] W λe g=>∃(na:u')(nc:Nat),e=o' (p' #[h' na (ζ<|xA s x) nc,G<|xB s x])/\bX g na (xA s x)/\Bl W g):=λx W j=>(JB s x W (l.below j)<|hT.below j).mono λe g h=>h.at_;have q:J (∀W (p:Int) (a b:A') (r:Nat) B,Bl w W->1<=p->p<=6->r<=8->ρ W B 3 1 a (ζ<|S.take 200) ((S.take 200).map G)->ρ W B 2 1 b (ζ<|R.take 20) ((R.take 20).map G)->Cl 18 #[m' s,G p,k' #[a,b,G r]] W λe g=>(∃x,e=o' (p' #[m' x,G y])/\ĉ s p x)/\Bl W g):=λW p a b r B j C c h8 ha hb=>D.o W a b r p B _ _ j C c h8 ha hb (λx k=>E x<|lg k) (λx k=>Q x<|lg k) (Jo _ _)<|Jo _ _
 have P:J (y=0->∀W (f:Nat),Bl w W->f<=2000->Cl 23 #[m' s,h' m (ζ<|F.take 100) ic,G f] W λe g=>∃(r:Int×List Int×List (Nat×List Int))(oa sa:u')(ol oc sc:Nat),e=o' (p' #[k' #[G r.1,h' oa ol oc,h' sa (ζ r.2.2) sc],G 0])/\Ę s (F.take 100) r/\eH g sa r.2.2/\Bl W g):=λh0 W f j a=>by
  have k:CP W W.1.size (h' m (ζ<|F.take 100) ic) (F.take 100):=by
   by_cases X:100<ζ F
   .exact Yv X<|NI i j
   rw[b! I];exact NI i j
  exact SE (by rw[<-v];exact h0) _ (Jo _ _) m ic f a W (l.below j) k
 have a:ζ F<=ic:=by obtain⟨_,_,e,C,_⟩:=i;cases e;exact C
 have HI:J (∀x∈F.take 100,dK x):=λx k=>d x<|lg k;have T:ζ (F.take 100)=if 100<ζ F then 100 else ζ F:=by rw[dG];split<;>omega
 have fi:=ſ v;clear l hT C h2 E Q L o K D v i d;generalize ζ S=m at *;generalize ζ R=a at *;rw[T]at P;generalize F.take 100=a at *;generalize ζ F=il at *;clear T;go_enter func8,ntmps8;go_upto_region 2 with(go_at_call 15;refine(OJ w HE.o).mono ?_;rintro e a ⟨rfl,(d:J _)⟩)
 go_upto_region 4 with(first|(go_at_call 17;refine(ee.o _ d.o).mono ?_;rintro e o ⟨rfl,a⟩;have D:=ſ<|aq d.o a;clear a)|(go_at_call 16;refine(U.o _).mono ?_;rintro e F ⟨rfl,r,rfl,hr⟩))
 generalize a:(1+(r:Int))=k;have Q:1<=k:=I;have b:k<=6:=I;clear a hr U;have a:(y !=y)=Q':=ak;go_upto_region 5 with(first|(go_at_call 19;refine(V.o _ D.o).mono ?_;rintro e g ⟨m,o,r,rfl,h8,c,f,j⟩;have a:=ſ<|q.o g k m o r _ (aq D.o j) Q b h8 c f;have k:=ſ<|aq D.o j;clear h8 c f j)|(go_at_call 18;refine a.o.mono ?_;rintro e b ⟨⟨E,rfl,L⟩,l⟩;have K:=ſ<|aq k.o l;have i:=ſ L;clear l L))
 go_upto_region 7 with fail
 clear q a V ee HE d D k;by_cases h0:y=0;rotate_left
 .have a:(y !=0)=P':=by simp[h0]
  go_wp2_with fail;go_ret;exact⟨rfl,K.o⟩
 subst h0;obtain⟨q,c,d,v,l⟩:=acm fi.o.symm i.o;have cc:=ſ λW h=>bo.o E W h;rw[q]at cc;have au:=ſ<|M d l;subst v;have ar:=ſ<|P.o rfl;clear q d l i P;obtain⟨L,C⟩:=Ea<|xA s E;rw[<-C]at cc au;clear C;have q:=ſ λ(C:Int)(h:C=xB s t)(h2:C=0)=>aco fi.o.symm<|h.symm.trans h2;by_cases X:100<il
 case' pos=>
  have a:decide (100<(il:Int))=P':=dM I;have P:(100:Int)<=ic:=I;have D:100<=ic:=I;rw[aB X]at ar;go_upto_region 12 with fail
 case' neg=>
  have a:decide (100<(il:Int))=Q':=di I;rw[ax X]at ar;go_upto_region 12 with fail
 all_goals
  go_upto_region 13 with(first|(go_at_call 16;refine(gm.o _).mono ?_;rintro e U ⟨rfl,n,rfl,hn⟩)|(go_at_call 23;refine(ar.o _ n K.o I).mono ?_;rintro e a ⟨R,oa,sa,ol,oc,sc,rfl,v,b,c⟩;have a:=ſ<|aq K.o c;have an:=ſ<|M v b;clear v b c))
  refine oP (F:=Code.wp _ _ _ _) λV B=>?_;have b:=ſ<|M (aq a.o B.a)<|an.A.below B.a;have f:=ſ B.b;have g:=ſ B.B;go_upto_region 16 with(go_at_call 20;refine(cc.o _ b.a).mono ?_;rintro e a ⟨na,nc,rfl,d,c⟩;have a:=ſ<|M (aq b.a c)<|M (b.A.below c)<|M d c;clear d c)
  have c:=ſ<|Ae f.o a.C;obtain⟨y1,d⟩:=A c.o;go_upto_region 17 with(go_at_call 24;refine(Ia au.A HI.o an.a oa sa na ol oc sc nc _ a.b L au.a a.c).mono ?_;rintro e j ⟨rfl,w⟩;have i:=ſ<|M (aq a.a w)<|M (a.b.below w)<|Ae c.o w;clear w)
  clear y1 d a c b f g B;obtain⟨C,l⟩:=Ea<|xB s t;obtain⟨T,hT⟩:=Ea<|xA s t;have HY:=ſ<|q.o C l;have HZ:J (C≠0->T=[]):=λh=>by rw[hT];exact acp (by rw[<-l];exact h)
  have a:=ſ λW h=>bo.o t W h;rw[<-hT]at a HY;rw[<-l]at a;clear l hT bo q;go_upto_region 19 with(first|(go_at_call 20;refine(a.o _ i.a).mono ?_;rintro e a ⟨ma,mc,rfl,b,a⟩;have q:=ſ<|M (aq i.a a)<|M (i.b.below a)<|M (Ae i.B a) b;clear b a)|(go_at_call 22;refine(Fv t _).mono ?_;rintro e a ⟨v,l⟩;obtain⟨p,g,i,a,R,a,rfl,hd⟩:=agD v;have a:=ſ<|M (aq q.a l)<|M (q.b.below l)<|M (Ae q.c l)<|q.C.below l;have HD:=ſ hd;clear v l hd))
  refine oP (F:=Code.wp _ _ _ _) λp h=>?_;have v:=ſ<|M (aq a.a h.a)<|M (a.b.below h.a)<|M (Ae a.c h.a)<|a.C.below h.a;obtain⟨y1,d⟩:=A h.b;obtain⟨z1,z2⟩:=A v.c;by_cases l:C=0
  .subst l;obtain⟨c2,Y,d2,d3⟩:=HY.o rfl;obtain⟨rfl,rfl⟩:=HD.o c2 Y;have a:=ſ<|M d2 d3;clear Y d2 d3 HD HY HZ;go_wp2_with (go_at_call 24;refine(Ia a.A HI.o an.a oa sa ma ol oc sc mc _ v.b T a.a v.C).mono ?_;rintro e a ⟨rfl,b⟩;have a:=ſ<|aq v.a b;clear b y1 d z1 z2);go_ret;exact⟨rfl,a.o⟩
  have a:(C !=0)=P':=by simp[l]
  obtain rfl:=HZ.o l;go_wp2_with fail;go_ret;exact⟨rfl,v.a⟩
