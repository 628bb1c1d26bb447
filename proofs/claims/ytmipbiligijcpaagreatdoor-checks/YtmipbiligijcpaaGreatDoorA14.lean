import Derived.Test.YtmipbiligijcpaaGreatDoorA10
import Derived.Test.YtmipbiligijcpaaGreatDoorA11
namespace Go.Proofs.YtmipbiligijcpaaGreatDoor
set_option linter.all false
set_option maxHeartbeats 0
set_option maxRecDepth 99999
open Go.RowKit Go.Proofs Go.Maps Tryz List open List renaming length→ζ,toArray→θ open _root_.Array renaming size→δ open World renaming setCell→κ,ownsRow→ρ,cell?→χ,grownBy→ξ,setCells→ψ open Value renaming ownBlock→φ open Value renaming slice→i',bool→j',agg→l',string→m',pointer→o',tuple→t' open Obj renaming cells→k' open Ending renaming returned→p' open Option renaming some→B',none→C' open Bool renaming true→O',false→P'
variable {B c k n q t:Nat}{D:List A'}{W:u'}{g p:Int}
def JQ(m e g N nc:Nat)(f:x')(b:List Nd)(x:Nd)(r:Int)(w:u')(l:w.1[e]?=B' (k' #[i' f N nc] 46 (0,0)))(X:w.1[g]?=B' (k' #[G r] 3 (0,0)))(h:b9 w f b)(F:b[m]?=B' x)(s:m<N)(L:ζ x.vals<=8):
  Cl 237 #[G m,o' (B' (O e 0)),o' (B' (O g 0))] w (Rb w (l' (θ (KC.aU (k8 r x))))):=by
 have g:(m:Int)<N:=I;obtain⟨b,o,s,g,C,u,rc,D,rfl,T,t,z,B,V,E⟩:=h m x F;have Y:J (∀W,Bl w W->Cl 162 #[l' #[i' s (ζ x.facts) u,i' g (ζ x.aW) rc,j' x.aD,G x.rank,i' C (ζ x.vals) D],G r] W (Rb W (l' (θ (KC.aU (k8 (_:Int) x)))))):=λW j=>mx s g C _ u _ rc D x.aD x.rank r x.vals W (E.vals.below j) L;have U:=hid (A l (A X (A T (A t (A z (A B V))))));clear l X h F L T t z B V E;generalize k8 r x=z at Y⊢;generalize ζ x.facts=l at Y U;generalize ζ x.aW=E at Y U;generalize x.aD=j at Y U;generalize x.rank=f at Y U;generalize ζ x.vals=t at Y U;go_enter func237,ntmps237;go_upto_region 1 with fail
 refine gS (F:=Code.wp _ _ _ _) λV B=>?_;refine wp_region_held_drew (S:=λW'=>Bl w W') au B.b.drew (λaM=>?_);refine tr 0 (i' (B' (O b o)) N nc) (λW' bN=>(M (aL bN U.a)).1) ?_;refine tq 1 (G m) ?_;refine tq 2 (o' (B' (O b (o+m*5)))) ?_;refine tr 3 (l' #[i' s l u,i' g E rc,j' j,G f,i' C t D]) (λW' bN=>A (ax U.c bN) (A (ax U.d bN) (A (ax U.e bN) (A (ax U.f bN) (ax U.F bN))))) ?_;refine tr 4 (G r) (λW' bN=>(M (aL bN U.b)).1) ?_;refine r1 5 λK b=>?_;go_simp;refine(Y.o _ B.b.drew).mono ?_;rintro e Y ⟨rfl,f⟩;have e:J (Bl V Y):=H aQ.drew f;clear f;refine b.out _ _ (H B.b e.o) (λaM=>?_);clear b K;refine pt ?_;refine r1 6 λK b=>?_;rw[aB au];refine wp_store_mid 228 (.tmp 4) (.tmp 10) rfl w.1.size 0 (θ (KC.aU z)) rfl rfl (cY (n:=17) (aL e.o B.a) rfl) au (KC.bH _) ?_;refine b.out _ _ (dF aF _ _ _ (H B.b e.o)) (λaM=>?_);clear b K;refine pt ?_;refine wpAnyH_done au ?_ _;have hq:=df (cs:=[j' false,j' false,G 0,j' false,G 0,j' false,G 0,j' false,G 0,j' false,G 0,j' false,G 0,j' false,G 0,j' false,G 0]) (aL e.o B.a) (vs:=KC.aU z) rfl;have C:=run_loadVar_mid (P:=Tryz.prog) (ψ Y w.1.size 0 (KC.aU z)) w.1.size 0 228 (KC.aU z) _ (bG hq) underlying228 rfl au;go_wp2_with fail;refine aC (v:=l' (θ (KC.aU z))) (by simp[results,results237,C,Act.put,asAddr]) rfl ⟨rfl,aM⟩
def Ou(d s B i o g u C:Nat)(q:x')(P:Pm)(c:Ct)(r:Int)(w:u')(a:KC.yi w B d P)(Q:w.1[s]?=B' (k' #[.iface 328 (l' #[])] 381 (0,0)))(v:dC P)(x:wR P)(z:qA P)(F:ζ P.nx=ζ P.nd)(S:i<ζ P.nd)(X:ζ c.nodes=ζ P.nd)(T:U9 c P.nv)(l:0<=r)
  (y:w.1[o]?=B' (k' #[i' (B' (O d 0)) (ζ P.nd) (ζ P.nd),.func (.func 270) #[] (di s),.func (.func 272) #[] (di s)] 233 (0,0))) (f:w.1[g]?=B' (oZ i)) (b:w.1[u]?=B' (k' #[i' q (ζ P.nd) C] 46 (0,0))) (h:b9 w q c.nodes):
  Cl 236 #[G r,o' (B' (O o 0)),o' (B' (O g 0)),o' (B' (O u 0))] w (Rb w (l' (θ (KC.aU (KC.iy P (λm=>k8 r (c.at m)) i))))):=by
 have p:J (∀(W:u') (o:Nat),Bl w W->W.1[o]?=B' (k' #[G r] 3 (0,0))->Cl 210 #[KC.hJ d s (ζ P.nd),G i,.func (.func 237) #[] #[o' (B' (O u 0)),o' (B' (O o 0))]] W (Rb W (l' (θ (KC.aU (KC.iy P (λm=>k8 r (c.at m)) i)))))):=by
  intro W o j k;refine KC.uG d s B i _ P _ (λm=>k8 r (c.at m)) W (a.below j) (aL j Q) v x z F S (λm=>⟨jL c r m,T.rk v.nv l m,nR T.env _ _⟩) (λD w=>Tryz.call237 D w) λm d s g=>?_;have t:c.nodes[m]?=B' (c.at m):=by unfold Ct.at;rw[getD,bR I];rfl
  have R:ζ (c.at m).vals<=8:=by
   cases l:(c.at m).aD
   ·rw[(T.at m).2.2.2.2 l];simp
   rw[(T.at m).1 l];exact v.nv
  exact JQ m u o (ζ P.nd) C q c.nodes (c.at m) r s (aL g (aL j b)) (aL g k) ((h.below j).below g) t d R
 have U:=hid (A y f);clear a Q v x z F S X T l y f b h;generalize KC.iy P (λm=>k8 r (c.at m)) i=z at p⊢;generalize ζ P.nd=N at p U;simp only[KC.hJ]at p;go_enter func236,ntmps236;go_upto_region 1 with fail
 refine vZ (F:=Code.wp _ _ _ _) λV B=>?_;have E:=M (aL B.b U.a);have c:=M (aL B.b U.A);go_wp2_with (first|(go_at_call 210;refine(p.o _ w.1.size B.b B.a.1).mono ?_;rintro e Y ⟨rfl,b⟩;have a:=hid b;clear b E c;have U:=cY (n:=17) (aL a.o B.a.2) rfl)|(refine wpList_store_mid rfl 228 (.tmp 5) (.tmp 9) rfl (δ w.1+1) 0 (θ (KC.aU z)) rfl rfl U au (KC.bH _) ?_));have b:=df (cs:=[j' false,j' false,G 0,j' false,G 0,j' false,G 0,j' false,G 0,j' false,G 0,j' false,G 0,j' false,G 0,j' false,G 0]) (aL a.o B.a.2) (vs:=KC.aU z) rfl;have C:=run_loadVar_mid (P:=Tryz.prog) (ψ Y (δ w.1+1) 0 (KC.aU z)) (δ w.1+1) 0 228 (KC.aU z) _ (bG b) underlying228 rfl au;refine aC (v:=l' (θ (KC.aU z))) (by simp[results,results236,C,Act.put,asAddr]) rfl ⟨rfl,dF I _ _ _ (H B.b a.o)⟩
def tP(rb db B nc:Nat)(e:x')(P:Pm)(c:Ct)(w:u')(g:KC.yi w B rb P)(j:w.1[db]?=B' (k' #[.iface 328 (l' #[])] 381 (0,0)))(b:dC P)(l:wR P)(f:qA P)(F:ζ P.nx=ζ P.nd)(X:ζ c.nodes=ζ P.nd)(T:U9 c P.nv)(h:b9 w e c.nodes):
  Cl 164 #[KC.hJ rb db (ζ P.nd),i' e (ζ P.nd) nc] w (Rb w (j' ((range (ζ P.nd)).all (JR P c)))):=by
 have o:=b.most;have s:=hid (A g (A j (A b (A l (A f (A F (A X (A T h))))))));clear g j b l f F X T h;obtain⟨N,b⟩:=Ea (ζ P.nd);rw[<-b]at o⊢;have HN:=hid b;clear b;simp only[KC.hJ];go_enter func164,ntmps164;go_upto_region 1 with fail
 refine vZ (F:=Code.wp _ _ _ _) λf U=>?_;have E:=M U.a.2;go_wp2;clear E;generalize l' #[i' (B' (O rb 0)) N N,.func (.func 270) #[] (di db),.func (.func 272) #[] (di db)]=b;go_loopw[11] (λb wr=>∃k:Nat,k<=N/\b=G k/\J ((range k).all (JR P c)=O'/\Bl f wr)) (λb _=>N-(intOf b).toNat)
 case atStart=>exact⟨0,bj,rfl,rfl,aQ⟩
 obtain⟨k,hk,rfl,HK⟩:=hrel;have HW:J (Bl w wr):=H U.b HK.A;by_cases L:k<N;rotate_left
 ·have b:¬(k:Int)<N:=I;obtain rfl:N=k:=I;go_wp2;go_ret;exact⟨by rw[HK.a];rfl,HW.o⟩
 have b:(k:Int)<N:=I;have F:c.nodes[k]?=B' (c.at k):=by rw[Ct.at,getD,bR (by have:=s.g;have:=HN.o;omega)];rfl
 obtain⟨b,o,g,l,va,f,rc,x,rfl,T,c1,c2,c3,c4,c5⟩:=s.H.below HW.o k _ F;obtain⟨a1,a2,b,a4,a5⟩:=s.h.at k;have hv8:ζ (c.at k).vals<=8:=by
  cases hr:(c.at k).aD
  ·rw[a5 hr];simp
  rw[a1 hr];exact s.c.nv
 have hs:∀r:Int,0<=r->PR P.nv (KC.iy P (λm=>k8 r (c.at m)) k) (P.say 5 k (jL c r))/\kf 5 P.nv (P.say 5 k (jL c r)):=λr hr=>KC.nD s.c s.d s.e s.f (held:=λm=>k8 r (c.at m)) (at_:=jL c r) (λm=>⟨s.h.rk s.c.nv hr m,nR s.h.env _ _⟩) k;have Y:=s.h.rk s.c.nv (r:=(c.at k).rank+1) I k;obtain⟨t,o⟩:=Ea (KC.oH (k8 ((c.at k).rank+1) (c.at k)) (KC.iy P (λm=>k8 (c.at k).rank (c.at m)) k));obtain⟨er,her⟩:=Ea ((range (ζ (c.at k).vals)).all (erB (c.at k).vals λr=>KC.iy P (λm=>k8 r (c.at m)) k));have z:JR P c k=(t&&er):=by rw[o,her];rfl
 have HF:J ((t&&er)=P'->(range N).all (JR P c)=P'):=λh=>kR (k:=k) (z.trans h) L;have X:J ((t&&er)=O'->(range (k+1)).all (JR P c)=O'):=λh=>by rw[c8,HK.a,z,h];rfl
 have u:J (∀W,Bl wr W->Cl 162 #[l' #[i' g (ζ (c.at k).facts) f,i' l (ζ (c.at k).aW) rc,j' (c.at k).aD,G (c.at k).rank,i' va (ζ (c.at k).vals) x],G ((c.at k).rank+1)] W (Rb W (l' (θ (KC.aU (k8 ((c.at k).rank+1) (c.at k))))))):=λW j=>mx g l va _ f _ rc x _ _ _ _ W (c5.vals.below j) hv8;have N:J (∀(W:u') (g:Nat) (r:Int),0<=r->Bl wr W->W.1[g]?=B' (oZ k)->Cl 236 #[G r,o' (dO w.1.size),o' (B' (O g 0)),o' (B' (O (δ w.1+1) 0))] W (Rb W (l' (θ (KC.aU (KC.iy P (λm=>k8 r (c.at m)) k)))))):=by intro W g r hr j f;have C:=H HW.o j;have D:=aL j (aL HK.A U.a.1);have l:=aL j (aL HK.A U.a.2);rw[HN.o]at D l;exact Ou rb db B k w.1.size g (δ w.1+1) nc _ P c r W (s.a.below C) (aL C s.b) s.c s.d s.e s.f (by rw[<-HN.o];exact L) s.g s.h hr D f l (s.H.below C)
 have C:J (∀W,Bl wr W->Cl 272 #[l' (θ (KC.aU (k8 ((c.at k).rank+1) (c.at k)))),l' (θ (KC.aU (KC.iy P (λm=>k8 (c.at k).rank (c.at m)) k))),o' (B' (O db 0))] W (Rb W (j' t))):=by rw[o];exact λW j=>KC.pn _ _ db W (aL (H HW.o j) s.b) (λi=>(KC.eg Y (nR s.h.env _ _) i).2) (λi=>(KC.eg (hs _ b).1 (hs _ b).2 i).2)
 have s:J (∀(W:u') (g:Nat),Bl wr W->W.1[g]?=B' (oZ k)->Cl 238 #[i' va (ζ (c.at k).vals) x,.func (.func 236) #[] #[o' (dO w.1.size),o' (B' (O g 0)),o' (B' (O (δ w.1+1) 0))]] W (Rb W (j' er))):=by intro W g j f;rw[her];exact As va x _ _ _ (λr=>KC.iy P (λm=>k8 r (c.at m)) k) W (c5.vals.below j) hv8 (λD w=>Tryz.call236 D w) λv B _ r l=>N.o r g v.rank (a2 v B).2.1 (H j l) (aL l f)
 have l:J (∀(W:u') (g:Nat),Bl wr W->W.1[g]?=B' (oZ k)->Cl 236 #[G (c.at k).rank,o' (dO w.1.size),o' (B' (O g 0)),o' (B' (O (δ w.1+1) 0))] W (Rb W (l' (θ (KC.aU (KC.iy P (λm=>k8 (c.at k).rank (c.at m)) k)))))):=λW g j f=>N.o W g _ b j f;clear o her z Y hs a1 a2 a5 c5 hv8 F;generalize KC.iy P (λm=>k8 (c.at k).rank (c.at m)) k=f at l C;generalize k8 ((c.at k).rank+1) (c.at k)=W at u C;generalize(c.at k).facts.length=Y at u T;generalize(c.at k).aW.length=f at u c1;generalize(c.at k).aD=f at u c2;generalize(c.at k).rank=r at u c3 b a4 l;generalize(c.at k).vals.length=z at u c4 s;go_upto_region 4 with fail
 clear T c1 c2 c3 c4;refine vZ (F:=Code.wp _ _ _ _) λV B=>?_;have b:J ((_/\_)/\Bl wr V/\_):=⟨B.a,B.b,aL B.b (aL HK.A U.a.1)⟩;have E:=M b.a.2;go_upto_region 6 with(first|(go_at_call 162;refine(u.o _ b.b).mono ?_;rintro e Y ⟨rfl,j⟩;have o:=hid j;clear j E)|(refine wpList_store_mid rfl 228 (.tmp 8) (.tmp 21) rfl Y.1.size 0 (θ (KC.aU W)) rfl rfl (cY (n:=17) bV rfl) au (KC.bH _) ?_))
 refine TV (F:=Code.wp _ _ _ _) rfl λU g=>?_;have f:J (Bl wr U/\(_/\_)/\_/\_):=⟨H b.b (H o.o g.A),⟨aL g.A (aL o.o b.a.1),aL g.A (aL o.o b.a.2)⟩,aL g.A (aL o.o b.B),g.a⟩;generalize δ Y.1=b at f⊢;simp only[Act.put];refine wp_region_held_drew (S:=λW'=>Bl U W') au aQ.drew (λaM=>?_);refine tq 0 (o' (B' (O w.1.size 2))) ?_;refine tr 1 (.func (.func 272) #[] (di db)) (λW' bN=>(M (aL bN f.c)).1) ?_;refine tz 2 (l' (θ (KC.aU W))) ?_ (y:=yieldsIf_load_mid au _ _ rfl _ _ rfl _ _ (λW' bN=>bG (aL bN f.C)) underlying228 rfl au);refine tq 3 (.func (.func 236) #[] #[o' (dO w.1.size),o' (dO wr.1.size),o' (B' (O (δ w.1+1) 0))]) ?_;refine tq 4 (o' (B' (O (δ wr.1+1) 3))) ?_;refine tr 5 (G r) (λW' bN=>(M (aL bN f.b.2)).1) ?_;refine r1 6 λK b=>?_;go_simp;refine(l.o _ _ f.a.drew f.b.1).mono ?_;rintro e l ⟨rfl,j⟩;have g:J (Bl U l):=H aQ.drew j;clear j;refine b.out _ _ g.o (λaM=>?_);clear b K;refine pt ?_;refine r1 7 λK b=>?_;go_simp;refine(C.o _ (H f.a g.o)).mono ?_;rintro e l ⟨rfl,j⟩;have u:J (Bl U l):=H g.o j;clear j;refine b.out _ _ u.o (λaM=>?_);clear b K;refine pt ?_;cases t
 ·refine tq 8 (j' O') ?_;refine tq 9 (j' O') ?_;refine tn 10 ?_;refine tn 11 ?_;refine tn 12 ?_;refine tn 13 ?_;refine tn 14 ?_;refine tq 15 (j' O') ?_;refine wpAnyH_done au ?_ _;go_wp2;go_ret;exact⟨by rw[HF.o (by cases er<;>rfl)];rfl,H HW.o (H f.a u.o)⟩
 refine tq 8 (j' P') ?_;refine tq 9 (j' P') ?_;refine tq 10 (o' (B' (O (δ wr.1+1) 4))) ?_;refine tr 11 (i' va z x) (λW' bN=>(M (aL bN f.b.2)).1) ?_;refine tq 12 (.func (.func 236) #[] #[o' (dO w.1.size),o' (dO wr.1.size),o' (B' (O (δ w.1+1) 0))]) ?_;refine r1 13 λK b=>?_;go_simp;refine(s.o _ _ (H f.a u.o) (aL u.o f.b.1)).mono ?_;rintro e e ⟨rfl,j⟩;have z:J (Bl U e):=H u.o j;clear j;refine b.out _ _ z.o (λaM=>?_);clear b K;refine pt ?_;refine tq 14 (j' (!er)) ?_;refine tq 15 (j' (!er)) ?_;refine wpAnyH_done au ?_ _;clear aM;cases er
 ·go_wp2;go_ret;exact⟨by rw[HF.o (by trivial)];rfl,H HW.o (H f.a z.o)⟩
 go_wp2;go_roundw
 case rel=>exact⟨k+1,L,f',X.o (by trivial),H HK.A (H f.a z.o)⟩
 exact G'
section
variable {P:Pm}
def Uk{f v:Nat}(Y:f<P.facts 1)(R:v<P.nv):(P.Lc f=(v:Int))↔(f=v\/∃i,i<ζ P.nd/\gU (P.at i)=O'/\(P.at i).var=(v:Int)/\f=qh P i):=by
 unfold Pm.Lc;by_cases h:f<P.nv
 ·rw[aB h];constructor
  ·intro e;left;omega
  rintro(e|⟨i,C,a,N,d⟩)
  ·omega
  have:P.nv<=qh P i:=by unfold qh;omega
  omega
 rw[aA h];have X:f-P.nv<ζ (oz 0 P.nd):=by
  have e:P.facts 1=P.nv+ζ (oz 0 P.nd):=by simp[Pm.facts]
  omega
 cases Q:P.mT f with
 |none=>unfold Pm.mT at Q;rw[aA h,bR X]at Q;cases Q
 |some m=>
  obtain⟨C,a,N⟩:=qi.1 Q;simp only;constructor
  ·intro e;exact aK ⟨m,C,a,e,N⟩
  rintro(e|⟨i,N,k,j,a⟩)
  ·omega
  have:=qi.2 ⟨N,k,a⟩;rw[Q]at this;cases this;exact j
def abj(h:dC P){i:Nat}(S:i<ζ P.nd):Ed (vt P i):=by
 unfold vt;split
 ·rename_i Q;have:=h.var _ (at_mem S) (by simpa[gU]using Q);have:=h.nv;exact⟨C9 h I _ aF,J5 h S⟩
 exact⟨CB,CB⟩
def Fv(h:dC P)(F:ζ P.nx=ζ P.nd):Ia P 1 (v7 P (OE P) (vt P)):=by
 have p:=h.most;have d:=h.nv;have t:=y! h;have R:P.nv<=P.facts 1:=by simp[Pm.facts]
 refine⟨Nb h (λn=>?_) (λm d=>abj h d),t,?_,?_,?_,?_⟩
 ·unfold OE;split
  ·exact xw _ I
  exact CB
 ·intro n r a f Y;obtain⟨X,rfl⟩:=iU a;have e:P.st 1 n f=(n==0&&decide (f<P.nv)):=by simp[Pm.st]
  simp only;rw[e];unfold OE;by_cases D:n=0
  ·rw[aB D,Nv _ _ I Y,cj];simp[D];omega
  rw[aA D,mU];simp[D]
 ·intro n r a;obtain⟨X,rfl⟩:=iU a;exact TX (aI rfl) F
 ·intro n r a e l f Y;obtain⟨X,rfl⟩:=iU a;obtain⟨C,c⟩:=yG l;have u:P.ad 1 e.1 f=(P.mT f==B' e.1):=by simp[Pm.ad]
  rw[c,u];by_cases Q:gU (P.at e.1)=O'
  ·have b:(vt P e.1).add=qP P e.1:=by rw[vt,aB Q]
   rw[b,acM h C Y]
  have b:(vt P e.1).add=(0,0):=by rw[vt,aA Q];rfl
  have d:(P.mT f==B' e.1)=P':=by rw[kJ,Ne,bT,qi];exact λx=>Q x.2.1
  rw[b,d,mU,ur]
 intro n r a e l f Y;obtain⟨X,rfl⟩:=iU a;obtain⟨C,c⟩:=yG l;have u:P.ps 1 n e.1 f=!(gU (P.at e.1)&&(P.at e.1).var==P.Lc f):=by simp[Pm.ps]
 rw[c,u,ug];by_cases Q:gU (P.at e.1)=O'
 ·have R:=h.var _ (at_mem C) (by simpa[gU]using Q);obtain⟨v,c⟩:∃v:Nat,(P.at e.1).var=(v:Int):=⟨(P.at e.1).var.toNat,I⟩;have b:(vt P e.1).drop=wA P (ζ P.nd) v:=by rw[vt,aB Q,c];rfl
  have a:v<P.nv:=I;rw[b,UN h I I _ aF,Q,c,dW,cj,gX,ud,ud,bT];exact(Uk Y a).symm.trans ⟨Eq.symm,Eq.symm⟩
 have b:(vt P e.1).drop=(0,0):=by rw[vt,aA Q];rfl
 rw[b,mU];simp[Q]
end
def wy{w:u'}{B a:Nat}{c:List RR}{R:RS}(h:Sys w B a 2 393 404 c)(U:c.map RR.pr=P7 R):qz w B a R:=⟨c,h,U⟩
def ae7(P:Pm):kr (ζ P.nd) (SZ P)=P7 (wm P QP S0):=(UJ P QP S0).symm
def ae6(P:Pm):kr (ζ P.nd) (SY P)=P7 (wm P (ZT P.ex) (ZU P.ex)):=(UJ P (ZT P.ex) (ZU P.ex)).symm
def ae8(P:Pm):kr (ζ P.nd) (lkR P)=P7 (v7 P (λn=>if n=0 then pW (ζ P.ex) else(0,0)) (λm=>S2 P.ex (P.at m))):=(TY P _ _).symm
def Pm.rs(P:Pm)(p:Int):RS:=if p=1 then v7 P (OE P) (vt P) else if p=2 then wm P QP S0 else if p=3 then v7 P (λn=>if n=0 then pW (ζ P.ex) else(0,0)) (λm=>S2 P.ex (P.at m)) else wm P (ZT P.ex) (ZU P.ex)
def adL{P:Pm}(h:dC P)(F:ζ P.nx=ζ P.nd){p:Int}(U:1<=p/\p<=4):Ia P p (P.rs p):=by
 unfold Pm.rs;by_cases C:p=1
 ·subst C;rw[aB rfl];exact Fv h F
 rw[aA C];by_cases a:p=2
 ·subst a;rw[aB rfl];exact WH h
 rw[aA a];by_cases N:p=3
 ·subst N;rw[aB rfl];exact KD h F
 rw[aA N];obtain rfl:p=4:=I;exact WK h
section
variable {l:List BS}
def dE(l:List BS):List A':=l.flatMap fz
def Jr(l:List BS)(s:BS):dE (l++[s])=dE l++fz s:=by simp[dE]
def A2(l:List BS):ζ (dE l)=ζ l*2:=by
 induction l with
 |nil=>rfl
 |cons a l B=>simp only[dE,cN,bF,cC,fz,gN]at B⊢;omega
def A1:∀(l:List BS) (k:Nat) (z:BS),k<ζ l->((dE l).set (k*2) (Z z.1)).set (k*2+1) (Z z.2)=dE (l.set k z)
 |[],k,z,h=>by simp at h
 |a::l,0,z,_=>by simp[dE,fz]
 |a::l,k+1,z,h=>by have B:=A1 l k z (I' h);have V:(k+1)*2=k*2+1+1:=I;have u:(k+1)*2+1=k*2+1+1+1:=I;simp only[dE,cN,fz,cW,ej,cO,V]at B⊢;rw[B]
def EY:∀(l:List BS) (k:Nat) (s:BS),l[k]?=B' s->(dE l)[k*2]?=B' (Z s.1)/\(dE l)[k*2+1]?=B' (Z s.2)
 |[],k,s,h=>by simp at h
 |a::l,0,s,h=>by simp at h;subst h;simp[dE,fz]
 |a::l,k+1,s,h=>by have B:=EY l k s (I' h);have V:(k+1)*2=k*2+1+1:=I;simp only[dE,cN,fz,cW,ej,V,nj]at B⊢;exact B
def F0{z:BS}(h:ρ W B t 2 (i' (B' (O q 0)) n c) n (dE l))(a:k<n):
  ρ (κ (κ W (O q (k*2)) (Z z.1)) (O q (k*2+1)) (Z z.2)) B t 2 (i' (B' (O q 0)) n c) n (dE (l.set k z)):=by
 have X:ζ l=n:=by have:=h.1;rw[A2]at this;omega
 refine⟨by rw[A2,de,X],?_⟩;rcases h.2 with⟨a,_⟩|⟨g,b,Y,V,u,e,f,o,b,d⟩
 ·cases a
 simp at V;obtain⟨rfl,rfl⟩:=V;refine aK ⟨q,c,_,rfl,u,aq (aq e _) _,f,o,by simp[b],?_⟩;rw[I4,I4,take_set,take_set,d];exact A1 l k z I
def p9{s:BS}(h:ρ W B t 2 (i' (B' (O q 0)) n c) n (dE l))(a:l[k]?=B' s):
  (χ W (O q (k*2))=B' (Z s.1)/\W.frozen? (O q (k*2))=P')/\χ W (O q (k*2+1))=B' (Z s.2)/\W.frozen? (O q (k*2+1))=P':=by
 have T:=λj u f=>h.cells (g:=q) rfl j u f
 obtain⟨C,c⟩:=EY l k s a;have f:∀o,W.frozen? (O q o)=P':=by
  rcases h.2 with⟨a,_⟩|⟨g,b,Y,V,u,b,_⟩
  ·cases a
  simp at V;obtain⟨rfl,rfl⟩:=V;exact(M b).2
 refine⟨⟨?_,f _⟩,?_,f _⟩
 ·have:=T _ _ C;simp only[Addr.add]at this;by_cases b:k*2=0
  ·simpa[b]using this
  simpa[b]using this
 have:=T _ _ c;simpa[Addr.add]using this
def jJ{b m o:Nat}{v u:A'}{D:List A'}(h:ρ W B t m v n D)(c:φ v=C'\/φ v≠B' b):ρ (κ W (O b o) u) B t m v n D:=by
 refine⟨h.1,?_⟩;rcases h.2 with a|⟨g,b,Y,V,u,d,e⟩
 ·exact aI a
 refine aK ⟨g,b,Y,V,u,(aJ ?_).trans d,e⟩;rintro rfl;rw[V]at c;rcases c with h|h
 ·cases h
 exact h rfl
end
section
variable {P:Pm} {N Q v o m:Nat} {L:Array A'}
def Ko(j:Nat):List BS:=(range j).map λv=>eY [v]
def O5(j:Nat):Ko (j+1)=Ko j++[eY [j]]:=by simp[Ko,nY]
def nC(P:Pm)(N k:Nat):List BS:=(range N).map λi=>if i<k then qP P i else(0,0)
def pg(P:Pm)(nv k:Nat):List BS:=(range nv).map (wA P k)
def OG(P:Pm)(N:Nat):nC P N 0=replicate N (0,0):=by refine IF.2 ⟨by simp[nC],λb a=>?_⟩;obtain⟨n,_,rfl⟩:=cZ.1 a;simp
def Sm(P:Pm)(N:Nat):nC P N N=(range N).map (qP P):=iD λn K=>by simp[eQ.1 K]
def Wc(a:k<N):(nC P N k)[k]?=B' (0,0):=by simp[nC,a]
def Sl(a:k<N):(nC P N k).set k (qP P k)=nC P N (k+1):=by
 refine lV λi=>?_;rw[fG];simp only[nC,b!,Co,cg];by_cases h:k=i
 ·subst h;simp[a]
 have e:i<k+1↔i<k:=I;by_cases S:i<N
 ·simp[h,e,S]
 simp[h,S]
def OH(Q:gU (P.at k)=P'):nC P N (k+1)=nC P N k:=by
 refine iD λi _=>?_;by_cases h:i=k
 ·subst h;simp[qP,Q]
 have e:i<k+1↔i<k:=I;simp[e]
def Mt(R:v<Q):(pg P Q k)[v]?=B' (wA P k v):=by simp[pg,R]
def Sk(R:v<Q)(a:gU (P.at k)=O')(l:(P.at k).var=(v:Int)):(pg P Q k).set v (oo (wA P k v) (qP P k))=pg P Q (k+1):=by
 refine lV λi=>?_;rw[fG];simp only[pg,b!,Co,cg];by_cases h:v=i
 ·subst h;simp[R,ph,a,l]
 have e:¬((v:Int)=i):=I;by_cases S:i<Q
 ·simp[h,S,ph,a,l,e]
 simp[h,S]
def OD(a:gU (P.at k)=P'):pg P Q (k+1)=pg P Q k:=iD λi _=>by rw[ph];simp[a]
def TF.cell{f:Nat×Nat}{v:A'}(h:W.1[q]?=B' (k' L t f))(a:B<=q):TF B t t W (κ W (O q o) v):=by refine⟨aQ.setCell a _,λp s b a e C _=>aJ ?_⟩;rintro rfl;rw[h]at e;simp at e;exact C e.2.1.symm
def TF.aas{b:Nat}{v g:A'}(h:W.1[q]?=B' (c7 L t))(a:B<=q):TF B t t W (κ (κ W (O q o) v) (O q b) g):=(TF.cell h a).trans (TF.cell (aq h _) a)
def jK(h:ρ W B t m (i' (B' (O q 0)) n c) n D):B<=q/\∃Y,W.1[q]?=B' (c7 Y t):=by
 rcases h.2 with⟨a,_⟩|⟨g,b,Y,V,u,b,_⟩
 ·cases a
 simp at V;obtain⟨rfl,rfl⟩:=V;exact⟨u,Y,b⟩
def FZ{a:x'}(h:ρ W B t m (i' a n c) n D)(K:0<n):∃q,a=B' (O q 0):=by
 rcases h.2 with⟨e,u⟩|⟨g,a,Y,V,_⟩
 ·omega
 simp at V;exact⟨g,V.1⟩
def wb(g W:Nat)(nl:List NC)(P:Pm)(w:u')(hP:PM w g W nl P)(c:dC P):
  Cl 281 #[i! g (ζ P.nd) W P.nv] w λe w'=>∃ob va vc,e=p' (t' #[i' (B' (O ob 0)) (ζ P.nd) (ζ P.nd),i' va P.nv vc,G (P.facts 1:Int)])/\ρ w' w.1.size 267 2 (dU ob (ζ P.nd)) (ζ P.nd) (dE ((range (ζ P.nd)).map (qP P)))/\ρ w' w.1.size 267 2 (aO va P.nv vc) P.nv (dE (pg P P.nv (ζ P.nd)))/\Bl w w':=by
 obtain⟨i0,S,D,b,a⟩:=cQ Dy;have u:J (_/\_/\_/\_):=⟨S,D,b,a⟩;clear S D b a;have p:=c.most;have M7:=c.nv;have HH:=hid (A hP c);obtain⟨N,b⟩:=Ea (ζ P.nd);obtain⟨Q,a⟩:=Ea P.nv;rw[<-b]at p;rw[<-a]at M7;rw[<-b,<-a];have K:=hid (A b a);clear hP c b a;simp only[i!];go_enter func281,ntmps281;go_upto_region 1 with(fail)
 generalize hge:w.alloc (k' (e! g N W Q) 86)=W0;have U:J (Bl w W0/\d' W0 w.1.size (e! g N W Q) 86):=by subst hge;exact⟨bf,bV⟩
 clear hge;have x1:=M U.A;have a:=blt U.A;go_upto_region 2 with(at_make;refine j8 _ rfl (.tmp 10) (.tmp 10) 264 rfl w.1.size 267 i0 _ 2 underlying264 u.a u.b u.c .i64 .i64 N N N rfl rfl rfl rfl (by rw[u.C];omega) (by unfold maxLen;omega) I ?_;intro t b d;have V:=hid (A b d);clear b d)
 have HW:J (Bl w t/\d' t w.1.size (e! g N W Q) 86/\ρ t w.1.size 267 2 (dU W0.1.size N) N (dE (replicate N (0,0)))):=by
  have C:=V.a;rw[ik _ 2 (by simp[Value.cells]) N]at C;have e:(replicate N ([Z 0,Z 0])).flatten=dE (replicate N (0,0)):=by simp[dE,fz,flatMap,map_replicate]
  refine⟨U.a.grown V.A I (λq e=>by cases e),(V.A.block w.1.size a ak).trans U.A,?_⟩;rw[<-e];exact C
 have hob:δ w.1<δ W0.1:=a;generalize δ W0.1=ob at HW hob⊢;clear a x1;have x1:=M HW.b;go_wp2;clear x1;go_loopw[3,14] (λp y wr=>∃(j:Nat) (a:x') (c:Nat),j<=Q/\y=G j/\p=i' a j c/\J (ρ wr t.1.size 267 2 (i' a j c) j (dE (Ko j))/\Bl t wr)) (λ_ y _=>Q-(intOf y).toNat)
 case atStart=>exact⟨0,C',0,bj,rfl,rfl,cb,aQ⟩
 obtain⟨j,a,c,hj,rfl,rfl,HK⟩:=hrel;by_cases L:j<Q
 ·have iz:(j:Int)<Q:=I;have s:J (∀X b,χ X (O b 0)=B' (G j)->Cl 241 (qK b) X (Rb X (dh (eY [j])))):=λX b T=>nM X b j I T;have Ql:J (dE (Ko (j+1))=dE (Ko j)++fz (eY [j])):=by show _=_;rw[O5,Jr]
  obtain⟨S,Es⟩:=Ea (eY [j]);rw[<-Es]at s Ql;clear Es;simp only[dh]at s;go_wp2_with (first|(go_at_call 241;refine(s.o _ _ ak).mono ?_;rintro e U ⟨rfl,p⟩;have D:=hid (H bf p);clear p)|(at_builtin;refine gu rfl _ _ 264 rfl t.1.size 267 i0 (l' #[Z 0,Z 0]) 2 16 underlying264 u.a u.b u.c u.C rfl aj (i' a j c) j (dE (Ko j)) rfl ((aZ HK.a D.o).alloc _) (O U.1.size 0) 1 1 [Z S.1,Z S.2] rfl rfl (F? (cv U _)) (by intro u p;simp at p;rcases p with rfl|rfl<;>rfl) (by simp only[maxLen];omega) I (by have:=(H HK.A D.o).size;simp;omega) ?_;intro U l o9 g9 _;obtain⟨a9,c9,rfl⟩:=aV o9;have H9:=hid (A o9 g9);clear o9 g9));go_roundw
  case rel=>
   refine⟨j+1,a9,c9,L,f',rfl,?_,?_⟩
   ·rw[Ql.o];exact H9.a
   exact((H HK.A D.o).alloc (H HK.A D.o).size _).grown H9.A (by have:=(H HK.A D.o).size;simp;omega) (λq e=>((aZ HK.a D.o).lt q e).1)
  exact G'
 have iz:¬(j:Int)<Q:=I;obtain rfl:j=Q:=I;have x1:=M (aL HK.A HW.b);go_wp2;clear x1;have HT:J (ρ wr w.1.size 267 2 (dU ob N) N (dE (nC P N 0))/\ρ wr t.1.size 267 2 (i' a j c) j (dE (pg P j 0))/\PM wr g W nl P/\Bl w wr/\ob<δ t.1/\δ t.1<=δ wr.1):=by have C:=HW.B;obtain⟨_,Y,T⟩:=jK C;exact⟨by rw[OG];exact aZ C HK.A,HK.a,HH.a.below (H HW.a HK.A),H HW.a HK.A,blt T,HK.A.size⟩
 have HC0:J (qh P 0=j):=by show _=_;rw[Uh];exact K.A.symm
 obtain⟨W2,h⟩:=Ea wr;subst h;go_loopw[4,29] (λg y wr=>∃(k:Nat),k<=N/\y=G k/\g=G (qh P k:Int)/\J (ρ wr w.1.size 267 2 (dU ob N) N (dE (nC P N k))/\ρ wr t.1.size 267 2 (i' a j c) j (dE (pg P j k))/\TF w.1.size 267 267 W2 wr)) (λ_ y _=>N-(intOf y).toNat)
 case atStart=>exact⟨0,bj,rfl,by rw[HC0.o],HT.a,HT.b,AF⟩
 obtain⟨k,g,rfl,rfl,f⟩:=hrel;by_cases L:k<N;rotate_left
 ·have iz:¬(k:Int)<N:=I;obtain rfl:k=N:=I;have g:J (qh P k=P.facts 1):=by show _=_;rw[K.a];exact XD P
  generalize qh P k=dk at g⊢;go_wp2;refine aC (v:=t' #[i' (B' (O ob 0)) k k,i' a j c,G dk]) (by simp[results281,go_sem]) rfl ⟨ob,a,c,by rw[g.o],?_,?_,?_⟩
  ·rw[<-Sm];exact f.a
  ·have:=pq f.b (bD (rj hob) (rj HT.e));exact this
  exact HT.d.trans f.B.low
 have iz:(k:Int)<N:=I;have Ep:δ w.1<=δ wr.1:=bD HT.d.size f.B.low.size;have R:=HT.c.tf f.B aj aj aj aj;obtain⟨r,a,T,F,i,_,TB,_⟩:=R.nodes (by rw[<-K.a];exact L);have E:=λj (hj:j<14)=>(mR R T j hj);have d:=aT F;obtain⟨v,GH⟩:=Ea r.n;rw[<-GH]at E F i d;simp only[NC.wv,NC.ev]at E;generalize r.bu=bu at E;generalize r.wa=wa at E;generalize r.wl=wl at E;generalize r.wc=wc at E;generalize r.ea=ea at E;generalize r.el=el at E;generalize r.ec=B at E;have Ec:J (∀W,Cl 282 #[l' (aR bu (i' wa wl wc) v (i' ea el B))] W (Rb W (j' (gU v)))):=λW=>(lL bu _ _ v W (HH.A.aG v d).1).mono λe w' V=>⟨V.1,by rw[V.2];exact bf⟩;have U!:J (gU v=O'->0<=v.var/\v.var<j):=λh=>by have:=HH.A.var v d (by simpa[gU]using h);have:=K.A;omega
 have HDN:J (qh P (k+1)=if gU v then qh P k+1 else qh P k):=by have:=Ui (P:=P) (k:=k) (by rw[<-K.a];exact L);rwa[i]at this
 have HDM:J (gU v=O'->qh P k<128):=λh=>by have:=DV (P:=P) (k:=k) (by rw[<-K.a];exact L) (by rw[i];exact h);have:=y! HH.A;omega
 have HRC:J (qP P k=if gU v then eY [qh P k] else(0,0)):=by show _=_;rw[qP,i]
 have HAT:J (gU (P.at k)=gU v/\(P.at k).var=v.var):=by rw[i];exact⟨rfl,rfl⟩
 obtain⟨ok,o⟩:=Ea (gU v);rw[<-o]at Ec U! HDN HDM HRC HAT;obtain⟨x,var,op,test,⟨ai,av,ac⟩,⟨bi,bv,bc⟩,bB⟩:=v;have v:=N9 E;simp only[aR,dh]at Ec U! HAT;clear E o GH F i d T R TB;obtain⟨dk,d⟩:=Ea (qh P k);rw[<-d]at HDN HDM HRC⊢;clear d;go_upto_region 11 with(fail)
 generalize d:wr.alloc (k' #[m' bu,i' wa wl wc,G x,G var,G op,G test,j' ai,G av,G ac,j' bi,G bv,G bc,i' ea el B,m' bB] 152)=V;have HV:J (Below wr.1.size wr V/\d' V wr.1.size #[m' bu,i' wa wl wc,G x,G var,G op,G test,j' ai,G av,G ac,j' bi,G bv,G bc,i' ea el B,m' bB] 152):=by subst d;exact⟨bf,bV⟩
 clear d v;have x1:=M HV.A;cases ok
 ·go_wp2_with (go_at_call 282;refine(Ec.o _).mono ?_;rintro e W6 ⟨rfl,E⟩;have o:=hid (H HV.a E);clear E x1);go_roundw
  case rel=>
   refine⟨k+1,L,f',by rw[HDN.o];rfl,?_,?_,?_⟩
   ·rw[OH HAT.a];exact aZ f.a o.o
   ·rw[OD HAT.a];exact aZ f.b o.o
   exact f.B.trans (TF.aX o.o Ep)
  exact G'
 have R:=U!.o rfl;obtain⟨F,rfl⟩:∃F:Nat,var=(F:Int):=⟨var.toNat,J' R.1⟩;have hvj:F<j:=by have:=R.2;omega
 have hd8:dk<128:=HDM.o rfl;obtain⟨q,rfl⟩:=FZ f.b I;have nq:q≠ob:=by have:=(jK f.b).1;have:=HT.e;omega
 have s:J (∀X b,χ X (O b 0)=B' (G dk)->Cl 241 (qK b) X (Rb X (dh (eY [dk])))):=λX b T=>nM X b dk hd8 T;have v:J (∀(X:u') (b:Nat),χ X (O b 0)=B' (Z ((wA P k F).1:Int))->χ X (O b 1)=B' (Z ((wA P k F).2:Int))->χ X (O b 2)=B' (Z ((qP P k).1:Int))->χ X (O b 3)=B' (Z ((qP P k).2:Int))->Cl 267 (xk b) X (Rb X (dh (oo (wA P k F) (qP P k))))):=by have C:=K.a;have h2:=K.A;have a:=HH.A.nv;exact λX b g Q p a=>kz X b _ _ (C9 HH.A I k I) (J5 HH.A I) g Q p a
 have d:J ((pg P j k)[F]?=B' (wA P k F)/\(pg P j k).set F (oo (wA P k F) (qP P k))=pg P j (k+1)/\(nC P N k).set k (qP P k)=nC P N (k+1)/\(nC P N k)[k]?=B' (0,0)/\(nC P N (k+1))[k]?=B' (qP P k)):=⟨Mt hvj,Sk hvj HAT.a HAT.A,Sl L,Wc L,by simp[nC,L]⟩;obtain⟨S,Es⟩:=Ea (eY [dk]);have hrc:qP P k=S:=by rw[HRC.o,Es];rfl
 rw[hrc]at d v;rw[<-Es]at s;obtain⟨u1,hu1⟩:=Ea (oo (wA P k F) S);rw[<-hu1]at d v;obtain⟨a,i⟩:=Ea (wA P k F);rw[<-i]at d v;clear R Es hrc hu1 i;simp only[dh]at s v;go_upto_region 12 with(go_at_call 282;refine(Ec.o _).mono ?_;rintro e W6 ⟨rfl,E⟩;have o:=hid (H HV.a E);have r:=hid (aL E HV.A);clear E x1)
 go_upto_region 13 with(go_at_call 241;refine(s.o _ _ ak).mono ?_;rintro e b ⟨rfl,g⟩;have a:=hid (H bf g);clear g;have z1:=p9 (aZ f.a (H o.o a.o)) d.d)
 have i:J (ρ (κ (κ b (O ob (k*2)) (Z S.1)) (O ob (k*2+1)) (Z S.2)) w.1.size 267 2 (dU ob N) N (dE (nC P N (k+1)))/\ρ (κ (κ b (O ob (k*2)) (Z S.1)) (O ob (k*2+1)) (Z S.2)) t.1.size 267 2 (i' (B' (O q 0)) j c) j (dE (pg P j k))/\TF w.1.size 267 267 W2 (κ (κ b (O ob (k*2)) (Z S.1)) (O ob (k*2+1)) (Z S.2))/\d' (κ (κ b (O ob (k*2)) (Z S.1)) (O ob (k*2+1)) (Z S.2)) wr.1.size #[m' bu,i' wa wl wc,G x,G F,G op,G test,j' ai,G av,G ac,j' bi,G bv,G bc,i' ea el B,m' bB] 152/\δ w.1<=δ (κ (κ b (O ob (k*2)) (Z S.1)) (O ob (k*2+1)) (Z S.2)).1):=by
  have p:=H o.o a.o;have C:=aZ f.a p;obtain⟨hl,Y,T⟩:=jK C;have g:TF w.1.size 267 267 b (κ (κ b (O ob (k*2)) (Z S.1)) (O ob (k*2+1)) (Z S.2)):=TF.aas T hl;have E:φ (i' (B' (O q 0)) j c)≠B' ob:=by simp[Value.ownBlock];exact nq
  refine⟨?_,jJ (jJ (aZ f.b p) (aK E)) (aK E),(f.B.trans (TF.aX p Ep)).trans g,g.box (aL a.o r.o) aj aj,?_⟩
  ·rw[<-d.c];exact F0 C L
  have:=p.size;simp;omega
 clear z1;generalize(κ b (O ob (k*2)) (Z S.1)).setCell (O ob (k*2+1)) (Z S.2)=a at i⊢;generalize δ wr.1=b at i⊢;have s:b≠q:=by rintro rfl;obtain⟨_,Y,T⟩:=jK i.b;rw[i.d]at T;simp at T
 have x:b≠ob:=by rintro rfl;obtain⟨_,Y,T⟩:=jK i.a;rw[i.d]at T;simp at T
 have f:=s.symm;have V:=x.symm;have f:=nq.symm;have f:b<δ a.1:=blt i.d;have b:q<δ a.1:=by obtain⟨_,Y,T⟩:=jK i.b;exact blt T
 have D:ob<δ a.1:=by obtain⟨_,Y,T⟩:=jK i.a;exact blt T
 have y1:=M i.d;have z1:=p9 i.a d.D;have b:=p9 i.b d.a
 go_region_law (go_simp;refine bK (v.o _ _ ak ak ak ak) ?_;rintro e l ⟨rfl,y0⟩;have R:J (Bl a l):=H ay y0;clear y0 y1 z1 b;have z1:=p9 (aZ i.b R.o) d.a;have y1:=M (aL R.o i.d))
 all_goals
  generalize hge:κ (κ l (O q (F*2)) (Z u1.1)) (O q (F*2+1)) (Z u1.2)=a;have H9:J (ρ a w.1.size 267 2 (dU ob N) N (dE (nC P N (k+1)))/\ρ a t.1.size 267 2 (i' (B' (O q 0)) j c) j (dE (pg P j (k+1)))/\TF w.1.size 267 267 W2 a):=by
   subst hge;have h2:=aZ i.b R.o;obtain⟨hl,Y,T⟩:=jK h2;have E:φ (i' (B' (O ob 0)) N N)≠B' q:=by simp[Value.ownBlock];exact λh=>nq h.symm
   refine⟨jJ (jJ (aZ i.a R.o) (aK E)) (aK E),?_,(i.c.trans (TF.aX R.o i.D)).trans (TF.aas T (J' HT.e))⟩;rw[<-d.b];exact F0 h2 hvj
  clear hge;clear z1 y1;go_wp2;go_roundw
  case rel=>exact⟨k+1,L,f',by rw[HDN.o];go_num,H9.o⟩
  exact G'
end
def C7(g cap:Nat)(D:List NC)(P:Pm)(w:u')(hP:PM w g cap D P)(l:dC P):
  Cl 220 #[i! g (ζ P.nd) cap P.nv] w λe w'=>∃rb c,e=p' (t' #[dx rb (ζ P.nd),G (P.facts 1:Int)])/\Sys w' w.1.size rb 2 393 404 c/\c.map RR.pr=kr (ζ P.nd) (uU P (λn=>fz (OE P n)) (vt P) (ζ P.nd))/\Bl w w':=by
 have hN:=l.most;have C:=l.pos;have M7:=l.nv;have s:=hid (A hP l);have HNS:J (∀W,Cl 280 #[i! g (ζ P.nd) cap P.nv] W λe w'=>∃rb c,e=p' (dx rb (ζ P.nd))/\Sys w' W.1.size rb 2 393 404 c/\c.map RR.pr=replicate (ζ P.nd) P?/\Bl W w'):=λW=>lD g (ζ P.nd) cap P.nv W hN;have HEX:J (∀W,PM W g cap D P->Cl 281 #[i! g (ζ P.nd) cap P.nv] W λe w'=>∃ob va vc,e=p' (t' #[i' (B' (O ob 0)) (ζ P.nd) (ζ P.nd),i' va P.nv vc,G (P.facts 1:Int)])/\ρ w' W.1.size 267 2 (dU ob (ζ P.nd)) (ζ P.nd) (dE ((range (ζ P.nd)).map (qP P)))/\ρ w' W.1.size 267 2 (aO va P.nv vc) P.nv (dE (pg P P.nv (ζ P.nd)))/\Bl W w'):=λW hW=>wb g cap D P W hW l;obtain⟨N,j⟩:=Ea (ζ P.nd);obtain⟨nv,f⟩:∃nv,nv=P.nv:=⟨_,rfl⟩;obtain⟨fc,b⟩:=Ea (P.facts 1);rw[<-j]at hN C;rw[<-f]at M7;rw[<-j,<-f]at HNS;rw[<-j,<-f,<-b]at HEX;rw[<-j,<-f,<-b];have HN:=hid (A j f);have R:J (∀W,Cl 208 #[G nv] W (Rb W (dh (pW nv)))):=λW=>xt nv W I;obtain⟨up,k⟩:=Ea (pW nv);rw[<-k]at R;have HU:J (up=pW P.nv):=by show _=_;rw[k,f]
 clear hP l j f k b;simp only[i!,dx,dh]at HNS HEX R⊢;go_enter func220,ntmps220;go_upto_region 1 with(fail)
 generalize u:(w.alloc (k' (e! g N cap nv) 86)).alloc (k' EB 260)=W0;have HB:J (Bl w W0/\W0.1[δ w.1]?=B' (k' (e! g N cap nv) 86 (0,0))/\W0.1[δ w.1+1]?=B' mI):=by subst u;exact⟨cG,fC.1,fC.2⟩
 clear u;obtain⟨E,x2⟩:=M HB.b;go_upto_region 2 with(go_at_call 280;refine(HNS.o _).mono ?_;rintro e W1 ⟨rb,c,rfl,b,Y,l⟩;have H1:=hid (A b (A Y l));clear b Y l E x2)
 generalize u:W1.alloc (k' (fe rb N) 260)=W2;have b:J (Bl w W2/\W2.1[δ w.1]?=B' (k' (e! g N cap nv) 86 (0,0))/\W2.1[δ w.1+1]?=B' mI/\W2.1[δ W1.1]?=B' (k' (fe rb N) 260 (0,0))/\Sys W2 w.1.size rb 2 393 404 c/\c.map RR.pr=kr N (uU P (λ_=>fz (0,0)) (vt P) 0)):=by subst u;have l:=H H1.B (cz W1 (k' (fe rb N) 260));have y:=H1.a.below (cz W1 (k' (fe rb N) 260));exact⟨H HB.a l,aL l HB.b,aL l HB.B,bV,y.deep HB.a.size,by rw[H1.b,GX]⟩
 clear u;have l:δ w.1+1<δ W1.1:=by have:=H1.B.size;have:=blt HB.B;omega
 have hrb:rb<δ W1.1:=blt H1.a.lQ;generalize δ W1.1=sb at b l hrb⊢;obtain⟨r0,f,uS,_⟩:=FP b.E C;have HR0:J (c[0]?=B' r0/\r0.st=fz (0,0)):=⟨f,uS⟩;clear f uS;obtain⟨E,x2⟩:=M b.d;obtain⟨y1,y2⟩:=M b.b;have n1:rb≠sb:=I;have n2:=n1.symm;have l:(0:Int)<N:=I
 go_region_law (go_simp;refine bK (R.o _) ?_;rintro e l ⟨rfl,j⟩;have k:J (Bl W2 l):=H ay j;clear j E x2 y1 y2;obtain⟨E,x2⟩:=M (aL k.o b.d);have f:=(b.e.below k.o).two HR0.a HR0.A;simp only[e?,bW]at f;obtain⟨⟨z1,z2⟩,p,o⟩:=f)
 all_goals
  generalize u:κ (κ l (O rb 0) (Z up.1)) (O rb 1) (Z up.2)=C;have HT:J (Bl w C/\PM C g cap D P/\Sys C w.1.size rb 2 393 404 (c.set 0 ⟨fz up,r0.ea,r0.ec,r0.es⟩)/\(c.set 0 ⟨fz up,r0.ea,r0.ec,r0.es⟩).map RR.pr=kr N (uU P (λn=>fz (OE P n)) (vt P) 0)/\C.1[δ w.1]?=B' (k' (e! g N cap nv) 86 (0,0))/\C.1[δ w.1+1]?=B' mI/\C.1[sb]?=B' (k' (fe rb N) 260 (0,0))):=by
   subst u;have hb:=k.o;have y:=b.e.below hb;have Y:=y.sG (k:=0) (v:=Z up.1) (v':=Z up.2);have R:=y.start aj HR0.a HR0.A (z:=up);simp only[e?,bW]at Y R;have k:=H b.a hb;refine⟨k.trans Y.low,(s.a.below k).tf Y aj aj aj aj,R,?_,Y.box (aL hb b.b) aj aj,Y.box (aL hb b.c) aj aj,Y.box (aL hb b.d) aj aj⟩;rw[Kf b.E HR0.a];refine iD λn _=>?_;by_cases h0:n=0
   ·subst h0;simp[uU,OE,HU.o]
   simp[uU,OE,h0,fz]
  clear u;clear E x2 z1 z2 p o;obtain⟨E,x2⟩:=M HT.e;go_upto_region 4 with(go_at_call 281;refine(HEX.o _ HT.b).mono ?_;rintro e U ⟨ob,va,vc,rfl,Es,b,f⟩;have k:=hid (A Es (A b f));clear Es b f E x2)
  have B:J (Bl w U/\PM U g cap D P/\Sys U w.1.size rb 2 393 404 (c.set 0 ⟨fz up,r0.ea,r0.ec,r0.es⟩)/\U.1[δ w.1]?=B' (k' (e! g N cap nv) 86 (0,0))/\U.1[δ w.1+1]?=B' mI/\U.1[sb]?=B' (k' (fe rb N) 260 (0,0))/\ρ U w.1.size 267 2 (dU ob N) N (dE ((range N).map (qP P)))/\ρ U w.1.size 267 2 (i' va nv vc) nv (dE (pg P nv N))):=by have hb:=k.B;exact⟨H HT.a hb,HT.b.below hb,HT.c.below hb,aL hb HT.e,aL hb HT.f,aL hb HT.F,pq k.a HT.a.size,pq k.b HT.a.size⟩
  have b:=hid HT.d;obtain⟨E,x2⟩:=M B.d;go_wp2;clear E x2;go_loopw[29] (λy wr=>∃(i:Nat) (ql:List RR),i<=N/\y=G i/\J (Sys wr w.1.size rb 2 393 404 ql/\ql.map RR.pr=kr N (uU P (λn=>fz (OE P n)) (vt P) i)/\TF w.1.size 393 404 U wr)) (λy _=>N-(intOf y).toNat)
  case atStart=>exact⟨0,_,bj,rfl,B.c,b.o,AF⟩
  obtain⟨i,ql,hi,rfl,u⟩:=hrel;have Ep:δ w.1<=δ wr.1:=bD B.a.size u.B.low.size;have agc:δ U.1<=δ wr.1:=u.B.low.size;by_cases L:i<N;rotate_left
  ·have b:¬(i:Int)<N:=I;have c:i=N:=I;have Y:=u.B;have j:=Y.box B.e aj aj;obtain⟨E,x2⟩:=M (Y.box B.f aj aj);obtain⟨z1,z2⟩:=M j;have n1:δ w.1+1≠sb:=I;have n2:=n1.symm;clear Y;go_wp2;have k:=(M (aq (o:=2) (aq (o:=1) (aq (o:=0) j (dU rb N)) ji) n9)).1;refine aC (v:=t' #[dx rb N,G fc]) (by simp[results220,go_sem,(M (aq (o:=0) j (dU rb N))).1,(M (aq (o:=1) (aq (o:=0) j (dU rb N)) ji)).1,k,dx]) rfl ⟨rb,rfl,ql,?_,?_,?_⟩
   ·exact u.a.keep j ⟨aj,aj⟩ (λk j=>by rw[aJ j,aJ j,aJ j])
   ·rw[u.b,c]
   exact(((B.a.trans u.B.low).setCell H' _).setCell H' _).setCell H' _
  have b:(i:Int)<N:=I;have q:=B.b.tf u.B aj aj aj aj;obtain⟨r,R,T,z,F,_,TB,_⟩:=q.nodes (by rw[<-HN.a];exact L);have X:=λj (b:j<14)=>(mR q T j b);have f:=aT z;obtain⟨p,V⟩:=Ea r.n;rw[<-V]at X z F f;simp only[NC.wv,NC.ev]at X;generalize r.bu=bu at X;generalize r.wa=wa at X;generalize r.wl=wl at X;generalize r.wc=wc at X;generalize r.ea=ea at X;generalize r.el=el at X;generalize r.ec=ec at X;have Ec:J (∀W,Cl 282 #[l' (aR bu (i' wa wl wc) p (i' ea el ec))] W (Rb W (j' (gU p)))):=λW=>(lL bu _ _ p W (s.A.aG p f).1).mono λe w' b=>⟨b.1,by rw[b.2];exact bf⟩;have U!:J (gU p=O'->0<=p.var/\p.var<nv):=λh=>by have:=s.A.var p f (by simpa[gU]using h);have:=HN.A;omega
  have P1:J (vt P i=if gU p then⟨wA P N p.var.toNat,qP P i⟩ else ef0):=by show _=_;unfold vt;rw[F,<-HN.a]
  have HFW:J (∀W,PM W g cap D P->Sys W w.1.size rb 2 393 404 ql->δ w.1<=δ W.1->TF w.1.size 393 404 U W->Cl 283 #[dx rb N,i! g N cap nv,G i,Ev (vt P i)] W λr w'=>(∃v,r=p' v)/\∃ZG,Sys w' w.1.size rb 2 393 404 ZG/\ZG.map RR.pr=kr N (uU P (λn=>fz (OE P n)) (vt P) (i+1))/\TF w.1.size 393 404 U w'):=by intro W j c k b;have:=vG g cap nv rb w.1.size i D P ql (vt P i) W j s.A (by rw[<-HN.a];exact L) c (by rw[<-HN.a];exact yn u.b) k (Dc u.b λn _=>by have:=wM (st:=(λn=>fz (OE P n))) (E:=vt P) (n:=n) (tj s.A) i;omega);rw[<-HN.a]at this;refine this.mono ?_;rintro r w' ⟨h1,ZG,h2,c,j⟩;refine⟨h1,ZG,h2,?_,b.trans j⟩;rw[c,u.b,<-GY]
  obtain⟨ok,o⟩:=Ea (gU p);rw[<-o]at Ec U! P1;obtain⟨x,var,op,test,⟨ai,av,ac⟩,⟨bi,bv,bc⟩,bB⟩:=p;have t:=N9 X;simp only[aR]at Ec U! P1;simp only[dx,i!,Ev]at HFW;clear X o V z F f T q TB;go_upto_region 8 with(fail)
  generalize f:(wr.alloc (k' #[m' bu,i' wa wl wc,G x,G var,G op,G test,j' ai,G av,G ac,j' bi,G bv,G bc,i' ea el ec,m' bB] 152)).alloc (k' xi 397)=V;have HV:J (Below wr.1.size wr V/\V.1[δ wr.1]?=B' (k' #[m' bu,i' wa wl wc,G x,G var,G op,G test,j' ai,G av,G ac,j' bi,G bv,G bc,i' ea el ec,m' bB] 152 (0,0))/\V.1[δ wr.1+1]?=B' (k' xi 397 (0,0))):=by subst f;exact⟨cG,fC.1,fC.2⟩
  clear f t;have HSS:J (∀W,Bl V W->PM W g cap D P/\Sys W w.1.size rb 2 393 404 ql/\δ w.1<=δ W.1/\TF w.1.size 393 404 U W/\W.1[δ wr.1]?=B' (k' #[m' bu,i' wa wl wc,G x,G var,G op,G test,j' ai,G av,G ac,j' bi,G bv,G bc,i' ea el ec,m' bB] 152 (0,0))/\W.1[sb]?=B' (k' (fe rb N) 260 (0,0))/\W.1[δ w.1]?=B' (k' (e! g N cap nv) 86 (0,0))/\W.1[δ wr.1+1]?=B' (k' xi 397 (0,0))):=by intro W hW;have hb:=H HV.a hW;have Y:=u.B.trans (TF.aX hb Ep);exact⟨B.b.tf Y aj aj aj aj,u.a.below hb,bD Ep hb.size,Y,aL hW HV.b,Y.box B.f aj aj,Y.box B.d aj aj,aL hW HV.B⟩
  generalize δ wr.1=T at HSS Ep agc HV⊢;obtain⟨E,x2⟩:=M HV.b;cases ok
  ·have HRF:J (vt P i=ef0):=P1.o;rw[HRF.o]at HFW;simp only[ef0]at HFW;go_upto_region 10 with(go_at_call 282;refine(Ec.o _).mono ?_;rintro e W7 ⟨rfl,f⟩;have HB7:=hid f;clear f E x2)
   obtain⟨hPM,hSy,uR,Y,_,o,b3,b4⟩:=HSS.o W7 HB7.o;obtain⟨E,x2⟩:=M o;obtain⟨y1,y2⟩:=M b3;obtain⟨z1,z2⟩:=M b4;have HFC:=hid (HFW.o W7 hPM hSy uR Y);clear hPM hSy uR Y o b3 b4;go_wp2_with (go_at_call 283;refine bK HFC.o ?_;rintro e W8 ⟨⟨v,rfl⟩,ZG,b⟩;have H8:=hid b;clear b E x2 y1 y2 z1 z2);go_roundw
   case rel=>exact⟨i+1,ZG,L,f',H8.o⟩
   exact G'
  have t:=U!.o rfl;obtain⟨F,rfl⟩:∃F:Nat,var=(F:Int):=⟨var.toNat,J' t.1⟩;have hvj:F<nv:=by have:=t.2;omega
  have HRF:J (vt P i=⟨wA P N F,qP P i⟩):=by show _=_;rw[P1.o];simp
  rw[HRF.o]at HFW;simp only at HFW;obtain⟨q,rfl⟩:=FZ B.G I;have HRW:J (∀W,TF w.1.size 393 404 U W->((χ W (O ob (i*2))=B' (Z ((qP P i).1:Int))/\W.frozen? (O ob (i*2))=P')/\χ W (O ob (i*2+1))=B' (Z ((qP P i).2:Int))/\W.frozen? (O ob (i*2+1))=P')/\((χ W (O q (F*2))=B' (Z ((wA P N F).1:Int))/\W.frozen? (O q (F*2))=P')/\χ W (O q (F*2+1))=B' (Z ((wA P N F).2:Int))/\W.frozen? (O q (F*2+1))=P')/\q<T/\ob<T):=λW hW=>by have h1:=B.g;have h2:=B.G;obtain⟨_,b,c⟩:=jK h1;obtain⟨_,b,b⟩:=jK h2;have:=blt c;have:=blt b;exact⟨p9 (yr h1 hW aj aj) (by simp[L]),p9 (yr h2 hW aj aj) (Mt hvj),I,I⟩
  obtain⟨o1,Es⟩:=Ea (qP P i);obtain⟨X,p⟩:=Ea (wA P N F);rw[<-Es,<-p]at HRW HFW;clear t Es p;go_upto_region 9 with(go_at_call 282;refine(Ec.o _).mono ?_;rintro e W7 ⟨rfl,f⟩;have HB7:=hid f;clear f E x2)
  obtain⟨_,_,_,Y,b,_,_,b4⟩:=HSS.o W7 HB7.o;obtain⟨E,x2⟩:=M b;obtain⟨z1,z2⟩:=M b4;have r1:=HRW.o W7 Y;clear Y b b4;have y:q≠T+1:=I;have r:=y.symm;have b:ob≠T+1:=I;have c:=b.symm;have b:T≠T+1:=I;have u:=b.symm
  go_region_law fail
  all_goals
   have H8:J (PM (κ (κ (κ (κ W7 (O (T+1) 0) (Z X.1)) (O (T+1) 1) (Z X.2)) (O (T+1) 2) (Z o1.1)) (O (T+1) 3) (Z o1.2)) g cap D P/\Sys (κ (κ (κ (κ W7 (O (T+1) 0) (Z X.1)) (O (T+1) 1) (Z X.2)) (O (T+1) 2) (Z o1.1)) (O (T+1) 3) (Z o1.2)) w.1.size rb 2 393 404 ql/\δ w.1<=δ (κ (κ (κ (κ W7 (O (T+1) 0) (Z X.1)) (O (T+1) 1) (Z X.2)) (O (T+1) 2) (Z o1.1)) (O (T+1) 3) (Z o1.2)).1/\TF w.1.size 393 404 U (κ (κ (κ (κ W7 (O (T+1) 0) (Z X.1)) (O (T+1) 1) (Z X.2)) (O (T+1) 2) (Z o1.1)) (O (T+1) 3) (Z o1.2))/\(κ (κ (κ (κ W7 (O (T+1) 0) (Z X.1)) (O (T+1) 1) (Z X.2)) (O (T+1) 2) (Z o1.1)) (O (T+1) 3) (Z o1.2)).1[sb]?=B' (k' (fe rb N) 260 (0,0))/\(κ (κ (κ (κ W7 (O (T+1) 0) (Z X.1)) (O (T+1) 1) (Z X.2)) (O (T+1) 2) (Z o1.1)) (O (T+1) 3) (Z o1.2)).1[δ w.1]?=B' (k' (e! g N cap nv) 86 (0,0))/\(κ (κ (κ (κ W7 (O (T+1) 0) (Z X.1)) (O (T+1) 1) (Z X.2)) (O (T+1) 2) (Z o1.1)) (O (T+1) 3) (Z o1.2)).1[T+1]?=B' (k' #[Z X.1,Z X.2,Z o1.1,Z o1.2] 397 (0,0))):=by
    obtain⟨hPM,hSy,uR,Y,_,o,b3,b4⟩:=HSS.o W7 HB7.o;have keep:∀p,p≠T+1->(κ (κ (κ (κ W7 (O (T+1) 0) (Z X.1)) (O (T+1) 1) (Z X.2)) (O (T+1) 2) (Z o1.1)) (O (T+1) 3) (Z o1.2)).1[p]?=W7.1[p]?:=λp U=>(aJ U).trans ((aJ U).trans ((aJ U).trans (aJ U)));have b:sb≠T+1:=by rintro rfl;rw[o]at b4;simp at b4
    have c:δ w.1≠T+1:=by intro h;rw[<-h,b3]at b4;simp at b4
    refine⟨hPM.keep λp cs t f e ht=>keep p ?_,hSy.keep b4 ⟨aj,aj⟩ keep,?_,?_,(keep _ b).trans o,(keep _ c).trans b3,?_⟩
    ·rintro rfl;rw[b4]at e;simp at e;obtain⟨_,rfl,_⟩:=e;rcases ht with h|h<;>exact absurd h aj
    ·simpa using uR
    ·exact⟨(((Y.low.setCell H' _).setCell H' _).setCell H' _).setCell H' _,λp cs t f e h1 h2=>(keep p (J' ((aY.1 e).1))).trans (Y.keep p cs t f e h1 h2)⟩
    rw[aq (aq (aq (aq b4 _) _) _) _];rfl
   clear E x2 z1 z2 r1;generalize(κ (κ (κ (κ W7 (O (T+1) 0) (Z X.1)) (O (T+1) 1) (Z X.2)) (O (T+1) 2) (Z o1.1)) (O (T+1) 3) (Z o1.2))=W8 at H8⊢;obtain⟨hPM,hSy,uR,Y,o,b3,b4⟩:=H8.o;have b:Bl W8 W8.drew:=aQ.drew;obtain⟨E,x2⟩:=M (aL b o);obtain⟨y1,y2⟩:=M (aL b b3);obtain⟨z1,z2⟩:=M (aL b b4);have HFC:=hid (HFW.o W8.drew (hPM.below b) (hSy.below b) (bD uR b.size) (Y.trans (TF.aX b uR)));clear b;generalize W8.drew=b at HFC E x2 y1 y2 z1 z2⊢;clear hPM hSy uR Y o b3 b4;go_wp2_with (go_at_call 283;refine bK HFC.o ?_;rintro e l ⟨⟨v,rfl⟩,ZG,Y⟩;have W:=hid Y;clear Y E x2 y1 y2 z1 z2);go_roundw
   case rel=>exact⟨i+1,ZG,L,f',W.o⟩
   exact G'
def adR(P:Pm):kr (ζ P.nd) (uU P (λn=>fz (OE P n)) (vt P) (ζ P.nd))=P7 (v7 P (OE P) (vt P)):=(TY P _ _).symm
def LZ{p:Prop}(h:p:=by
 have v:=aL c.A fC.2;have F:=(M (aq (o:=2) (aq (o:=1) (aq (o:=0) v (i' (B' (O f 0)) N N)) ji) n9)).1;refine aC (v:=t' #[dx f N,G q]) (by simp[results150,go_sem,(M (aq (o:=0) v (i' (B' (O f 0)) N N))).1,(M (aq (o:=1) (aq (o:=0) v (i' (B' (O f 0)) N N)) ji)).1,F,dx]) rfl ⟨f,rfl,?_,?_⟩
 ·obtain⟨u,C,o⟩:=c.a;exact⟨u,(C.deep H').keep v ⟨aj,aj⟩ (λk p=>by rw[aJ p,aJ p,aJ p]),o⟩
 exact(((H cG c.A).setCell H' _).setCell H' _).setCell H' _):p:=h
def Og(g h:Nat)(D:List NC)(P:Pm)(p:Int)(w:u')(hP:PM w g h D P)(x:dC P)(d:∀n∈P.nd,nU (jB n))(U:1<=p/\p<=4):
  Cl 150 #[i! g (ζ P.nd) h P.nv,G p] w λe i=>∃f,e=p' (t' #[dx f (ζ P.nd),G (P.facts p:Int)])/\qz i w.1.size f (P.rs p)/\Bl w i:=by
 obtain⟨N,l⟩:=Ea (ζ P.nd);obtain⟨Q,a⟩:=Ea P.nv;have T:p=1\/p=2\/p=3\/p=4:=I;clear U;rcases T with rfl|rfl|rfl|rfl
 ·have Y:J (∀W,Bl w W->Cl 220 #[i! g (ζ P.nd) h P.nv] W λe i=>∃f,e=p' (t' #[dx f (ζ P.nd),G (P.facts 1:Int)])/\qz i W.1.size f (P.rs 1)/\Bl W i):=by intro W j;refine(C7 g h D P W (hP.below j) x).mono ?_;rintro e i ⟨f,u,rfl,C,o,y⟩;exact⟨f,rfl,wy C (o.trans (adR P)),y⟩
  obtain⟨q,b⟩:=Ea (P.facts 1);rw[<-l,<-a,<-b]at Y⊢;clear hP x d l a b;simp only[i!,dx]at Y⊢;go_enter func150,ntmps150;go_wp2_with (go_at_call 220;refine(Y.o _ cG).mono ?_;rintro e t ⟨f,rfl,s,r⟩;have c:=hid (A s r);clear s r;have E:=M (aL c.A fC.2));exact LZ
 ·have Y:J (∀W,Bl w W->Cl 221 #[i! g (ζ P.nd) h P.nv] W λe i=>∃f,e=p' (t' #[dx f (ζ P.nd),G (P.facts 2:Int)])/\qz i W.1.size f (P.rs 2)/\Bl W i):=by intro W j;refine(S3 g h D P W (hP.below j) x).mono ?_;rintro e i ⟨f,u,rfl,C,o,y⟩;exact⟨f,rfl,wy C (o.trans (ae7 P)),y⟩
  obtain⟨q,b⟩:=Ea (P.facts 2);rw[<-l,<-a,<-b]at Y⊢;clear hP x d l a b;simp only[i!,dx]at Y⊢;go_enter func150,ntmps150;go_wp2_with (go_at_call 221;refine(Y.o _ cG).mono ?_;rintro e t ⟨f,rfl,s,r⟩;have c:=hid (A s r);clear s r;have E:=M (aL c.A fC.2));exact LZ
 ·have Y:J (∀W,Bl w W->Cl 222 #[i! g (ζ P.nd) h P.nv] W λe i=>∃f,e=p' (t' #[dx f (ζ P.nd),G (P.facts 3:Int)])/\qz i W.1.size f (P.rs 3)/\Bl W i):=by intro W j;refine(Gl g h P.nv D P W (hP.below j) x d).mono ?_;rintro e i ⟨f,u,rfl,C,o,y⟩;exact⟨f,rfl,wy C (o.trans (ae8 P)),y⟩
  obtain⟨q,b⟩:=Ea (P.facts 3);rw[<-l,<-a,<-b]at Y⊢;clear hP x d l a b;simp only[i!,dx]at Y⊢;go_enter func150,ntmps150;go_wp2_with (go_at_call 222;refine(Y.o _ cG).mono ?_;rintro e t ⟨f,rfl,s,r⟩;have c:=hid (A s r);clear s r;have E:=M (aL c.A fC.2));exact LZ
 have Y:J (∀W,Bl w W->Cl 223 #[i! g (ζ P.nd) h P.nv] W λe i=>∃f,e=p' (t' #[dx f (ζ P.nd),G (P.facts 4:Int)])/\qz i W.1.size f (P.rs 4)/\Bl W i):=by intro W j;refine(S? g h P.nv D P W (hP.below j) x d).mono ?_;rintro e i ⟨f,u,rfl,C,o,y⟩;exact⟨f,rfl,wy C (o.trans (ae6 P)),y⟩
 obtain⟨q,b⟩:=Ea (P.facts 4);rw[<-l,<-a,<-b]at Y⊢;clear hP x d l a b;simp only[i!,dx]at Y⊢;go_enter func150,ntmps150;go_wp2_with (go_at_call 223;refine(Y.o _ cG).mono ?_;rintro e t ⟨f,rfl,s,r⟩;have c:=hid (A s r);clear s r;have E:=M (aL c.A fC.2));exact LZ
section
variable {p:Prop}
def vp:∀(l:List Int) (Y m:Int),cU Y l=O'->(∀x∈l,x<m)->(ζ l:Int)+Y<=m\/l=[]
 |[],_,_,_,_=>aK rfl
 |f::r,Y,m,h,hm=>by
  left;simp[cU]at h;obtain⟨⟨C,a⟩,N⟩:=h;have Y:=hm f ak;rcases vp r (f+1) m N (λx F=>hm x (by simp[F]))with d|d
  ·simp;omega
  subst d;simp;omega
def ac7{α:Type}{l:List α}{f g:α->Bool}(h:∀x∈l,f x=g x):l.all f=l.all g:=by
 induction l with
 |nil=>rfl
 |cons a l B=>rw[qC,qC,h a ak,B λx F=>h x (by simp[F])]
def B2{P:Pm}(h:dC P)(p:Int):P.facts p<=68:=by
 have:=DT P.nd 0;have:=h.most;have:=h.nv;have:=rY P;unfold Pm.facts;split
 ·omega
 split<;>omega
def VT{w a:u'}{q:x'}{l:List BS}(h:mB w q l)(c:Bl w a):mB a q l:=λj s f=>by obtain⟨b,o,C,a,N⟩:=h j s f;exact⟨b,o,C,ax a c,ax N c⟩
def L9{x:Nd}(h:∀f∈x.facts,0<=f/\f<68):cL (ry x)/\∀f∈uV (ry x),f<68:=by
 have Y:∀g∈Nc x,g<68:=by intro g a;obtain⟨f,Y,rfl⟩:=cZ.1 a;have:=h f Y;omega
 have S:cL (ry x):=mc _ λg a=>by have:=Y g a;omega
 refine⟨S,λf d=>?_⟩;obtain⟨C,b⟩:=(tp _ S f).1 d;unfold ry at b;rw[mV _ _ C λg a=>by have:=Y g a;omega]at b;exact Y f (I' b)
def YE(h:p:=by
 go_wp2_with (go_at_call 170;refine(P.o _ _ _ (H b.a (H c.o (by first|exact L.o|exact below_drewN L.o _|exact L.o.drew))) ((b.C.below c.o).below (by first|exact L.o|exact below_drewN L.o _|exact L.o.drew))).mono ?_;rintro e C ⟨rfl,z⟩;have K:=hid (H (H b.a (H c.o (by first|exact L.o|exact below_drewN L.o _|exact L.o.drew))) z);clear z);go_ret
 exact⟨rfl,K.o⟩):p:=h
def YD(h:p:=by
 go_wp2;go_ret
 exact⟨rfl,H b.a (H c.o (by first|exact L.o|exact below_drewN L.o _|exact L.o.drew))⟩):p:=h
def zv(g c N Q:Nat)(T:x')(r k:Nat)(p h iA:Int)(R:RS)(y:List BS)(o C x:Bool)(w:u')
  (u:∀W,Bl w W->Cl 150 #[i! g N c Q,G p] W λe f=>∃z,e=p' (t' #[dx z N,G iA])/\qz f W.1.size z R/\Bl W f)
  (s:∀W,Bl w W->Cl 167 #[i' T k r,G iA] W (Rb W (j' o)))
  (b:o=O'->∀W,Bl w W->Cl 169 #[i' T k r] W λe f=>∃q,e=p' (i' (B' (O q 0)) k k)/\mB f (B' (O q 0)) y/\Bl W f)
  (a:o=O'->∀W B z q,qz W B z R->mB W (B' (O q 0)) y->Cl 168 #[dx z N,i' (B' (O q 0)) k k] W (Rb W (j' C)))
  (v:o=O'->h=1->∀W B z,Bl w W->qz W B z R->Cl 170 #[dx z N,i' T k r] W (Rb W (j' x))):
  Cl 95 #[i! g N c Q,l' #[G p,G h,i' T k r]] w (Rb w (G (if o=P' then 6 else if C=P' then 7 else if h=1/\x=P' then 8 else 0))):=by
 have j:=hid u;have y:=hid s;have X:=hid b;have V:=hid a;have d:=hid v;clear u s b a v;obtain⟨s,b⟩:=Ea ((if o=P' then 6 else if C=P' then 7 else if h=1/\x=P' then 8 else 0):Int);rw[<-b];have i:=hid b;clear b;simp only[i!,dx]at j V d⊢;go_enter func95,ntmps95;go_upto_region 1 with(fail)
 generalize u:(w.alloc (k' (e! g N c Q) 86)).alloc (k' #[G p,G h,i' T k r] 51)=a;have U:J (Bl w a/\d' a w.1.size (e! g N c Q) 86/\d' a (δ w.1+1) #[G p,G h,i' T k r] 51):=by subst u;exact⟨cG,fC.1,fC.2⟩
 clear u;have E:=M U.b;have b:=M U.B;go_upto_region 2 with(go_at_call 150;refine(j.o _ U.a).mono ?_;rintro e t ⟨z,rfl,c,l⟩;have g:=hid (A c l);clear c l E b)
 generalize u:t.alloc (k' #[i' (B' (O z 0)) N N,.func (.func 267) #[] #[],.func (.func 296) #[] #[]] 260)=F;have b:J (Bl w F/\d' F (δ w.1+1) #[G p,G h,i' T k r] 51/\d' F t.1.size #[i' (B' (O z 0)) N N,.func (.func 267) #[] #[],.func (.func 296) #[] #[]] 260/\qz F a.1.size z R):=by subst u;have c:=H g.A (cz t (k' #[i' (B' (O z 0)) N N,.func (.func 267) #[] #[],.func (.func 296) #[] #[]] 260));exact⟨H U.a c,aL c U.B,bV,g.a.below bf⟩
 clear u;generalize δ t.1=g at b⊢;generalize δ a.1=B at b;have S:J (∀W,Bl F W->χ W (O (δ w.1+1) 0)=B' (G p)/\χ W (O (δ w.1+1) 1)=B' (G h)/\χ W (O (δ w.1+1) 2)=B' (i' T k r)/\χ W (O g 0)=B' (i' (B' (O z 0)) N N)/\χ W (O g 1)=B' ji/\χ W (O g 2)=B' n9):=by intro W j;have R:=(M (aL j b.b)).1;have a:=(M (aL j b.c)).1;exact⟨R 0,R 1,R 2,a 0,a 1,a 2⟩
 have u:=S.o F aQ;cases o
 ·obtain rfl:s=6:=by rw[i.o];rfl
  go_wp2_with (go_at_call 167;refine(y.o _ b.a).mono ?_;rintro e o ⟨rfl,Y⟩;have c:=hid Y;clear Y);go_ret;exact⟨rfl,H b.a c.o⟩
 have t:=hid (X.o rfl);have j:=hid (V.o rfl);have a:=hid (d.o rfl);go_upto_region 4 with(go_at_call 167;refine(y.o _ b.a).mono ?_;rintro e o ⟨rfl,Y⟩;have c:=hid Y;clear Y u)
 have u:=S.o o c.o
 go_region_held3 (λf=>χ f (O (δ w.1+1) 0)=B' (G p)/\χ f (O (δ w.1+1) 1)=B' (G h)/\χ f (O (δ w.1+1) 2)=B' (i' T k r)/\χ f (O g 0)=B' (i' (B' (O z 0)) N N)/\χ f (O g 1)=B' ji/\χ f (O g 2)=B' n9) (go_keep) (first|(have _:=D;go_at_call 168;refine(j.o _ _ _ _ ((b.C.below c.o).below (H D.A (by repeat(first|with_reducible exact aQ|with_reducible refine below_drewN ?_ _|with_reducible refine jh ?_)))) (VT D.a (by repeat(first|with_reducible exact aQ|with_reducible refine below_drewN ?_ _|with_reducible refine jh ?_)))).mono ?_;rintro e d ⟨rfl,X⟩;have p:Bl o d:=H (H D.A (by repeat(first|with_reducible exact aQ|with_reducible refine below_drewN ?_ _|with_reducible refine jh ?_))) X;have L:=hid p;have o0:=S.o d (H c.o p);clear X p)|(go_at_call 169;refine(t.o _ (H b.a (H c.o (by repeat(first|with_reducible exact aQ|with_reducible refine below_drewN ?_ _|with_reducible refine jh ?_))))).mono ?_;rintro e f ⟨q,rfl,d,l⟩;have p:Bl o f:=H (by repeat(first|with_reducible exact aQ|with_reducible refine below_drewN ?_ _|with_reducible refine jh ?_)) l;have D:=hid (A d p);have P:=S.o f (H c.o p);clear l p d))
 all_goals
  cases C
  ·obtain rfl:s=7:=by rw[i.o];rfl
   exact YD
  cases f:(h==1)
  ·have d:=I' f;obtain rfl:s=0:=by rw[i.o];simp[d]
   clear d;exact YD
  have d:=I' f;have P:=hid (a.o d);have a:J (s=if x=P' then 8 else 0):=by show _=_;rw[i.o];simp[d]
  clear d;cases x
  ·obtain rfl:s=8:=by rw[a.o];rfl
   exact YE
  obtain rfl:s=0:=by rw[a.o];rfl
  exact YE
def Az(g q r:Nat)(T:x')(D:List NC)(P:Pm)(c:Ct)(w:u')(hP:PM w g q D P)(s:dC P)(F:ζ P.nx=ζ P.nd)(d:∀n∈P.nd,nU (jB n))(h:b9 w T c.nodes)(B:∀x∈c.nodes,dY x)(o:jz c=O')(z:ζ c.nodes=ζ P.nd)(U:1<=c.aE/\c.aE<=4)(a:c.grade=1\/c.grade=2)(b:Cf w):
  Cl 95 #[i! g (ζ P.nd) q P.nv,l' #[G c.aE,G c.grade,i' T (ζ P.nd) r]] w (Rb w (G (jF P c))):=by
 have p:=s.most;have a:=B2 s c.aE;have p:=VU o U.2;have X:=adL s F U;have i:c.nodes.all (Lu (P.facts c.aE:Int))=O'->∀x∈c.nodes,∀f∈x.facts,0<=f/\f<P.facts c.aE:=by intro l x F f Y;rw[zC p]at l;simp only[cF,bq]at l;exact⟨sQ _ 0 (p.cU x F) f Y,l x F f Y⟩
 have k:c.nodes.all (Lu (P.facts c.aE:Int))=O'->∀x∈c.nodes,ζ x.facts<=128:=by
  intro l x F;rcases vp x.facts 0 _ (p.cU x F) (λf Y=>(i l x F f Y).2)with C|C
  ·omega
  simp[C]
 have t:c.nodes.all (Lu (P.facts c.aE:Int))=O'->∀x∈c.nodes,∀f∈x.facts,0<=f/\f<68:=by intro l x F f Y;have:=i l x F f Y;omega
 have o:=zv g q (ζ P.nd) P.nv T r (ζ P.nd) c.aE c.grade (P.facts c.aE:Int) (P.rs c.aE) (c.nodes.map ry) (c.nodes.all (Lu (P.facts c.aE:Int))) (E0 (P.rs c.aE) (c.nodes.map ry) (ζ P.nd)) (zY (P.rs c.aE) c.nodes (ζ P.nd)) w
  (λW j=>Og g q D P c.aE W (hP.below j) s d U)
  (λW j=>by have:=D9 T r c.nodes (P.facts c.aE:Int) W (h.below j) B I;rwa[z]at this)
  (λl W j=>by have:=RQ T r c.nodes W (h.below j) (λx F f Y=>J' (t l x F f Y)) (k l) I;rwa[z]at this)
  (λl W B f q v u=>Js f B (ζ P.nd) (ζ P.nd) (B' (O q 0)) _ _ W v X.ins (by rw[b!,z]) u (by intro s y;obtain⟨x,F,rfl⟩:=cZ.1 y;exact(L9 (t l x F)).1))
  (λl d W B f j v=>Se f B (ζ P.nd) r T _ c.nodes W v X.ins (h.below j) z (t l) (λx F=>⟨k l x F,(p.aW d x F).1⟩) (λx F=>L9 (t l x F)) (b.below j))
 refine o.mono ?_;rintro e E ⟨rfl,l⟩;refine⟨?_,l⟩;congr 2;have Y:v8 P c=c.nodes.all (Lu (P.facts c.aE:Int)):=by rw[zC p];rw[v8,aB U.2,ei z,dW];refine ac7 λx F=>?_;simp[(p.bare x F).1]
 rw[jF,Y,aB U.2];cases l:c.nodes.all (Lu (P.facts c.aE:Int))
 ·rfl
 have u:CtS P c:=⟨a,z,i l⟩;simp only[Bool.true_eq_false,bU,RL u X];split
 ·rfl
 by_cases d:c.grade=1
 ·rw[Ot ⟨u,d,p⟩ X];cases Dp P c<;>simp[d]
 have:c.grade=2:=I;simp[this]
end
def Ma(n:Nd):ζ n.facts<=ζ (setB n):=by have N:=DC fq (λx=>Ut _) (eV 0 n.facts);rw[r6]at N;simp only[setB,bF];omega
def y8{α:Type}(f:α->y'):∀(l:List α) (x:α),x∈l->ζ (f x)<=ζ (l.flatMap f)
 |[],x,h=>by cases h
 |a::l,x,h=>by
  simp only[cN,bF];rcases dr.1 h with rfl|h
  ·omega
  have:=y8 f l x h;omega
def Kq{p g:Int}{n:Nd}(o:bA p g n=O')(X:ζ (eA p g n)<=60000):ζ n.facts<=70000/\ζ n.aW<=70000/\ζ n.vals<=70000:=by
 unfold bA at o;unfold eA at X;by_cases U:p<=4
 ·rw[aB U]at o X;have C:=Ma n;simp only[dV,bh,bq,h!]at o;obtain⟨⟨⟨⟨_,_⟩,R⟩,_⟩,a⟩:=o;rw[R];unfold eD at a;by_cases b:g=1
  ·rw[aB b]at a;simp only[bh,bq]at a;refine⟨I,I,ak⟩
  rw[aA b]at a;simp only[h!]at a;rw[a];refine⟨I,ak,ak⟩
 rw[aA U]at o;by_cases a:n.aD=O'
 ·rw[aB a]at o;simp only[eN,bh,bq,h!]at o;obtain⟨⟨⟨⟨⟨C,b⟩,N⟩,_⟩,_⟩,_⟩:=o;rw[C,b];exact⟨ak,ak,I⟩
 rw[aA a]at o;simp only[fX,bh,bq,h!]at o;obtain⟨⟨⟨⟨_,_⟩,C⟩,b⟩,N⟩:=o;rw[C,b,N];simp
def qk{s:y'}{c:Ct}(h:dec s=B' c):ζ c.nodes<=60/\∀n∈c.nodes,dY n/\ζ n.facts<=70000/\ζ n.aW<=70000/\ζ n.vals<=70000:=by obtain⟨C,a,N,d⟩:=qj h;obtain⟨b,k,f⟩:=O4 C;refine⟨k,λn K=>⟨d.nodes n K,Kq (f n K) ?_⟩⟩;have:=y8 (eA c.aE c.grade) c.nodes n K;rw[<-a]at N;simp only[tM,bF]at N;omega
section
variable {α β:Type} {rk:Int} {v:Vl} {n:Nd} {u:Unit}
def ey{p:y'->Option (α×y')}{f:α->y'->Option (β×y')}{l:y'}{z:β×y'}(h:eL p f l=B' z):∃x r,p l=B' (x,r)/\f x r=B' z:=by
 unfold eL at h;cases U:p l with
 |none=>rw[U]at h;cases h
 |some q=>obtain⟨x,r⟩:=q;rw[U]at h;exact⟨x,r,rfl,h⟩
def fP{p:y'->Option (α×y')}{f:α->y'->Option (β×y')}{l r:y'}{x:α}(h:p l=B' (x,r)):eL p f l=f x r:=by rw[eL,h]
def G?{l r:y'}(h:hY 6 g l=B' (v,r)):l=jo 6 g v++r:=by
 unfold hY at h;rw[aB rfl]at h;obtain⟨j,r1,C,h⟩:=ey h;obtain⟨n,q,b,h⟩:=ey h;split at h;rotate_left
 ·cases h
 simp[jP]at h;obtain⟨rfl,rfl⟩:=h;rw[((iJ _ _ _).1 C).1,(oF.1 b).1];simp only[jo,c!];rw[show(j+(n:Int)-j).toNat=n by omega];simp
def zm{r:y'}(o:eM 6 g rk v=O')(B:tU v):hY 6 g (jo 6 g v++r)=B' (v,r):=by obtain⟨x,j,S,bJ,first,a⟩:=v;simp only[eM,c!,bh,gW,bq]at o;obtain⟨⟨⟨⟨rfl,rfl⟩,rfl⟩,rfl⟩,R⟩:=o;have X:=B.lo;obtain⟨N,d⟩:=B.hi;simp only at X N d;rw[hY,aB rfl];simp only[jo,c!,ef];rw[fP ((iJ _ j (iA (S-j).toNat++r)).2 ⟨rfl,X⟩)];obtain⟨C,a⟩:=X;rw[fP ((rF _ (S-j).toNat r).2 ⟨rfl,I⟩),aB I];simp only[jP];congr 3;omega
def Oe(l:y'):fH ((1:Nat):Int) l=match fO l with|some (f,r)=>B' (if f then 1 else 0,r)|none=>C':=by
 cases Y:fO l with
 |some q=>
  obtain⟨f,r⟩:=q;rw[p5 Y];cases f with
  |true=>exact(ki I).2 ⟨by rw[aB rfl,aB rfl,cS I];rfl,ak⟩
  |false=>exact(ki I).2 ⟨by rw[aA ak,aA ak,cS I];rfl,ak⟩
 |none=>
  simp only;cases a:fH ((1:Nat):Int) l with
  |none=>rfl
  |some q=>
   exfalso;obtain⟨n,r⟩:=q;obtain⟨C,b⟩:=(ki I).1 a;have N:n=0\/n=1:=I;rcases N with rfl|rfl
   ·rw[cS I]at C;subst C;simp[fO]at Y
   rw[cS I]at C;subst C;simp[fO]at Y
def Nk(U:p≠6)(l:y'):hY p g l=kq g l:=by
 unfold hY kq;rw[aA U];cases l with
 |nil=>rfl
 |cons b q=>
  simp only[eL,xI];by_cases C:b.toNat=1
  ·rw[aB C,aB C];simp only[eL];cases iK q with
   |none=>rfl
   |some z=>rfl
  rw[aA C,aA C];by_cases a:b.toNat=2;rotate_left
  ·rw[aA a,aA a];rfl
  rw[aB a,aB a];by_cases a:g=1;rotate_left
  ·rw[aA a,aA a];rfl
  rw[aB a,aB a];simp only[eL];rw[Oe];cases fO q with
  |none=>rfl
  |some z=>
   obtain⟨f,r⟩:=z;cases f with
   |true=>
    simp only[c!];unfold rD;simp only[eL];cases iK r with
    |none=>rfl
    |some k=>
     obtain⟨x,q⟩:=k;simp only[eL,jP];rw[show((100000:Nat):Int)=100000 from rfl];cases fH 100000 q with
     |none=>rfl
     |some c=>rfl
   |false=>simp only[bO,bU];rfl
def K8{l r:y'}(h:hY p g l=B' (v,r)):l=jo p g v++r:=by
 by_cases U:p=6
 ·subst U;exact G? h
 rw[Nk U]at h;exact xG U h
def Au{r:y'}(o:eM p g rk v=O')(W:0<=rk)(B:tU v):hY p g (jo p g v++r)=B' (v,r):=by
 by_cases U:p=6
 ·subst U;exact zm o B
 rw[Nk U];exact qO U o W B
def EU:stepX=ib:=rfl
def tN:∀(n:Nat) (c:Int) (l:y') (o:List Int) (st:Int) (r:y'),bp stepD n c l=B' ((o,st),r)->l=(eV (c+1) o).flatMap fq++r
 |0,c,l,o,st,r,h=>by simp[bp]at h;obtain⟨⟨rfl,_⟩,rfl⟩:=h;rfl
 |n + 1,c,l,o,st,r,h=>by
  rw[bp]at h;cases y:stepD c l with
  |none=>rw[y]at h;cases h
  |some p=>
   obtain⟨⟨x,f⟩,q⟩:=p;rw[y]at h;simp only at h;cases b:bp stepD n f q with
   |none=>rw[b]at h;cases h
   |some d=>
    have z:=d;rw[b]at h;simp at h;obtain⟨⟨rfl,_⟩,rfl⟩:=h;unfold stepD at y;cases hm:fH ((100000:Nat):Int) l with
    |none=>rw[hm]at y;cases y
    |some s=>
     obtain⟨m,i⟩:=s;rw[hm]at y;simp only[fD,eR]at y;obtain⟨⟨rfl,rfl⟩,rfl⟩:=y;obtain⟨C,d⟩:=(ki I).1 hm;have u:fq (c+1+(m:Int)-(c+1))=iA m:=by unfold fq;congr 1;omega
     rw[C,tN n _ _ _ _ _ b];simp only[eV,cN,ef,u]
def oC:∀(o:List Int) (c:Int) (r:y'),-1<=c->cU (c+1) o=O'->∃st,bp stepD (ζ o) c ((eV (c+1) o).flatMap fq++r)=B' ((o,st),r)
 |[],c,r,_,_=>⟨c,rfl⟩
 |f::o,c,r,D,h=>by
  simp only[cU,bh,bq]at h;obtain⟨⟨C,b⟩,N⟩:=h;obtain⟨st,R⟩:=oC o f r I N;refine⟨st,?_⟩;rw[cC,bp];simp only[eV,cN,ef];have y:stepD c (fq (f-(c+1))++((eV (f+1) o).flatMap fq++r))=B' ((f,f),(eV (f+1) o).flatMap fq++r):=by rw[stepD,mJ _ I I I];simp only;have:c+1+((f-(c+1)).toNat:Int)=f:=I;rw[this]
  rw[y];simp only;rw[R]
def K9{l r:y'}(h:G! g l=B' (n,r)):l=setB n++r:=by
 unfold G! at h;obtain⟨k,r1,C,h⟩:=ey h;obtain⟨⟨o,st⟩,q,e,h⟩:=ey h;have V:=((ki I).1 C).1;have b:=tN _ _ _ _ _ _ e;have c:=dG _ _ _ _ _ _ _ e;rw[show(-1:Int)+1=0 from rfl]at b;split at h
 ·obtain⟨⟨y,u⟩,v,N,h⟩:=ey h;simp[jP]at h;obtain⟨rfl,rfl⟩:=h;rw[EU]at N;have e:=gi ib fq (λ_=>True) vi _ _ _ _ _ N (λ_ _=>trivial);rw[V,b,e];simp[setB,c]
 simp[jP]at h;obtain⟨rfl,rfl⟩:=h;rw[V,b];simp[setB,c]
theorem Av{r:List UInt8}(h:dV g n=true)(X:(setB n).length<=60000):G! g (setB n++r)=some (n,r):=by
 have u:=Ma n;obtain⟨o,y,i,k,E⟩:=n;simp only[dV,bh,gW,bq,h!]at h;obtain⟨⟨⟨⟨rfl,rfl⟩,rfl⟩,C⟩,b⟩:=h;simp only at u;unfold G!;simp only[setB,ef];rw[fP (lA (n:=o.length) _ I I)];obtain⟨st,R⟩:=oC o (-1) (y.flatMap fq++r) I C;rw[show(-1:Int)+1=0 from rfl]at R;rw[fP R];unfold eD at b;by_cases c:g=1;rotate_left
 ·rw[aA c]at b⊢;simp only[h!]at b;subst b;simp[jP]
 rw[aB c]at b⊢;simp only[bh,bq]at b
 have d:=ew ib fq y r (λx F r=>by
  have l:=cF.1 b.2 x F;simp only[rk,bh,bq]at l;unfold ib;rw[mJ r I I I];simp only;congr 3
  omega)
 rw[b.1,<-EU]at d;rw[fP d];rfl
def Jp{l r:y'}(h:stepW p g () l=B' ((v,u),r)):hY p g l=B' (v,r):=by
 unfold stepW at h;cases b:hY p g l with
 |none=>rw[b]at h;cases h
 |some a=>have R:=a;rw[b]at h;simp at h;obtain⟨rfl,rfl⟩:=h;rfl
def Lb(U:¬p<=4){l r:y'}(h:Hf p g l=B' (n,r)):l=eA p g n++r:=by
 unfold Hf at h;obtain⟨y,r1,C,h⟩:=ey h;obtain⟨V,u⟩:=(ki I).1 C;split at h
 ·rename_i B;subst B;simp[jP]at h;obtain⟨rfl,rfl⟩:=h;rw[V,cS I];simp[eA,U,nN]
 rename_i B;obtain rfl:y=1:=I;obtain⟨rk,q,b,h⟩:=ey h;obtain⟨k,v,N,h⟩:=ey h;obtain⟨⟨E,u⟩,L,c,h⟩:=ey h;simp[jP]at h;obtain⟨rfl,rfl⟩:=h;have e:=((ki I).1 N).1;have f:=gi (stepW p g) (jo p g) (λ_=>True) (λl x u r y _=>K8 (Jp y)) _ _ _ _ _ c (λ_ _=>trivial);have o:=dG _ _ _ _ _ _ _ c;rw[V,cS I];unfold vJ at b;by_cases c:g=1
 ·rw[aB c]at b;rw[((ki I).1 b).1,e,f];simp[eA,U,zj,c,o,fq]
 rw[aA c]at b;simp[jP]at b;obtain⟨rfl,rfl⟩:=b;rw[e,f];simp[eA,U,zj,c,o]
theorem Aw(U:¬p<=4){r:List UInt8}(o:bA p g n=true)(B:dY n):Hf p g (eA p g n++r)=some (n,r):=by
 unfold bA at o;rw[aA U]at o;unfold Hf eA;rw[aA U];by_cases b:n.aD=true;rotate_left
 ·rw[aA b]at o⊢;obtain⟨a,y,i,k,E⟩:=n;simp only[fX,bh,gW,bq,h!]at o;obtain⟨⟨⟨⟨rfl,rfl⟩,rfl⟩,rfl⟩,rfl⟩:=o;have V:([0]:List UInt8)++r=iA 0++r:=by rw[cS I];rfl
  rw[V,fP (lA _ I I),aB rfl];rfl
 rw[aB b]at o⊢;obtain⟨a,y,i,k,E⟩:=n;simp only[eN,bh,gX,bq,h!,rk]at o;obtain⟨⟨⟨⟨⟨rfl,rfl⟩,W⟩,c⟩,a⟩,e⟩:=o;simp only at b;subst b;have V:(1:UInt8) :: zj p g ⟨[],[],true,k,E⟩++r=iA 1++(zj p g ⟨[],[],true,k,E⟩++r):=by rw[cS I];rfl
 rw[V,fP (lA _ I I),aA I];simp only[zj,ef];have C:vJ g ((if g=1 then fq k else[])++(iA E.length++(E.flatMap (jo p g)++r)))=some (k.toNat,iA E.length++(E.flatMap (jo p g)++r)):=by unfold vJ;exact aai
 rw[fP C,fP (lA _ I I)]
 rw[fP (ew (stepW p g) (jo p g) E r (λv R r=>by
  unfold stepW
  rw[Au ((cF.1 e) v R) c.1 (B.vals v R)]))]
 simp only[jP];congr 3;omega
def Ha{l r:y'}(h:pJ p g l=B' (n,r)):l=eA p g n++r:=by
 unfold pJ at h;by_cases U:p<=4
 ·rw[aB U]at h;rw[K9 h];simp[eA,U]
 rw[aA U]at h;exact Lb U h
def zo{r:y'}(o:bA p g n=O')(B:dY n)(X:ζ (eA p g n)<=60000):pJ p g (eA p g n++r)=B' (n,r):=by
 unfold pJ;by_cases U:p<=4
 ·rw[aB U];unfold bA at o;rw[aB U]at o;unfold eA at X⊢;rw[aB U]at X⊢;exact Av o X
 rw[aA U];exact Aw U o B
def stepM(p g:Int)(_:Unit)(l:y'):Option ((Nd×Unit)×y'):=match pJ p g l with
 |some (n,r)=>B' ((n,()),r)
 |none=>C'
def Jq{l r:y'}(h:stepM p g () l=B' ((n,u),r)):pJ p g l=B' (n,r):=by
 unfold stepM at h;cases b:pJ p g l with
 |none=>rw[b]at h;cases h
 |some a=>have R:=a;rw[b]at h;simp at h;obtain⟨rfl,rfl⟩:=h;rfl
def k?(p g:Int):y'->Option (List Nd×y'):=eL (fH ((60:Nat):Int)) (λk=>eL (bp (stepM p g) k ()) (λns=>jP ns.1))
def DN{l r:y'}{v:List Nd}(h:k? p g l=B' (v,r)):l=iA (ζ v)++(v.flatMap (eA p g)++r):=by unfold k? at h;obtain⟨k,r1,C,h⟩:=ey h;obtain⟨⟨b,u⟩,q,b,h⟩:=ey h;simp[jP]at h;obtain⟨rfl,rfl⟩:=h;have c:=gi (stepM p g) (eA p g) (λ_=>True) (λl x u r y _=>Ha (Jq y)) _ _ _ _ _ b (λ_ _=>trivial);rw[((ki I).1 C).1,c,dG _ _ _ _ _ _ _ b]
def v?{r:y'}{v:List Nd}(o:v.all (bA p g)=O')(B:∀n∈v,dY n)(f:ζ v<=60)(X:ζ (v.flatMap (eA p g))<=60000):k? p g (iA (ζ v)++(v.flatMap (eA p g)++r))=B' (v,r):=by
 rw[k?,fP (lA _ I I)]
 rw[fP (ew (stepM p g) (eA p g) v r (λn K r=>by
  unfold stepM
  rw[zo (cF.1 o n K) (B n K) (J' (y8 (eA p g) v n K))]))]
 rfl
def Un{s:y'}{b d:UInt8}{q:y'}{v:List Nd}(y:s=87::67::1::b::d::q)(X:ζ s<=60000)(h:k? (b.toNat:Int) (d.toNat:Int) q=B' (v,[]))(o:jz ⟨(b.toNat:Int),(d.toNat:Int),v⟩=O')(B:zM ⟨(b.toNat:Int),(d.toNat:Int),v⟩):dec s=B' ⟨(b.toNat:Int),(d.toNat:Int),v⟩:=by
 have l:tM ⟨(b.toNat:Int),(d.toNat:Int),v⟩=s:=by rw[y,DN h];simp[tM,GQ]
 rw[<-l]at X⊢;exact DW o B X
def ld{s:y'}{c:Ct}(h:dec s=B' c):∃(b d:UInt8) (q:y'),s=87::67::1::b::d::q/\ζ s<=60000/\c.aE=(b.toNat:Int)/\c.grade=(d.toNat:Int)/\known (b.toNat:Int) (d.toNat:Int)=O'/\jz c=O'/\k? (b.toNat:Int) (d.toNat:Int) q=B' (c.nodes,[]):=by
 obtain⟨C,i,N,d⟩:=qj h;obtain⟨p,g,v⟩:=c;have k:=C;simp only[jz,bh,bq]at k;obtain⟨⟨c,f⟩,e⟩:=k;have a:=c;simp only[known,bh,gX,bq]at a;have U:((UInt8.ofNat p.toNat).toNat:Int)=p:=wP I I;have b:((UInt8.ofNat g.toNat).toNat:Int)=g:=by
  refine wP ?_ ?_
  ·rcases a.2 with h|h
   ·omega
   have:=h.1;omega
  rcases a.2 with h|h
  ·omega
  have:=h.1;omega
 refine⟨UInt8.ofNat p.toNat,UInt8.ofNat g.toNat,iA (ζ v)++(v.flatMap (eA p g)++[]),by rw[<-i];simp[tM,GQ],N,U.symm,b.symm,by rw[U,b];exact c,C,?_⟩;rw[U,b];refine v? e d.nodes f ?_;rw[<-i]at N;simp only[tM,bF]at N;omega
end
section
variable {w c:u'} {s:z'} {a r z:Nat} {b X:Bool} {T:x'} {o:Obj}
structure zO(W w:u')(s:z')(p g:Int)(a:Nat)(b:Bool)(na:x')(nc:Nat)(cl:List N5):Prop where
  res:W.1[δ w.1]?=B' (k' fZ 51 (0,0))
  box:W.1[δ w.1+1]?=B' (k' #[G p,G g,i' na (ζ cl) nc] 51 (0,0))
  rd:mE W (δ w.1+2) s a b
  bel:Bl w W
  row:ρ W (δ w.1+3) 96 5 (i' na (ζ cl) nc) (ζ cl) (dJ cl)
  own:∀x∈cl,iB W (δ w.1+3) x/\dY x.n
def zO.lt{D:List N5}(h:zO W w s p g a b T r D):δ w.1+3<=δ W.1:=(aY.1 h.rd).1
def iB.off{B q:Nat}{x:N5}(h:iB W B x)(b:ξ W c (B' q))(a:q<B):iB c B x:=
 ⟨h.f.kept b (eo h.f a),h.r.kept b (eo h.r a),h.v.kept b (eo h.v a),h.fn,h.rn,h.vn⟩
def zO.call{D:List N5}(h:zO W w s p g a b T r D)(Q:mE c (δ w.1+2) s z X)(a:ξ W c (B' (δ w.1+2))):zO c w s p g z X T r D:=
 ⟨cP h.res a I,cP h.box a I,Q,h.bel.grown a h.bel.size (λk b=>by cases b;omega),h.row.kept a (eo h.row I),λx F=>⟨(h.own x F).1.off a I,(h.own x F).2⟩⟩
def zO.alloc{D:List N5}(h:zO W w s p g a b T r D)(o:Obj):zO (W.alloc o) w s p g a b T r D:=by have f:=h.lt;have X:∀(k:Nat) (L:Array A') (t:TypeId),W.1[k]?=B' (k' L t (0,0))->(W.alloc o).1[k]?=B' (k' L t (0,0)):=λk L t a=>(bQ (aY.1 a).1).trans a;exact⟨X _ _ _ h.res,X _ _ _ h.box,X _ _ _ h.rd,h.bel.alloc h.bel.size o,h.row.alloc o,λx F=>⟨(h.own x F).1.below bf,(h.own x F).2⟩⟩
def zO.Ar{D:List N5}(h:zO W w s p g a b T r D)(a:ξ (W.alloc o) c (φ (i' T (ζ D) r))):c.1[δ w.1]?=W.1[δ w.1]?/\c.1[δ w.1+1]?=W.1[δ w.1+1]?/\c.1[δ w.1+2]?=W.1[δ w.1+2]?/\Bl w c:=by
 have f:=h.lt;have u:=gj h.row;have X:∀k,k<δ w.1+3->c.1[k]?=W.1[k]?:=by intro k b;refine(a.block k H' ?_).trans (bQ I);intro e;have:=u k e.symm;omega
 exact⟨X _ I,X _ I,X _ I,(h.bel.alloc h.bel.size o).grown a H' (λk b=>J' (u k b))⟩
def zO.app{e:u'}{d:x'}{c:Nat}{D:List N5}{x:N5}(h:zO W w s p g a b T r D)(F:iB W (δ w.1+3) x)(S:dY x.n)
  (j:ρ e (δ w.1+3) 96 5 (i' d (ζ D+1) c) (ζ D+1) (dJ D++eB x)) (i:ξ (W.alloc o) e (φ (i' T (ζ D) r))):
  zO (κ e (O (δ w.1+1) 2) (i' d (ζ D+1) c)) w s p g a b d c (D++[x]):=by
 obtain⟨U,a,k,b⟩:=h.Ar i;have l:=eI (h.row.alloc o);have q:=bX e (δ w.1+1) 2 (i' d (ζ D+1) c);have f:=h.lt;refine⟨(aJ H').trans (U.trans h.res),?_,(aJ H').trans (k.trans h.rd),b.setCell (p:=(O (δ w.1+1) 2)) H' _,?_,?_⟩
 ·rw[aq (a.trans h.box)];simp
 ·have:=j.kept q (eo j I);rw[bF,fF];simpa[dJ]using this
 intro y B;rcases eE.1 B with B|B
 ·exact⟨(((h.own y B).1.below (cz W o)).kept i l).off q I,(h.own y B).2⟩
 simp at B;subst B;exact⟨((F.below (cz W o)).kept i l).off q I,S⟩
def zO.at{D:List N5}(h:zO W w s p g a b T r D):b9 W T (D.map N5.n):=kE h.row (λx F=>(h.own x F).1)
def zO.ct{D:List N5}(h:zO W w s p g a b T r D)(U:lr p)(a:lr g)(X:ζ D<=60):zM ⟨p,g,D.map N5.n⟩:=
 ⟨U,a,(λn K=>by simp at K;obtain⟨x,F,rfl⟩:=K;exact(h.own x F).2),by simp only[b!];omega⟩
def dz.stepM{N:Nat}{v:Nd}(e:dz s N b (pJ p g) v z X):dz s N b (Go.Proofs.YtmipbiligijcpaaGreatDoor.stepM p g ()) (v,()) z X:=by refine⟨e.le,e.sz,?_⟩;unfold Go.Proofs.YtmipbiligijcpaaGreatDoor.stepM;exact aag
def DcD(W':u')(s:z')(e:Ending):Prop:=
 (∃(c:Ct) (cl:List N5) (la:x') (lc:Nat),dec s.1.1=B' c/\c.nodes=cl.map N5.n/\e=p' (t' #[l' (kM c.aE c.grade la (ζ c.nodes) lc),G 0])/\ρ W' 0 96 5 (aO la (ζ c.nodes) lc) (ζ cl) (dJ cl)/\∀x∈cl,iB W' 0 x)\/
 (dec s.1.1=C'/\e=p' (t' #[l' fZ,G 5]))
def k!(h:∀c,dec s.1.1=B' c->False):dec s.1.1=C':=by
 cases Q:dec s.1.1 with
 |none=>rfl
 |some c=>exact(h c Q).elim
def afL(l:5<=s.size)(U:(s.extract 0 3).toList=[87,67,1]):s.1.1=(87:UInt8)::67::1::(s[3]'(I))::(s[4]'(I))::s.1.1.drop 5:=by
 have X:ζ s.1.1=s.size:=rfl;have C:s.1.1.take 3=[87,67,1]:=by have:=U;rw[Lib.extract_toList]at this;simpa using this
 have N:=jC (s:=s) (fr:=3) (a:=3) aF I;have d:=jC (s:=s) (fr:=4) (a:=4) aF I;simp only[kH,lY,ej]at N d
 conv=>lhs;rw[<-oT 3 s.1.1,C,N,d]
 rfl
def Rh{p:Prop}(h:p:=by
 go_wp2_with fail;refine aC (v:=t' #[l' fZ,G 5]) (by simp[results37,go_sem,S]) rfl ?_
 exact⟨aK ⟨K.o,rfl⟩,f.b.trans ((fr3 C w.1.size (G 0) (G 0) (i' C' 0 0)).below (J' f.B) (λk hk=>by show k≠_;omega))⟩):p:=h
def Rg{p:Prop}(h:p:=by
 go_enter func37,ntmps37;go_wp2_with fail;refine aC (v:=t' #[l' fZ,G 5]) (by simp[results37,go_sem]) rfl ?_
 exact⟨aK ⟨K.o,rfl⟩,cG⟩):p:=h
def Zc{p:Prop}(h:p:=by
 have K:J (dec s.1.1=C'):=k! (λc hc=>by
  obtain⟨b,d,q,l,_,y,N,hk,o,a⟩:=ld hc;rw[HH.o]at l;simp only[nh,nV]at l;obtain⟨rfl,rfl,rfl⟩:=l;rcases F.o.how with⟨h,_⟩|⟨_,h|h⟩
  ·cases h
  ·cases h
  ·rw[h]at a;cases a)
 exact Rh):p:=h
def Hh(s:z')(w:u'):
  Cl 37 #[m' s] w λe a=>DcD a s e/\Bl w a:=by
 obtain⟨i1,S,D,P,a⟩:=cQ yT;have HI:=hid (A S (A D (A P a)));clear S D P a;by_cases a:60000<s.size
 ·have X:(60000:Int)<(s.size:Int):=I
  have K:J (dec s.1.1=C'):=k! (λc hc=>by
   obtain⟨b,d,q,_,g,_⟩:=ld hc;have C:ζ s.1.1=s.size:=rfl
   omega)
  exact Rg
 have X:¬(60000:Int)<(s.size:Int):=I;by_cases l:s.size<5
 ·have a:(s.size:Int)<5:=I
  have K:J (dec s.1.1=C'):=k! (λc hc=>by
   obtain⟨b,d,q,l,g,_⟩:=ld hc;have C:ζ s.1.1=s.size:=rfl;rw[l]at C;simp at C
   omega)
  exact Rg
 have a:¬(s.size:Int)<5:=I;have z:(3:Int)<=(s.size:Int):=I;have D:3<s.size:=I;have a:4<s.size:=I;have a:(3:Int)<(s.size:Int):=I;have a:(4:Int)<(s.size:Int):=I;obtain⟨N,f⟩:∃N,((s.extract 0 3).toList==[87,67,1])=N:=⟨_,rfl⟩;cases N with
 |false=>
  have K:J (dec s.1.1=C'):=k! (λc hc=>by
   obtain⟨b,d,q,l,g,_⟩:=ld hc;rw[Lib.extract_toList,l]at f
   simp at f)
  exact Rg
 |true=>
  have a:5<=s.size:=I;have V:=afL a (by simpa using f);have HH:J (s.1.1=(87:UInt8)::67::1::s[3]::s[4]::s.1.1.drop 5):=V;clear V;have Y:=gV s[3];have v:=gV s[4];by_cases a:1<=s[3].toNat/\s[3].toNat<=6/\1<=s[4].toNat/\s[4].toNat<=2;rotate_left
  ·have K:J (dec s.1.1=C'):=k! (λc hc=>by
    obtain⟨b,d,q,l,_,_,_,hk,_⟩:=ld hc;rw[HH.o]at l;simp only[nh,nV]at l;obtain⟨rfl,rfl,_⟩:=l;simp only[known,bh,gX,bq]at hk;apply a;refine⟨I,I,?_,?_⟩
    ·rcases hk.2 with h|h
     ·omega
     ·have:=h.1;omega
    ·rcases hk.2 with h|h
     ·omega
     ·have:=h.1;omega)
   go_enter func37,ntmps37;go_wp2_with fail
   all_goals first
    |(exfalso;omega)
    |(refine aC (v:=t' #[l' fZ,G 5]) (by simp[results37,go_sem]) rfl ?_;exact⟨aK ⟨K.o,rfl⟩,cG⟩)
  have N:¬(s[3].toNat:Int)<1:=I;have k:¬(6:Int)<(s[3].toNat:Int):=I;have j:¬(s[4].toNat:Int)<1:=I;have a:¬(2:Int)<(s[4].toNat:Int):=I;go_enter func37,ntmps37;go_wp2_with fail
  all_goals try(exfalso;omega)
  obtain⟨S,X⟩:=Ea ((((w.alloc (k' fZ 51)).alloc (k' #[G (s[3].toNat:Int),G (s[4].toNat:Int),i' C' 0 0] 51)).alloc (k' #[m' s,G 5,j' P'] 124)));rw[<-X];have g:J (zO S w s (s[3].toNat:Int) (s[4].toNat:Int) 5 P' C' 0 []):=by
   rw[X];refine⟨?_,?_,?_,gB,cb,λx hx=>by cases hx⟩
   ·rw[bQ H',bQ ak,cv]
   ·rw[bQ ak];exact(bL w _ _).2
   have:=cv ((w.alloc (k' fZ 51)).alloc (k' #[G (s[3].toNat:Int),G (s[4].toNat:Int),i' C' 0 0] 51)) (k' #[m' s,G 5,j' P'] 124);have e:δ ((w.alloc (k' fZ 51)).alloc (k' #[G (s[3].toNat:Int),G (s[4].toNat:Int),i' C' 0 0] 51)).1=δ w.1+2:=ak;rwa[e]at this
  clear X;clear N k j a;refine(eJ (δ w.1+2) 5 60 s P' S g.o.rd I I I).mono ?_;rintro e t ⟨k,N,a,rfl,hk,Q,U,f⟩;have j:J (zO t w s (s[3].toNat:Int) (s[4].toNat:Int) N a C' 0 []):=g.o.call U f;have R:J (dz s 5 P' (fH ((60:Nat):Int)) k N a):=Q;have P:=Q.sz;clear U f Q;go_wp2_with fail;go_loopw[7] (λy wr=>∃(i:Nat) (T:x') (r:Nat) (D:List N5) (t:Nat) (b2:Bool),i<=k/\y=G i/\J (ζ D=i/\dz s N a (bp (stepM (s[3].toNat:Int) (s[4].toNat:Int)) i ()) (D.map N5.n,()) t b2)/\J (zO wr w s (s[3].toNat:Int) (s[4].toNat:Int) t b2 T r D)) (λy _=>k-(intOf y).toNat)
  case atStart=>exact⟨0,C',0,[],N,a,I,rfl,⟨rfl,dz.start a _ _ P⟩,j.o⟩
  obtain⟨i,T,r,D,t,b2,hik,rfl,Q,p⟩:=hrel;obtain⟨W,z2⟩:=M p.o.rd;obtain⟨E,g⟩:=M p.o.box;by_cases a:i<k
  ·have tH:(i:Int)<k:=I;cases b2 with
   |false=>
    go_wp2_with fail;clear W z2 E g;refine(PD (s[3].toNat:Int) (s[4].toNat:Int) T (ζ D) r (δ w.1+2) t s P' wr p.o.rd Q.A.sz I).mono ?_;rintro e F ⟨x,a3,X,rfl,o,B,U,N,a⟩;have u:J (zO F w s (s[3].toNat:Int) (s[4].toNat:Int) a3 X T r D):=p.o.call N a;have H3:J (iB F (δ w.1+3) x/\dY x.n/\dz s t P' (pJ (s[3].toNat:Int) (s[4].toNat:Int)) x.n a3 X):=⟨o.own.mono p.o.lt,B,U⟩;clear N a U o B;simp only[mf];go_upto_region 14 with(fail)
    obtain⟨y,C⟩:=Ea (F.alloc (k' (n? x.fa (ζ x.n.facts) x.fc x.ra (ζ x.n.aW) x.rc x.n.aD x.n.rank x.va (ζ x.n.vals) x.vc) 96));rw[<-C];have B:J (zO y w s (s[3].toNat:Int) (s[4].toNat:Int) a3 X T r D/\iB y (δ w.1+3) x):=by rw[C];exact⟨u.o.alloc _,H3.a.below bf⟩
    have z:y.1[δ F.1]?=B' (k' (n? x.fa (ζ x.n.facts) x.fc x.ra (ζ x.n.aW) x.rc x.n.aD x.n.rank x.va (ζ x.n.vals) x.vc) 96 (0,0)):=by rw[C];exact bV
    have L:ρ (y.alloc (k' (n? x.fa (ζ x.n.facts) x.fc x.ra (ζ x.n.aW) x.rc x.n.aD x.n.rank x.va (ζ x.n.vals) x.vc) 96)) (δ w.1+3) 96 5 (i' T (ζ D) r) (ζ D) (dJ D):=B.a.row.alloc _;have v:δ w.1+3<=δ (y.alloc (k' (n? x.fa (ζ x.n.facts) x.fc x.ra (ζ x.n.aW) x.rc x.n.aD x.n.rank x.va (ζ x.n.vals) x.vc) 96)).1:=by have:=B.a.lt;simp;omega
    have U:ζ D+1<=maxLen/\(ζ D+1)*88<=140737488355328:=by have:=Q.a;simp only[maxLen];omega
    have a:∀(j:Nat) (u:A'),(eB x)[j]?=B' u->χ (y.alloc (k' (n? x.fa (ζ x.n.facts) x.fc x.ra (ζ x.n.aW) x.rc x.n.aD x.n.rank x.va (ζ x.n.vals) x.vc) 96)) (((O y.1.size 0):Addr).add j)=B' u:=by intro j u f;rw[eX,bW,AL];simpa[eB]using f
    have V:=hid (A L (A v (A U a)));have HA:J (∀(N:x') (f:Nat) (P:u'),ρ P (δ w.1+3) 96 5 (i' N (ζ D+1) f) (ζ D+1) (dJ D++eB x)->ξ (y.alloc (k' (n? x.fa (ζ x.n.facts) x.fc x.ra (ζ x.n.aW) x.rc x.n.aD x.n.rank x.va (ζ x.n.vals) x.vc) 96)) P (φ (i' T (ζ D) r))->P.1[δ w.1+1]?=B' (k' #[G (s[3].toNat:Int),G (s[4].toNat:Int),i' T (ζ D) r] 51 (0,0))/\zO (κ P (O (δ w.1+1) 2) (i' N (ζ D+1) f)) w s (s[3].toNat:Int) (s[4].toNat:Int) a3 X N f (D++[x])):=by intro N f P Y F;exact⟨(B.a.Ar F).2.1.trans B.a.box,B.a.app B.A H3.b Y F⟩
    obtain⟨q1,q2⟩:=M z;obtain⟨S,y2⟩:=M B.a.box;clear L v U z C a;go_wp2_with (at_builtin;refine qD _ rfl _ _ 46 rfl (δ w.1+3) 96 i1 (l' gH) 5 88 underlying46 HI.a HI.b HI.c HI.C rfl aj (i' T (ζ D) r) (ζ D) (dJ D) rfl V.a (O y.1.size 0) 1 1 (eB x) rfl rfl V.C (by intro u C;simp[eB]at C;rcases C with rfl|rfl|rfl|rfl|rfl<;>rfl) V.c.1 V.c.2 V.b ?_;intro U P Y F _ u;obtain⟨N,f,rfl⟩:=aV Y;have a:=hid (HA.o N f P Y F);clear S y2 q1 q2 Y F u;obtain⟨S,y2⟩:=M a.a);refine⟨⟨i+1,N,f,D++[x],a3,X,I,f',⟨by rw[bF,Q.a];rfl,?_⟩,a.A⟩,by simp[intOf];omega⟩;rw[eW];exact Q.A.snoc H3.B.stepM
   |true=>have a:dz s 5 P' (k? (s[3].toNat:Int) (s[4].toNat:Int)) (D.map N5.n) t O':=R.o.bind ((Q.A.cut hik (D.map N5.n,())).bind (dz.ret O' _ Q.A.sz));have F:J (dz s 5 P' (k? (s[3].toNat:Int) (s[4].toNat:Int)) (D.map N5.n) t O'):=a;clear a;have U:J (zM ⟨(s[3].toNat:Int),(s[4].toNat:Int),D.map N5.n⟩):=p.o.ct ⟨I,I⟩ ⟨I,I⟩ (J' Q.a);have u:=y7 T r ⟨(s[3].toNat:Int),(s[4].toNat:Int),D.map N5.n⟩ wr p.o.at U.o;simp only[b!]at u;obtain⟨X,hO⟩:∃X,jz ⟨(s[3].toNat:Int),(s[4].toNat:Int),D.map N5.n⟩=X:=⟨_,rfl⟩;rw[hO]at u;have V:J (jz ⟨(s[3].toNat:Int),(s[4].toNat:Int),D.map N5.n⟩=X):=hO;have Y:=hid u;clear u hO;go_wp2_with fail;refine bK Y.o ?_;clear W z2 E g;rintro e C ⟨rfl,z⟩;have v:Fr (λ_=>True) wr C:=Fr.aX z;have L:=v.box p.o.res trivial;have P:=v.box p.o.box trivial;have B:=v.box p.o.rd trivial;have HB5:J (Bl wr C):=z;have f:J (b9 C T (D.map N5.n)/\Bl w C/\δ w.1+3<=δ C.1):=⟨p.o.at.below z,H p.o.bel z,bD p.o.lt z.size⟩;obtain⟨W,z2⟩:=M B;obtain⟨E,g⟩:=M P;obtain⟨S,y2⟩:=M L;clear v z L P B;exact Zc
  have tH:¬(i:Int)<k:=I;obtain rfl:i=k:=I;have a:dz s 5 P' (k? (s[3].toNat:Int) (s[4].toNat:Int)) (D.map N5.n) t b2:=R.o.bind (Q.A.bind (dz.ret b2 _ Q.A.sz));have F:J (dz s 5 P' (k? (s[3].toNat:Int) (s[4].toNat:Int)) (D.map N5.n) t b2):=a;clear a;have U:J (zM ⟨(s[3].toNat:Int),(s[4].toNat:Int),D.map N5.n⟩):=p.o.ct ⟨I,I⟩ ⟨I,I⟩ (J' Q.a);have u:=y7 T r ⟨(s[3].toNat:Int),(s[4].toNat:Int),D.map N5.n⟩ wr p.o.at U.o;simp only[b!]at u;obtain⟨X,hO⟩:∃X,jz ⟨(s[3].toNat:Int),(s[4].toNat:Int),D.map N5.n⟩=X:=⟨_,rfl⟩;rw[hO]at u;have V:J (jz ⟨(s[3].toNat:Int),(s[4].toNat:Int),D.map N5.n⟩=X):=hO;have Y:=hid u;clear u hO;go_wp2_with fail;refine bK Y.o ?_;clear W z2 E g;rintro e C ⟨rfl,z⟩;have v:Fr (λ_=>True) wr C:=Fr.aX z;have L:=v.box p.o.res trivial;have P:=v.box p.o.box trivial;have B:=v.box p.o.rd trivial;have HB5:J (Bl wr C):=z;have f:J (b9 C T (D.map N5.n)/\Bl w C/\δ w.1+3<=δ C.1):=⟨p.o.at.below z,H p.o.bel z,bD p.o.lt z.size⟩;obtain⟨W,z2⟩:=M B;obtain⟨E,g⟩:=M P;obtain⟨S,y2⟩:=M L;clear v z L P B;have e:ζ s.1.1=s.size:=rfl;cases b2 with
  |true=>exact Zc
  |false=>
   have g:J (k? (s[3].toNat:Int) (s[4].toNat:Int) (s.1.1.drop 5)=B' (D.map N5.n,s.1.1.drop t)):=by
    rcases F.o.how with⟨_,_,h⟩|⟨h,_⟩
    ·exact h
    cases h
   have e:=F.o.sz;by_cases e:t=s.size;rotate_left
   ·have z:((t:Int) !=(s.size:Int))=O':=by rw[kK];omega
    have K:J (dec s.1.1=C'):=k! (λc hc=>by
     obtain⟨b,d,q,l,_,y,N,hk,o,a⟩:=ld hc;rw[HH.o]at l;simp only[nh,nV]at l;obtain⟨rfl,rfl,rfl⟩:=l;rw[g.o]at a;simp at a
     omega)
    exact Rh
   have z:((t:Int) !=(s.size:Int))=P':=by rw[e];simp
   have W:s.1.1.drop t=[]:=I2 I;cases X with
   |true=>
    have K:J (dec s.1.1=B' ⟨(s[3].toNat:Int),(s[4].toNat:Int),D.map N5.n⟩):=Un HH.o I (by rw[g.o,W]) V.o U.o;have i:J (t=s.size):=e;clear e W;go_wp2_with fail;refine aC (v:=t' #[l' #[G (s[3].toNat:Int),G (s[4].toNat:Int),i' T (ζ D) r],G 0]) (by simp[results37,go_sem,S]) rfl ?_;have i:=fr3 C w.1.size (G (s[3].toNat:Int)) (G (s[4].toNat:Int)) (i' T (ζ D) r);have t:=p.o.row;have v:Fr (λj=>j≠δ w.1) wr _:=Fr.trans (Fr.aX (P:=λj=>j≠δ w.1) HB5.o) i (λ_ _ h=>h);have h:=a! (v.own t (λk hk=>by have:=(t.lt k hk).1;show k≠_;omega)) bj;have j:∀x∈D,iB (κ (κ (κ C (O w.1.size 0) (G (s[3].toNat:Int))) (O w.1.size 1) (G (s[4].toNat:Int))) (O w.1.size 2) (i' T (ζ D) r)) 0 x:=λx hx=>by have L:=(p.o.own x hx).1;exact iB.mono ⟨v.own L.f (λk hk=>by have:=(L.f.lt k hk).1;show k≠_;omega),v.own L.r (λk hk=>by have:=(L.r.lt k hk).1;show k≠_;omega),v.own L.v (λk hk=>by have:=(L.v.lt k hk).1;show k≠_;omega),L.fn,L.rn,L.vn⟩ bj
    exact⟨aI ⟨⟨(s[3].toNat:Int),(s[4].toNat:Int),D.map N5.n⟩,D,T,r,K.o,rfl,ak,by simpa using h,j⟩,f.b.trans (i.below (J' f.B) (λk hk=>by show k≠_;omega))⟩
   |false=>
    have K:J (dec s.1.1=C'):=k! (λc hc=>by
     obtain⟨b,d,q,l,_,y,N,hk,o,a⟩:=ld hc;rw[HH.o]at l;simp only[nh,nV]at l;obtain⟨rfl,rfl,rfl⟩:=l;rw[g.o]at a;simp at a;obtain⟨P,d,g⟩:=c;simp only at y N a;have:=V.o;rw[a.1,<-y,<-N,o]at this
     cases this)
    clear e W;exact Rh
end
def Tt:(Tryz.prog.info? 46).map (λi=>(i.zero,i.size,i.bytes))=B' (B' (i' C' 0 0),1,24):=au
def VR(n:Nat)(h:n<=60):n+1<=maxLen/\(n+1)*88<=140737488355328/\n+1+1<=maxLen/\(n+1+1)*88<=140737488355328/\n+1+1+1<=maxLen/\(n+1+1+1)*88<=140737488355328:=by have:80000<=maxLen:=aj;omega
def py{a:A'}{l:List A'}(b:a.oneCell'=O')(X:∀u∈l,u.oneCell'=O'):∀u∈a::l,u.oneCell'=O':=by
 intro u C;rcases dr.1 C with rfl|C
 ·exact b
 exact X u C
def abF(q:Nat):∀u∈[i' C' 0 0,i' C' 0 0,j' P',G (-7-(q:Int)),i' C' 0 0],u.oneCell'=O':=py rfl (py rfl (py rfl (py rfl (py rfl (λu C=>by cases C)))))
def adC(q:Nat)(h:q<=100000):wrap64 (q:Int)=q/\wrap64 (-7-(q:Int))=-7-q:=by unfold wrap64;omega
def SR(W:u')(U N a b C:A'):∀(j:Nat) (u:A'),[U,N,a,b,C][j]?=B' u->χ (W.alloc (k' #[U,N,a,b,C] 96)) (((O W.1.size 0):Addr).add j)=B' u:=by intro j u f;rw[eX,bW,AL];simpa using f
def uD{W:u'}{B n r:Nat}{T:x'}{D:List N5}{i:Nat}{x:N5}(h:ρ W B 96 5 (i' T n r) n (dJ D))(K:ζ D=n)(F:D[i]?=B' x):∃g,T=B' (O g 0)/\χ W (O g (i*5))=B' (aO x.fa (ζ x.n.facts) x.fc)/\χ W (O g (i*5+1))=B' (aO x.ra (ζ x.n.aW) x.rc)/\χ W (O g (i*5+4))=B' (aO x.va (ζ x.n.vals) x.vc):=by
 have S:=(bm.1 F).1;rcases h.2 with⟨_,e⟩|⟨g,a,Y,R,_⟩
 ·omega
 cases R;have a:=h.cells (g:=g) rfl;have X:∀j u,(eB x)[j]?=B' u->χ W (O g (i*5+j))=B' u:=by intro j u C;have:=a _ _ (wI D i x F j u C);rwa[eX,bW]at this
 exact⟨g,rfl,by simpa using X 0 _ rfl,X 1 _ rfl,X 4 _ rfl⟩
structure aay(w W:u')(bb B lo hi Z n1 n4 n5:Nat)(l5 wn rn:A'):Prop where
  how:∃(Al:x') (pE:Nat) (Ak:x') (Aj:Nat) (Tb:x') (Ta:Nat) (s1' CP s5':List A'),ζ s1'=4*n1/\ζ CP=4*n4/\ζ s5'=4*n5/\BN W bb B (aO Al (ζ s1') pE) (aO Ak (ζ CP) Aj) (aO Tb (ζ s5') Ta) wn rn s1' CP s5'/\(∀v∈s1',∀k,φ v=B' k->k<hi\/Z<=k)/\(∀v∈CP,∀k,φ v=B' k->k<hi\/Z<=k)/\(∀v∈s5',∀k,φ v=B' k->k<hi\/Z<=k)/\NF B lo hi w W/\(∀(k:Nat) (cur:Array A'),w.1[k]?=B' (k' cur 46 (0,0))->some k≠φ l5->W.1[k]?=w.1[k]?)/\(φ (i' Tb (ζ s5') Ta)=φ l5\/∃q,φ (i' Tb (ζ s5') Ta)=B' q/\δ w.1<=q)
def O6(bb B lo S Z q1 q4 q5:Nat)(T V l4a KF:x')(r qd Tc KE:Nat)(D:List N5)(wn rn:A')(U s4 s5:List A')(w:u')
  (g:BN w bb B (aO V (ζ U) qd) (aO l4a (ζ s4) Tc) (aO KF (ζ s5) KE) wn rn U s4 s5) (hT:Lx w lo S T r D) (u:ζ U=4*q1) (s:ζ s4=4*q4) (h5:ζ s5=4*q5)
  (c:∀v∈U,∀k,φ v=B' k->k<lo\/Z<=k) (y:∀v∈s4,∀k,φ v=B' k->k<lo\/Z<=k) (C:∀v∈s5,∀k,φ v=B' k->k<lo\/Z<=k)
  (hbb:B<=bb) (l:B<=lo) (hlh:lo<=S) (hhi:S<=Z) (f:Z<=δ w.1) (o:q1<=10000) (q:q4<=10000) (hQ5:q5<=10000):
  Cl 32 #[o' (B' (O bb 0)),i' T (ζ D) r] w λe W=>e=p' (t' #[])/\aay w W bb B lo S Z (q1+2*ζ D) (q4+ζ D) (q5+1) (aO KF (ζ s5) KE) wn rn:=by
 obtain⟨i1,d,Qa,P,z⟩:=cQ yT;have HI:=hid (A d (A Qa (A P z)));clear d Qa P z;obtain⟨i2,W,Qa,P,z⟩:=cQ Tt;have u2:=hid (A W (A Qa (A P z)));clear W Qa P z;have HW:J (((ζ s5:Nat):Int).tdiv 4=(q5:Int)/\wrap64 (q5:Int)=q5/\wrap64 (-7-(q5:Int))=-7-q5):=⟨by rw[h5];simp[Int.tdiv],adC q5 I⟩;have Xi:ζ s5<=100000:=I;have acj:=hT.len;have d:J (NJ w w bb B lo S Z (q1+2*0) (q4+0) (aO V (ζ U) qd) (aO l4a (ζ s4) Tc) (aO KF (ζ s5) KE) wn rn U s4 s5 T r D (Vs D 0)):=(NJ.start g hT u s c y hbb l hhi f).congr (λk=>⟨λh=>h.elim,λ⟨j,_,hj,_⟩=>I⟩);clear g c y;go_enter func32,ntmps32;go_wp2;go_loopw[4] (λy wr=>∃(i:Nat) (p Ak:x') (pE Aj:Nat) (Q CP:List A'),i<=ζ D/\y=G i/\J (NJ w wr bb B lo S Z (q1+2*i) (q4+i) (aO p (ζ Q) pE) (aO Ak (ζ CP) Aj) (aO KF (ζ s5) KE) wn rn Q CP s5 T r D (Vs D i))) (λy _=>ζ D-(intOf y).toNat)
 ·exact⟨0,V,l4a,qd,Tc,U,s4,I,rfl,d.o⟩
 clear d;obtain⟨i,p,Ak,pE,Aj,Q,CP,y,rfl,N⟩:=hrel;by_cases rW:i<ζ D
 ·have iz:(i:Int)<(ζ D:Int):=I;obtain⟨x,F⟩:=La rW;have d:=aT F;obtain⟨P,z,Tz⟩:=hT.sz x d;have HX:J (D[i]?=B' x/\x∈D):=⟨F,d⟩;clear F d;obtain⟨g,rfl,c0,_,_⟩:=uD N.o.row rfl HX.a;go_wp2_with fail;have V:=N.o.Pe;have e4:=N.o.S8;refine(Gx bb B (q1+2*i) x.fa p x.fc pE x.n.facts _ _ _ _ Q wr N.o.bk.box N.o.bk.r1 (a! (N.o.fs x HX.A (λk hk=>wN hT.ap HX.a (Gb hk))) l) N.o.bk.base P I V).mono ?_;rintro e t ⟨rfl,afb,afa,y1,y2,y3,hP⟩;have L:ζ (Q++[x.fv,y1,y2,y3])=ζ Q+4:=ak
  rw[<-L]at hP;have d:=N.o.f hT HX.A (λk hk=>wN hT.ap HX.a (Gb hk)) hP;generalize Q++[x.fv,y1,y2,y3]=s2 at d L;have H1:J (NJ w t bb B lo S Z (q1+2*i+1) (q4+i) (aO afb (ζ s2) afa) (aO Ak (ζ CP) Aj) (aO KF (ζ s5) KE) wn rn s2 CP s5 (B' (O g 0)) r D (λk=>Vs D i k\/φ x.fv=B' k)):=d;clear hP d c0;obtain⟨g',hg',_,c1,_⟩:=uD H1.o.row rfl HX.a;cases hg';have d:J (∀k,φ x.rv=B' k->¬(Vs D i k\/φ x.fv=B' k)):=by
   intro k hk h;rcases h with h|h
   ·exact wN hT.ap HX.a (MR hk) h
   rcases(hT.ok x HX.A).ap with h2|h2
   ·rw[h2]at h;cases h
   exact h2 (h.trans hk.symm)
  go_wp2_with fail;have y:=H1.o.Pe;refine(Gx bb B (q1+2*i+1) x.ra afb x.rc afa x.n.aW _ _ _ _ s2 t H1.o.bk.box H1.o.bk.r1 (a! (H1.o.rs x HX.A d.o) l) H1.o.bk.base z I y).mono ?_;rintro e W2 ⟨rfl,abY,abX,y1,y2,y3,hP⟩;have L:ζ (s2++[x.rv,y1,y2,y3])=ζ s2+4:=ak
  rw[<-L]at hP;have y:=H1.o.r hT HX.A d.o hP;generalize s2++[x.rv,y1,y2,y3]=s3 at y L;have H2:J (NJ w W2 bb B lo S Z (q1+2*i+1+1) (q4+i) (aO abY (ζ s3) abX) (aO Ak (ζ CP) Aj) (aO KF (ζ s5) KE) wn rn s3 CP s5 (B' (O g 0)) r D (λk=>(Vs D i k\/φ x.fv=B' k)\/φ x.rv=B' k)):=y;clear hP y c1 d;obtain⟨g',hg',_,_,c4⟩:=uD H2.o.row rfl HX.a;cases hg';have d:J (∀k,φ x.vv=B' k->¬((Vs D i k\/φ x.fv=B' k)\/φ x.rv=B' k)):=by
   intro k hk h;have Qb:=hT.ok x HX.A;rcases h with(h|h)|h
   ·exact wN hT.ap HX.a (MQ hk) h
   ·rcases fj Qb.v Qb.f aj with h2|h2
    ·rw[h2]at hk;cases hk
    exact h2 (hk.trans h.symm)
   rcases fj Qb.v Qb.r aj with h2|h2
   ·rw[h2]at hk;cases hk
   exact h2 (hk.trans h.symm)
  go_wp2_with fail;refine(QE bb B (q4+i) x.va Ak x.vc Aj x.n.vals _ _ _ _ CP W2 H2.o.bk.box H2.o.bk.r4 (a! (H2.o.vs x HX.A d.o) l) H2.o.bk.base Tz I e4).mono ?_;rintro e W3 ⟨rfl,P,y,y1,y2,y3,hP⟩;have L:ζ (CP++[x.vv,y1,y2,y3])=ζ CP+4:=ak;rw[<-L]at hP;have V:=H2.o.v hT HX.A d.o hP;generalize CP++[x.vv,y1,y2,y3]=W at V L;have z:J (NJ w W3 bb B lo S Z (q1+2*(i+1)) (q4+(i+1)) (aO abY (ζ s3) abX) (aO P (ζ W) y) (aO KF (ζ s5) KE) wn rn s3 W s5 (B' (O g 0)) r D (Vs D (i+1))):=by have:=V.congr (λk=>VN HX.a k);rwa[show q1+2*i+1+1=q1+2*(i+1)by omega,show q4+i+1=q4+(i+1)by omega]at this
  clear hP V c4 d;go_wp2;exact⟨⟨i+1,abY,P,abX,y,s3,W,I,f',z⟩,by simp[intOf];omega⟩
 have iz:¬(i:Int)<(ζ D:Int):=I;obtain rfl:i=ζ D:=I
 rename u'=>w0
 obtain⟨E,x2⟩:=M N.o.bk.box;simp only[dn]at E;have HAr:J (B<=bb/\B<=lo/\lo<=S/\S<=Z/\Z<=δ w.1/\ζ s5=4*q5/\ζ s5<=100000/\ζ D<=60/\q5<=10000):=⟨hbb,l,hlh,hhi,f,h5,Xi,acj,hQ5⟩;have HC5:J (∀v∈s5,∀k,φ v=B' k->k<lo\/Z<=k):=C;have HT:J (Lx w lo S T r D):=hT;clear hbb hlh hhi f h5 Xi acj o q hQ5 u s C hT;obtain⟨q,o,c⟩:=HW.o;have d:J (B<=lo):=l;clear l;go_wp2;clear q o c;have l:=d.o;have o:=N.o.bk.box;have q:=N.o.bk.r5;have X:=a! N.o.row l;have d:=N.o.bk.base;clear E x2;have agp:bb<δ w0.1:=(aY.1 o).1;obtain⟨w1,c⟩:=Ea (w0.alloc (k' #[i' C' 0 0,i' C' 0 0,j' P',G (-7-(q5:Int)),i' C' 0 0] 96));rw[<-c];have d:w1.1[δ w0.1]?=B' (k' #[i' C' 0 0,i' C' 0 0,j' P',G (-7-(q5:Int)),i' C' 0 0] 96 (0,0)):=by rw[c];exact bV
 have hbz:bb<δ w1.1:=by rw[c];simp;omega
 have hB1:B<=δ w1.1:=by rw[c];simp;omega
 have s:some w0.1.size≠φ (i' T (ζ D) r):=by intro e;have:=(X.lt _ e.symm).2;omega
 have o:w1.1[bb]?=B' (k' (dn (aO p (ζ Q) pE) (aO Ak (ζ CP) Aj) (aO KF (ζ s5) KE) wn rn) 32 (0,0)):=by rw[c,bQ agp];exact o
 have q:ρ w1 B 46 1 (aO KF (ζ s5) KE) (ζ s5) s5:=by rw[c];exact q.alloc _
 have X:ρ w1 B 96 5 (i' T (ζ D) r) (ζ D) (dJ D):=by rw[c];exact X.alloc _
 have HM:J (w1.1[δ w0.1]?=B' (k' #[i' C' 0 0,i' C' 0 0,j' P',G (-7-(q5:Int)),i' C' 0 0] 96 (0,0))/\some w0.1.size≠φ (i' T (ζ D) r)/\w1=w0.alloc (k' #[i' C' 0 0,i' C' 0 0,j' P',G (-7-(q5:Int)),i' C' 0 0] 96)/\δ w0.1<δ w1.1):=⟨d,s,c,by rw[c];simp⟩;clear d s c;have HB0:J (some bb≠φ (i' T (ζ D) r)/\some bb≠φ (i' KF (ζ s5) KE)/\(φ (i' KF (ζ s5) KE)=C'\/φ (i' KF (ζ s5) KE)≠φ (i' T (ζ D) r))):=⟨mM X o aj,mM q o aj,fj q X aj⟩;have s:=hid X;have HX:=hid (A o q);clear X o q;go_loopw[6] (λi wr=>∃k:Nat,i=G k/\k<=ζ D/\J (ρ wr B 96 5 (i' T (ζ D) r) (ζ D) (marks k [i' C' 0 0,i' C' 0 0,j' P',G (-7-(q5:Int)),i' C' 0 0]++(dJ D).drop (k*5)))/\J (ξ w1 wr (φ (i' T (ζ D) r)))) (λi _=>ζ D-(intOf i).toNat)
 ·exact⟨0,rfl,bj,(by show World.ownsRow _ _ _ _ _ _ _;rw[yH,ej,AO];exact s.o),⟨rfl,rfl,rfl,aF,λ_ _ _=>rfl⟩⟩
 obtain⟨k,rfl,hk,X,HG⟩:=hrel;have acj:ζ D<=60:=HT.o.len;by_cases rW:k<ζ D
 ·have hki:(k:Int)<(ζ D:Int):=I
  obtain⟨g,rfl⟩:∃g,T=B' ⟨g,0,C'⟩:=by
   rcases X.A with⟨_,e⟩|⟨g,cap,Y,e,_⟩
   ·omega
   cases e;exact⟨g,rfl⟩
  obtain⟨d,cx⟩:(∀o,wr.frozen? ⟨g,o,C'⟩=P')/\∀o,o<ζ D*5->∃u,χ wr ⟨g,o,C'⟩=B' u:=by
   rcases X.A with⟨e,_⟩|⟨g',cap,Y,e,_,hg,hc,_,y,_⟩
   ·cases e
   cases e;refine⟨λo=>by simp[World.frozen?,hg],λo d=>⟨Y[o]'(J' (qG 5 hc)),by simp[World.cell?,hg]⟩⟩
  obtain⟨d,c0⟩:=cx (k*5) I;obtain⟨d,c1⟩:=cx (k*5+1) I;obtain⟨i,d⟩:=cx (k*5+2) I;obtain⟨d,d⟩:=cx (k*5+3) I;obtain⟨d,c4⟩:=cx (k*5+4) I;clear cx;obtain⟨m1,m2⟩:=M ((HG.o.block _ HM.C HM.b).trans HM.a);go_wp2;have d:=X.o.stored (k*5) (i' C' 0 0);have S:=d.1.stored (k*5+1) (i' C' 0 0);have i:=S.1.stored (k*5+2) (j' P');have o:=i.1.stored (k*5+3) (G (-7-(q5:Int)));have g:=o.1.stored (k*5+4) (i' C' 0 0);have U:=g.1;have s2:=(((d.2.trans S.2).trans i.2).trans o.2).trans g.2;rw[Jw k _ _ _ _ _ _ (by rw[gR];omega)]at U;refine⟨⟨k+1,rfl,I,U,HG.o.trans s2⟩,by simp only[intOf];omega⟩
 obtain rfl:k=ζ D:=I;have hki:¬((ζ D:Int)<(ζ D:Int)):=I;have c:=X.o;rw[qE (by rw[gR];omega),gO]at c;have q:AP w1 wr B 96 (ζ D) [i' C' 0 0,i' C' 0 0,j' P',G (-7-(q5:Int)),i' C' 0 0] (i' T (ζ D) r) (i' T (ζ D) r) [i' T (ζ D) r]:=by refine⟨c,?_,aI rfl,Fr.dj HG.o (λ_ _ h=>h)⟩;intro v R;simp only[jg]at R;subst R;exact⟨lq.Dj c,aF,aI rfl⟩
 have HA:J (AP w1 wr B 96 (ζ D) [i' C' 0 0,i' C' 0 0,j' P',G (-7-(q5:Int)),i' C' 0 0] (i' T (ζ D) r) (i' T (ζ D) r) [i' T (ζ D) r]):=q;clear c X q HG s;obtain⟨b1,b2,b3,b4,b5,b6⟩:=VR (ζ D) HT.o.len;obtain⟨b7,b8⟩:=L! (ζ s5) HAr.g;obtain⟨m1,m2⟩:=M ((HA.o.fr.block _ HM.C HM.b).trans HM.a)
 go_wp2_with (first
  |(at_builtin;have _:=K;refine qD _ rfl _ _ 29 rfl B 46 i2 (i' C' 0 0) 1 24 underlying29 u2.a u2.b u2.c u2.C rfl aj (aO KF (ζ s5) KE) (ζ s5) s5 rfl (HX3.A.alloc _) (O W3.1.size 0) 4 4 [i' T (ζ D) r,i' xa (ζ D+1) xc,i' ya (ζ D+1+1) yc,i' za (ζ D+1+1+1) zc] rfl rfl (uZ _ _ _ _ _ _) (by intro u c;simp at c;rcases c with rfl|rfl|rfl|rfl<;>rfl) b7 b8 (K.o.base hB1 _) ?_;intro d d c g5 _ s;obtain⟨Tb,Ta,rfl⟩:=aV c;have d:=(jO W3 (k' #[i' T (ζ D) r,i' xa (ζ D+1) xc,i' ya (ζ D+1+1) yc,i' za (ζ D+1+1+1) zc] 46) _).trans g5;have Tz:=K.o.fr.size;clear E x2;obtain⟨E,x2⟩:=M ((d.block bb I HB0.b).trans HX3.a);simp only[dn]at E;have H5:=hid (A d (A c s));clear d c s g5)
  |(at_builtin;have _:=a;refine cD _ rfl _ _ 46 rfl B 96 i1 (.agg gH) 5 88 underlying46 HI.a HI.b HI.c HI.C rfl aj (.slice ya (ζ D+1+1) yc) (ζ D+1+1) (marks (ζ D+1+1) [.slice C' 0 0,.slice C' 0 0,.bool P',G (-7-(q5:Int)),.slice C' 0 0]) rfl (a.o.row.alloc _) (O W2.1.size 0) 1 1 [.slice C' 0 0,.slice C' 0 0,.bool P',G (-7-(q5:Int)),.slice C' 0 0] rfl rfl (SR _ _ _ _ _ _) (abF q5) b5 b6 (a.o.base hB1 _) ?_;intro z W3 o1 k1 g1 s;have c:=a.o.step o1 k1 g1 s;obtain⟨za,zc,rfl⟩:=aV o1;have K:=hid c;clear m1 m2;obtain⟨m1,m2⟩:=M ((c.fr.block _ HM.C HM.b).trans HM.a);have HX3:J (W3.1[bb]?=B' (.cells (dn (aO p (ζ Q) pE) (aO Ak (ζ CP) Aj) (aO KF (ζ s5) KE) wn rn) 32 (0,0))/\ρ W3 B 46 1 (aO KF (ζ s5) KE) (ζ s5) s5):=(by refine⟨(c.fr.block bb hbz HB0.a).trans HX.a,c.fr.own HX.A (λk hk e=>?_)⟩;rcases HB0.B with h|h;(rw[hk]at h;cases h);exact h (hk.trans e));clear o1 k1 g1 s c;obtain⟨E,x2⟩:=M HX3.a;simp only[dn]at E)
  |(at_builtin;have _:=b;refine cD _ rfl _ _ 46 rfl B 96 i1 (l' gH) 5 88 underlying46 HI.a HI.b HI.c HI.C rfl aj (i' xa (ζ D+1) xc) (ζ D+1) (marks (ζ D+1) [i' C' 0 0,i' C' 0 0,j' P',G (-7-(q5:Int)),i' C' 0 0]) rfl (b.o.row.alloc _) (O t.1.size 0) 1 1 [i' C' 0 0,i' C' 0 0,j' P',G (-7-(q5:Int)),i' C' 0 0] rfl rfl (SR _ _ _ _ _ _) (abF q5) b3 b4 (b.o.base hB1 _) ?_;intro y W2 o1 k1 g1 s;have c:=b.o.step o1 k1 g1 s;obtain⟨ya,yc,rfl⟩:=aV o1;have a:=hid c;clear m1 m2;obtain⟨m1,m2⟩:=M ((c.fr.block _ HM.C HM.b).trans HM.a);clear o1 k1 g1 s c)
  |(at_builtin;refine cD _ rfl _ _ 46 rfl B 96 i1 (l' gH) 5 88 underlying46 HI.a HI.b HI.c HI.C rfl aj (i' T (ζ D) r) (ζ D) (marks (ζ D) [i' C' 0 0,i' C' 0 0,j' P',G (-7-(q5:Int)),i' C' 0 0]) rfl (HA.o.row.alloc _) (O wr.1.size 0) 1 1 [i' C' 0 0,i' C' 0 0,j' P',G (-7-(q5:Int)),i' C' 0 0] rfl rfl (SR _ _ _ _ _ _) (abF q5) b1 b2 (HA.o.base hB1 _) ?_;intro x t o1 k1 g1 s;have c:=HA.o.step o1 k1 g1 s;obtain⟨xa,xc,rfl⟩:=aV o1;have b:=hid c;clear m1 m2;obtain⟨m1,m2⟩:=M ((c.fr.block _ HM.C HM.b).trans HM.a);clear o1 k1 g1 s c))
 go_end0
 obtain⟨hbb,_,hlh,hhi,f,h5,Xi,_,hQ5⟩:=HAr.o;have hT:=HT.o;have C:=HC5.o;have hp:=(yk (off:=4) K.o HX3.a HX3.A HB0.b hbz H5.a H5.b H5.B aj aj aj).pre HM.c;have X:ζ (s5++[i' T (ζ D) r,i' xa (ζ D+1) xc,i' ya (ζ D+1+1) yc,i' za (ζ D+1+1+1) zc])=ζ s5+4:=ak;have c:∀v∈s5,∀k,φ v=B' k->some k≠φ (i' T (ζ D) r):=by intro v R k hk e;have g1:=(N.o.row.lt k e.symm).1;have d:=hT.rhi k e.symm;have:=C v R k hk;omega
 have d:=N.o.bk.af7 h5 (a! N.o.row l) hp c;have Qa:=N.o.z;have c:=hp.fr.size;refine⟨rfl,⟨p,pE,Ak,Aj,Tb,Ta,Q,CP,s5++[i' T (ζ D) r,i' xa (ζ D+1) xc,i' ya (ζ D+1+1) yc,i' za (ζ D+1+1+1) zc],N.o.Pe,N.o.S8,by rw[X,h5];omega,by rw[X];exact d,?_,?_,?_,N.o.nf.trans (hp.nf5 N.o.bk hbb N.o.row l hT.rhi),?_,?_⟩⟩
 ·intro v R k hk;rcases N.o.v1 v R k hk with h|⟨j,x,hj,F,c⟩
  ·omega
  exact aI (hT.Vp x (aT F) k c)
 ·intro v R k hk;rcases N.o.v4 v R k hk with h|⟨j,x,hj,F,c⟩
  ·omega
  exact aI (hT.Vp x (aT F) k c)
 ·intro v R k hk;rcases eE.1 R with R|R
  ·have:=C v R k hk;omega
  rcases(hp.SW v R).2 with e|⟨q,e,hq⟩
  ·exact aI (hT.rhi k (e.symm.trans hk))
  rw[e]at hk;cases hk;exact aK I
 ·intro k Y hk z;have hk0:=(N.o.kn k Y hk).trans hk;refine(hp.fr.block k (aY.1 hk0).1 ⟨?_,iN N.o.row hk0 aj,z⟩).trans (N.o.kn k Y hk);intro e;subst e;rw[N.o.bk.box]at hk0;simp at hk0
 rw[X];have c:=N.o.nf.below.size;rcases hp.new with e|⟨q,e,hq⟩
 ·exact aI e
 exact aK ⟨q,e,I⟩
def qN(U u:x')(W V:Nat)(v:List Nd)(w:u')(C:b9 w U v)(a:b9 w u v)(K:∀n∈v,dY n)(X:ζ v*88<=140737488355328):
  Cl 30 #[i' U (ζ v) W,i' u (ζ v) V] w (Rb w (j' O')):=by
 have s:=hid (A C (A a K));clear C a K;have D:((ζ v:Int) !=(ζ v:Int))=P':=ak;go_enter func30,ntmps30;go_wp2;go_loopw[5] (λi wr=>∃k:Nat,k<=ζ v/\i=G k/\J (Bl w wr)) (λi _=>ζ v-(intOf i).toNat)
 ·exact⟨0,bj,rfl,aQ⟩
 obtain⟨k,a,rfl,w⟩:=hrel;by_cases L:k<ζ v;rotate_left
 ·have a:¬(k:Int)<(ζ v:Int):=I;go_wp2;go_ret;exact⟨rfl,w.o⟩
 have a:(k:Int)<(ζ v:Int):=I;obtain⟨n,F⟩:=La L;obtain⟨i,a,q,y,h,N,r,l,rfl,T,Q,p,D,P,c⟩:=(s.a.below w.o) k n F;obtain⟨o,f,E,u,d,g,S,R,rfl,t,Y,v,C,K,b⟩:=(s.b.below w.o) k n F;have x:=hid (A c (A b (s.B n (aT F))));have B:=hid (A T (A Q (A p (A D (A P (A t (A Y (A v (A C K)))))))));clear F c b;go_wp2_with fail
 go_region_held3 (λj=>χ j (O i (a+k*5))=B' (i' q (ζ n.facts) N)/\χ j (O i (a+k*5+1))=B' (i' y (ζ n.aW) r)/\χ j (O i (a+k*5+2))=B' (j' n.aD)/\χ j (O i (a+k*5+3))=B' (G n.rank)/\χ j (O i (a+k*5+4))=B' (aO h (ζ n.vals) l)/\χ j (O o (f+k*5))=B' (aO E (ζ n.facts) g)/\χ j (O o (f+k*5+1))=B' (aO u (ζ n.aW) S)/\χ j (O o (f+k*5+2))=B' (j' n.aD)/\χ j (O o (f+k*5+3))=B' (G n.rank)/\χ j (O o (f+k*5+4))=B' (aO d (ζ n.vals) R)) (go_keep) ((go_at_call 57;refine D' (CO q y h E u d N r l g S R n _ (x.a.below (sn wr.1.size wr).drew) (x.b.below (sn wr.1.size wr).drew) x.B) λo x=>?_;have j:=H (sn wr.1.size wr).drew x;have T:=ax B.a j;have Q:=ax B.b j;have p:=ax B.c j;have D:=ax B.d j;have P:=ax B.e j;have t:=ax B.f j;have Y:=ax B.g j;have v:=ax B.h j;have C:=ax B.i j;have K:=ax B.I j;have z:=hid (H w.o j);clear x j))
 all_goals
  clear T Q p D P t Y v C K;go_wp2;go_roundw
  ·exact⟨k+1,I,f',z⟩
  exact G'
section
variable {b g o:u'} {y f e:Nat} {c rt E:A'} {z L:List A'}
structure mD where
  na:x'
  nc:Nat
  lo:Nat
  hi:Nat
  cl:List N5
  da:x'
  dc:Nat
  dl:List N5
def mD.wv(e:mD):A':=i' e.na (ζ e.cl) e.nc
def mD.rv(e:mD):A':=i' e.da (ζ e.dl) e.dc
structure j7(W:u')(e:mD):Prop where
  s:Lx W e.lo e.hi e.na e.nc e.cl
  d:ρ W 0 96 5 (aO e.da (ζ e.dl) e.dc) (ζ e.dl) (dJ e.dl)
  o:∀x∈e.dl,iB W 0 x
  i:∀x∈e.cl,dY x.n
  m:e.dl.map N5.n=e.cl.map N5.n
def Lx.by{W b:u'}{j S:Nat}{T:x'}{r:Nat}{D:List N5}(h:Lx W j S T r D)(a:∀(k:Nat) (Y:Array A') (t:TypeId),j<=k->k<S->W.1[k]?=B' (k' Y t (0,0))->(t=3\/t=73\/t=96)->b.1[k]?=W.1[k]?):Lx b j S T r D:=by
 refine⟨dP h.row (λk Y e c=>a k Y _ (h.row.lt k e).1 (h.rhi k e) c (aK (aK rfl))),λx F=>⟨?_,?_,?_,(h.ok x F).ap⟩,h.ap,h.rhi,h.Vp,h.sz,h.len⟩
 ·exact dP (h.ok x F).f (λk Y e c=>a k Y _ ((h.ok x F).f.lt k e).1 (h.Vp x F k (Gb e)) c (aI rfl))
 ·exact dP (h.ok x F).r (λk Y e c=>a k Y _ ((h.ok x F).r.lt k e).1 (h.Vp x F k (MR e)) c (aI rfl))
 exact dP (h.ok x F).v (λk Y e c=>a k Y _ ((h.ok x F).v.lt k e).1 (h.Vp x F k (MQ e)) c (aK (aI rfl)))
def iB.by{x:N5}(h:iB W B x)(a:∀(k:Nat) (Y:Array A') (t:TypeId),W.1[k]?=B' (k' Y t (0,0))->(t=3\/t=73\/t=96)->b.1[k]?=W.1[k]?):iB b B x:=
 ⟨dP h.f (λk Y _ c=>a k Y _ c (aI rfl)),dP h.r (λk Y _ c=>a k Y _ c (aI rfl)),dP h.v (λk Y _ c=>a k Y _ c (aK (aI rfl))),h.fn,h.rn,h.vn⟩
def j7.by{e:mD}(h:j7 W e)(a:∀(k:Nat) (Y:Array A') (t:TypeId),W.1[k]?=B' (k' Y t (0,0))->(t=3\/t=73\/t=96)->b.1[k]?=W.1[k]?):j7 b e:=
 ⟨h.s.by (λk Y t _ _ c U=>a k Y t c U),dP h.d (λk Y _ c=>a k Y _ c (aK (aK rfl))),λx F=>(h.o x F).by a,h.i,h.m⟩
def j7.below{a:u'}{e:mD}(h:j7 W e)(b:Bl W a):j7 a e:=h.by (λk Y t c _=>b.block k (aY.1 c).1)
def j7.wat{e:mD}(h:j7 W e):b9 W e.na (e.cl.map N5.n):=kE h.s.row (λx F=>(h.s.ok x F).own)
def j7.rat{e:mD}(h:j7 W e):b9 W e.da (e.cl.map N5.n):=by rw[<-h.m];exact kE h.d h.o
def j7.len{e:mD}(h:j7 W e):ζ e.dl=ζ e.cl:=by have:=dZ length h.m;simpa using this
structure BX(W:u')(bb B:Nat)(wn rn:A')(nw nr:Nat)(xs ys:List A'):Prop where
  box:W.1[bb]?=B' (k' (dn (i' C' 0 0) (i' C' 0 0) (i' C' 0 0) wn rn) 32 (0,0))
  rw:ρ W B 46 1 wn nw xs
  rr:ρ W B 46 1 rn nr ys
  ap:φ wn=C'\/φ wn≠φ rn
  low:B<=bb
def BX.lt{b:Nat}(h:BX W b B c rt y f D z):b<δ W.1:=(aY.1 h.box).1
def BX.below(h:BX W e B c rt y f D z)(b:Bl W g):BX g e B c rt y f D z:=
 ⟨(b.block _ h.lt).trans h.box,aZ h.rw b,aZ h.rr b,h.ap,h.low⟩
def Rr{p:Prop}(h:p:=by
 refine⟨l.os.trans g.os,l.tape.trans g.tape,l.output.trans g.output,by have:=l.size;have:=g.size;simp[World.setCell];omega,λk b U=>?_⟩
 exact(aJ U.1).trans ((l.block k (J' g.size) U.2).trans (g.block k b))):p:=h
def BX.ae0{e:u'}{b:Nat}(h:BX W b B c rt y f D z)(g:Bl W o)(l:ξ o e (φ c))(q:ρ e B 46 1 E (y+1) (D++L))(r:φ E=φ c\/φ E=B' o.1.size):BX (κ e (O b 7) E) b B E rt (y+1) f (D++L) z/\Fr (λk=>k≠b/\some k≠φ c) W (κ e (O b 7) E):=by
 have o:=h.below g;have p:=iN o.rw o.box aj;have v:=(l.block b o.lt p).trans o.box;have f:=bX e b 7 E;have C:φ rt=C'\/φ rt≠φ c:=by
  rcases h.ap with e|e
  ·rw[e];exact Classical.em _
  exact aK (λu=>e u.symm)
 have b:=o.rr.kept l C;refine⟨⟨?_,q.kept f (aK (λe=>iN q v aj e.symm)),b.kept f (aK (λe=>iN b v aj e.symm)),?_,h.low⟩,?_⟩
 ·rw[lT v];rfl
 ·rcases r with e|e
  ·rw[e];exact h.ap
  right;rw[e];intro u;have:=(o.rr.lt _ u.symm).2;omega
 exact Rr
def BX.ae1{e:u'}{b:Nat}(h:BX W b B c rt y f D z)(g:Bl W o)(l:ξ o e (φ rt))(q:ρ e B 46 1 E (f+1) (z++L))(r:φ E=φ rt\/φ E=B' o.1.size):BX (κ e (O b 8) E) b B c E y (f+1) D (z++L)/\Fr (λk=>k≠b/\some k≠φ rt) W (κ e (O b 8) E):=by
 have f:=h.below g;have p:=iN f.rr f.box aj;have v:=(l.block b f.lt p).trans f.box;have c:=bX e b 8 E;have b:=f.rw.kept l h.ap;refine⟨⟨?_,b.kept c (aK (λe=>iN b v aj e.symm)),q.kept c (aK (λe=>iN q v aj e.symm)),?_,h.low⟩,?_⟩
 ·rw[lT v];rfl
 ·rcases r with e|e
  ·rw[e];exact h.ap
  right;rw[e];intro u;have:=(f.rw.lt _ u).2;omega
 exact Rr
def BX.keep{e:u'}{b:Nat}(h:BX W b B c rt y f D z)(f:Fr (λk=>k≠b/\some k≠φ c/\some k≠φ rt) W e):∀(k:Nat) (Y:Array A') (t:TypeId),W.1[k]?=B' (k' Y t (0,0))->(t=3\/t=73\/t=96)->e.1[k]?=W.1[k]?:=by intro k Y t T U;refine f.block k (aY.1 T).1 ⟨?_,iN h.rw T (by rcases U with e|e|e<;>(rw[e];decide)),iN h.rr T (by rcases U with e|e|e<;>(rw[e];decide))⟩;intro e;subst e;rw[h.box]at T;simp at T;rcases U with e|e|e<;>(rw[e]at T;exact absurd T.2 aj)
structure Eg(W:u')(bb B:Nat)(wn rn:A')(es:List mD):Prop where
  bx:BX W bb B wn rn (ζ es) (ζ es) (es.map mD.wv) (es.map mD.rv)
  ok:∀e∈es,j7 W e
  ord:es.Pairwise (λa b=>a.hi<=b.lo)
  top:∀e∈es,B<=e.lo/\e.lo<=e.hi/\e.hi<=δ W.1
  base:B<=δ W.1
def Eg.below{d:u'}{c:Nat}{o g:A'}{b:List mD}(h:Eg W c B o g b)(a:Bl W d):Eg d c B o g b:=
 ⟨h.bx.below a,λe l=>(h.ok e l).below a,h.ord,λe l=>⟨(h.top e l).1,(h.top e l).2.1,bD (h.top e l).2.2 a.size⟩,bD h.base a.size⟩
def BX.afS(h:BX W e B c rt y f D z)(f:Bl W g)(l:ξ g b (φ c)):(χ b (O e 7)=B' c)/\(∀o,b.frozen? (O e o)=P'):=by have b:=h.below f;have x:=M ((l.block e b.lt (iN b.rw b.box aj)).trans b.box);exact⟨by rw[x.1];rfl,x.2⟩
def BX.afT(h:BX W e B c rt y f D z)(c:Bl W g)(f:ξ g b (φ rt)):(χ b (O e 8)=B' rt)/\(∀o,b.frozen? (O e o)=P'):=by have b:=h.below c;have x:=M ((f.block e b.lt (iN b.rr b.box aj)).trans b.box);exact⟨by rw[x.1];rfl,x.2⟩
def Eg.push{l:Nat}{f:List mD}{e:mD}(h:BX W l B c rt (ζ f+1) (ζ f+1) (f.map mD.wv++[e.wv]) (f.map mD.rv++[e.rv]))(o:∀L∈f++[e],j7 W L)(F:f.Pairwise (λa b=>a.hi<=b.lo))(U:∀L∈f,L.hi<=e.lo)(g:∀L∈f++[e],B<=L.lo/\L.lo<=L.hi/\L.hi<=δ W.1):Eg W l B c rt (f++[e]):=by
 have X:ζ (f++[e])=ζ f+1:=ak;refine⟨?_,o,?_,g,?_⟩
 ·rw[X,eW,eW];exact h
 ·rw[Qo];exact⟨F,Qn _ _,λa c b b=>by simp at b;subst b;exact U a c⟩
 have:=h.low;have:=h.lt;omega
end
