import Derived.Test.YtmipbiligijcpaaGreatDoorA16
import Derived.Sort.CutIn
import Derived.Deep.WholeRow
namespace Go.Proofs.YtmipbiligijcpaaGreatDoor
set_option linter.all false
set_option maxHeartbeats 4000000
set_option maxRecDepth 100000
open Go.RowKit Go.Proofs Go.Maps
open Go.RowKit Go.Proofs Go.Maps Tryz
def yH:(Tryz.prog.info? 73).map (fun i=>(i.zero,i.size,i.bytes))=some (some (.agg iB),6,48):=au
def pvC(v:Vl):List Value:=[Iv v.kind,Iv v.lo,Iv v.hi,.bool false,Iv 0,Iv 0]
def qy(vs:List Vl):List Value:=vs.flatMap pvC
def Iw{vs:List Vl}{k:Nat}{v:Vl}(h:vs[k]?=some v):qy (vs.take (k+1))=qy (vs.take k)++pvC v:=by
 have hl:=(bn.1 h).1;rw[dS hl,(bn.1 h).2];simp[qy]
def E6{X:World}{q:Nat}{cs:List Value}{t:TypeId}(h:X.heap[q]?=some (cJ cs.toArray t)):∀(j:Nat) (u:Value),cs[j]?=some u->X.cell? (((Ad q 0):Addr).add j)=some u:=by
 intro j u U;rw[gw,ct,(ae h).1]
 simpa using U
def zC(va:Option Addr)(vc:Nat)(vs:List Vl)(w:World)(h:jA w va vs)(hn:vs.length<=1000):
  Cl 96 #[.slice va vs.length vc] w fun e I=>∃a c,e=.returned (bH a vs.length c)/\I.ownsRow w.heap.size 73 6 (bH a vs.length c) vs.length (qy vs)/\Bl w I:=by
 obtain⟨L,hi,D,O,K⟩:=cY yH;have r:Hd (_/\_/\_/\_):=⟨hi,D,O,K⟩;clear hi D O K;have l:=hid h;clear h;obtain⟨n,z⟩:=Ea vs.length;rw[<-z]at hn⊢;have m:=hid z;clear z;go_enter func96,ntmps96
 go_wp2_with fail
 go_loopw[3,8] (fun g p wr=>∃(j:Nat) (a:Option Addr) (c:Nat),j<=n/\p=Iv j/\g=.slice a j c/\Hd (wr.ownsRow w.heap.size 73 6 (.slice a j c) j (qy (vs.take j))/\Bl w wr)) (fun _ p _=>n-(intOf p).toNat)
 case atStart=>exact⟨0,none,0,bB _,rfl,rfl,dF _ _ _ _,aM _ _⟩
 obtain⟨j,a,c,U,rfl,rfl,M⟩:=hrel;by_cases J:j<n;rotate_left
 ·have s:¬(j:Int)<n:=ah
  obtain rfl:j=n:=ah
  go_wp2_with fail
  refine aG (v:=.slice a j c) (by simp[results,results96,go_sem]) rfl ⟨a,c,rfl,?_,M.A⟩;have G:=M.a;rw[cP (by rw[m.o];exact aF _)]at G;exact G
 have s:(j:Int)<n:=ah
 obtain⟨v,t⟩:=La (l:=vs) (i:=j) (by rw[<-m.o];exact J);obtain⟨b,o,rfl,P,Y,H,X,k,B⟩:=l.o j v t;have d0:=ax P M.A;have C:=ax Y M.A;have Q:=ax H M.A;have d3:=ax X M.A;have V:=ax k M.A;have N:=ax B M.A;have W:=hid (Iw t);clear P Y H X k B t
 go_upto_region 5 with fail
 have Z:Hd (Bl wr (wr.alloc (.cells (iy v.kind v.lo v.hi v.early v.first v.rank) 73))/\d' (wr.alloc (.cells (iy v.kind v.lo v.hi v.early v.first v.rank) 73)) wr.heap.size (iy v.kind v.lo v.hi v.early v.first v.rank) 73):=⟨aC _ _,bf _ _⟩;generalize wr.alloc (.cells (iy v.kind v.lo v.hi v.early v.first v.rank) 73)=T at Z⊢;clear d0 C Q d3 V N;obtain⟨F,y⟩:=ae Z.A
 go_wp2_with (at_builtin;refine nj _ rfl _ _ 71 rfl w.heap.size 73 L (.agg iB) 6 48 underlying71 r.a r.b r.c r.C rfl aj (.slice a j c) j (qy (vs.take j)) rfl ((bp M.a Z.a).alloc _) (Ad T.heap.size 0) 1 1 (pvC v) rfl rfl (E6 (bf T _)) (by intro u E;simp[pvC]at E;rcases E with rfl|rfl|rfl|rfl|rfl<;>rfl) (by simp only[maxLen];omega) ah (by have:=(aq M.A Z.a).size;simp;omega) ?_;intro A S d x _;obtain⟨R,f,rfl⟩:=bS d;have i:=hid (Aa d x);clear d x)
 go_roundw
 case rel=>
  refine⟨j+1,R,f,J,h',rfl,?_,?_⟩
  ·rw[W.o];exact i.a
  exact((aq M.A Z.a).alloc (aq M.A Z.a).size _).grown i.A (by have:=(aq M.A Z.a).size;simp;omega) (fun q e=>((bp M.a Z.a).lt q e).1)
 simp[intOf];omega
section
variable {p:Prop} {W:World} {B n c q k:Nat} {a:Option Addr} {es:List PE} {e:PE} {r:RR} {x:Nat×Value} {P:Pm} {held:Nat->PE} {o:ot} {b:VV}
open Go.RowKit Go.Proofs Go.Maps Tryz
def KC.aP(es:List PE):List Value:=es.flatMap KC.aH
def KB.aP(es:List PE):List Value:=es.flatMap KB.aH
def KC.kE:∀(l:List PE) (j:Nat) (e:PE) (i:Nat),l[j]?=some e->i<17->(KC.aP l)[j*17+i]?=(KC.aH e)[i]?
 |[],j,e,i,h,_=>by simp at h
 |a :: l,0,e,i,h,hi=>by
  simp at h;subst h;simp only[KC.aP,bY,gU,ct];exact mE hi
 |a :: l,j+1,e,i,h,hi=>by
  have B:=KC.kE l j e i (by simpa using h) hi;simp only[KC.aP,bY]at B⊢;have S:(KC.aH a).length=17:=rfl;rw[fC ah,<-B]
  congr 1
  omega
def KB.kE:∀(l:List PE) (j:Nat) (e:PE) (i:Nat),l[j]?=some e->i<17->(KB.aP l)[j*17+i]?=(KB.aH e)[i]?
 |[],j,e,i,h,_=>by simp at h
 |a :: l,0,e,i,h,hi=>by
  simp at h;subst h;simp only[KB.aP,bY,gU,ct];exact mE hi
 |a :: l,j+1,e,i,h,hi=>by
  have B:=KB.kE l j e i (by simpa using h) hi;simp only[KB.aP,bY]at B⊢;have S:(KB.aH a).length=17:=rfl;rw[fC ah,<-B]
  congr 1
  omega
def ack(h:p:=by
 intro j e U;rcases h.2 with⟨t,_⟩|⟨g,C,A,t,_⟩
 ·exfalso
  have o:=kE es j e 0 U ah;have G:=h.1;simp at t;have:=(bn.1 (o.trans (bk (show 0<(aH e).length from Nat.succ_pos 16)))).1;rw[G,t.2.1]at this;omega
 ·simp at t
  obtain⟨rfl,rfl⟩:=t;refine⟨g,0,rfl,fun i v hi=>?_⟩;have J:i<17:=(bn.1 hi).1;have H:=h.cells (g:=g) rfl (j*17+i) v (by rw[kE es j e i U J];exact hi);rw[gw,ct]at H;rw[ct]
  exact H):p:=h
open KC in
def KC.EJ(h:W.ownsRow B 228 17 (.slice a n c) n (KC.aP es)):KC.gn W a es:=by exact ack
open KB in
def KB.EJ(h:W.ownsRow B 250 17 (.slice a n c) n (KB.aP es)):KB.gn W a es:=by exact ack
def KC.EE(h:W.heap[q]?=some (.cells (KC.aH e).toArray 228 (0,0)))(f:B<=q):W.ownsRow B 228 17 (.slice (some (Ad q 0)) 1 1) 1 (KC.aP [e]):=by
 refine⟨rfl,aI ⟨q,1,(KC.aH e).toArray,rfl,f,h,aF _,?_,rfl,rfl⟩⟩;unfold maxLen
 decide
def KB.EE(h:W.heap[q]?=some (.cells (KB.aH e).toArray 250 (0,0)))(f:B<=q):W.ownsRow B 250 17 (.slice (some (Ad q 0)) 1 1) 1 (KB.aP [e]):=by
 refine⟨rfl,aI ⟨q,1,(KB.aH e).toArray,rfl,f,h,aF _,?_,rfl,rfl⟩⟩;unfold maxLen
 decide
def KC.oP:(Tryz.prog.info? 228).map (fun i=>(i.zero,i.size,i.bytes))=some (some (.agg (KC.aH PE.zero).toArray),17,136):=au
def KB.oP:(Tryz.prog.info? 250).map (fun i=>(i.zero,i.size,i.bytes))=some (some (.agg (KB.aH PE.zero).toArray),17,136):=au
def acj(h:p:=by
 have l:=(bn.1 hk).1;have E:=sZ r.es k x hk;rcases h.2 with⟨_,e⟩|⟨g,C,A,t,_⟩
 ·omega
 ·simp[RR.ev]at t
  refine⟨g,t.1,?_,?_⟩
  ·have:=h.cells (g:=g) (by simp[RR.ev,Value.ownBlock,t.1]) _ _ E.1
   rwa[gw,ct]at this
  ·have:=h.cells (g:=g) (by simp[RR.ev,Value.ownBlock,t.1]) _ _ E.2
   rwa[gw,ct]at this):p:=h
open KC in
def KC.KS(h:W.ownsRow B 378 2 r.ev r.es.length (ia r.es))(hk:r.es[k]?=some x):∃g,r.ea=some (Ad g 0)/\W.cell? (Ad g (k*2))=some (Iv x.1)/\W.cell? (Ad g (k*2+1))=some x.2:=by exact acj
open KB in
def KB.KS(h:W.ownsRow B 340 2 r.ev r.es.length (ia r.es))(hk:r.es[k]?=some x):∃g,r.ea=some (Ad g 0)/\W.cell? (Ad g (k*2))=some (Iv x.1)/\W.cell? (Ad g (k*2+1))=some x.2:=by exact acj
def KC.Qm(P:Pm)(held:Nat->PE)(x:Nat×Nat):PE:=KC.eU (held x.1) (P.at x.1) (decide (x.2=0))
def KB.Qm(P:Pm)(held:Nat->PE)(x:Nat×Nat):PE:=KB.eU (held x.1) (P.at x.1) (decide (x.2=0))
def KC.mB(P:Pm)(held:Nat->PE):Prop:=∀m,∃v,PR P.nv (held m) v/\ei 5 P.nv v
def KB.mB(P:Pm)(held:Nat->PE):Prop:=∀m,∃v,PR P.nv (held m) v/\ei 6 P.nv v
def KC.mB.bin(h:KC.mB P held)(m i:Nat):dq (bQ ((held m).at i)):=by
 obtain⟨v,G,O⟩:=h m;exact(KC.cF G O i).2
def KB.mB.bin(h:KB.mB P held)(m i:Nat):dq (bQ ((held m).at i)):=by
 obtain⟨v,G,O⟩:=h m;exact(KB.cF G O i).2
def KC.mB.op(h:KC.mB P held)(m:Nat)(g:Dm o):dq (bQ (iY (held m) o)):=by
 unfold iY;split
 ·exact h.bin m _
 exact⟨f64.2 g,f64.2 g⟩
def KB.mB.op(h:KB.mB P held)(m:Nat)(g:Dm o):dq (bQ (iY (held m) o)):=by
 unfold iY;split
 ·exact h.bin m _
 exact⟨f64.2 g,f64.2 g⟩
def aci(h:p:=by
 obtain⟨v,G,O⟩:=h x.1;have S:=Jf hx hm
 first|(have _:=Cr;refine(cF (nv:=P.nv) (v:=Fb 5 (P.at x.1) x.2 v) ?_ (q! aj (hc x.1) O) i).2)|(refine(cF (nv:=P.nv) (v:=Fb 6 (P.at x.1) x.2 v) ?_ (q! aj (hc x.1) O) i).2)
 first|(have _:=Cr;exact Qs G hO.nv (P.at x.1) x.2 (hO.var _ S) (hO.kind _ S).1 (ho _ S) (hO.a _ S) (hO.b _ S))|(exact Qt G hO.nv (P.at x.1) x.2 (fun vs t _=>rg_of (ju (O vs t).2 _ (hc x.1).1)) (fun vs t _=>rg_of (ju (O vs t).2 _ (hc x.1).2)) (hO.var _ S) (hO.kind _ S).1 (hO.a _ S) (hO.b _ S))):p:=h
open KC in
def KC.mB.made(h:KC.mB P held)(hO:cE P)(hc:mA P)(ho:j9 P)(hx:P.nx.length=P.nd.length){x:Nat×Nat}(hm:x∈P.ins n)(i:Nat):dq (bQ ((KC.Qm P held x).at i)):=by exact aci
open KB in
def KB.mB.made(h:KB.mB P held)(hO:cE P)(hc:mA P)(ho:j9 P)(hx:P.nx.length=P.nd.length){x:Nat×Nat}(hm:x∈P.ins n)(i:Nat):dq (bQ ((KB.Qm P held x).at i)):=by exact aci
def KC.Iq{a:VV}(ha:dq (bQ a))(hb:dq (bQ b)):dq (bQ (KC.vw a b)):=by
 unfold KC.vw;split
 ·exact ha
 exact⟨aj,aj⟩
def KB.Iq{a:VV}(ha:dq (bQ a))(hb:dq (bQ b)):dq (bQ (KB.vw a b)):=by
 unfold KB.vw;refine⟨?_,?_⟩
 ·show aQ (min a.lo b.lo)=true
  rcases Int.le_total a.lo b.lo with h|h
  ·rw[Int.min_eq_left h];exact ha.lo
  rw[Int.min_eq_right h];exact hb.lo
 show aQ (max a.hi b.hi)=true;rcases Int.le_total a.hi b.hi with h|h
 ·rw[Int.max_eq_right h];exact hb.hi
 rw[Int.max_eq_left h];exact ha.hi
def KC.Cq(h:KC.mB P held)(b:cE P)(Z:mA P)(g:j9 P)(hx:P.nx.length=P.nd.length)(n:Nat):∀i,dq (bQ ((KC.bL P held n).at i)):=by
 obtain⟨f,V⟩:=Classical.axiomOfChoice h;have G:=KC.fO b Z g hx V n;exact fun i=>(KC.cF G.1 G.2 i).2
def KB.Cq(h:KB.mB P held)(b:cE P)(Z:mA P)(g:j9 P)(hx:P.nx.length=P.nd.length)(n:Nat):∀i,dq (bQ ((KB.bL P held n).at i)):=by
 obtain⟨f,V⟩:=Classical.axiomOfChoice h;have G:=KB.fO b Z hx V n;exact fun i=>(KB.cF G.1 G.2 i).2
def ach(h:p:=by
 have hN:=hO.most;obtain⟨ql,hE⟩:=hE;obtain⟨r,hr⟩:=La (l:=ql) (i:=n) (by rw[hE.len];exact hn);have Nx:=hE.st n r hr;have o:=hE.es n r hr;have Nz:=hE.sys.range hr;have u:=hE.sys.row r (aL hr);have Rx:=kX n P.nx 0 (fun l hl=>(hO.nx l hl).1);have hL:r.es.length=(P.ins n).length:=o.1;simp only[oh,Nx,RR.ev]at Nz;rw[hL]at Nz;obtain⟨L,hLL⟩:=Ea ((P.ins n).length);rw[<-hLL]at Nz;have hL2:L<=120:=by rw[hLL];show(gA n 0 P.nx).length<=120;omega
 have HH:=hid (Aa hE (Aa hd (Aa hO (Aa hc (Aa ho (Aa hx (Aa hH (Aa hh (Aa o (Aa u hLL))))))))));clear hE hd hO hc ho hx hH hh o u hLL Nx hr Rx hL;obtain⟨i0,hi,lu,Lv,mC⟩:=cY oP;have HI:Hd (_/\_/\_/\_):=⟨hi,lu,Lv,mC⟩;clear hi lu Lv mC;obtain⟨N,rC⟩:=Ea P.nd.length;rw[<-rC]at hN hn⊢;have HN:=hid rC;have hni:(n:Int)<N:=ah
 have afa:∀e,(aH e).length=17:=fun _=>rfl
 clear rC;simp only[KC.cZ,KB.cZ];go_enter acU,acE
 go_upto_region 1 with fail
 refine yJ (F:=Code.wp _ _ _ _) fun W0 R=>?_
 obtain⟨x1,x2⟩:=ae R.a.1;have f:=fe Nz R.b;clear Nz
 go_upto_region 2 with(first|(refine wpList_load_mid rfl qh (.tmp 14) rfl rb (n*18) rfl (aH (qu n)++[Value.slice r.ea L r.ec]) _ f ZG rfl au ?_)|(refine wpList_store_mid rfl qh (.tmp 7) (.tmp 15) rfl W0.heap.size 0 (aH (qu n)++[Value.slice r.ea L r.ec]).toArray rfl rfl (bO (n:=18) (bf _ _) rfl) au (all_oneCell_toArray (fun v t=>by rcases jH.1 t with t|t;(· exact pL _ v t);simp at t;subst t;rfl)) ?_))
 refine Ju (F:=Code.wp _ _ _ _) rfl fun W1 E=>?_
 have hqr:=blt R.a.2;have TM:Hd (Bl w W1/\_/\_):=⟨aq R.b E.A,aE E.A R.a.1,aE E.A R.a.2⟩;have HQ:=hid (Aa R.B E.a);clear E R f x1 x2;generalize W0.heap.size=qr at HQ hqr⊢;have hr1:W1.rangeAt qr 0 (aH (qu n)):=fun j v t=>aT HQ.A j v (by rw[mE (bn.1 t).1];exact t)
 simp only[Act.put]
 go_upto_region 3 with(refine wpList_load_mid rfl aV (.tmp 16) rfl qr 0 rfl (aH (qu n)) _ hr1 fH rfl au ?_)
 refine uA (F:=Code.wp _ _ _ _) fun W2 C=>?_
 have O:=C.a;rw[FW (l:=aH (qu n)) (z:=pK) rfl]at O;have hq1:=blt HQ.A;have pq:Hd (Bl w W2/\_/\_/\_/\_):=⟨aq TM.a C.b,aE C.b TM.b,aE C.b TM.B,aE C.b HQ.A,O⟩;have HQ2:=hid HQ.a;clear O C TM HQ hr1;generalize W1.heap.size=b0 at pq hq1⊢;obtain⟨x1,x2⟩:=ae pq.d;have e17:W2.cell? (Ad qr 17)=some (bH r.ea L r.ec):=by rw[x1];rfl
 clear x1 x2
 go_wp2_with fail
 clear e17;generalize Value.agg #[.slice (some (Ad rb 0)) N N,.func (.func xY) #[] (bE db),.func (.func xX) #[] (bE db)]=sv0;generalize Value.agg (aH (qu n)++[Value.slice r.ea L r.ec]).toArray=sv1;generalize Value.agg (aH (qu n)).toArray=sv2
 go_loopw[8,22] (fun lv iv wr=>∃(k:Nat) (a:Option Addr) (c:Nat),k<=L/\iv=Iv k/\lv=.slice a (k+1) c/\Hd (wr.ownsRow b0 aV 17 (dH a k c) (k+1) (aP (qu n :: ((P.ins n).take k).map (Qm P held)))/\Below b0 W2 wr)) (fun _ iv _=>L-(intOf iv).toNat)
 case atStart=>exact⟨0,_,_,bB _,rfl,rfl,EE pq.D (aF _),aM _ _⟩
 case round=>
  obtain⟨k,a,c,hk,rfl,rfl,M⟩:=hrel;have hqw:w.heap.size+1+1=qr:=HQ2.o.symm;have wD:Hd (Bl w wr):=pq.a.trans (M.A.mono ah);have hsr:=M.A.size;clear hqw;by_cases v?:k<L
  ·have s:(k:Int)<L:=ah
   obtain⟨x,hx⟩:=La (l:=(P.ins n)) (i:=k) (by rw[<-HH.J];exact v?);obtain⟨y,T⟩:=La (l:=r.es) (i:=k) (by rw[HH.i.1,<-HH.J];exact v?);obtain⟨he1,sb,he2,hEd⟩:=HH.i.2 k y x T hx;obtain⟨g,hg,e0,e1⟩:=KS (bp HH.j wD.o) T;rw[he1]at e0;rw[he2]at e1;have hxm:=aL hx;have Tv:x.1<P.nd.length:=by have:=mS n P.nx 0 x hxm;have:=HH.f;omega
   have mg:=Du Tv;have HX:=hid hx;have HC:Hd (∀W,Bl w W->Cl fk (#[Iv x.1]++caps) W (Rb W (.agg (aH (held x.1)).toArray))):=HH.h x.1 Tv;have HM:Hd (∀W,Bl w W->Cl Ip #[.agg (aH (held x.1)).toArray,.pointer (some (Ad sb 0))] W (Rb W (.agg (aH (Qm P held x)).toArray))):=by
    intro W U;have h8:=HH.c.nv;exact AL (held x.1) (P.at x.1) (decide (x.2=0)) sb W (hEd.below U) (fun h=>by have:=HH.c.var _ mg h;omega) (HH.c.kind _ mg).1 (fun h1 O=>by have:=HH.c.a _ mg h1 O;omega) (fun h1 O=>by have:=HH.c.b _ mg h1 O;omega) (fun _=>HH.g.op _ (HH.d x.1).1) (fun _=>HH.g.op _ (HH.d x.1).2)
   clear hx T he1 he2 hEd hxm Tv mg;generalize held x.1=hd0 at HC HM;obtain⟨md,hmd⟩:=Ea (Qm P held x);rw[<-hmd]at HM;have HMD:=hid hmd;clear hmd;generalize x.1=xf at HC e0;rw[hg]
   go_upto_region 6 with fail
   clear e0 e1;refine uA (F:=Code.wp _ _ _ _) fun V H=>?_
   have b:Hd (Below wr.heap.size wr V/\Below b0 W2 V/\Bl w V):=⟨H.b,M.A.trans (H.b.mono (by have:=blt pq.D;omega)),aq wD.o H.b⟩;have HE6:=hid H.a;clear H;generalize aff:wr.heap.size=F at HE6⊢;have heb:b0<F:=by have:=blt pq.D;omega
   refine wp_region_held_drew (S:=fun W'=>Below b0 W2 W'/\W'.heap[F]?=some (.cells #[Iv xf,x5 sb] mL (0,0))) au ⟨b.b.drew,HE6.o⟩ (fun aB=>?_);refine tq 0 (dH a k c) (h:=?_);refine tq 1 (.pointer (some (Ad F 1))) (h:=?_);refine tq 2 (x5 sb) (y:=fun W' aU=>by have k1:=(ae aU.2).1;clear aB aU;go_simp) (h:=?_);refine tq 3 (.func (.func fk) #[] caps) (h:=?_);refine tq 4 (nV F) (h:=?_);refine tq 5 (Iv xf) (y:=fun W' aU=>by have k1:=(ae aU.2).1;clear aB aU;go_simp) (h:=?_);refine r1 6 (h:=fun K A=>?_)
   go_simp
   refine(HC.o _ (b.B.drew)).mono ?_;rintro e Y1 ⟨rfl,D⟩;have E:Hd (Bl V Y1):=aq (aM _ _).drew D;clear D;refine A.out _ _ ⟨b.b.trans (E.o.mono (by have:=b.a.size;omega)),aE E.o HE6.o⟩ (fun aB=>?_);clear A K;refine pt ?_;refine r1 7 (h:=fun K A=>?_)
   go_simp
   refine(HM.o _ (aq b.B E.o)).mono ?_;rintro e Y2 ⟨rfl,D⟩;have C:Hd (Bl V Y2):=aq E.o D;clear D;refine A.out _ _ ⟨b.b.trans (C.o.mono (by have:=b.a.size;omega)),aE C.o HE6.o⟩ (fun aB=>?_);clear A K;refine pt ?_;refine r1 8 (h:=fun K A=>?_)
   go_simp
   refine A.out _ _ ⟨aB.1.trans ((aC _ _).mono (bw (by have:=b.a.size;omega) C.o.size)),aE (aC _ _) aB.2⟩ (fun aB=>?_);clear A K;refine pt ?_;clear aB;refine uA (F:=fun V=>wpAnyH _ _ _ _ _ _ _ _ V) fun X J=>?_
   have FD:=J.a;rw[FW (l:=aH md) (z:=pK) rfl]at FD;have Z:Hd (Bl V X/\X.heap[Y2.heap.size]?=some (.cells (aH md).toArray aV (0,0))/\Below wr.heap.size wr X/\Below b0 W2 X/\F<X.heap.size):=⟨aq C.o J.b,FD,aq b.a (aq C.o J.b),b.b.trans ((aq C.o J.b).mono (by have:=b.a.size;omega)),blt (aE (aq C.o J.b) HE6.o)⟩;clear FD J;have aB:Below b0 W2 X/\X.heap[F]?=some (.cells #[Iv xf,x5 sb] mL (0,0)):=⟨Z.d,aE Z.a HE6.o⟩;refine r1 9 (h:=fun K A=>?_);refine e9 rfl (.tmp 26) (.tmp 34) Il rfl b0 aV i0 (.agg (aH PE.zero).toArray) 17 136 ZF HI.a HI.b HI.c HI.C rfl aj (dH a k c) (k+1) (aP (qu n :: ((P.ins n).take k).map (Qm P held))) (by simp[Act.eval,Act.put]) (bp M.a Z.c) (Ad Y2.heap.size 0) 1 1 (aH md) (by simp[Act.eval,Act.put]) rfl (E6 Z.b) (pL md) (by unfold maxLen;omega) ah (by have:=Z.D;omega) ?_;intro v4 W4 mU G A!;obtain⟨a4,c4,rfl⟩:=bS mU;have I:=hid (Aa mU G);clear mU G A!;have ku:=bp M.a Z.c;refine A.out _ _ ⟨aB.1.grown I.A (by have:=Z.D;omega) (fun q e=>(ku.lt q e).1),(I.A.block F Z.D (fun e=>lI ku aB.2 aj e.symm)).trans aB.2⟩ (fun aB=>?_);clear A K;refine pt ?_;refine tq 10 (.slice a4 (k+1+1) c4) (h:=?_);refine wpAnyH_done au ?_ _;clear ku
   go_wp2_with fail
   go_roundw
   case rel=>
    refine⟨k+1,a4,c4,v?,h',rfl,?_,aB.1⟩;have he:aP (qu n :: ((P.ins n).take (k+1)).map (Qm P held))=aP (qu n :: ((P.ins n).take k).map (Qm P held))++aH md:=by
     rw[dS (bn.1 HX.o).1,(bn.1 HX.o).2,iq,HMD.o];simp[KC.aP,KB.aP]
    rw[he];exact I.a
   case measure=>simp[intOf];omega
  ·have s:¬(k:Int)<L:=ah
   obtain rfl:L=k:=ah
   have htk:(P.ins n).take L=P.ins n:=cP (by rw[<-HH.J];exact aF _);rw[htk]at M;have HJ:Hd (∀W,Below wr.heap.size wr W->Cl xY #[.slice a (L+1) c,.pointer (some (Ad db 0))] W (Rb W (.agg (aH (bL P held n)).toArray))):=by
    intro W U;have hl:(qu n :: (P.ins n).map (Qm P held)).length=L+1:=by rw[bT,br,<-HH.J]
    have:=qS a c db (qu n :: (P.ins n).map (Qm P held)) W (aE (aq wD.o U) HH.b) (EJ (bp M.a U)) (by rw[hl];omega) (by
     intro e he i;rcases cQ.1 he with rfl|he
     ·rw[PZ];exact⟨aj,aj⟩
     ·obtain⟨x,hx,rfl⟩:=bP.1 he
      exact HH.g.made HH.c HH.d HH.e HH.f hx i) (fun _ _ ha D=>Iq ha D)
    rw[hl]at this;exact this
   obtain⟨z,hz⟩:=Ea (bL P held n);rw[<-hz]at HJ;have HZ:=hid hz;clear hz htk;have hq9:w.heap.size+1<b0:=ah
   obtain⟨x1,x2⟩:=ae (zT M.A pq.b ah)
   go_wp2_with (first|((first|go_at_call 270 | go_at_call 275);refine(HJ.o _ (aM _ _)).mono ?_;rintro e Y ⟨rfl,D⟩;have HY:=hid D;clear D x1 x2;have ht:=bO (n:=17) (aE HY.o (zT M.A pq.c hq9)) rfl)|(refine wpList_store_mid rfl aV (.tmp 6) (.tmp 40) rfl (w.heap.size+1) 0 (aH z).toArray rfl rfl ht au (a! _) ?_))
   have hq:=bX (cs:=pK) (aE HY.o (zT M.A pq.c hq9)) (vs:=aH z) rfl;have hL:=run_loadVar_mid (P:=Tryz.prog) (Y.setCells (w.heap.size+1) 0 (aH z)) (w.heap.size+1) 0 aV (aH z) _ (aT hq) fH rfl au
   refine aG (v:=.agg (aH z).toArray) (by simp[results,results210,results216,hL,Act.put,asAddr]) rfl ⟨by rw[HZ.o],aY _ ah _ _ _ (aq wD.o HY.o)⟩):p:=h
open KC in
theorem KC.mM(rb db B n fk:Nat)(P:Pm)(caps:Array Value)(held:Nat->PE)(w:World)(hE:KC.l? w B rb P)(hd:w.heap[db]?=some (.cells #[.iface 328 (.agg #[])] 381 (0,0)))(hO:cE P)(hc:mA P)(ho:j9 P)(hx:P.nx.length=P.nd.length)(hn:n<P.nd.length)(hH:KC.mB P held)(o:∀M w,(callFunc fk M).run Tryz.prog w=.ok (.enter fk M) w)
 (hh:∀m,m<P.nd.length->∀W,Bl w W->Cl fk (#[Iv m]++caps) W (Rb W (.agg (KC.aH (held m)).toArray))):
 Cl 210 #[KC.cZ rb db P.nd.length,Iv n,.func (.func fk) #[] caps] w (Rb w (.agg (KC.aH (KC.bL P held n)).toArray)):=by exact ach
open KB in
theorem KB.mM(rb db B n fk:Nat)(P:Pm)(caps:Array Value)(held:Nat->PE)(w:World)(hE:KB.l? w B rb P)(hd:w.heap[db]?=some (.cells #[.iface 331 (.agg #[])] 386 (0,0)))(hO:cE P)(hc:mA P)(ho:j9 P)(hx:P.nx.length=P.nd.length)(hn:n<P.nd.length)(hH:KB.mB P held)(o:∀M w,(callFunc fk M).run Tryz.prog w=.ok (.enter fk M) w)
 (hh:∀m,m<P.nd.length->∀W,Bl w W->Cl fk (#[Iv m]++caps) W (Rb W (.agg (KB.aH (held m)).toArray))):
 Cl 216 #[KB.cZ rb db P.nd.length,Iv n,.func (.func fk) #[] caps] w (Rb w (.agg (KB.aH (KB.bL P held n)).toArray)):=by exact ach
end
section
def acg{p:Prop}(h:p:=by
 have hN:=hO.most;have l:=hid (Aa hE (Aa hd (Aa hO (Aa hc (Aa ho (Aa hx (Aa hl (Aa hS hH))))))));clear hE hd hO hc ho hx hl hS hH;obtain⟨N,I⟩:=Ea P.nd.length;rw[<-I]at hN⊢;have HN:=hid I;clear I;simp only[KC.cZ,KB.cZ];go_enter acT,acD
 go_upto_region 2 with fail
 refine yJ (F:=Code.wp _ _ _ _) fun W0 R=>?_
 obtain⟨F,x2⟩:=ae R.a.2
 go_upto_region 3 with fail
 clear F x2
 go_loopw[11] (fun iv wr=>∃k:Nat,k<=N/\iv=Iv k/\Hd (nY P hs k=true/\Bl W0 wr)) (fun iv _=>N-(intOf iv).toNat)
 case atStart=>exact⟨0,bB _,rfl,rfl,aM _ _⟩
 case round=>
  obtain⟨k,hk,rfl,M⟩:=hrel;have g:=M.A.size;have O:Hd (Bl w wr):=aq R.b M.A;by_cases J:k<N
  ·have s:(k:Int)<N:=ah
   have hx:hs[k]?=some (bD hs k):=by unfold bD;rw[List.getD,bk (by rw[l.g,<-HN.o];exact J)];rfl
   obtain⟨b,o,rfl,f⟩:=l.h k _ hx;have hr:=fe f O.o;obtain⟨ok,u⟩:=Ea (e4 (bL P (bD hs) k) (bD hs k));have HF:Hd (ok=false->nY P hs N=false):=fun h=>fS (k:=k) (u.symm.trans h) J
   have Z:Hd (ok=true->nY P hs (k+1)=true):=fun h=>by
    have G:=M.a
    (first|unfold KC.nY at G⊢ | unfold KB.nY at G⊢)
    rw[d!,G,<-u,h];rfl
   have HP:Hd (∀W,Bl wr W->Cl xX #[.agg (aH (bL P (bD hs) k)).toArray,.agg (aH (bD hs k)).toArray,.pointer (some (Ad db 0))] W (Rb W (.bool ok))):=by
    rw[u];exact fun W U=>lH _ _ db W (aE (aq O.o U) l.b) (Cq l.H l.c l.d l.e l.f k) (l.H.bin k)
   have HS:Hd (∀W,Bl wr W->Cl ZJ #[cZ rb db N,Iv k,.func (.func ZI) #[] #[.pointer (cM w.heap.size)]] W (Rb W (.agg (aH (bL P (bD hs) k)).toArray))):=by
    intro W U;have G:=aq O.o U;rw[HN.o];refine mM rb db B k _ P _ (bD hs) W (l.a.below G) (aE G l.b) l.c l.d l.e l.f (by rw[<-HN.o];exact J) l.H (fun xs w=>ac8 xs w) fun m hm W2 T=>?_
    have FD:hs[m]?=some (bD hs m):=by unfold bD;rw[List.getD,bk (by rw[l.g];exact hm)];rfl
    exact AU m (w.heap.size+1) N c _ hs _ W2 (aE T (aE U (aE M.A R.a.2))) (fun j e he=>by obtain⟨b,o,q,hr⟩:=l.h j e he;exact⟨b,o,q,fe (fe hr G) T⟩) FD (by rw[HN.o];exact hm)
   simp only[KC.cZ,KB.cZ]at HS;generalize bD hs k=z at *;generalize bL P (bD hs) k=Y at *;clear hx f u
   go_upto_region 5 with(first|(refine wpList_load_mid rfl aV (.tmp 14) rfl b (o+k*17) rfl (aH z) _ hr fH rfl au ?_)|(refine wpList_store_mid rfl aV (.tmp 7) (.tmp 15) rfl wr.heap.size 0 (aH z).toArray rfl rfl (bO (n:=17) (bf _ _) rfl) au (a! _) ?_))
   refine Ju (F:=Code.wp _ _ _ _) rfl fun V H=>?_
   have X:Hd (Bl wr V/\_/\_):=⟨H.A,H.a,aE H.A (aE M.A R.a.1)⟩;clear H hr;simp only[Act.put];refine wp_region_held_drew (S:=fun W'=>Bl V W') au (aM _ _).drew (fun aB=>?_);refine tq 0 (.pointer (some (Ad w.heap.size 2))) (h:=?_);refine tq 1 (.func (.func xX) #[] (bE db)) (y:=fun W' aU=>by have L:=(ae (aE aU X.B)).1;clear aB aU;go_simp) (h:=?_);refine tq 2 (.agg #[.slice (some (Ad rb 0)) N N,.func (.func xY) #[] (bE db),.func (.func xX) #[] (bE db)]) (y:=fun W' aU=>by have L:=(ae (aE aU X.B)).1;clear aB aU;go_simp) (h:=?_);refine tq 3 (Iv k) (h:=?_);refine tq 4 (.func (.func ZI) #[] #[.pointer (cM w.heap.size)]) (h:=?_);refine tz 6 (.agg (aH z).toArray) (y:=yieldsIf_load_mid au _ _ rfl _ _ rfl _ _ (fun W' aU=>aT (aE aU X.b)) fH rfl au) (h:=?_);refine r1 5 (h:=fun K A=>?_)
   go_simp
   refine(HS.o _ X.a.drew).mono ?_;rintro e t ⟨rfl,D⟩;have E:Hd (Bl V t):=aq (aM _ _).drew D;clear D;refine A.out _ _ E.o (fun aB=>?_);clear A K;refine pt ?_;refine r1 7 (h:=fun K A=>?_)
   go_simp
   refine(HP.o _ (aq X.a E.o)).mono ?_;rintro e n ⟨rfl,D⟩;have C:Hd (Bl V n):=aq E.o D;clear D;refine A.out _ _ C.o (fun aB=>?_);clear A K;refine pt ?_;refine tq 8 (.bool (!ok)) (h:=?_);refine wpAnyH_done au ?_ _;clear aB;cases ok
   ·go_wp2_with fail
    go_ret
    exact⟨by rw[HF.o (by trivial)];rfl,aq O.o (aq X.a C.o)⟩
   ·go_wp2_with fail
    go_roundw
    case rel=>exact⟨k+1,J,h',Z.o (by trivial),aq M.A (aq X.a C.o)⟩
    case measure=>simp[intOf];omega
  ·have s:¬(k:Int)<N:=ah
   obtain rfl:N=k:=ah
   go_wp2_with fail
   go_ret
   exact⟨by rw[M.a];rfl,O.o⟩):p:=h
open KC in
def KC.qR(rb db B c:Nat)(a:Option Addr)(P:Pm)(hs:List PE)(w:World)(hE:KC.l? w B rb P)(hd:w.heap[db]?=some (.cells #[.iface 328 (.agg #[])] 381 (0,0)))(hO:cE P)(hc:mA P)(ho:j9 P)(hx:P.nx.length=P.nd.length)(hl:hs.length=P.nd.length)(hS:KC.gn w a hs)(hH:KC.mB P (bD hs)):
 Cl 163 #[KC.cZ rb db P.nd.length,.slice a P.nd.length c] w (Rb w (.bool (KC.nY P hs P.nd.length))):=by exact acg
open KB in
def KB.qR(rb db B c:Nat)(a:Option Addr)(P:Pm)(hs:List PE)(w:World)(hE:KB.l? w B rb P)(hd:w.heap[db]?=some (.cells #[.iface 331 (.agg #[])] 386 (0,0)))(hO:cE P)(hc:mA P)(ho:j9 P)(hx:P.nx.length=P.nd.length)(hl:hs.length=P.nd.length)(hS:KB.gn w a hs)(hH:KB.mB P (bD hs)):
 Cl 166 #[KB.cZ rb db P.nd.length,.slice a P.nd.length c] w (Rb w (.bool (KB.nY P hs P.nd.length))):=by exact acg
end
section
variable {p:Prop} {W:World} {B hb n k m:Nat} {M:List Value} {es l:List PE}
open Go.RowKit Go.Proofs Go.Maps Tryz
def Xr(h:p:=by
 obtain⟨ql,i⟩:=E.a
 exact⟨ql,(i.yC c (fun k X=>by rw[aZ _ _ _ _ X,aZ _ _ _ _ X,aZ _ _ _ _ X])).low R.b.size⟩):p:=h
def Xq(h:p:=by
 exact(((aq R.b E.B).setCell (by show _<=w.heap.size+1;omega) _).setCell (by show _<=w.heap.size+1;omega) _).setCell (by show _<=w.heap.size+1;omega) _):p:=h
def qG(g C nv:Nat)(S:List NC)(P:Pm)(w:World)(hP:PM w g C S P)(b:cE P):
  Cl 139 #[eV g P.nd.length C nv] w fun e I=>∃B v,e=.returned (KC.cZ B v P.nd.length)/\KC.l? I w.heap.size B P/\I.heap[v]?=some (.cells #[.iface 328 (.agg #[])] 381 (0,0))/\Bl w I:=by
 have f:=hid (fun W (U:Bl w W)=>KC.iK g C nv S P W (hP.below U) b);clear hP b;generalize P.nd.length=N at f⊢;simp only[eV]at f⊢;go_enter func139,ntmps139
 go_upto_region 1 with fail
 refine yJ (F:=Code.wp _ _ _ _) fun H R=>?_
 obtain⟨F,y⟩:=ae R.a.1
 go_wp2_with (go_at_call 212;refine(f.o _ R.b).mono ?_;rintro e T ⟨B,v,rfl,i,hd,D⟩;have E:=hid (Aa i (Aa hd D));clear i hd D F y;obtain⟨F,y⟩:=ae (aE E.B R.a.2))
 have c:=aE E.B R.a.2;have a:=hid (Aa (aw (o:=0) c (b? B N)) (Aa (aw (o:=1) (aw (o:=0) c (b? B N)) (.func (.func 270) #[] (bE v))) (aw (o:=2) (aw (o:=1) (aw (o:=0) c (b? B N)) (.func (.func 270) #[] (bE v))) (.func (.func 272) #[] (bE v)))));have A:=(ae a.a).1;have l:=(ae a.b).1;have t:=(ae a.B).1;have nd:v≠w.heap.size+1:=by
  rintro rfl;have G:=E.b;rw[c]at G;simp at G
 refine aG (v:=KC.cZ B v N) (by simp[results,results139,go_sem,A,l,t]) rfl ⟨B,v,rfl,?_,?_,?_⟩
 ·exact Xr
 ·rw[aZ _ _ _ _ nd,aZ _ _ _ _ nd,aZ _ _ _ _ nd]
  exact E.b
 exact Xq
def zc(g C nv:Nat)(S:List NC)(P:Pm)(w:World)(hP:PM w g C S P)(b:cE P):
  Cl 143 #[eV g P.nd.length C nv] w fun e I=>∃B v,e=.returned (KB.cZ B v P.nd.length)/\KB.l? I w.heap.size B P/\I.heap[v]?=some (.cells #[.iface 331 (.agg #[])] 386 (0,0))/\Bl w I:=by
 have f:=hid (fun W (U:Bl w W)=>KB.iK g C nv S P W (hP.below U) b);clear hP b;generalize P.nd.length=N at f⊢;simp only[eV]at f⊢;go_enter func143,ntmps143
 go_upto_region 1 with fail
 refine yJ (F:=Code.wp _ _ _ _) fun H R=>?_
 obtain⟨F,y⟩:=ae R.a.1
 go_wp2_with (go_at_call 213;refine(f.o _ R.b).mono ?_;rintro e T ⟨B,v,rfl,i,hd,D⟩;have E:=hid (Aa i (Aa hd D));clear i hd D F y;obtain⟨F,y⟩:=ae (aE E.B R.a.2))
 have c:=aE E.B R.a.2;have a:=hid (Aa (aw (o:=0) c (b? B N)) (Aa (aw (o:=1) (aw (o:=0) c (b? B N)) (.func (.func 275) #[] (bE v))) (aw (o:=2) (aw (o:=1) (aw (o:=0) c (b? B N)) (.func (.func 275) #[] (bE v))) (.func (.func 277) #[] (bE v)))));have A:=(ae a.a).1;have l:=(ae a.b).1;have t:=(ae a.B).1;have nd:v≠w.heap.size+1:=by
  rintro rfl;have G:=E.b;rw[c]at G;simp at G
 refine aG (v:=KB.cZ B v N) (by simp[results,results143,go_sem,A,l,t]) rfl ⟨B,v,rfl,?_,?_,?_⟩
 ·exact Xr
 ·rw[aZ _ _ _ _ nd,aZ _ _ _ _ nd,aZ _ _ _ _ nd]
  exact E.b
 exact Xq
def Xp(h:p:=by
 induction n with
 |zero=>rfl
 |succ n B=>rw[dN,l6,B,dN];rfl):p:=h
def KC.nw(n:Nat):(List.replicate n (KC.aH PE.zero)).flatten=KC.aP (List.replicate n PE.zero):=by
 exact Xp
def KB.nw(n:Nat):(List.replicate n (KB.aH PE.zero)).flatten=KB.aP (List.replicate n PE.zero):=by
 exact Xp
def KC.fI(a b:List PE):KC.aP (a++b)=KC.aP a++KC.aP b:=GL
def KB.fI(a b:List PE):KB.aP (a++b)=KB.aP a++KB.aP b:=GL
def KC.jq(l:List PE):(KC.aP l).length=l.length*17:=by
 induction l with
 |nil=>rfl
 |cons e l B=>
  have h:(KC.aH e).length=17:=rfl;simp only[KC.aP,bY,bu,bT]at B⊢;omega
def KB.jq(l:List PE):(KB.aP l).length=l.length*17:=by
 induction l with
 |nil=>rfl
 |cons e l B=>
  have h:(KB.aH e).length=17:=rfl;simp only[KB.aP,bY,bu,bT]at B⊢;omega
def acf(h:p:=by
 rcases h.2 with⟨e,_⟩|⟨g,C,A,e,G,O,Y,_,H,E⟩
 ·simp at e
 ·simp at e
  obtain⟨rfl,rfl⟩:=e;refine⟨?_,G⟩;rw[O];rw[cP (by simp[H])]at E
  rw[<-E]):p:=h
open KC in
def KC.xV(h:W.ownsRow B 228 17 (b? hb n) n M):W.heap[hb]?=some (.cells M.toArray 228 (0,0))/\B<=hb:=by exact acf
open KB in
def KB.xV(h:W.ownsRow B 250 17 (b? hb n) n M):W.heap[hb]?=some (.cells M.toArray 250 (0,0))/\B<=hb:=by exact acf
def ace(h:p:=by
 intro j e U;refine⟨hb,0,rfl,fun i v hi=>?_⟩;have J:i<17:=(bn.1 hi).1;rw[(ae h).1,de,ct,kE es j e i U J]
 exact hi):p:=h
open KC in
def KC.jN(h:W.heap[hb]?=some (.cells (KC.aP es).toArray 228 (0,0))):KC.gn W (some (Ad hb 0)) es:=by exact ace
open KB in
def KB.jN(h:W.heap[hb]?=some (.cells (KB.aP es).toArray 250 (0,0))):KB.gn W (some (Ad hb 0)) es:=by exact ace
def acd(h:p:=by
 have Q:aP (l++List.replicate (m+1) PE.zero)=aP l++aH PE.zero++aP (List.replicate m PE.zero):=by
  rw[fI,dN,dj];rfl
 have z:aP ((l++[e])++List.replicate m PE.zero)=aP l++aH e++aP (List.replicate m PE.zero):=by
  rw[fI,fI]
  congr 1
 rw[Q]at h;rw[z]
 exact B5 hb _ (aH e) _ _ _ W (k*17) (by rw[jq,hk]) h rfl):p:=h
open KC in
def KC.x6(e:PE)(h:W.heap[hb]?=some (.cells (KC.aP (l++List.replicate (m+1) PE.zero)).toArray 228 (0,0)))(hk:l.length=k):(W.setCells hb (k*17) (KC.aH e)).heap[hb]?=some (.cells (KC.aP ((l++[e])++List.replicate m PE.zero)).toArray 228 (0,0)):=by exact acd
open KB in
def KB.x6(e:PE)(h:W.heap[hb]?=some (.cells (KB.aP (l++List.replicate (m+1) PE.zero)).toArray 250 (0,0)))(hk:l.length=k):(W.setCells hb (k*17) (KB.aH e)).heap[hb]?=some (.cells (KB.aP ((l++[e])++List.replicate m PE.zero)).toArray 250 (0,0)):=by exact acd
def KC.kS(h:W.heap[hb]?=some (.cells (KC.aP l).toArray 228 (0,0)))(hk:k<l.length):W.there hb (k*17) 17:=fun j U=>by
 refine⟨?_,(ae h).2 _⟩;rw[(ae h).1,qH (by rw[kd,KC.jq];omega)];rfl
def KB.kS(h:W.heap[hb]?=some (.cells (KB.aP l).toArray 250 (0,0)))(hk:k<l.length):W.there hb (k*17) 17:=fun j U=>by
 refine⟨?_,(ae h).2 _⟩;rw[(ae h).1,qH (by rw[kd,KB.jq];omega)];rfl
end
section
variable {p:Prop}
open Go.RowKit Go.Shelf Go.Proofs Go.Maps Tryz
abbrev KC.zn0:Nat:=206
abbrev KC.zF1:=@func206
abbrev KC.zN2:=@ntmps206
abbrev KC.zC3:=@Tryz.call206
abbrev KC.zn4:Nat:=207
abbrev KC.zF5:=@func207
abbrev KC.zN6:=@ntmps207
abbrev KC.zF8:=@func138
abbrev KC.zN9:=@ntmps138
abbrev KC.abV:Nat:=237
abbrev KC.abU:Nat:=319
abbrev KB.zn0:Nat:=214
abbrev KB.zF1:=@func214
abbrev KB.zN2:=@ntmps214
abbrev KB.zC3:=@Tryz.call214
abbrev KB.zn4:Nat:=215
abbrev KB.zF5:=@func215
abbrev KB.zN6:=@ntmps215
abbrev KB.zF8:=@func144
abbrev KB.zN9:=@ntmps144
abbrev KB.abV:Nat:=253
abbrev KB.abU:Nat:=332
def acb(h:p:=by
 obtain⟨b,o,rfl,f⟩:=h m e he;have O:(m:Int)<N:=ah
 clear h he;go_enter zF1,zN2
 go_upto_region 1 with fail
 have H:Hd (d' (w.alloc (.cells dE aV)) w.heap.size dE aV/\Bl w (w.alloc (.cells dE aV))/\d' (w.alloc (.cells dE aV)) hb #[.slice (some (Ad b o)) N c] Il/\(w.alloc (.cells dE aV)).rangeAt b (o+m*17) (aH e)):=⟨bf _ _,aC _ _,aE (aC _ _) hh,fe f (aC _ _)⟩;clear hh f;generalize w.alloc (.cells dE aV)=V at H⊢;obtain⟨x,z⟩:=ae H.c;have L:=H.C;have a:=bO (n:=17) H.a rfl
 go_wp2_with (first|(refine wpList_load_mid rfl aV (.tmp 6) rfl b (o+m*17) rfl (aH e) _ L fH rfl au ?_)|(refine wpList_store_mid rfl aV (.tmp 3) (.tmp 7) rfl w.heap.size 0 (aH e).toArray rfl rfl a au (a! _) ?_))
 have A:=bX (cs:=pK) H.a (vs:=aH e) rfl;have E:=run_loadVar_mid (P:=Tryz.prog) (V.setCells w.heap.size 0 (aH e)) w.heap.size 0 aV (aH e) _ (aT A) fH rfl au
 refine aG (v:=.agg (aH e).toArray) (by simp[results,results206,results214,E,Act.put,asAddr]) rfl ⟨rfl,aY _ (aF _) _ _ _ H.b⟩):p:=h
open KC in
def KC.Af(m hb N c:Nat)(Z:Option Addr)(es:List PE)(e:PE)(w:World)(hh:w.heap[hb]?=some (.cells #[.slice Z N c] 222 (0,0)))(h:KC.gn w Z es)(he:es[m]?=some e)(hm:m<N):
 Cl 206 (xg m hb) w (Rb w (.agg (KC.aH e).toArray)):=by exact acb
open KB in
def KB.Af(m hb N c:Nat)(Z:Option Addr)(es:List PE)(e:PE)(w:World)(hh:w.heap[hb]?=some (.cells #[.slice Z N c] 244 (0,0)))(h:KB.gn w Z es)(he:es[m]?=some e)(hm:m<N):
 Cl 214 (xg m hb) w (Rb w (.agg (KB.aH e).toArray)):=by exact acb
def aca(h:p:=by
 have hN:=hO.most;obtain⟨ql,hE⟩:=hE;have NK:C5 ql=(List.range P.nd.length).map fun n=>(P.ins n).map (·.1):=by
  refine dW fun k=>?_
  rw[C5,bG,bG];cases hr:ql[k]? with
  |none=>
   have:=qL.1 hr;rw[bU (by simp;have:=hE.len;omega)];rfl
  | some r=>
   have hk:=(bn.1 hr).1;rw[jX (by rw[<-hE.len];exact hk)];simp only[kI,dG];have o:=hE.es k r hr;refine dW fun j=>?_
   rw[bG,bG];cases h1:r.es[j]? with
   |none=>rw[bU (by rw[<-o.1];exact qL.1 h1)];rfl
   |some e=>
    have hj:=(bn.1 h1).1;cases h2:(P.ins k)[j]? with
    |none=>have:=qL.1 h2;rw[o.1]at hj;omega
    |some x=>simp only[kI,dG];exact(o.2 j e x h1 h2).1
 rw[<-NK];obtain⟨i1,hi,D,O,mC⟩:=cY pU;have HI:Hd (_/\_/\_/\_):=⟨hi,D,O,mC⟩;clear hi D O mC NK;have HH:=hid (Aa hE (Aa hO hx));obtain⟨N,rC⟩:=Ea P.nd.length;rw[<-rC]at hN⊢;have m:=hid rC;have hlen:=hE.len;rw[<-rC]at hlen;have I:=hid hlen;clear hE hO hx rC hlen;simp only[KC.cZ,KB.cZ];go_enter zF5,zN6
 go_upto_region 1 with(fail)
 refine uA (F:=Code.wp _ _ _ _) fun H R=>?_
 obtain⟨x1,x2⟩:=ae R.a
 go_upto_region 2 with(at_make;refine il _ rfl (.tmp 10) (.tmp 10) 264 rfl H.heap.size 267 i1 _ 2 underlying264 HI.a HI.b HI.c .i64 .i64 N N N rfl rfl rfl rfl (by rw[HI.C];omega) (by unfold maxLen;omega) ak ?_;intro T h! Y;have HO:=hid (Aa h! Y);clear h! Y)
 have HM:Hd (T.heap[H.heap.size]?=some (.cells (cG (tA (C5 ql) N 0)).toArray 267 (0,0))/\Below H.heap.size H T):=by
  have h1:=HO.a;rw[dX _ 2 (by simp[Value.cells]) N]at h1;refine⟨?_,(aM _ _).grown HO.A (aF _) (fun q e=>by cases e)⟩;rw[(e? h1).1]
  congr 2
  rw[show tA (C5 ql) N 0=List.replicate N (0,0)by simp[tA],<-wq];rfl
 have hgz:H.heap.size<T.heap.size:=blt HM.a;have hgw:w.heap.size<H.heap.size:=blt R.a;obtain⟨y1,y2⟩:=ae (aE HM.A R.a);clear HO x1 x2;have HB0:=hid (Aa R.a R.b);clear R
 go_wp2_with fail
 generalize hgg:H.heap.size=g at *;clear hgg
 go_loopw[15] (fun iv wr=>∃k:Nat,k<=N/\iv=Iv k/\Hd (wr.heap[g]?=some (.cells (cG (tA (C5 ql) N k)).toArray 267 (0,0))/\Below g H wr)) (fun iv _=>N-(intOf iv).toNat)
 case atStart=>exact⟨0,bB _,rfl,HM.o⟩
 case round=>
  clear HM hgz y1 y2;obtain⟨k,hk,rfl,M⟩:=hrel;have L:Bl w wr:=HB0.A.trans (M.A.mono ah);by_cases J:k<N
  ·have s:(k:Int)<N:=ah
   obtain⟨r,hr⟩:=La (l:=ql) (i:=k) (by rw[I.o];exact J);have TG:=HH.a.below L;have Nx:=TG.st k r hr;have o:=TG.es k r hr;have Nz:=TG.sys.range hr;have Rx:=kX k P.nx 0 (fun l hl=>(HH.b.nx l hl).1);have aeC:r.es.length<=200:=by
    have h1:(P.ins k).length<=120:=by show(gA k 0 P.nx).length<=120;have h2:=HH.B;have:=m.o;omega
    rw[o.1];omega
   simp only[oh,Nx,RR.ev]at Nz;have HR:=hid (Aa (TG.sys.row r (aL hr)) (Aa o hr));clear TG Nx o hr Rx
   go_upto_region 5 with(first|(refine wpList_load_mid rfl qh (.tmp 18) rfl rb (k*18) rfl (aH (qu k)++[Value.slice r.ea r.es.length r.ec]) _ Nz ZG rfl au ?_)|(refine wpList_store_mid rfl qh (.tmp 5) (.tmp 19) rfl wr.heap.size 0 (aH (qu k)++[Value.slice r.ea r.es.length r.ec]).toArray rfl rfl (bO (n:=18) (bf _ _) rfl) au (all_oneCell_toArray (fun v t=>by rcases jH.1 t with t|t;(· exact pL _ v t);simp at t;subst t;rfl)) ?_))
   refine Ju (F:=Code.wp _ _ _ _) rfl fun V HV=>?_
   have c17:V.cell? (Ad wr.heap.size 17)=some (bH r.ea r.es.length r.ec):=by rw[(ae HV.a).1];rfl
   simp only[Act.put];clear Nz
   go_wp2_with fail
   have hge:=blt M.a
   go_loopw[23] (fun jv F=>∃j:Nat,j<=r.es.length/\jv=Iv j/\Hd (F.heap[g]?=some (.cells (cG (Gq k (tA (C5 ql) N k) ((r.es.take j).map (·.1)))).toArray 267 (0,0))/\Below g H F)) (fun jv _=>r.es.length-(intOf jv).toNat)
   case atStart=>exact⟨0,bB _,rfl,aE HV.A M.a,M.A.trans (HV.A.mono ah)⟩
   case round=>
    clear c17;obtain⟨j,hj,rfl,G⟩:=hrel;by_cases YE:j<r.es.length
    ·have aaG:(j:Int)<(r.es.length:Int):=ah
     obtain⟨⟨f,fv⟩,hx⟩:∃x,r.es[j]?=some x:=⟨_,bk YE⟩;have eB:Bl w wr:=HB0.A.trans (G.A.mono ah);obtain⟨eg,heg,e0,e1⟩:=Dd ((HH.a.sys.below eB).row r (aL HR.B)) hx;obtain⟨y,hy⟩:=La (l:=(P.ins k)) (i:=j) (by rw[<-HR.b.1];exact YE);obtain⟨hfe,sb,hfv,_⟩:=HR.b.2 j _ y hx hy;have hfN:f<N:=by rw[show f=y.1 from hfe,m.o];have:=mS k P.nx 0 y (aL hy);rw[HH.B]at this;omega
     simp only at hfv e0 e1;subst hfv;clear hfe hy;rw[heg];have HX:=hid (Aa hx eB);clear hx eB
     go_upto_region 8 with(fail)
     obtain⟨U,hU⟩:=Ea (wr.alloc (.cells #[Iv f,x5 sb] mL));have HU:Hd (Bl wr U/\U.heap[wr.heap.size]?=some (.cells #[Iv f,x5 sb] mL (0,0))):=by rw[hU];exact⟨aC _ _,bf _ _⟩
     rw[<-hU];clear hU e0 e1;obtain⟨l,hl⟩:=Ea (Gq k (tA (C5 ql) N k) ((r.es.take j).map (·.1)))
     have OO:l.length=N:=by rw[hl,vW,pJ]
     have NJ:U.heap[g]?=some (.cells (cG l).toArray 267 (0,0)):=by rw[hl];exact aE HU.a G.a
     have Nw:bF (l.getD f (0,0)):=by rw[hl];exact Cm ah _ _ (xS _ _ k ah) f
     have m:Hd (Gq k (tA (C5 ql) N k) ((r.es.take (j+1)).map (·.1))=l.set f (eP (l.getD f (0,0)) (cH [k]))):=by
      show _=_;rw[dS YE,(bn.1 HX.a).2,iq,O5,Ez,<-hl];rfl
     obtain⟨u,E⟩:=Ea (l.getD f (0,0));have HO:Hd (∀X b,X.cell? (Ad b 0)=some (Iv k)->Cl 241 (mH b) X (Rb X (b! (cH [k])))):=fun X b Z=>j6 X b k ah Z
     have Ow:Hd (∀(X:World) b,X.cell? (Ad b 0)=some (Uv u.1)->X.cell? (Ad b 1)=some (Uv u.2)->X.cell? (Ad b 2)=some (Uv ((cH [k]).1:Int))->X.cell? (Ad b 3)=some (Uv ((cH [k]).2:Int))->Cl 267 (oE b) X (Rb X (b! (eP u (cH [k]))))):=fun X b h0 h1 h2 h3=>by have:=e8 X b u (cH [k]) (by rw[E];exact Nw) (gQ _ fun g hg=>by rw[ja.1 hg];omega) h0 h1 h2 h3;exact this
     have HKS:Hd (∀W,Bl U W->W.cell? (Ad g (f*2))=some (Uv u.1)/\W.cell? (Ad g (f*2+1))=some (Uv u.2)/\W.frozen? (Ad g (f*2))=false/\W.frozen? (Ad g (f*2+1))=false):=fun W hW=>by rw[E];exact gT (aE hW NJ) (by rw[OO];exact hfN)
     rw[<-E]at m;obtain⟨o1,rK⟩:=Ea (cH [k]);obtain⟨z,hz⟩:=Ea (eP u (cH [k]));rw[<-hz]at m Ow;rw[<-rK]at HO Ow;have I:=hid (Aa OO NJ);clear rK hz Nw E hl OO NJ;have hfi:(f:Int)<N:=ah
     simp only[b!]at HO Ow;refine st (fun W'=>Bl U W') 13 (hS:=(aM _ _).drew) (h:=fun aB=>?_);refine tt 0 (b? g N) (h:=?_);refine tt 1 (.pointer (cu wr.heap.size)) (h:=?_);refine tt 2 (Iv f) (y:=fun W' aU=>by have k1:=(ae (aE aU HU.A)).1;clear aB aU;go_simp) (h:=?_);refine tt 3 (b? g N) (h:=?_);refine tt 4 (.pointer (cu wr.heap.size)) (h:=?_);refine tt 5 (Iv f) (y:=fun W' aU=>by have k1:=(ae (aE aU HU.A)).1;clear aB aU;go_simp) (h:=?_);refine tt 6 (.pointer (some (Ad g (f*2)))) (h:=?_);refine tt 7 (kM u.1 u.2) (y:=fun W' aU=>by have k1:=(HKS.o _ aU).1;have k2:=(HKS.o _ aU).2.1;clear aB aU;go_simp) (h:=?_);refine tt 8 (Iv k) (h:=?_);refine rt 9 (h:=fun K hK=>?_)
     go_simp
     refine hK.out _ _ (fun _=>aq aB (aC _ _)) ?_;clear hK K;refine pt ?_;refine rt 10 (h:=fun K hK=>?_)
     go_simp
     refine bA (HO.o _ _ ak) ?_;rintro e T ⟨rfl,A⟩;have j?:Hd (Bl U T):=aq (aq aB (aC _ _)) A;clear A;refine hK.out _ _ (fun _=>j?.o) ?_;clear hK K;refine pt ?_;refine rt 11 (h:=fun K hK=>?_)
     go_simp
     refine hK.out _ _ (fun _=>aq j?.o (aC _ _)) ?_;clear hK K;refine pt ?_;refine rt 12 (h:=fun K hK=>?_)
     go_simp
     refine bA (Ow.o _ _ ak ak ak ak) ?_;rintro e W2 ⟨rfl,uz⟩;have C:Hd (Bl U W2):=aq (aq j?.o (aC _ _)) uz;clear uz;refine hK.out _ _ (fun _=>C.o) ?_;clear hK K aB;refine pt ?_;refine rt 13 (h:=fun K hK=>?_)
     go_simp
     refine hK.out _ _ (fun h=>absurd h aj) ?_;clear hK K;refine pt ?_;refine rt 14 (h:=fun K hK=>?_);obtain⟨k0,k1,k2,k3⟩:=HKS.o _ C.o
     go_simp
     refine hK.out _ _ (fun h=>absurd h aj) ?_;clear hK K k0 k1 k2 k3;refine pt ?_;refine dt (h:=?_)
     go_wp2_with fail
     go_roundw
     case rel=>
      refine⟨j+1,YE,h',?_,?_⟩
      ·rw[m.o];exact wB (s:=z) (aE C.o I.A) (k:=f) (by rw[I.a];exact hfN)
      ·exact((G.A.trans ((aq HU.a C.o).mono (by have:=blt G.a;omega))).setCell (aF _) _).setCell (aF _) _
     case measure=>simp[intOf];omega
    ·have aaG:¬(j:Int)<(r.es.length:Int):=ah
     go_wp2_with fail
     go_roundw
     case rel=>
      refine⟨k+1,J,h',?_,G.A⟩;have:=G.a;rw[cP ah,<-R2 HR.B,<-oL]at this;exact this
     case measure=>simp[intOf];omega
  ·have s:¬(k:Int)<N:=ah
   have hkN:k=N:=ah
   go_wp2_with fail
   go_ret
   refine⟨g,rfl,ah,?_,L⟩;have:=M.a;rw[hkN]at this
   exact this):p:=h
open KC in
theorem KC.rV(rb db B:Nat)(P:Pm)(w:World)(hE:KC.l? w B rb P)(hO:cE P)(hx:P.nx.length=P.nd.length):
 Cl 207 #[KC.cZ rb db P.nd.length] w fun e w'=>∃g,e=.returned (b? g P.nd.length)/\w.heap.size<=g/\w'.heap[g]?=some (.cells (cG (tA ((List.range P.nd.length).map fun n=>(P.ins n).map (·.1)) P.nd.length P.nd.length)).toArray 267 (0,0))/\Bl w w':=by exact aca
open KB in
theorem KB.rV(rb db B:Nat)(P:Pm)(w:World)(hE:KB.l? w B rb P)(hO:cE P)(hx:P.nx.length=P.nd.length):
 Cl 215 #[KB.cZ rb db P.nd.length] w fun e w'=>∃g,e=.returned (b? g P.nd.length)/\w.heap.size<=g/\w'.heap[g]?=some (.cells (cG (tA ((List.range P.nd.length).map fun n=>(P.ins n).map (·.1)) P.nd.length P.nd.length)).toArray 267 (0,0))/\Bl w w':=by exact aca
end
section
variable {B rb N g hq:Nat} {Ds:List Nat} {W W' w:World} {β:Type}
open Go.RowKit Go.Shelf Go.Proofs Go.Maps Tryz
attribute [local go_sem] Oper.semAt_some
def mkD(D:Nat):Deferred:={target:=.collected D,args:=#[]}
structure Bp(B:Nat)(Ds:List Nat)(W:World):Prop where
  nd:Ds.Nodup
  at_:∀D∈Ds,B<=D/\W.heap[D]?=some (.deferred (some []))
def Bp.nil(B:Nat)(W:World):Bp B [] W:=⟨J5,fun D h=>by cases h⟩
def Bp.keeps(h:Bp B Ds W)(hk:KeepsOthers W W'):Bp B Ds W':=⟨h.nd,fun D U=>⟨(h.at_ D U).1,hk.same D _ (h.at_ D U).2 rfl⟩⟩
def Bp.cons{D:Nat}(h:Bp B Ds W)(U:W.heap[D]?=some (.deferred (some [])))(f:B<=D)(hn:D∉Ds):Bp B (D :: Ds) W:=
 ⟨tN.2 ⟨hn,h.nd⟩,fun E i=>by rcases cQ.1 i with rfl|i;(· exact⟨f,U⟩);exact h.at_ E i⟩
def nG{F:Fence}{n:Nat}{P:Program}{fn:Func}{tmps:Array Value}{R:Ending->World->Prop}{B:Nat}(J:World->Prop)(z:∀W D,J W->B<=D->W.heap[D]?=some (.deferred (some []))->J (W.putObj D (.deferred none)))(f:∀W,J W->LeavesInM F n P fn tmps R [] .returning W):∀(a:List Nat) (W:World),Bp B a W->J W->LeavesInM F n P fn tmps R (a.map mkD) .returning W
 |[],W,_,hW=>f W hW
 |D :: a,W,h,hW=>by
  have G:=h.at_ D ak;have v:=tN.1 h.nd;refine⟨ak,.inl ⟨_,_,rfl,run_takeDeferred G.2,?_⟩⟩;refine nG J z f a _ ⟨v.2,fun E i=>⟨(h.at_ E (by simp[i])).1,?_⟩⟩ (z W D hW G.1 G.2);rw[World.putObj_heap_other (by rintro rfl;exact v.1 i)];exact(h.at_ E (by simp[i])).2
def CP{B':Nat}(Ds:List Nat)(U:∀D∈Ds,D<B):OwnFrom B fun(_:β) W=>Bp B' Ds W:=fun s W i row z m L=>⟨z.nd,fun D C=>⟨(z.at_ D C).1,(m.block D (blt (z.at_ D C).2) (fun e=>by have:=(L D e.symm).1;have:=U D C;omega)).trans (z.at_ D C).2⟩⟩
def yf(p:β->Prop):OwnFrom B fun(s:β) (_:World)=>p s:=fun _ _ _ _ z _ _=>z
structure FR(w:World)(rb N g hq:Nat)(ns:List Nd)(W:World):Prop where
  sys:W.heap[w.heap.size]?=some (.cells (bV rb N) 260 (0,0))
  res:W.heap[w.heap.size+1]?=some (.cells #[.bool false] 4 (0,0))
  held:W.heap[hq]?=some (.cells (kg g N) 351 (0,0))
  row:W.heap[g]?=some (.cells (gy (ns.map nX)).toArray 354 (0,0))
  low:Bl w W
def FR.below{B:List Nd}(h:FR w rb N g hq B W)(hb:Bl W W'):FR w rb N g hq B W':=⟨aE hb h.sys,aE hb h.res,aE hb h.held,aE hb h.row,aq h.low hb⟩
def FR.own{a:List Nd}(h1:w.heap.size+1<B)(h2:hq<B)(h3:g<B):OwnFrom B fun(_:β) W=>FR w rb N g hq a W:=fun s W i row z m L=>
 have k:∀{q:Nat} {o:Obj},W.heap[q]?=some o->q<B->i.heap[q]?=some o:=fun {q _} e hq=>(m.block q (blt e) (fun e=>by have:=(L q e.symm).1;omega)).trans e
 ⟨k z.sys ah,k z.res h1,k z.held h2,k z.row h3,ownFrom_below (aF _) ah s W i row z.low m L⟩
def FR.put{B:List Nd}(h:FR w rb N g hq B W):FR w rb N g hq B (W.setCell (Ad (w.heap.size+1) 0) (.bool false)):=by
 have k:∀{q:Nat} {cs:Array Value} {t:Nat},W.heap[q]?=some (cJ cs t)->t≠4->(W.setCell (Ad (w.heap.size+1) 0) (.bool false)).heap[q]?=some (cJ cs t):=by
  intro q cs t e a;rw[aZ _ _ _ _ (by rintro rfl;rw[h.res]at e;simp at e;exact a e.2.symm)];exact e
 exact⟨k h.sys aj,aw h.res _,k h.held aj,k h.row aj,h.low.setCell (by show _<=w.heap.size+1;omega) _⟩
def FT{F:Fence}{n:Nat}{B0:Nat}{tmps:Array Value}{b:Bool}(N:tmps.getD 4 undef=.pointer (cM w.heap.size))(Ds:List Nat)(W:World)(hm:Bp B0 Ds W)(f:w.heap.size+1<B0)(hb:Bl w W)(hr:W.heap[w.heap.size+1]?=some (xe b)):
  LeavesInM F n Tryz.prog Tryz.f170 tmps (Rb w (.bool b)) (Ds.map mkD) .returning W:=by
 refine nG (B:=B0) (fun W=>Bl w W/\W.heap[w.heap.size+1]?=some (xe b)) ?_ ?_ Ds W hm ⟨hb,hr⟩
 ·intro X D ⟨G,O⟩ U T
  exact⟨G.trans (belowK_b (w:=w) (aF _) _ D _ _ ah T rfl rfl),by rw[World.putObj_heap_other ah];exact O⟩
 intro X ⟨G,O⟩;obtain⟨c,_⟩:=ae O;have a:tmps[4]?.getD undef=.pointer (cM w.heap.size):=by simpa using N
 exact⟨.bool b,by simp[results,results170,go_sem,a,c],rfl,G⟩
def rsB(R:RS)(ns:List Nd)(n f:Nat):Bool:=bt (jU R (Ty ns ((nX (ns.getD n q?)).2.getD f 0)) n) f
def rsN(R:RS)(ns:List Nd)(n:Nat):Bool:=(c8 (qM (ns.getD n q?))).all (rsB R ns n)
def zt(R:RS)(ns:List Nd)(N:Nat):Bool:=(List.range N).all (rsN R ns)
def Qe(rb B N nc:Nat)(na:Option Addr)(R:RS)(ns:List Nd)(w:World)(hR:nO w B rb R)(hI:DB R N)(h:cj w na ns)(hl:ns.length=N)(hf:∀x∈ns,∀f∈x.facts,0<=f/\f<68)(Jn:∀x∈ns,x.facts.length<=128/\x.aO.length=x.facts.length)(tF:∀x∈ns,bF (qM x)/\∀f∈c8 (qM x),f<68)(hT:kB w):
  Cl 170 #[cK rb N,.slice na N nc] w (Rb w (.bool (zt R ns N))):=by
 have hN:=hI.most;have HRK:Hd (∀W,Bl w W->Cl 242 #[.slice na N nc] W fun e I=>∃g,e=.returned (b? g N)/\I.heap[g]?=some (.cells (gy (ns.map nX)).toArray 354 (0,0))/\Below W.heap.size W I):=by
  intro W hW;have:=Ij na nc ns W (h.below hW) hf Jn ah;rw[hl]at this;exact this
 have HH:=hid (Aa hR (Aa hI (Aa hl (Aa tF hT))));clear hR hI h hl hf Jn tF hT;simp only[cK];refine(fX (n:=6)).1 ?_;refine callsIn_of_wp_marks func170 rfl trivial ?_ rfl;simp only[ntmps170,kd,bT,eI,Nat.reduceAdd,Nat.reduceSub,rQ,rP,rO,rN,dT,dw]
 gi_wp2_with (refine⟨trivial,?_⟩;gi_at_call 242;refine(fX.2 (HRK.o _ (aX _ _ _))).mono ?_;rintro e W1 ⟨g,rfl,OQ,hw1⟩;have TM:=hid (Aa OQ hw1);clear OQ hw1)
 obtain⟨hq,hhq⟩:=Ea W1.heap.size;generalize T:W1.alloc (.cells (kg g N) 351)=W2;have HF:Hd (FR w rb N g hq ns W2/\hq<W2.heap.size):=by
  subst T;subst hhq;have e:=aN w (.cells (bV rb N) 260) (.cells #[.bool false] 4);refine⟨⟨aE (aC _ _) (aE TM.A e.1),aE (aC _ _) (aE TM.A e.2),bf _ _,aE (aC _ _) TM.a,aq (aq (aX _ _ _) TM.A) (aC _ _)⟩,ak⟩
 rw[<-hhq];clear T hhq TM;refine wpIn_loop (fun a' wr=>∃(k:Nat) (Ds:List Nat) (u6 u7 u8 u9 u10 u16 u17 u18 u19 u20 u21 u22 u23 u24 u25 u26 u27 u28 u29 u30 u31 u32 u33 u34 u35 u36:Value),(k<=N/\Hd (FR w rb N g hq ns wr/\Bp W2.heap.size Ds wr/\zt R ns k=true/\W2.heap.size<=wr.heap.size))/\a'={tmps:=#[Value.agg (bV rb N),.slice na N nc,.pointer (cu w.heap.size),undef,.pointer (cM w.heap.size),.pointer (some (Ad hq 0)),u6,u7,u8,u9,u10,.slice na N nc,.slice (some (Ad g 0)) N N,.slice (some (Ad g 0)) N N,Iv N,Iv k,u16,u17,u18,u19,u20,u21,u22,u23,u24,u25,u26,u27,u28,u29,u30,u31,u32,u33,u34,u35,u36],defers:=Ds.map mkD}) (fun a' _=>N-(intOf (a'.tmps.getD 15 undef)).toNat) ?_ ?_
 ·exact⟨0,[],_,_,_,_,_,_,_,_,_,_,_,_,_,_,_,_,_,_,_,_,_,_,_,_,_,_,⟨bB _,HF.a,Bp.nil _ _,rfl,aF _⟩,rfl⟩
 rintro a' wr ⟨k,Ds,u6,u7,u8,u9,u10,u16,u17,u18,u19,u20,u21,u22,u23,u24,u25,u26,u27,u28,u29,u30,u31,u32,u33,u34,u35,u36,⟨hk,M⟩,rfl⟩;by_cases J:k<N;rotate_left
 ·have ig:¬(k:Int)<N:=ah
  have hke:k=N:=ah
  obtain⟨F,x2⟩:=ae M.a.res
  gi_wp2
  have nI:=aw (o:=0) M.a.res (.bool true);rw[<-hke,M.c];exact FT (B0:=W2.heap.size) rfl Ds _ (M.b.keeps (KeepsOthers.setCell _ _ _)) (by have:=blt HF.a.res;omega) (M.a.low.setCell (by show _<=w.heap.size+1;omega) _) nI
 have ig:(k:Int)<N:=ah
 obtain⟨x,E⟩:=La (l:=ns) (i:=k) (by rw[HH.c];exact J);have hxi:=HH.d x (aL E);have u:∀r∈ns.map nX,r.2.length=68:=fun r hr=>by obtain⟨y,_,rfl⟩:=bP.1 hr;exact iH _ _
 have Ru:(ns.map nX)[k]?=some (nX x):=by rw[bG,E];rfl
 obtain⟨cs,hcs⟩:=Ea (vU (nX x));have G:cs.length=70:=by rw[hcs];exact iI (iH _ _)
 have HRG:Hd (wr.rangeAt g (k*70) cs):=by
  intro j v t;rw[hcs]at t;rw[(sh u M.a.row Ru (j:=j) (by have:=(bn.1 t).1;rwa[iI (iH _ _)]at this)).1];exact t
 have Jm:cs.toArray.all (·.oneCell')=true:=all_oneCell_toArray (by rw[hcs];intro v t;simp only[vU,eG,dw,dT,cQ,bP]at t;rcases t with rfl|rfl|⟨y,_,rfl⟩<;>rfl)
 have oZ:(Tryz.prog.info? 354).map (·.size)=some cs.length:=by rw[G];kernel_rfl
 have HX:=hid (Aa E (Aa hxi (Aa hcs (Aa Jm oZ))));clear E hxi u Ru hcs Jm oZ;have Nx:(storeCells (Ad (wr.heap.size+1) 0) cs).run Tryz.prog ((wr.alloc (.cells #[Iv k] 3)).alloc (.cells Tryz.zeroCells354 354))=.ok () ((wr.alloc (.cells #[Iv k] 3)).alloc (.cells cs.toArray 354)):=by
  have e:(wr.alloc (.cells #[Iv k] 3)).heap.size=wr.heap.size+1:=ak
  have:=run_storeCells_new (P:=Tryz.prog) (wr.alloc (.cells #[Iv k] 3)) 354 Tryz.zeroCells354 cs.toArray (by rw[kd];exact HX.D) (by rw[Tryz.zeroCells354_size,kd,G]) HX.d;rw[e]at this
  simpa using this
 gi_upto_region 4 with(fail)
 refine rL.2 ?_
 go_wp2_with (refine wpList_load_mid rfl 354 (.tmp 18) rfl g (k*70) rfl cs _ HRG.o underlying354 rfl HX.D ?_)
 clear Nx;generalize hW3:(wr.alloc (.cells #[Iv k] 3)).alloc (.cells cs.toArray 354)=W3;have q:Hd (Below wr.heap.size wr W3/\W3.heap[wr.heap.size]?=some (fY k)/\W3.heap[wr.heap.size+1]?=some (.cells cs.toArray 354 (0,0))):=by
  subst hW3;exact⟨aX _ _ _,(aN _ _ _).1,(aN _ _ _).2⟩
 clear hW3;obtain⟨⟨s1,s2⟩,Vn⟩:∃s:BS,s=qM x:=⟨_,rfl⟩;have c0:W3.cell? (Ad (wr.heap.size+1) 0)=some (Uv s1):=by rw[(ae q.B).1,HX.c,vU,nX,<-Vn];rfl
 have c1:W3.cell? (Ad (wr.heap.size+1) 1)=some (Uv s2):=by rw[(ae q.B).1,HX.c,vU,nX,<-Vn];rfl
 have Wz:=hid Vn;clear Vn
 gi_wp2_with (refine⟨trivial,?_⟩;gi_at_call 154;refine(fX.2 (tr (s1,s2) _)).mono ?_;rintro e I ⟨rfl,rfl⟩)
 obtain⟨sb,zK⟩:=Ea W3.heap.size;obtain⟨nb,L⟩:=Ea wr.heap.size;generalize hW4:W3.alloc (lB s1 s2)=n;have Ww:Hd (Below wr.heap.size wr n/\n.heap[nb]?=some (fY k)/\n.heap[nb+1]?=some (.cells cs.toArray 354 (0,0))/\n.heap[sb]?=some (rY s1 s2)):=by
  subst hW4;subst zK;subst L;exact⟨aq q.a (aC _ _),aE (aC _ _) q.b,aE (aC _ _) q.B,bf _ _⟩
 rw[<-zK,<-L];clear hW4 zK L q c0 c1;have lsb:=blt Ww.C;have lnb:=blt Ww.c;have Mc:Hd (FR w rb N g hq ns n/\Bp W2.heap.size Ds n):=⟨M.a.below Ww.a,M.b.keeps (du Ww.a)⟩;have hg0:0<w.heap.size:=dQ (HH.D 0 aj);have adH:bF (s1,s2):=by rw[Wz.o];exact HX.b.1
 have YB:=Mc.a.low.size;have h24:W2.heap.size<=n.heap.size:=bw M.C Ww.a.size
 refine wpIn_rangeFunc_ownF rfl ah (gf:=227) (lb:=(bE sb)) rfl trivial (fun xs w=>Tryz.call227 xs w)
  (k! 5 ah (s1,s2) sb w.heap.size n adH ((ae Ww.C).1 0) ((ae Ww.C).1 1) (HH.D.below Mc.a.low) hg0 YB) belowK_t (belowK_b YB) (aM _ _) (fun _=>rfl)
  (fun pre W=>(FR w rb N g hq ns W/\Bp W2.heap.size Ds W/\W.heap[nb]?=some (fY k)/\W.heap[nb+1]?=some (.cells cs.toArray 354 (0,0))/\(pX pre).all (rsB R ns k)=true)/\n.heap.size<=W.heap.size)
  (fun c _ W=>(c=.ret/\FR w rb N g hq ns W/\Bp W2.heap.size Ds W/\zt R ns N=false)/\n.heap.size<=W.heap.size)
  (OwnFrom.and (OwnFrom.and (FR.own (by have:=blt Mc.a.res;omega) (blt Mc.a.held) (blt Mc.a.row)) (OwnFrom.and (CP Ds (fun D U=>blt (Mc.A.at_ D U).2)) (OwnFrom.and (kY (fun _=>_) ah) (OwnFrom.and (kY (fun _=>_) ah) (yf _))))) (fun s W W' row z hg hr=>bw z hg.size))
  (fun c=>OwnFrom.and (OwnFrom.and (yf _) (OwnFrom.and (FR.own (by have:=blt Mc.a.res;omega) (blt Mc.a.held) (blt Mc.a.row)) (OwnFrom.and (CP Ds (fun D U=>blt (Mc.A.at_ D U).2)) (yf _)))) (fun s W W' row z hg hr=>bw z hg.size))
  ⟨⟨Mc.a,Mc.A,Ww.b,Ww.c,rfl⟩,aF _⟩
  (fun x=>{tmps:=#[Value.agg (bV rb N),.slice na N nc,.pointer (cu w.heap.size),undef,.pointer (cM w.heap.size),.pointer (some (Ad hq 0)),.pointer (some (Ad nb 0)),.pointer (cM nb),Iv x.1,u9,u10,.slice na N nc,.slice (some (Ad g 0)) N N,.slice (some (Ad g 0)) N N,Iv N,Iv k,.bool true,Iv k,.pointer (some (Ad g (k*70))),.agg cs.toArray,.pointer (cM nb),.agg #[Uv s1,Uv s2],.func (.func 227) #[] (bE sb),Iv x.1,u24,u25,u26,u27,u28,u29,u30,u31,u32,u33,u34,u35,u36],defers:=[]}) ?assign ?body ?done ?stop
 case assign=>
  intro l x W K A
  gi_wp2
  exact A
 case body=>
  rintro l pre ⟨f,hf⟩ W ⟨⟨RP,RO,b0,b1,Z⟩,zJ⟩ _;have Vy:f<68:=HX.b.2 f (by rw[<-Wz.o];exact hf);have hfi:(f:Int)<68:=ah
  obtain⟨v,t⟩:=La (l:=(nX x).2) (i:=f) (by rw[show(nX x).2.length=68 from iH _ _];exact Vy);have k0:W.cell? (Ad (nb+1) (2+f))=some (Iv v):=by
   rw[(ae b1).1,de,HX.c,vU,show 2+f=f+1+1 by omega];simp[eG,t]
  obtain⟨y1,o⟩:=ae b0;obtain⟨t1,t2⟩:=ae RP.sys;obtain⟨r1,r2⟩:=ae RP.res;obtain⟨sd,hsd⟩:=Ea (jU R (Ty ns v) k);have aaF:∀m,bF (Ty ns v m):=by
   intro m;unfold Ty uu;refine Li _ _ _ fun f' hf'=>?_
   by_cases C:m<ns.length
   ·have hmm:ns.getD m q?∈ns:=by rw[List.getD,bk C];exact eL C
    have:=(HH.d _ hmm).2 f' hf';omega
   rw[List.getD,bU ah]at hf';have:f'∈c8 (0,0):=hf';rw[cA _ ⟨aj,aj⟩]at this;exact this.1
  have aaC:bF sd:=by rw[hsd];exact xE HH.b aaF k
  have HSY:Hd (∀(X:World) (q2:Nat),Below W.heap.size W X->X.heap[q2]?=some (fY v)->Cl 226 #[cK rb N,Iv k,.func (.func 243) #[] (nk hq q2)] X (Rb X (b! sd))):=by
   intro X q2 hX Y;have hF:=RP.below hX;rw[hsd];refine t? rb B N k _ R _ (Ty ns v) X (HH.a.below hF.low) HH.b J aaF (fun xs w=>Tryz.call243 xs w) fun m C X2 hX2=>?_
   exact NF hq q2 m g N ns v X2 (aE hX2 hF.held) (aE hX2 Y) (aE hX2 hF.row) HH.c hN C HH.d (HH.D.below (aq hF.low hX2))
  obtain⟨ok,u⟩:=Ea (bt sd f);have Y! : Hd (∀X,Cl 245 #[b! sd,Iv f] X (Rb X (.bool ok))):=by
   intro X;have:=VE sd f X aaC ah;rw[aaK aaC ah,<-u]at this;exact this
  have Yt:rsB R ns k f=ok:=by
   unfold rsB;rw[show ns.getD k q?=x by rw[List.getD,HX.a];rfl,show(nX x).2.getD f 0=v by rw[List.getD,t];rfl,<-hsd,u]
  have HB:=hid (Aa RP (Aa RO (Aa b0 (Aa b1 (Aa Z (Aa zJ Yt))))));have lW:=blt b1;have p:w.heap.size≠W.heap.size:=by have:=blt RP.sys;omega
  have n2:nb≠W.heap.size:=by have:=blt b0;omega
  clear RP RO b0 b1 Z Yt u hsd aaC aaF t;simp only[cK,b!]at HSY Y!
  gi_upto_region 8 with(fail)
  clear y1 o t1 t2 r1 r2 k0;generalize hV:W.alloc (.cells #[Iv v] 3)=V;have H:Hd (Below W.heap.size W V/\V.heap[W.heap.size]?=some (fY v)):=by subst hV;exact⟨aC _ _,bf _ _⟩
  clear hV;obtain⟨y1,o⟩:=ae (aE H.a HB.c);obtain⟨t1,t2⟩:=ae (aE H.a HB.a.sys)
  gi_upto_region 9 with(refine⟨trivial,?_⟩;gi_at_call 226;refine(CallsIn.inRound l (fX.2 (HSY.o _ _ H.a H.A))).mono ?_;rintro e W5 ⟨rfl,LC⟩;have Gl:=hid (aq H.a LC);clear LC y1 o t1 t2)
  generalize hV6:W5.alloc (lB sd.1 sd.2)=V6;have HV6:Hd (Below W.heap.size W V6/\V6.heap[W5.heap.size]?=some (rY sd.1 sd.2)):=by subst hV6;exact⟨aq Gl.o (aC _ _),bf _ _⟩
  clear hV6;obtain⟨y1,o⟩:=ae HV6.A;generalize W5.heap.size=q5 at HV6 y1 o⊢;cases ok;rotate_left
  ·gi_wp2_with (refine⟨trivial,?_⟩;gi_at_call 245;refine(CallsIn.inRound l (fX.2 (Y!.o _))).mono ?_;rintro e W6 ⟨rfl,wh⟩;have b:=hid (aq HV6.a wh);clear wh y1 o)
   refine⟨du b.o,b.o.mono HB.a.low.size,⟨HB.a.below b.o,HB.b.keeps (du b.o),aE b.o HB.c,aE b.o HB.d,?_⟩,bw HB.f b.o.size⟩;rw[mY,List.all_append,HB.e];simp[HB.F]
  gi_wp2_with (refine⟨trivial,?_⟩;gi_at_call 245;refine(CallsIn.inRound l (fX.2 (Y!.o _))).mono ?_;rintro e W6 ⟨rfl,wh⟩;have b:=hid (aq HV6.a wh);clear wh y1 o;obtain⟨r1,r2⟩:=ae (aE b.o HB.a.res))
  refine⟨(du b.o).trans (KeepsOthers.setCell _ _ _),⟨rfl,(HB.a.below b.o).put,(HB.b.keeps (du b.o)).keeps (KeepsOthers.setCell _ _ _),?_⟩,?_⟩;rotate_left
  ·have h1:=HB.f
   have O:=b.o.size;simp[World.setCell];omega
  refine fS (k:=k) ?_ J;unfold rsN;rw[show ns.getD k q?=x by rw[List.getD,HX.a];rfl,<-Wz.o];rw[uL];intro O;rw[bM]at O;have:=O f hf;rw[HB.F]at this;cases this
 case done=>
  rintro D ys W U hS ⟨⟨RP,RO,b0,b1,Z⟩,zJ⟩ A
  gi_wp2
  have e:((k:Int)+1)=((k+1:Nat):Int):=ah
  rw[e];have Yt:zt R ns (k+1)=true:=by
   unfold zt;rw[d!];have h1:=M.c;unfold zt at h1;rw[h1];unfold rsN;rw[show ns.getD k q?=x by rw[List.getD,HX.a];rfl,<-Wz.o,<-hS];exact Z
  refine⟨?_,?measure⟩
  ·refine⟨k+1,D :: Ds,?_⟩
   (repeat apply Exists.intro)
   refine⟨⟨J,RP,RO.cons A ah (fun C=>by have:=blt (Mc.A.at_ D C).2;omega),Yt,ah⟩,rfl⟩
  simp[intOf];omega
 rintro D c pre W U hS ⟨⟨rfl,RP,RO,hno⟩,zJ⟩ A
 gi_wp2
 rw[show zt R ns N=false from hno];exact FT (B0:=W2.heap.size) rfl (D :: Ds) W (RO.cons A ah (fun C=>by have:=blt (Mc.A.at_ D C).2;omega)) (by have:=blt HF.a.res;omega) RP.low RP.res
end
section
variable {P:Pm} {c:Ct}
def US(rank:Int)(f:Nat):bt (uu (nX q?) rank) f=false:=by
 have:c8 (nX q?).1=[]:=by
  show c8 (0,0)=[];unfold c8;rw[rI,rI];rfl
 unfold uu;rw[this];exact iW f
def YC(h:CtG P c)(rank:Int)(hr:0<=rank)(m:Nat){f:Nat}(hf:f<128):bt (Ty c.nodes rank m) f=qt c f rank m:=by
 have e:qt c f rank m=((c.at m).kZ f&&decide ((c.at m).qP f<rank)):=by
  unfold qt;rw[show decide (rank<0)=false by simp;omega,jg]
 rw[e];unfold Ty;by_cases C:m<c.nodes.length
 ·exact UZ h (jT C) rank hf
 rw[nN C,List.getD,bU ah];show bt (uu (nX q?) rank) f=_;rw[US];simp[Nd.kZ,q?]
def MB{R:RS}(h:CtG P c)(M:zb P c.problem R):zt R c.nodes P.nd.length=ur P c:=by
 rw[cR,Fc];unfold zt rsN;simp only[bM,bZ];have key:∀n f,n<P.nd.length->f<P.facts c.problem->(c.at n).kZ f=true->rsB R c.nodes n f=P.rule c.problem f n (qt c f ((c.at n).qP f)):=by
  intro n f J V T;have k:=h.s.few;have E:c.at n∈c.nodes:=jT (by rw[h.s.len];exact J);have o:0<=(c.at n).qP f:=vT h.c h.g;unfold rsB;rw[show c.nodes.getD n q?=c.at n from rfl,KG h E T,vP M (fun m g G O=>by rw[YC h _ o m O];exact Kq h.s G) J ah];simp only[V,BF,fj]
  congr 1
  funext m
  exact YC h _ o m ah
 have a:∀n f,n<P.nd.length->(f∈c8 (qM (c.nodes.getD n q?))↔f<P.facts c.problem/\(c.at n).kZ f=true):=by
  intro n f J;have E:c.at n∈c.nodes:=jT (by rw[h.s.len];exact J);rw[show c.nodes.getD n q?=c.at n from rfl,cA _ (B1 h.s _ (BE E))];have k:=h.s.few;constructor
  ·rintro⟨G,O⟩
   rw[B3 h.s E G]at O;have:=h.s.facts _ E (f:Int) (by simpa[Nd.kZ]using O);exact⟨ah,O⟩
  rintro⟨G,O⟩;exact⟨ah,by rw[B3 h.s E ah];exact O⟩
 constructor
 ·intro z f n V J N
  have T:(c.at n).kZ f=true:=by
   unfold qt at N;simp only[aS]at N;exact N.1
  rw[<-key n f J V T];exact z n J f ((a n f J).2 ⟨V,T⟩)
 intro z n J f C;obtain⟨V,T⟩:=(a n f J).1 C;rw[key n f J V T];refine z f n V J ?_;unfold qt;simp[T]
def xN:∀(l:List Int) (U:Int),cw U l=true->∀g,l.getLast?=some g->∀x∈l,x<=g
 |[],_,_,g,h,x,hx=>by cases hx
 |[a],_,_,g,h,x,hx=>by simp at h hx;omega
 | a :: b :: l,U,L,g,h,x,hx=>by
  simp only[cw,aS,bm]at L;have j:cw (a+1) (b :: l)=true:=by simp only[cw,aS,bm];exact L.2
  rw[List.getLast?_cons_cons]at h;have B:=xN (b :: l) _ j g h;rcases cQ.1 hx with rfl|hx
  ·have:=kP (b :: l) _ j b ak
   have:=B b ak;omega
  exact B x hx
def y5(h:zY c)(count:Int):c.nodes.all (JZ count)=c.nodes.all fun x=>x.facts.all fun f=>decide (f<count):=by
 rw[cR];simp only[bM,bm];constructor;rotate_left
 ·intro z x E
  unfold JZ;cases hl:x.facts.getLast? with
  |none=>rfl
  |some g=>simpa using z x E g (List.mem_of_getLast? hl)
 intro z x E f V;have G:=z x E;unfold JZ at G;cases hl:x.facts.getLast? with
 |none=>rw[List.getLast?_eq_none_iff]at hl;rw[hl]at V;cases V
 |some g=>
  rw[hl]at G;have:=xN _ _ (h.cw x E) g hl f V;simp at G;omega
end
def ZT{w:World}{B e size n g C sb t:Nat}{M:List Value}{cs:Array Value}(h:w.ownsRow B e size (ix g n C) n M)(hb:w.heap[sb]?=some (cJ cs t))(N:e≠t):g≠sb:=by
 rintro rfl;obtain⟨Y,m,G⟩:=fg h g rfl;rw[G]at hb;simp at hb;exact N hb.2.1
open Go.RowKit Go.Proofs Go.Maps Tryz
def ab2{d:Array Oper}{o:Oper}{a:Act}{w:World}{K:Act->World->Prop}{Q:Exit->Act->World->Prop}{E:Prop}(z:o.guard=none)(s x:Operand)
  (g:o.op=.call {callee:=.builtin .append,args:=#[s,x],argTypes:=#[36,36]})
  (B:Nat) (hs:a.eval s=.slice none 0 0)
  (l:Option Addr) (C:Nat) (m:List Int) (hx:a.eval x=.slice l m.length C) (p:l=none->C=0) (hm:cz w l m)
  (hlen:m.length*8<=140737488355328) (f:B<=w.heap.size)
  (h:∀n F I,I.ownsRow B 3 1 (bH n m.length F) m.length (m.map Iv)->w.grownBy I none->K (a.put o.dst (bH n m.length F)) I):
  if Region.wanted o (yielded d a.tmps)=true then Oper.wp Tryz.prog o a w K Q else E:=by
 obtain⟨L,hi,D,O,t⟩:=cY sP;cases l with
 | none=>
  have Z:=p rfl;subst Z;have i:m=[]:=by
   cases m with
   |nil=>rfl
   |cons y r=>obtain⟨b,o,e,_⟩:=hm 0 y rfl;cases e
  subst i;have M:Region.wanted o (yielded d a.tmps)=true:=by simp[Region.wanted,z]
  rw[aD M];have k:=run_append_owned_none (P:=Tryz.prog) (w:=w) B 36 o.type 3 L 1 underlying36 hi (.slice none 0 0) 0 [] (dF _ _ _ _);have q:a.eval x=.slice none 0 0:=hx;unfold Oper.wp;simp[execOp,g,resolve,invoke,builtin,hs,q,k,Result.andThen];exact h none 0 w (dF _ _ _ _) (World.grownBy.refl _ _)
 |some ad=>
  refine e9 z s x 36 g B 3 L _ 1 8 underlying36 hi D O t rfl aj (.slice none 0 0) 0 [] hs (dF _ _ _ _) ad m.length C (m.map Iv) hx ak (M? hm) (by intro u A;obtain⟨y,_,rfl⟩:=bP.1 A;rfl) (by simp only[maxLen];omega) ah f ?_;intro j v N G _;rw[ct,dT]at N;obtain⟨a2,c,rfl⟩:=bS N;have S:w.grownBy v none:=G
  try simp only[ct]
  exact h a2 c v N S
def Qp(vs:List Vl):qy vs=ie (vs.map plV):=by
 unfold qy ie;rw[List.flatMap_map];rfl
def nzC:List Value:=[.slice none 0 0,.slice none 0 0,.bool false,Iv 0,.slice none 0 0]
def sC(n:Nat):List Value:=(List.replicate n nzC).flatten
def yj(n:Nat):sC (n+1)=nzC++sC n:=by unfold sC;rw[dN,l6]
def AZ:∀n,(sC n).length=n*5
 |0=>rfl
 |n+1=>by rw[yj,bu,AZ n];simp[nzC];omega
def fL.Yk{W W':World}{B:Nat}{x:N5}(h:fL W B x)(T:∀(k:Nat) (A:Array Value) (t:TypeId),W.heap[k]?=some (cJ A t)->t=3∨t=73->W'.heap[k]?=W.heap[k]?):fL W' B x:=by
 have k:∀{e size n:Nat} {v:Value} {M:List Value},W.ownsRow B e size v n M->e=3∨e=73->W'.ownsRow B e size v n M:=by
  intro e size n v M h H;refine⟨h.1,?_⟩;rcases h.2 with a|⟨g,C,A,G,O,Y,K⟩
  ·exact aJ a
  exact aI ⟨g,C,A,G,O,(T g A e Y H).trans Y,K⟩
 exact⟨k h.f (aJ rfl),k h.r (aJ rfl),k h.v (aI rfl),h.ap⟩
def MT(na:Option Addr)(nc:Nat)(B:List Nd)(w:World)(h:cj w na B)(hn:B.length<=60)(tF:∀x∈B,x.facts.length<=100000/\x.vals.length<=1000):
  Cl 46 #[.slice na B.length nc] w fun e I=>∃R la lc,e=.returned (bH la B.length lc)/\R.map N5.n=B.map qW/\I.ownsRow w.heap.size 96 5 (bH la B.length lc) B.length (fq R)/\(∀x∈R,fL I w.heap.size x)/\GK R/\Below w.heap.size w I:=by
 obtain⟨i1,hi,D,O,mC⟩:=cY Rm;have HI:Hd (_/\_/\_/\_):=⟨hi,D,O,mC⟩;clear hi D O mC;have l:=hid (Aa h tF);clear h tF;obtain⟨N,rC⟩:=Ea B.length;rw[<-rC]at hn⊢;have HN:=hid rC;clear rC;go_enter func46,ntmps46
 go_upto_region 2 with(at_make;refine il _ rfl (.tmp 7) (.tmp 7) 46 rfl w.heap.size 96 i1 _ 5 underlying46 HI.a HI.b HI.c .i64 .i64 N N N rfl rfl rfl rfl (by rw[HI.C];omega) (by unfold maxLen;omega) (aF _) ?_;intro r n iP;have HO:=hid (Aa n iP);clear n iP)
 have pq:Hd (r.heap[w.heap.size]?=some (.cells (sC N).toArray 96 (0,0))/\Below w.heap.size w r):=by
  have h1:=HO.a;rw[jx _ 5 rfl N]at h1;refine⟨?_,(aM _ _).grown HO.A (aF _) (fun q e=>by cases e)⟩;rcases h1.2 with⟨e,_⟩|⟨g,cap,A,e,h1,h2,h3,_,h5,h6⟩
  ·simp at e
  simp at e;obtain⟨rfl,rfl⟩:=e;rw[h2];rw[cP (by simp[h5])]at h6;have h7:A.toList=sC N:=h6;rw[<-h7]
 clear HO
 go_wp2_with fail
 go_loopw[11] (fun iv wr=>∃(i:Nat) (R:List N5),i<=N/\iv=Iv i/\Hd (wr.heap[w.heap.size]?=some (.cells (fq R++sC (N-i)).toArray 96 (0,0))/\R.map N5.n=(B.take i).map qW/\(∀x∈R,fL wr (w.heap.size+1) x)/\GK R/\Below w.heap.size w wr)) (fun iv _=>N-(intOf iv).toNat)
 case atStart=>exact⟨0,[],bB _,rfl,pq.a,rfl,fun x E=>by simp at E,List.Pairwise.nil,pq.A⟩
 obtain⟨i,R,hi,rfl,M⟩:=hrel;have hww:=blt M.a;by_cases J:i<N;rotate_left
 ·have s:¬(i:Int)<N:=ah
  obtain rfl:N=i:=ah
  go_wp2_with fail
  refine aG (v:=.slice (cu w.heap.size) N N) (by simp[results,results46,go_sem]) rfl ⟨R,some (Ad w.heap.size 0),N,rfl,?_,?_,?_,M.d,M.D⟩
  ·have:=M.b
   rw[cP (by rw[HN.o];exact aF _)]at this;exact this
  ·have h1:=M.a
   have G:R.length=N:=by have:=dv List.length M.b;rw[br,br,dL,<-HN.o]at this;omega
   rw[jh]at h1;have e0:sC 0=[]:=rfl;rw[e0,gi]at h1;exact⟨by rw[jO,G],aI ⟨w.heap.size,N,_,rfl,aF _,h1,aF _,by unfold maxLen;omega,by rw[kd,jO,G],by rw[cP (by simp[jO,G])]⟩⟩
  intro y T;have h0:=M.c y T;exact⟨bJ h0.f ah,bJ h0.r ah,bJ h0.v ah,h0.ap⟩
 have s:(i:Int)<N:=ah
 obtain⟨x,E⟩:=La (l:=B) (i:=i) (by rw[<-HN.o];exact J);obtain⟨b,o,fa,ra,va,fc,rc,vc,rfl,c0,c1,c2,c3,c4,c5⟩:=l.a.below M.D i x E;have oZ:=l.A x (aL E);have HX:=hid (Aa E c5);have hfl:x.facts.length*8<=140737488355328:=ah
 have HC:Hd (∀W,Below wr.heap.size wr W->Cl 96 #[.slice va x.vals.length vc] W fun e I=>∃a c,e=.returned (bH a x.vals.length c)/\I.ownsRow W.heap.size 73 6 (bH a x.vals.length c) x.vals.length (qy x.vals)/\Bl W I):=fun W U=>zC va vc x.vals W (c5.vals.below U) oZ.2
 clear E c5 oZ
 go_upto_region 5 with fail
 clear c0 c1 c2 c3 c4;refine uA (F:=Code.wp _ _ _ _) fun V H=>?_
 have HVW:=hid H.b;have X:=hid (Aa H.a (Aa (aE H.b M.a) H.B));clear H;generalize hnb:wr.heap.size=nb at X⊢;have hne:nb≠w.heap.size:=ah
 refine wp_region_held_drew (S:=fun W'=>W'.heap[nb]?=some _) au X.a (fun aB=>?_);refine tq 0 (b? w.heap.size N) (h:=?_);refine tq 1 (Iv i) (h:=?_);refine tq 2 (nV nb) (h:=?_);refine tq 3 (bH fa x.facts.length fc) (y:=fun W' aU=>by have k1:=(ae aU).1;clear aB aU;go_simp) (h:=?_);refine tq 5 (.pointer (some (Ad nb 2))) (h:=?_);refine tq 6 (.bool x.reached) (y:=fun W' aU=>by have k1:=(ae aU).1;clear aB aU;go_simp) (h:=?_);refine tq 7 (.pointer (some (Ad nb 4))) (h:=?_);refine tq 8 (bH va x.vals.length vc) (y:=fun W' aU=>by have k1:=(ae aU).1;clear aB aU;go_simp) (h:=?_);refine r1 4 (h:=fun K hK=>?_);refine ab2 rfl (.const (.slice none 0 0)) (.tmp 19) rfl V.heap.size (by simp[Act.eval]) fa fc x.facts (by simp[Act.eval,Act.put]) HX.A.adP ((HX.A.facts.below HVW.o).below ((aM _ _).drew)) hfl (aF _) ?_;intro F FZ Y1 f DJ;have H1:Hd (Y1.ownsRow V.heap.size 3 1 (bH F x.facts.length FZ) x.facts.length (x.facts.map Iv)/\Bl V Y1):=⟨f,(aM _ _).drew.grown DJ (aF _) (fun q e=>by cases e)⟩;clear f DJ;refine hK.out _ _ (aE H1.A X.a) (fun aB=>?_);clear hK K;refine pt ?_;refine r1 9 (h:=fun K hK=>?_)
 go_simp
 refine(HC.o _ (aq HVW.o H1.A)).mono ?_;rintro e Y ⟨Gn,Gm,rfl,ho2,uz⟩;have C:Hd (Y.ownsRow V.heap.size 3 1 (bH F x.facts.length FZ) x.facts.length (x.facts.map Iv)/\Y.ownsRow V.heap.size 73 6 (bH Gn x.vals.length Gm) x.vals.length (qy x.vals)/\Bl V Y):=⟨bp H1.a uz,bJ ho2 H1.A.size,aq H1.A uz⟩;clear ho2 uz H1;refine hK.out _ _ (aE C.B X.a) (fun aB=>?_);clear hK K;refine pt ?_;refine tq 10 (.agg #[.slice F x.facts.length FZ,.slice none 0 0,.bool x.reached,Iv 0,.slice Gn x.vals.length Gm]) (h:=?_);refine tq 11 (Ai w.heap.size i) (h:=?_);refine r1 12 (h:=fun K hK=>?_);rw[aD au];have L:=aE C.B X.b
 have ht:Y.there w.heap.size (i*5) 5:=fun j hj=>by
  refine⟨?_,(ae L).2 _⟩;rw[(ae L).1,qH (by have:=dv List.length M.b;rw[br,br,dL,<-HN.o]at this;rw[kd,bu,jO,AZ];omega)];rfl
 refine wp_store_mid 96 (.tmp 27) (.tmp 26) rfl w.heap.size (i*5) #[.slice F x.facts.length FZ,.slice none 0 0,.bool x.reached,Iv 0,.slice Gn x.vals.length Gm] rfl rfl ht au (by simp[Value.oneCell']) ?_;refine hK.out _ _ (scb (aE C.B X.a) hne) (fun aB=>?_);clear hK K;refine pt ?_;refine wpAnyH_done au ?_ _;have GI:Hd ((Y.setCells w.heap.size (i*5) [.slice F x.facts.length FZ,.slice none 0 0,.bool x.reached,Iv 0,.slice Gn x.vals.length Gm]).heap[w.heap.size]?=some (.cells (fq (R++[(⟨F,FZ,none,0,Gn,Gm,qW x⟩:N5)])++sC (N-(i+1))).toArray 96 (0,0))/\(R++[(⟨F,FZ,none,0,Gn,Gm,qW x⟩:N5)]).map N5.n=(B.take (i+1)).map qW/\(∀y∈R++[(⟨F,FZ,none,0,Gn,Gm,qW x⟩:N5)],fL (Y.setCells w.heap.size (i*5) [.slice F x.facts.length FZ,.slice none 0 0,.bool x.reached,Iv 0,.slice Gn x.vals.length Gm]) (w.heap.size+1) y)/\GK (R++[(⟨F,FZ,none,0,Gn,Gm,qW x⟩:N5)])/\Below w.heap.size w (Y.setCells w.heap.size (i*5) [.slice F x.facts.length FZ,.slice none 0 0,.bool x.reached,Iv 0,.slice Gn x.vals.length Gm])):=by
  have G:R.length=i:=by have:=dv List.length M.b;rw[br,br,dL,<-HN.o]at this;omega
  obtain⟨m,hm⟩:∃m,N-i=m+1:=⟨N-i-1,ah⟩;have hm2:N-(i+1)=m:=ah
  have hbY:Below wr.heap.size wr Y:=aq HVW.o C.B;have Tv:fL Y V.heap.size (⟨F,FZ,none,0,Gn,Gm,qW x⟩:N5):=⟨C.a,dF _ _ _ _,by have:=C.b;rw[Qp]at this;simpa[N5.vv,qW]using this,Classical.em _⟩;have Rt:∀(k:Nat) (A:Array Value) (t:TypeId),Y.heap[k]?=some (cJ A t)->t=3∨t=73->(Y.setCells w.heap.size (i*5) [.slice F x.facts.length FZ,.slice none 0 0,.bool x.reached,Iv 0,.slice Gn x.vals.length Gm]).heap[k]?=Y.heap[k]?:=by
   intro k A t hk ht2;refine dc _ _ _ _ _ ?_;rintro rfl;rw[L]at hk;simp at hk;rcases ht2 with e|e<;>rw[e]at hk<;>exact absurd hk.2 aj
  refine⟨?_,?_,?_,?_,aY _ (aF _) _ _ _ (M.D.trans (hbY.mono (qJ hww)))⟩
  ·rw[hm2]
   rw[hm,yj,<-dj]at L;have z:fq (R++[(⟨F,FZ,none,0,Gn,Gm,qW x⟩:N5)])=fq R++[.slice F x.facts.length FZ,.slice none 0 0,.bool x.reached,Iv 0,.slice Gn x.vals.length Gm]:=by
    simp[fq,gR,qW]
   rw[z];exact B5 _ _ _ _ _ _ Y (i*5) (by rw[jO,G]) L rfl
  ·rw[iq,M.b,dS (bn.1 HX.a).1,(bn.1 HX.a).2,iq]
   rfl
  ·intro y T
   rcases jH.1 T with T|T
   ·refine fL.Yk ?_ Rt
    have h0:=M.c y T;exact⟨bp h0.f hbY,bp h0.r hbY,bp h0.v hbY,h0.ap⟩
   rw[ja.1 T];refine fL.Yk ?_ Rt;exact⟨bJ Tv.f (by have:=X.B;omega),bJ Tv.r (by have:=X.B;omega),bJ Tv.v (by have:=X.B;omega),Tv.ap⟩
  unfold GK;rw[List.pairwise_append];refine⟨M.d,List.pairwise_singleton _ _,?_⟩;intro p hp q hq u hu v hv;rw[ja.1 hq]at hv;have h1:=(M.c p hp).blks u hu;have h2:=Tv.blks v hv;have:=X.B;omega
 clear aB ht L;generalize Y.setCells w.heap.size (i*5) [.slice F x.facts.length FZ,.slice none 0 0,.bool x.reached,Iv 0,.slice Gn x.vals.length Gm]=Z at GI⊢
 go_wp2_with fail
 go_roundw
 case rel=>exact⟨i+1,_,J,h',GI.o⟩
 simp[intOf];omega
end Go.Proofs.YtmipbiligijcpaaGreatDoor
