import Derived.Test.YtmipbiligijcpaaGreatDoorA07
namespace Go.Proofs.YtmipbiligijcpaaGreatDoor
set_option linter.all false
set_option maxHeartbeats 20000000
set_option maxRecDepth 100000
section
variable {B d c q rb m k g C:Nat} {v ev:Value} {w w' W X:World} {cs:Array Value} {t:TypeId} {S:List NC} {es:List Int} {P:Pm}
open Go.RowKit Go.Proofs Go.Maps Tryz
structure TF(B tR tE:Nat)(w w':World):Prop where
  low:Below B w w'
  keep:∀(q:Nat) (cs:Array Value) (t:TypeId) (f:Nat×Nat),w.heap[q]?=some (.cells cs t f)->t≠tR->t≠tE->w'.heap[q]?=w.heap[q]?
def TF.refl(B d c:Nat)(w:World):TF B d c w w:=⟨aM _ _,fun _ _ _ _ _ _ _=>rfl⟩
def TF.trans{u v:World}(h:TF B d c u v)(k:TF B d c v w):TF B d c u w:=
 ⟨h.low.trans k.low,fun q cs t f e G O=>by
  have Q:=h.keep q cs t f e G O
  exact(k.keep q cs t f (Q.trans e) G O).trans Q⟩
def TF.aR(h:Below w.heap.size w w')(a:B<=w.heap.size):TF B d c w w':=
 ⟨h.mono a,fun q cs t f e _ _=>h.block q (bq.1 e).1⟩
def TF.box(h:TF B d c w w'){f:Nat×Nat}(e:w.heap[q]?=some (.cells cs t f))(h1:t≠d)(h2:t≠c):w'.heap[q]?=some (.cells cs t f):=(h.keep q cs t f e h1 h2).trans e
def Sys.frame{S:World}{rl:List RR}{r:RR}(h:Sys W B rb m d c rl)(hk:rl[k]?=some r)(hb:Below W.heap.size W X)(a:B<=W.heap.size)
  (x:X.grownBy S r.ev.ownBlock) (o:Nat):TF B d c W (S.setCell (Ad rb o) v):=by
 have T:=h.below hb;have u:=T.row r (aL hk);refine⟨?_,?_⟩
 ·exact((hb.mono a).grown x (bw a hb.size) (fun q e=>(u.lt q e).1)).setCell h.low _
 intro q cs t f e G O;have b:=(bq.1 e).1;have Q:X.heap[q]?=some (.cells cs t f):=(hb.block q b).trans e;have p:q≠rb:=by
  rintro rfl;rw[h.fB]at e;simp at e;exact G e.2.1.symm
 rw[aZ _ _ _ _ p,e];refine(x.block q (bq.1 Q).1 ?_).trans Q;intro z;rcases u.2 with⟨I,_⟩|⟨g,C,A,I,_,Y,_⟩
 ·rw[I]at z;simp[Value.ownBlock]at z
 rw[I]at z;have:q=g:=by simpa[Value.ownBlock]using z
 subst this;rw[Y]at Q;simp at Q;exact O Q.2.1.symm
def Sys.SI{S:World}{rl:List RR}{j:Nat}{r:RR}(h:Sys W B rb m d c rl)(N:c≠d)(hk:rl[k]?=some r)(hb:Bl W X)(x:X.grownBy S r.ev.ownBlock)(hj:(oh r)[j]?=some v):S.cell? (Ad rb (k*(m+1)+j))=some v/\S.frozen? (Ad rb (k*(m+1)+j))=false:=by
 have T:=h.below hb;have P:some rb≠r.ev.ownBlock:=fun e=>lI (T.row r (aL hk)) T.fB N e.symm
 have p:d' S rb (gX rl).toArray d:=(x.block rb (bq.1 T.fB).1 P).trans T.fB;obtain⟨F,y⟩:=ae p;refine⟨?_,y _⟩;have hl:=h.len r (aL hk);have J:j<m+1:=by
  have:=(bn.1 hj).1;simp[oh]at this;omega
 rw[F,de,xG rl k r j h.len hk J,hj]
structure PM(w:World)(g cap:Nat)(nl:List NC)(P:Pm):Prop where
  row:fT w g cap nl
  len:nl.length=P.nd.length
  nd:∀(j:Nat) (c:NC) (n:SN),nl[j]?=some c->P.nd[j]?=some n->c.n=n
  U6:P.nx.length=P.nd.length
  nx:∀(j:Nat) (c:NC) (l:List Nat),nl[j]?=some c->P.nx[j]?=some l->Er w c.ev (l.map Int.ofNat)
def Er.tf(h:Er w ev es)(T:∀(q:Nat) (cs:Array Value) (t:TypeId) (f:Nat×Nat),w.heap[q]?=some (.cells cs t f)->t=3->w'.heap[q]?=w.heap[q]?):Er w' ev es:=by
 rcases h with a|⟨b,e,D⟩
 ·exact aJ a
 exact aI ⟨b,e,(T _ _ _ _ D rfl).trans D⟩
def PM.keep(h:PM w g C S P)(T:∀(q:Nat) (cs:Array Value) (t:TypeId) (f:Nat×Nat),w.heap[q]?=some (.cells cs t f)->t=3∨t=152->w'.heap[q]?=w.heap[q]?):PM w' g C S P:=by
 refine⟨?_,h.len,h.nd,h.U6,fun j c l a b=>(h.nx j c l a b).tf fun q cs t f e N=>T q cs t f e (aJ N)⟩;obtain⟨A,D,L⟩:=h.row;exact⟨A,(T _ _ _ _ D (aI rfl)).trans D,L⟩
def PM.below(h:PM w g C S P)(hb:Bl w w'):PM w' g C S P:=
 h.keep fun q cs t f e _=>hb.block q (bq.1 e).1
def PM.tf(h:PM w g C S P)(hf:TF B d c w w')(h1:d≠3)(h2:c≠3)(h3:d≠152)(K:c≠152):PM w' g C S P:=
 h.keep fun q cs t f e N=>hf.keep q cs t f e (by rcases N with rfl|rfl;(· exact qn h1);exact qn h3) (by rcases N with rfl|rfl;(· exact qn h2);exact qn K)
structure cE(P:Pm):Prop where
  nv:P.nv<=8
  pos:0<P.nd.length
  most:P.nd.length<=60
  nx:∀l∈P.nx,l.length<=2/\∀t∈l,t<P.nd.length
  kind:∀n∈P.nd,0<=n.kind/\n.kind<=6
  var:∀n∈P.nd,n.kind<=2->0<=n.var/\n.var<P.nv
  a:∀n∈P.nd,0<fm n->n.a.isVar=true->0<=n.a.var/\n.a.var<P.nv
  b:∀n∈P.nd,1<fm n->n.b.isVar=true->0<=n.b.var/\n.b.var<P.nv
def PM.nodes(h:PM w g C S P)(hk:k<P.nd.length):∃c l,S[k]?=some c/\P.nd[k]?=some c.n/\P.at k=c.n/\P.nx[k]?=some l/\P.qY k=l/\Er w c.ev (l.map Int.ofNat):=by
 have G:=h.len;have O:=h.U6;have Q:S[k]?=some S[k]:=bk ah;have z:P.nd[k]?=some P.nd[k]:=bk hk;have I:P.nx[k]?=some P.nx[k]:=bk ah;have N:=h.nd k _ _ Q z;refine⟨_,_,Q,by rw[N];exact z,?_,I,?_,h.nx k _ _ Q I⟩
 ·unfold Pm.at;rw[List.getD,z];exact N.symm
 unfold Pm.qY;rw[List.getD,I];rfl
def Er.ints(h:Er w ev es):∃a,ev=.slice a es.length es.length/\cz w a es:=by
 rcases h with⟨rfl,rfl⟩|⟨b,rfl,D⟩
 ·exact⟨none,rfl,fun j x U=>by simp at U⟩
 refine⟨some (Ad b 0),rfl,fun j x U=>⟨b,0,rfl,?_⟩⟩;obtain⟨F,_⟩:=ae D;rw[F];simp[U]
def Sys.keep{W':World}{rl:List RR}(h:Sys W B rb m d c rl)(hq:W.heap[q]?=some (cJ cs t))(N:t≠d/\t≠c)(T:∀k,k≠q->W'.heap[k]?=W.heap[k]?):Sys W' B rb m d c rl:=by
 have nq:rb≠q:=by
  rintro rfl;rw[h.fB]at hq;simp at hq;exact N.1 hq.2.symm
 refine⟨(T _ nq).trans h.fB,h.low,h.len,fun r L=>?_,h.vH⟩;have o:=h.row r L;refine⟨o.1,?_⟩;rcases o.2 with a|⟨g,C,A,G,O,Y,K⟩
 ·exact aJ a
 refine aI ⟨g,C,A,G,O,(T _ ?_).trans Y,K⟩;rintro rfl;rw[Y]at hq;simp at hq;exact N.2 hq.2.symm
abbrev RA:=List Value×List (Nat×Value)
def RR.pr(r:RR):RA:=(r.st,r.es)
def vM(l:List RA)(to_:Nat)(e:Nat×Value):List RA:=l.modify to_ fun r=>(r.1,r.2++[e])
def Gj{rl:List RR}{r:RR}{e:Nat×Value}{z:Option Addr}{f:Nat}(hk:rl[k]?=some r):(rl.set k ⟨r.st,z,f,r.es++[e]⟩).map RR.pr=vM (rl.map RR.pr) k e:=by
 refine dW fun j=>?_
 rw[bG,eQ,vM,GR,bG];by_cases s:k=j
 ·subst s
  rw[aD rfl,aD (bn.1 hk).1,hk];simp[RR.pr]
 rw[aA s];cases rl[j]?<;>simp[s]
abbrev eV(g n cap nv:Nat):Value:=.agg (cN g n cap nv)
def Rk:(Tryz.prog.info? 393).map (fun i=>(i.zero,i.size,i.bytes))=some (some (.agg #[Uv 0,Uv 0,.slice none 0 0]),3,40):=au
def Fw:(Tryz.prog.info? 404).map (fun i=>(i.zero,i.size,i.bytes))=some (some (.agg #[Iv 0,.nilFunc]),2,16):=au
def jx(z:Array Value)(m:Nat)(hm:z.size=m):∀n,(madeCells z (n*m)).toList=(List.replicate n z.toList).flatten
 |0=>by simp[madeCells]
 |n+1=>by
  have B:=jx z m hm n;simp only[madeCells,BD,BA]at B⊢;rw[rS,Nat.one_mul,wM,iq,B,List.replicate_succ',List.flatten_append]
  congr 1
  rw[kJ];simp only[l6,List.flatten_nil,gi];refine tP (by simp[hm]) fun i G O=>?_
  simp only[br,tS]at G;simp only[tO,G7,Function.comp,hm];rw[By n m,Nat.mul_add_mod,tL G];rw[getElem!_pos z i ah];simp
def VK(n:Nat)(st:List Value):(List.replicate n (st++[Value.slice none 0 0])).flatten=gX (List.replicate n ⟨st,none,0,[]⟩):=by
 induction n with
 |zero=>rfl
 |succ n B=>rw[dN,l6,B,dN];rfl
def Sys.made{n:Nat}{st:List Value}(c:Nat)(h:W.ownsRow B d (m+1) (b? rb n) n (List.replicate n (st++[Value.slice none 0 0])).flatten)(t:st.length=m):
  Sys W B rb m d c (List.replicate n ⟨st,none,0,[]⟩):=by
 rcases h.2 with⟨e,_⟩|⟨g,C,A,e,G,O,Y,_,H,E⟩
 ·simp at e
 simp at e;obtain⟨rfl,rfl⟩:=e;refine⟨?_,G,?_,?_,?_⟩
 ·rw[O]
  congr 2
  rw[cP (by simp[H])]at E;rw[<-VK,<-E]
 ·intro r L;rw[ji L];exact t
 ·intro r L;rw[ji L];exact dF _ _ _ _
 intro i j a b hi U _;rw[ji (aL hi)];exact aJ rfl
def lK(g n C nv:Nat)(w:World)(hn:n<=60):
  Cl 280 #[eV g n C nv] w fun e I=>∃B rl,e=.returned (cK B n)/\Sys I w.heap.size B 2 393 404 rl/\rl.map RR.pr=List.replicate n ([Uv 0,Uv 0],[])/\Bl w I:=by
 obtain⟨V,hi,D,O,K⟩:=cY Rk;have b:Hd (_/\_/\_/\_):=⟨hi,D,O,K⟩;clear hi D O K;go_enter func280,ntmps280
 go_wp2_with (at_make;refine il _ rfl (.tmp 5) (.tmp 5) 256 rfl w.heap.size 393 V _ 3 underlying256 b.a b.b b.c .i64 .i64 n n n rfl rfl rfl rfl (by rw[b.C];omega) (by unfold maxLen;omega) (by simp;try omega) ?_;intro T c Y;obtain⟨F,y⟩:=ae ((Y.block (w.heap.size+1) ak ak).trans (aN w _ _).2);have j:=(show Hd _ from Aa c Y);clear c Y)
 have N:=(j.A.block (w.heap.size+1) ak ak).trans (aN w _ _).2;have A:=(ae (aw (o:=0) N (.slice (eD w.heap.size) n n))).1;have l:=(ae (aw (o:=1) (aw (o:=0) N (.slice (eD w.heap.size) n n)) iz)).1;have t:=(ae (aw (o:=2) (aw (o:=1) (aw (o:=0) N (.slice (eD w.heap.size) n n)) iz) mI)).1;have a:Sys T w.heap.size (w.heap.size+1+1) 2 393 404 (List.replicate n ⟨[Uv 0,Uv 0],none,0,[]⟩):=by
  have G:=j.a;rw[jx _ 3 (by simp[Value.cells]) n]at G;have e:((w.alloc (.cells (cN g n C nv) 86)).alloc (.cells ic 260)).heap.size=w.heap.size+1+1:=ak
  rw[e]at G;exact Sys.made _ G rfl
 refine aG (v:=cK (w.heap.size+1+1) n) (by simp[results,results280,go_sem,A,l,t]) rfl ⟨w.heap.size+1+1,_,rfl,a.keep N ⟨aj,aj⟩ (fun k X=>by rw[aZ _ _ _ _ X,aZ _ _ _ _ X,aZ _ _ _ _ X]),by simp[RR.pr],?_⟩;have r:Bl w T:=(aX w _ _).grown j.A (by simp;omega) (fun q e=>by cases e);exact((r.setCell (by show _<=w.heap.size+1;omega) _).setCell (by show _<=w.heap.size+1;omega) _).setCell (by show _<=w.heap.size+1;omega) _
def Sys.Wh{S:World}{rl:List RR}{r:RR}(h:Sys W B rb m d c rl)(hk:rl[k]?=some r)(hb:Bl W X)(x:X.grownBy S r.ev.ownBlock)(hq:W.heap[q]?=some (cJ cs t))(N:c≠t):S.heap[q]?=some (cJ cs t):=by
 have T:=h.below hb;have Q:X.heap[q]?=some (cJ cs t):=(hb.block q (bq.1 hq).1).trans hq;exact(x.block q (bq.1 Q).1 (fun e=>lI (T.row r (aL hk)) Q N e.symm)).trans Q
def dY{o:Nat}(h:w'.heap[k]?=w.heap[k]?):w'.cell? (Ad k o)=w.cell? (Ad k o):=by simp[World.cell?,h]
theorem vg(g C nv rb B k:Nat)(S:List NC)(P:Pm)(rl:List RR)(e:Ef)(w:World)(hP:PM w g C S P)(hO:cE P)(hk:k<P.nd.length)(hS:Sys w B rb 2 393 404 rl)(hl:rl.length=P.nd.length)(hB:B<=w.heap.size)(TB:∀r∈rl,r.es.length<=200):
  Cl 283 #[cK rb P.nd.length,eV g P.nd.length C nv,Iv k,Dc e] w fun r I=>(∃v,r=.returned v)/\∃f,Sys I B rb 2 393 404 f/\f.map RR.pr=(P.qY k).foldl (fun l t=>vM l t (k,u? e)) (rl.map RR.pr)/\TF B 393 404 w I:=by
 obtain⟨i0,hi,lu,O,K⟩:=cY Fw;have b:Hd (_/\_/\_/\_):=⟨hi,lu,O,K⟩;clear hi lu O K;obtain⟨c,D,Z,x,hca,YI,hcy,hcE⟩:=hP.nodes hk;have Y:=hO.nx D (aL YI);obtain⟨ta,Lw,htI⟩:=hcE.ints;rw[br]at Lw;have hce:w.cell? (Ad g (k*14+12))=some (.slice ta D.length D.length):=by rw[hP.row.cells k c Z 12 ah,<-Lw];rfl
 rw[hcy];have hN:=hO.most;have HH:=(show Hd _ from Aa hP (Aa hO (Aa hS (Aa TB (Aa Y (Aa Z (Aa YI Lw)))))));obtain⟨N,Q⟩:=Ea P.nd.length;rw[<-Q]at hl hk hN⊢;have m:=(show Hd _ from Q);clear hP hO hS TB htI hcE Z x hca YI hcy Lw Q;go_enter func283,ntmps283;simp only[cK,eV,Dc]
 go_upto_region 1 with(fail)
 generalize hW0:((w.alloc (.cells (bV rb N) 260)).alloc (.cells (cN g N C nv) 86)).alloc (.cells #[Uv e.drop.1,Uv e.drop.2,Uv e.add.1,Uv e.add.2] 397)=H;have R:Hd (Below w.heap.size w H/\H.heap[w.heap.size]?=some (.cells (bV rb N) 260 (0,0))/\H.heap[w.heap.size+1]?=some (.cells (cN g N C nv) 86 (0,0))/\H.heap[w.heap.size+1+1]?=some (.cells #[Uv e.drop.1,Uv e.drop.2,Uv e.add.1,Uv e.add.2] 397 (0,0))):=by
  subst hW0;refine⟨cq _ _ _ _,?_,?_,?_⟩
  ·rw[ch _ _ _ (by simp;omega)];exact(aN w _ _).1
  ·rw[ch _ _ _ ak];exact(aN w _ _).2
  have:=bf ((w.alloc (.cells (bV rb N) 260)).alloc (.cells (cN g N C nv) 86)) (.cells #[Uv e.drop.1,Uv e.drop.2,Uv e.add.1,Uv e.add.2] 397)
  simpa using this
 clear hW0;have aaI:=ax hce R.o.1;obtain⟨x1,y⟩:=ae R.o.2.2.1;have z:(k:Int)<(N:Int):=by omega
 go_wp2_with fail
 clear x1 y hce aaI;generalize Value.agg (bV rb N)=sv0;generalize Value.agg (cN g N C nv)=sv1
 go_loopw[17] (fun i wr=>∃(j:Nat) (ql:List RR),j<=D.length/\i=Iv j/\Hd (Sys wr B rb 2 393 404 ql/\ql.map RR.pr=(D.take j).foldl (fun l t=>vM l t (k,u? e)) (rl.map RR.pr)/\TF B 393 404 H wr/\ql.length=N/\∀r∈ql,r.es.length<=200+j)) (fun i _=>D.length-(intOf i).toNat)
 case atStart=>exact⟨0,rl,bB _,rfl,HH.o.2.2.1.below R.o.1,rfl,TF.refl _ _ _ _,hl,HH.o.2.2.2.1⟩
 obtain⟨j,ql,U,rfl,M⟩:=hrel;by_cases J:j<D.length;rotate_left
 ·have s:¬(j:Int)<(D.length:Int):=by omega
  have Lz:D.take j=D:=cP ah
  go_wp2_with fail
  go_end0
  refine⟨⟨_,rfl⟩,ql,M.o.1,?_,(TF.aR R.o.1 hB).trans M.o.2.2.1⟩;rw[M.o.2.1,Lz]
 have s:(j:Int)<(D.length:Int):=by omega
 obtain⟨t,E⟩:=La J;have htN:t<N:=by rw[m.o];exact HH.o.2.2.2.2.1.2 t (aL E)
 have YN:=(HH.o.1.below R.o.1).tf M.o.2.2.1 aj aj aj aj;obtain⟨ta',a,FF⟩:=(YN.nx k c D HH.o.2.2.2.2.2.1 HH.o.2.2.2.2.2.2.1).ints;rw[br,HH.o.2.2.2.2.2.2.2]at a;obtain rfl:ta=ta':=by simpa using a
 obtain⟨b1,o1,rfl,c0⟩:=FF j (t:Int) (by rw[bG,E];rfl);obtain⟨r,L⟩:=La (l:=ql) (i:=t) (by rw[M.o.2.2.2.1];exact htN);have T:=M.o.1.cell (j:=2) L (v:=r.ev) (by have:=M.o.1.len r (aL L);simp[oh,this]);simp only[Nat.reduceAdd,RR.ev]at T;obtain⟨x1,y⟩:=ae (M.o.2.2.1.box R.o.2.1 aj aj);obtain⟨y1,y2⟩:=ae (M.o.2.2.1.box R.o.2.2.2 aj aj);have l0:=(bq.1 (M.o.2.2.1.box R.o.2.2.2 aj aj)).1;have lrb:=(bq.1 M.o.1.fB).1;have p:w.heap.size≠wr.heap.size:=by omega
 have V:w.heap.size+1+1≠wr.heap.size:=by omega
 have n3:rb≠wr.heap.size:=by omega
 have n4:=p.symm;have n5:=V.symm;have n6:=n3.symm;have ha1:∀(o:Obj) (i:Nat),(wr.alloc o).cell? (Ad w.heap.size i)=((bV rb N):Array Value)[i]?:=fun o i=>(dY (ch wr o _ ah)).trans (x1 i)
 have ha2:∀(o:Obj) (i:Nat),(wr.alloc o).cell? (Ad (w.heap.size+1+1) i)=(#[Uv e.drop.1,Uv e.drop.2,Uv e.add.1,Uv e.add.2]:Array Value)[i]?:=fun o i=>(dY (ch wr o _ ah)).trans (y1 i)
 have ha3:∀(o:Obj),(wr.alloc o).cell? (Ad rb (t*3+2))=some (bH r.ea r.es.length r.ec):=fun o=>(dY (ch wr o _ lrb)).trans T.1
 have lw:=(bq.1 HH.o.2.2.1.fB).1;have n7:rb≠w.heap.size:=by omega
 have n8:rb≠w.heap.size+1+1:=by omega
 have n9:=n7.symm;have n10:=n8.symm;have adx:(t:Int)<(N:Int):=by omega
 have Tw:=M.o.2.2.2.2 r (aL L);have X:=(show Hd _ from Aa L (Aa (M.o.1.row r (aL L)) E));have adw:=HH.o.2.2.2.2.1.1;clear L YN FF a E
 go_wp2_with fail
 go_region_law (refine e9 rfl (.tmp 29) (.tmp 34) 391 rfl B 404 i0 (.agg #[Iv 0,.nilFunc]) 2 16 underlying391 b.o.1 b.o.2.1 b.o.2.2.1 b.o.2.2.2 rfl aj (bH r.ea r.es.length r.ec) r.es.length (ia r.es) (by simp[Act.eval,Act.put]) (by exact bp X.o.2.1 ay) (Ad wr.heap.size 0) 1 1 [Iv k,u? e] (by simp[Act.eval,Act.put]) rfl (by exact E7 (bf wr _)) (by intro u hu;simp at hu;rcases hu with rfl|rfl<;>rfl) (by unfold maxLen;omega) ah (by have:=M.o.1.low;simp;omega) ?_;intro v4 W4 d G h;obtain⟨a4,c4,rfl⟩:=bS d;obtain⟨z1,z2⟩:=M.o.1.SI (j:=2) aj X.o.1 ay G (v:=r.ev) (by have:=M.o.1.len r (aL X.o.1);simp[oh,this]);simp only[Nat.reduceAdd,RR.ev]at z1 z2;obtain⟨n,v2⟩:=ae (M.o.1.Wh X.o.1 ay G (M.o.2.2.1.box R.o.2.1 aj aj) aj);obtain⟨u1,u2⟩:=ae (M.o.1.Wh X.o.1 ay G (M.o.2.2.1.box R.o.2.2.2 aj aj) aj))
 all_goals
  have F:=M.o.1.grow (e:=(k,u? e)) aj X.o.1 ay G d h;have iX:=M.o.1.frame (v:=.slice a4 (r.es.length+1) c4) X.o.1 ay (by have:=M.o.1.low;omega) G (t*3+2);have W:=(show Hd _ from Aa F iX);clear F iX d G h
  go_wp2_with fail
  go_roundw
  case rel=>
   refine⟨j+1,_,by omega,by go_num,W.o.1,?_,M.o.2.2.1.trans W.o.2,by rw[ke];exact M.o.2.2.2.1,?_⟩
   ·rw[Gj X.o.1,M.o.2.1,dS J,wW,(bn.1 X.o.2.2).2]
    rfl
   intro q A;rcases gN A with A|rfl
   ·have:=M.o.2.2.2.2 q A;omega
   simp;omega
  simp[intOf];omega
end
end Go.Proofs.YtmipbiligijcpaaGreatDoor
