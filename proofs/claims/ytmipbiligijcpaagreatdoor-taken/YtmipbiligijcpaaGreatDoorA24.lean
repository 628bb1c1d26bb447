import Derived.Test.YtmipbiligijcpaaGreatDoorA23
namespace Go.Proofs.YtmipbiligijcpaaGreatDoor
set_option linter.all false
set_option maxHeartbeats 4000000
set_option maxRecDepth 100000
open Go.RowKit Go.Shelf Go.Proofs Go.Maps
section
open Go.RowKit Go.Shelf Go.Proofs Go.Maps Tryz
attribute [local go_sem] Oper.semAt_some
def rgW(v:VV):Vl:=⟨3,v.lo,v.hi,false,0,0⟩
def Tq(e:PE)(n:Nat):List Vl:=(List.range n).map fun i=>rgW (e.at i)
def Zy(e:PE){n i:Nat}(h:i<n):(Tq e n)[i]?=some (rgW (e.at i)):=by simp[Tq,h]
def vV(e:PE)(n:Nat):(Tq e n).length=n:=by simp[Tq]
def j0(e:PE)(n:Nat):List Vl:=if e.r then Tq e n else[]
abbrev ndO(r:Bool)(v:Value):Obj:=.cells #[.slice none 0 0,.slice none 0 0,.bool r,Iv 0,v] 96 (0,0)
def nd5(r:Bool)(a:Option Addr)(j c:Nat):(#[Value.slice none 0 0,.slice none 0 0,.bool r,Iv 0,.slice a j c]).all (·.oneCell')=true:=all_oneCell_toArray (cs:=[Value.slice none 0 0,.slice none 0 0,.bool r,Iv 0,.slice a j c]) (by
 intro u E;simp only[cQ,gM,ga]at E
 rcases E with rfl|rfl|rfl|rfl|rfl<;>rfl)
def xU(e:PE)(n:Nat)(w:World)(hn:n<=8):
  Cl 149 #[.agg (KB.aH e).toArray,Iv n] w fun r I=>∃a c,r=.returned (.agg #[.slice none 0 0,.slice none 0 0,.bool e.r,Iv 0,.slice a (j0 e n).length c])/\I.ownsRow w.heap.size 73 6 (.slice a (j0 e n).length c) (j0 e n).length (dR (j0 e n))/\Below w.heap.size w I:=by
 obtain⟨i0,hi,D,O,K⟩:=cY yH;have b:Hd (_/\_/\_/\_):=⟨hi,D,O,K⟩;clear hi D O K;have hni:(n:Int)<=8:=ah
 go_enter func149,ntmps149
 go_upto_region 1 with fail
 refine gnB (F:=Code.wp _ _ _ _) fun V H=>?_
 have P:V.cell? (Ad w.heap.size 0)=some (.bool e.r):=by rw[(ae H.b).1];rfl
 have v:=hid H.C;cases L:e.r with
 |false=>
  rw[L]at P;have N:=bO (n:=5) H.c rfl
  go_wp2_with (refine wpList_store_mid rfl 96 (.tmp 4) (.tmp 11) rfl (w.heap.size+1) 0 lf rfl rfl N au (nd5 _ _ _ _) ?_)
  have hq:=bX (cs:=[.slice none 0 0,.slice none 0 0,.bool false,Iv 0,.slice none 0 0]) H.c (vs:=[.slice none 0 0,.slice none 0 0,.bool false,Iv 0,.slice none 0 0]) rfl;have hL:=run_loadVar_mid (P:=Tryz.prog) (V.setCells (w.heap.size+1) 0 [.slice none 0 0,.slice none 0 0,.bool false,Iv 0,.slice none 0 0]) (w.heap.size+1) 0 96 _ _ (aT hq) underlying96 rfl au;refine aG (v:=.agg lf) (by simp[results,results149,hL,Act.put,asAddr]) rfl ⟨none,0,by simp[j0,L],by simp[j0,L];exact dF _ _ _ _,aY _ ah _ _ _ H.a⟩
 | true=>
  rw[L]at P;have HVs:Hd (j0 e n=Tq e n):=by unfold j0;rw[L];rfl
  go_upto_region 4 with fail
  refine qA (F:=Code.wp _ _ _ _) fun W E=>?_
  have R:=v.o;have O:=E.B;have m:=E.b;rw[R]at m O⊢;clear P;have HZ1:=hid O;clear O R
  go_wp2_with fail
  go_loopw[17] (fun p wr=>∃(j:Nat) (a:Option Addr) (c:Nat),j<=n/\p=Iv j/\Hd (wr.heap[w.heap.size+1+1]?=some (ndO true (.slice a j c))/\wr.ownsRow W.heap.size 73 6 (.slice a j c) j (dR ((Tq e n).take j))/\wr.heap[w.heap.size]?=some (.cells (KB.aH e).toArray KB.aV (0,0))/\wr.heap[w.heap.size+1]?=some (ndO false (.slice none 0 0))/\Below w.heap.size w wr/\W.heap.size<=wr.heap.size)) (fun p _=>n-(intOf p).toNat)
  case atStart=>exact⟨0,none,0,bB _,rfl,m,dF _ _ _ _,aE E.a H.b,aE E.a H.c,aq H.a E.a,aF _⟩
  obtain⟨j,a,c,hj,rfl,M⟩:=hrel;have O:=HZ1.o;by_cases J:j<n;rotate_left
  ·have s:¬(j:Int)<n:=ah
   obtain rfl:j=n:=ah
   have h:=aT (cs:=[.slice none 0 0,.slice none 0 0,.bool true,Iv 0,.slice a j c]) M.a;have N:=bO (n:=5) M.d rfl
   go_wp2_with (first|(refine wpList_load_mid rfl 96 (.tmp 5) rfl (w.heap.size+1+1) 0 rfl [.slice none 0 0,.slice none 0 0,.bool true,Iv 0,.slice a j c] _ h underlying96 rfl au ?_)|(refine wpList_store_mid rfl 96 (.tmp 4) (.tmp 32) rfl (w.heap.size+1) 0 #[.slice none 0 0,.slice none 0 0,.bool true,Iv 0,.slice a j c] rfl rfl N au (nd5 _ _ _ _) ?_))
   have hq:=bX (cs:=[.slice none 0 0,.slice none 0 0,.bool false,Iv 0,.slice none 0 0]) M.d (vs:=[.slice none 0 0,.slice none 0 0,.bool true,Iv 0,.slice a j c]) rfl;have hL:=run_loadVar_mid (P:=Tryz.prog) (wr.setCells (w.heap.size+1) 0 [.slice none 0 0,.slice none 0 0,.bool true,Iv 0,.slice a j c]) (w.heap.size+1) 0 96 _ _ (aT hq) underlying96 rfl au;have d:(j0 e j).length=j:=by rw[HVs.o,vV]
   refine aG (v:=.agg #[.slice none 0 0,.slice none 0 0,.bool true,Iv 0,.slice a j c]) (by simp[results,results149,hL,Act.put,asAddr]) rfl ⟨a,c,by rw[d],?_,aY _ ah _ _ _ M.e⟩;rw[d,HVs.o];have G:=M.b;rw[cP (by rw[vV];exact aF _)]at G;refine⟨G.1,G.2.imp id fun⟨g,C,A,k1,k2,k3,U⟩=>⟨g,C,A,k1,ah,?_,U⟩⟩;rw[dc _ _ _ _ _ ah];exact k3
  have s:(j:Int)<n:=ah
  obtain⟨t,d1⟩:=KB.Qo M.c (i:=j) ah;have GI:=hid (xn (Zy e J))
  go_upto_region 7 with fail
  refine qA (F:=Code.wp _ _ _ _) fun T Z=>?_
  clear t d1;obtain⟨F,y⟩:=ae Z.b;obtain⟨B,o⟩:=ae (aE Z.a M.a);have hTz:=Z.B;have Q:=hid hTz;have oZ:=M.E;clear hTz
  go_wp2_with (at_builtin;refine nj _ rfl _ _ 71 rfl W.heap.size 73 i0 (.agg iB) 6 48 underlying71 b.a b.b b.c b.C rfl aj (.slice a j c) j (dR ((Tq e n).take j)) rfl ((bp M.b Z.a).alloc _) (Ad T.heap.size 0) 1 1 (zi (rgW (e.at j))) rfl rfl (E6 (bf T _)) (by intro u hu;simp only[rgW,zi,cQ,gM,ga]at hu;rcases hu with rfl|rfl|rfl|rfl|rfl|rfl<;>rfl) (by simp only[maxLen];omega) ah (by have:=Q.o;simp;omega) ?_;intro v9 S o9 x _;obtain⟨z,f,rfl⟩:=bS o9;have i:=hid (Aa o9 (show Below W.heap.size T S from((aM _ _).alloc (by have:=Q.o;omega) _).grown x (by have:=Q.o;simp;omega) (fun q e=>((bp M.b Z.a).lt q e).1)));clear o9 x F y B o;have aaE:=(i.A.block (w.heap.size+1+1) ah).trans (aE Z.a M.a);obtain⟨B,o⟩:=ae aaE)
  have l:Hd ((S.setCell (Ad (w.heap.size+1+1) 4) (.slice z (j+1) f)).heap[w.heap.size+1+1]?=some (ndO true (.slice z (j+1) f))/\(S.setCell (Ad (w.heap.size+1+1) 4) (.slice z (j+1) f)).ownsRow W.heap.size 73 6 (.slice z (j+1) f) (j+1) (dR ((Tq e n).take (j+1)))/\(∀k,k≠w.heap.size+1+1->(S.setCell (Ad (w.heap.size+1+1) 4) (.slice z (j+1) f)).heap[k]?=S.heap[k]?)/\Below w.heap.size w (S.setCell (Ad (w.heap.size+1+1) 4) (.slice z (j+1) f))/\(S.setCell (Ad (w.heap.size+1+1) 4) (.slice z (j+1) f)).heap.size=S.heap.size):=by
   refine⟨by rw[aw aaE];rfl,?_,fun k X=>aZ _ _ _ _ X,?_,by simp[World.setCell]⟩
   ·rw[GI.o]
    exact nB i.a aaE aj
   exact((aq M.e Z.a).trans (i.A.mono ah)).setCell (by show w.heap.size<=w.heap.size+1+1;omega) _
  generalize S.setCell (Ad (w.heap.size+1+1) 4) (.slice z (j+1) f)=Y at l⊢
  go_roundw
  case rel=>
   have h9:=i.A.size;have N:=Z.a.size;refine⟨j+1,z,f,J,h',l.a,l.b,(l.c _ ah).trans ((i.A.block _ ah).trans (aE Z.a M.c)),(l.c _ ah).trans ((i.A.block _ ah).trans (aE Z.a M.d)),l.d,by rw[l.D];omega⟩
  simp[intOf];omega
end
section
variable {n:Int} {v:VV} {nv:Nat}
def R5{n:Int}(hn:eX n):∀(D:List Int) (lo:Int),eX lo->lo<=n->eX (D.foldl (fun lo t=>if t<=n then max lo t else lo) lo)/\D.foldl (fun lo t=>if t<=n then max lo t else lo) lo<=n
 |[],lo,h,k=>⟨h,k⟩
 | t :: D,lo,h,k=>by
  rw[gx];obtain⟨G,O⟩:=h;obtain⟨Y,K⟩:=hn;by_cases N:t<=n
  ·rw[aD N]
   exact R5 ⟨Y,K⟩ D _ ⟨ah,ah⟩ ah
  rw[aA N];exact R5 ⟨Y,K⟩ D _ ⟨G,O⟩ k
def SJ{n:Int}(hn:eX n):∀(D:List Int) (hi:Int),eX hi->n<=hi->eX (D.foldl (fun hi t=>if n<=t then min hi t else hi) hi)/\n<=D.foldl (fun hi t=>if n<=t then min hi t else hi) hi
 |[],hi,h,k=>⟨h,k⟩
 | t :: D,hi,h,k=>by
  rw[gx];obtain⟨G,O⟩:=h;obtain⟨Y,K⟩:=hn;by_cases N:n<=t
  ·rw[aD N]
   exact SJ ⟨Y,K⟩ D _ ⟨ah,ah⟩ ah
  rw[aA N];exact SJ ⟨Y,K⟩ D _ ⟨G,O⟩ k
def aaT(hn:eX n)(D:List Int):eX (Jw n D)/\Jw n D<=n:=R5 hn D _ ⟨aj,aj⟩ hn.1
def abp(hn:eX n)(D:List Int):eX (Od n D)/\n<=Od n D:=SJ hn D _ ⟨aj,aj⟩ hn.2
def IK(h:okV 6 v):v.any=false/\v.lo<=v.hi/\eX v.lo/\eX v.hi:=by
 have:=h.form;rw[aA aj]at this;exact⟨this.1,this.2,h.bd.lo,h.bd.hi⟩
def aan{x y:VV}:gS 6 x y↔x.any=y.any/\y.lo<=x.lo/\x.hi<=y.hi:=by unfold gS;rw[aA aj]
def Pk{u:VV}(h:okV 6 v)(D:List Int):okV 6 (T0 u v D)/\gS 6 v (T0 u v D):=by
 obtain⟨G,O,Y,K⟩:=IK h;have a1:eX (Zl u v D)/\Zl u v D<=v.lo:=by
  unfold Zl;split
  ·exact aaT Y D
  exact⟨Y,dU _⟩
 have a2:eX (T1 u v D)/\v.hi<=T1 u v D:=by
  unfold T1;split
  ·exact abp K D
  exact⟨K,dU _⟩
 refine⟨⟨⟨a1.1,a2.1⟩,?_⟩,aan.2 ⟨rfl,a1.2,a2.2⟩⟩;rw[aA aj];exact⟨G,by show Zl u v D<=T1 u v D;omega⟩
def ab3{P:Pm}{old next:PE}{v:EV}(Z:nv<=8)(h:PR nv next v)(g:ei 6 nv v)(f:∃vs,v=some vs)(hold:∀i,nv<=i->old.at i=VV.z)(D:List Int)(x:Nat):∃z,PR nv (P7 P D x old next) z/\ei 6 nv z/\jP 6 v z:=by
 obtain⟨vs,rfl⟩:=f;unfold P7;split;rotate_left
 ·exact⟨some vs,h,g,iN 6 _⟩
 have d:∀i,(uQ old next D 8).at i=if i<nv then T0 (old.at i) (next.at i) D else VV.z:=fun i=>by
  rcases iw i 8 with A|A;rotate_left
  ·rw[JV _ A,aA ah]
  rw[Hc _ _ _ _ (aF _),aD A];split
  ·rfl
  rename_i hi
  have Q:next.at i=VV.z:=by rw[h.2.2,cx,bU (by rw[h.2.1];omega)];rfl
  rw[hold i ah,Q];rfl
 refine⟨some ((List.range nv).map fun i=>T0 (old.at i) (next.at i) D),⟨by rw[WJ];exact h.1,ak,fun i=>?_⟩,fun ws e=>?_,fun j a b y c=>?_⟩
 ·rw[d,cx,bG]
  split
  ·rename_i hi;rw[jX hi];rfl
  rename_i hi;rw[bU (by simp;omega)];rfl
 ·cases e
  refine⟨ak,fun u E=>?_⟩;obtain⟨i,hi,rfl⟩:=bP.1 E;have hi:=bZ.1 hi;rw[h.2.2,cx,bk (by rw[h.2.1];exact hi)];exact(Pk ((g vs rfl).2 _ (eL _)) D).1
 have U:j<nv:=by rw[<-h.2.1];exact(bn.1 y).1
 rw[bG,jX U]at c;simp at c;subst c;have e:next.at j=a:=by rw[h.2.2,cx,y];rfl
 rw[e];exact(Pk ((g vs rfl).2 _ (aL y)) D).2
def gV(v:VV):Nat:=(v.lo+9223372036854775808).toNat+(9223372036854775807-v.hi).toNat
def gE(vs:List VV):Nat:=(vs.map gV).sum
def YO:∀(l g:List VV),l.length=g.length->(∀v∈l,okV 6 v)->(∀v∈g,okV 6 v)->jP 6 (some l) (some g)->gE g<=gE l/\(jP 6 (some g) (some l)∨gE g<gE l)
 |[],[],_,_,_,_=>⟨aF _,aJ fun j x y h _=>by simp at h⟩
 |[],z :: g,hl,_,_,_=>by simp at hl
 |u :: l,[],hl,_,_,_=>by simp at hl
 | u :: l,z :: g,hl,E,R,h=>by
  have B:=YO l g (by simpa using hl) (fun v t=>E v (by simp[t])) (fun v t=>R v (by simp[t])) fun j x y a b=>h (j+1) x y (by simpa using a) (by simpa using b)
  have o:=aan.1 (h 0 u z rfl rfl);obtain⟨d,i,n,f⟩:=IK (E u ak);obtain⟨G,H,c,e⟩:=IK (R z ak);obtain⟨w,D⟩:=n;obtain⟨s,r⟩:=f;obtain⟨q,A⟩:=c;obtain⟨p,C⟩:=e;have Q:gE (z :: g)=gV z+gE g:=by simp[gE]
  have F:gE (u :: l)=gV u+gE l:=by simp[gE]
  have m:gV z<=gV u:=by unfold gV;omega
  rw[Q,F];refine⟨ah,?_⟩;by_cases Z:u.lo<=z.lo/\z.hi<=u.hi
  ·rcases B.2 with k|k
   ·refine aJ fun j x y a b=>?_
    cases j with
    |zero=>simp at a b;subst a b;exact aan.2 ⟨by rw[G,d],Z.1,Z.2⟩
    |succ j=>exact k j x y (by simpa using a) (by simpa using b)
   exact aI ah
  refine aI ?_;have:gV z<gV u:=by unfold gV;omega
  have:=B.1;omega
def gP(nv:Nat)(e:PE):Nat:=if e.r then gE ((List.range nv).map e.at) else 300000000000000000001
def muB(nv:Nat)(hs:List PE):Nat:=(hs.map (gP nv)).sum
def Cv{e:PE}{vs:List VV}(h:PR nv e (some vs)):(List.range nv).map e.at=vs:=by
 refine dW fun i=>?_
 rw[bG];rcases iw i nv with hi|hi
 ·rw[jX hi,bk (by rw[h.2.1];exact hi)]
  simp only[kI,dG];rw[h.2.2,cx,bk (by rw[h.2.1];exact hi)];rfl
 rw[bU (by simpa using hi),bU (by rw[h.2.1];exact hi)];rfl
def LI:∀(vs:List VV),(∀v∈vs,okV 6 v)->gE vs<=vs.length*36893488147419103230
 |[],_=>by simp[gE]
 |v :: vs,h=>by
  have B:=LI vs fun u E=>h u (by simp[E])
  obtain⟨n,j,⟨b,a⟩,⟨c,d⟩⟩:=IK (h v ak);have Q:gE (v :: vs)=gV v+gE vs:=by simp[gE]
  rw[Q,bT];unfold gV;omega
end
section
variable {P:Pm} {hs:List PE} {x:Nat}
def UH{nv:Nat}{e:PE}{v:EV}(h:PR nv e v)(i:Nat)(hi:nv<=i):e.at i=VV.z:=by
 cases v with
 |none=>rw[show e=PE.zero from h];exact J8 _ i
 |some vs=>rw[h.2.2,cx,bU (by rw[h.2.1];exact hi)];rfl
structure fW(P:Pm)(hs:List PE)(wt:BS):Prop where
  snd:∀i,i<P.nd.length->bt wt i=false->KB.e4 (KB.bL P (bD hs) i) (bD hs i)=true
def Mx{a b:Nat->PE}{n:Nat}(h:∀q∈P.ins n,a q.1=b q.1):KB.bL P a n=KB.bL P b n:=by
 unfold KB.bL
 congr 1
 exact eM fun q A=>by rw[h q A]
structure OpB(P:Pm)(ts:List Int)(hs:List PE)(x:Nat):Prop where
  good:∃v,PR P.nv (P7 P ts x (bD hs x) (KB.jM (bD hs x) (KB.bL P (bD hs) x))) v/\ei 6 P.nv v
  snd:KB.e4 (KB.bL P (bD hs) x) (P7 P ts x (bD hs x) (KB.jM (bD hs x) (KB.bL P (bD hs) x)))=true
  less:gP P.nv (P7 P ts x (bD hs x) (KB.jM (bD hs x) (KB.bL P (bD hs) x)))<gP P.nv (bD hs x)
  bin:∀i,dq (bQ ((KB.jM (bD hs x) (KB.bL P (bD hs) x)).at i))
def UI(b:cE P)(Z:mA P)(F:P.nx.length=P.nd.length)(D:List Int)(p:KB.mB P (bD hs))(hb:KB.e4 (KB.bL P (bD hs) x) (bD hs x)=false):OpB P D hs x:=by
 have f:=fun m=>z? (p m)
 have o:=KB.fO b Z F f x;have E:=f x;generalize Classical.choose (p x)=v at E;generalize P.say 6 x _=s at o;have Y:=fun i=>(KB.cF o.1 o.2 i).1
 have c:=fun i=>(KB.cF E.1 E.2 i).1
 rw[Cy b.nv o.1 E.1 Y c]at hb;have U:=Qv b.nv E.1 o.1 c Y;have e:=rh E.2 o.2;cases s with
 |none=>simp[Oi]at hb
 | some vs=>
  have n:∃ws,CY 6 v (some vs)=some ws:=by cases v with|none=>exact⟨vs,rfl⟩|some l=>exact⟨_,rfl⟩
  obtain⟨z,O,K,a⟩:=ab3 (P:=P) b.nv U e n (UH E.1) D x;have W:=fh e o.2 (Rj E.2 o.2) a;have X:=fun i=>(KB.cF O K i).1
  refine⟨⟨z,O,K⟩,?_,?_,fun i=>(KB.cF U e i).2⟩
  ·rw[Cy b.nv o.1 O Y X]
   exact(jF o.2 K).2 W
  cases z with
  |none=>exact absurd W (by simp[jP])
  | some g=>
   have d:=K g rfl;unfold gP;rw[aD O.1,Cv O];cases v with
   |none=>
    rw[show bD hs x=PE.zero from E.1];have:=LI g d.2;have A:=b.nv;rw[d.1]at this;show _<300000000000000000001;have:P.nv*36893488147419103230<=8*36893488147419103230:=Nat.mul_le_mul_right _ A;omega
   | some l=>
    rw[aD E.1.1,Cv E.1];have h:=E.2 l rfl;have j:=fh e E.2 (Yn E.2 o.2) a;rcases(YO l g (by rw[h.1,d.1]) h.2 d.2 j).2 with k|k
    ·have:=(jF o.2 E.2).2 (fh K o.2 W k)
     rw[this]at hb;cases hb
    exact k
def snB(b:cE P)(Z:mA P)(F:P.nx.length=P.nd.length)(a:List Int):KB.SnE (σ:=Unit) P (fun s _ _ _=>s) (fun _ x d next=>P7 P a x d next) (muB P.nv) (fun _ z c=>fW P z c) ():=by
 have C:=b.most;refine⟨⟨fun i hi D=>?_⟩,fun _ z c x N l E D=>⟨fun i hi M=>?_⟩,fun _ z c x N l E D=>⟨fun i hi M=>?_⟩,fun _ z c x N l E D=>(UI b Z F a l.hd D).good,fun _ z c x N l E D=>?_⟩
 ·rw[vm _ _ ah ah]at D
  simp at D;omega
 ·have k:=l.low x E
  by_cases e:i=x
  ·subst e;exact D
  refine N.snd i hi ?_;rw[kj _ _ _ (jE ah) ah,rH ah ah]at M
  simpa[e]using M
 ·have k:=l.low x E
  have Q:x<z.length:=by rw[l.len];exact k
  rw[gC,BP,kj _ _ _ (jE ah) ah,rH ah ah,Ie C F x i ah]at M
  have o:KB.bL P (bD (z.set x (P7 P a x (bD z x) (KB.jM (bD z x) (KB.bL P (bD z) x))))) i=KB.bL P (bD z) i:=Mx fun q A=>by
   rw[pW Q,aA];intro e;have O:=M.2;rw[show decide (i<P.nd.length)=true by simpa using hi,fj]at O;exact l5 O (bP.2 ⟨q,A,e.symm⟩)
  rw[o,pW Q];by_cases e:x=i
  ·subst e
   rw[aD rfl];exact(UI b Z F a l.hd D).snd
  rw[aA e];refine N.snd i hi ?_;have G:=M.1
  simpa[show ¬i=x from fun f=>e f.symm]using G
 refine xt PE.zero z x _ (by rw[l.len];exact l.low x E) ?_;exact(UI b Z F a l.hd D).less
def uJ(P:Pm)(hs:List PE):Prop:=∀i,i<P.nd.length->KB.e4 (KB.bL P (bD hs) i) (bD hs i)=true
def Hr(b:cE P)(Z:mA P)(F:P.nx.length=P.nd.length){at_:Nat->EV}(T:∀m,PR P.nv (bD hs m) (at_ m)/\ei 6 P.nv (at_ m)):uJ P hs↔∀n,n<P.nd.length->jP 6 (P.say 6 n at_) (at_ n):=by
 unfold uJ;refine forall_congr' fun n=>imp_congr Iff.rfl ?_
 have o:=KB.fO b Z F T n;rw[Cy b.nv o.1 (T n).1 (fun i=>(KB.cF o.1 o.2 i).1) (fun i=>(KB.cF (T n).1 (T n).2 i).1)];exact jF o.2 (T n).2
def Hq(b:cE P)(Z:mA P)(F:P.nx.length=P.nd.length)(p:KB.mB P (bD hs))(hl:hs.length=P.nd.length)(hx:x<P.nd.length)(h:uJ P hs):uJ P (hs.set x (KB.bL P (bD hs) x)):=by
 obtain⟨at_,T⟩:∃at_:Nat->EV,∀m,PR P.nv (bD hs m) (at_ m)/\ei 6 P.nv (at_ m):=⟨fun m=>Classical.choose (p m),fun m=>z? (p m)⟩;have Q:x<hs.length:=by rw[hl];exact hx
 have o:=KB.fO b Z F T x;have G:=(Hr b Z F T).1 h
 have a:∀m,PR P.nv (bD (hs.set x (KB.bL P (bD hs) x)) m) (if x=m then P.say 6 x at_ else at_ m)/\ei 6 P.nv (if x=m then P.say 6 x at_ else at_ m):=fun m=>by
  rw[pW Q];split
  ·exact o
  exact T m
 have W:∀m,jP 6 (if x=m then P.say 6 x at_ else at_ m) (at_ m):=fun m=>by
  split
  ·rename_i e;subst e;exact G x hx
  exact iN 6 _
 have k:=fun n=>B6 (aI rfl) Z n (fun m=>(a m).2) (fun m=>(T m).2) W
 refine(Hr b Z F a).2 fun n J=>?_
 by_cases e:x=n
 ·subst e
  rw[aD rfl];exact k x
 rw[aA e];exact fh (jm (aI rfl) Z n fun m=>(T m).2) (jm (aI rfl) Z n fun m=>(a m).2) (k n) (G n J)
def Kz{P:Pm}(b:cE P)(Z:mA P)(F:P.nx.length=P.nd.length){hs:List PE}(hl:hs.length=P.nd.length):∀k,k<=P.nd.length->KB.mB P (bD hs)->uJ P hs->uJ P (A0 P hs k)/\KB.mB P (bD (A0 P hs k))
 |0,_,p,h=>⟨h,p⟩
 |k+1,X,p,h=>by
  obtain⟨G,O⟩:=Kz b Z F hl k ah p h;rw[yl];exact⟨Hq b Z F O (by rw[sE];exact hl) ah G,RG b Z F O (by rw[sE,hl];omega)⟩
end
def jn(nv:Nat)(e:PE):Nd:=⟨[],[],e.r,0,j0 e nv⟩
def Zx{nv:Nat}{e:PE}{v:EV}(h:PR nv e v)(g:ei 6 nv v):mQ (jn nv e) (-1)=v:=by
 unfold mQ;cases v with
 |none=>
  rw[aD (aJ (by rw[show e=PE.zero from h];rfl))]
 | some vs=>
  rw[aA (by simp[jn,h.1])]
  congr 1
  show(j0 e nv).map (fN (-1))=vs;unfold j0;rw[h.1,aD rfl,Tq,kJ];refine Eq.trans (eM fun i hi=>?_) (Cv h);have hi:=bZ.1 hi;show fN (-1) (rgW (e.at i))=e.at i;have:okV 6 (e.at i):=by
   rw[h.2.2,cx,bk (by rw[h.2.1];exact hi)];exact(g vs rfl).2 _ (eL _)
  have y:=(IK this).1;rw[mJ];show(⟨false,(e.at i).lo,(e.at i).hi⟩:VV)=_;rw[<-y]
def Z2{P:Pm}{hs:List PE}(b:cE P)(d:mA P)(F:P.nx.length=P.nd.length)(hl:hs.length=P.nd.length)(p:KB.mB P (bD hs))(h:uJ P hs):Wt P 6 ⟨6,2,hs.map (jn P.nv)⟩:=by
 have C:=b.most;have Z:=b.nv;obtain⟨at_,T⟩:∃at_:Nat->EV,∀m,PR P.nv (bD hs m) (at_ m)/\ei 6 P.nv (at_ m):=⟨fun m=>Classical.choose (p m),fun m=>z? (p m)⟩
 have q:∀e∈hs,∃v,PR P.nv e v/\ei 6 P.nv v:=fun e H=>by
  obtain⟨i,hi⟩:=i!.1 H;have:bD hs i=e:=by unfold bD;rw[cx,hi];rfl
  rw[<-this];exact p i
 have r:∀e∈hs,(j0 e P.nv).length<=8/\(e.r=true->(j0 e P.nv).length=P.nv)/\∀v∈j0 e P.nv,v.kind=3/\v.early=false/\v.first=0/\v.rank=0/\v.lo<=v.hi/\eX v.lo/\eX v.hi:=fun e H=>by
  obtain⟨v,G,O⟩:=q e H;unfold j0;cases L:e.r with
  |false=>simp
  | true=>
   simp only[dx,vV];refine⟨Z,fun _=>trivial,fun u g=>?_⟩;obtain⟨i,hi,rfl⟩:=bP.1 g;have hi:=bZ.1 hi;cases v with
   |none=>rw[show e=PE.zero from G]at L;cases L
   | some vs=>
    have:okV 6 (e.at i):=by
     rw[G.2.2,cx,bk (by rw[G.2.1];exact hi)];exact(O vs rfl).2 _ (eL _)
    obtain⟨_,R,M,U⟩:=IK this;exact⟨rfl,rfl,rfl,rfl,R,M,U⟩
 refine⟨?_,?_,?_⟩
 ·simp only[kq,known,aS,bm,bM,br]
  refine⟨⟨ak,by rw[hl];omega⟩,fun x E=>?_⟩;obtain⟨e,H,rfl⟩:=bP.1 E;obtain⟨G,O,Y⟩:=r e H;unfold cy;rw[aA aj];cases L:e.r with
  |false=>simp[jn,L,j5,j0]
  |true=>
   simp only[jn,L,dx,eF,rk,aS,bm,bM,List.isEmpty_nil,rT,dO];refine⟨⟨⟨G,ah,ah⟩,aI trivial⟩,fun v t=>?_⟩;obtain⟨k,R,M,U,w,_⟩:=Y v t;simp[ew,k,R,M,U,w]
 ·have D:∀x∈hs.map (jn P.nv),(di 6 2 x).length<=300:=fun x E=>by
   obtain⟨e,H,rfl⟩:=bP.1 E;obtain⟨G,O,Y⟩:=r e H;unfold di;rw[aA aj];split;rotate_left
   ·simp
   simp only[nL,bT,bu];rw[aA aj];have a2:(ik (jn P.nv e).vals.length).length<=1:=gI (k:=0) (by show(j0 e P.nv).length<_;omega)
   have a3:=jR (f:=eN 6 2) (b:=20) (jn P.nv e).vals fun v t=>by
    obtain⟨_,_,_,_,w,a,c⟩:=Y v t;have s:(zp v.lo).length<=10:=xA a
    have z:(ik (v.hi-v.lo).toNat).length<=10:=gI (k:=9) (by
     obtain⟨l,o⟩:=a;obtain⟨y,Q⟩:=c
     omega)
    unfold eN;rw[aD rfl];simp;omega
   have A:(jn P.nv e).vals.length<=8:=G;simp at *;omega
  have:=jR (f:=di 6 2) (b:=300) (hs.map (jn P.nv)) D;simp only[ij,ob,bu,bT,eI,br]at this⊢;have O:(ik hs.length).length<=1:=gI (k:=0) (by rw[hl];omega);rw[hl]at this;omega
 have j:kz P ⟨6,2,hs.map (jn P.nv)⟩=true:=by
  simp only[kz,aS,bm,bM,dO,iu,br];refine⟨hl,fun x E=>?_⟩;obtain⟨e,H,rfl⟩:=bP.1 E;refine⟨fun f V=>(by cases V),?_⟩;cases L:e.r with
  |false=>exact aJ L
  |true=>exact aI ((r e H).2.1 L)
 have I:∀n,e7 ⟨6,2,hs.map (jn P.nv)⟩ (-1) n=at_ n:=fun n=>by
  have:(⟨6,2,hs.map (jn P.nv)⟩:Ct).at n=jn P.nv (bD hs n):=by
   unfold Ct.at bD;rw[cx,bG,cx];cases hs[n]? with
   |none=>rfl
   |some e=>rfl
  unfold e7;rw[this];exact Zx (T n).1 (T n).2
 have B:kN P ⟨6,2,hs.map (jn P.nv)⟩=true:=by
  unfold kN;simp only[bM,bZ];intro n J;rw[show e7 ⟨6,2,hs.map (jn P.nv)⟩ (-1)=at_ from funext I];exact(jF (jm (aI rfl) d n fun m=>(T m).2) (T n).2).2 ((Hr b d F T).1 h n J)
 simp only[fK,j,B];simp
section
open Go.RowKit Go.Shelf Go.Proofs Go.Maps Tryz
attribute [local go_sem] Oper.semAt_some
def yu{S:Nat->Obj->Prop}{w W:World}(h:Ky S w W)(hs:∀k o,S k o->w.heap.size<=k):Bl w W:=
 ⟨h.os,h.tape,h.output,h.size,fun k X=>by
  cases g:w.heap[k]? with
  |none=>have:=Array.getElem?_eq_none_iff.1 g;omega
  |some o=>exact h.keep k o g fun T=>by have:=hs k o T;omega⟩
def Un(nv N:Nat)(hs:List PE)(i:Nat):List Nd:=(List.range N).map fun k=>if k<i then jn nv (bD hs k) else qi
def P?(nv N:Nat)(hs:List PE):Un nv N hs 0=List.replicate N qi:=by
 unfold Un;refine BO.2 ⟨ak,fun b D=>?_⟩;obtain⟨k,_,rfl⟩:=bP.1 D;simp
def P!(nv N:Nat)(hs:List PE){i:Nat}(h:i<N):(Un nv N hs i).set i (jn nv (bD hs i))=Un nv N hs (i+1):=by
 refine dW fun k=>?_
 rw[eQ];unfold Un;rw[br,tS,bG,bG];by_cases X:i=k
 ·subst X
  rw[aD rfl,aD h,jX h];simp
 rw[aA X];cases L:(List.range N)[k]? with
 |none=>rfl
 |some q=>
  obtain⟨G,O⟩:=bn.1 L;rw[G7]at O;subst O;simp only[kI,dG];by_cases Y:k<i
  ·rw[aD Y,aD ah]
  rw[aA Y,aA ah]
def Um(nv:Nat)(hs:List PE):Un nv hs.length hs hs.length=hs.map (jn nv):=by
 refine dW fun k=>?_
 unfold Un bD;rw[bG,bG];rcases iw k hs.length with h|h
 ·rw[jX h,bk h]
  simp[h,cx]
 rw[bU (by simpa using h),bU h];rfl
def yL(g C pb:Nat)(nl:List NC)(P:Pm)(pa r:Option Addr)(pl pc tc:Nat)(ts:List Int)(nr:Int)(w:World)(hP:PM w g C nl P)(hO:cE P)(hc:mA P)(ho:j9 P)(hx:P.nx.length=P.nd.length)(J:kB w)(A?:jB w pb (.slice pa pl pc))(hpb:pb<w.heap.size)(hta:cz w r ts)(Yq:∀t∈ts,eX t)(htl:ts.length<=maxLen)(hnr:eX nr):
  Cl 89 #[eV g P.nd.length C P.nv,.agg #[.slice pa pl pc,.slice r ts.length tc,Iv nr]] w fun e I=>∃nb z,e=.returned (b? nb P.nd.length)/\fU w.heap.size I nb (z.map (jn P.nv))/\z.length=P.nd.length/\KB.mB P (bD z)/\uJ P z/\Below w.heap.size w I:=by
 have hm:=hO.most;have Rv:=hO.nv;have Zb:Hd (∀W,Below w.heap.size w W->Cl 143 #[eV g P.nd.length C P.nv] W fun e I=>∃rb db,e=.returned (KB.cZ rb db P.nd.length)/\KB.l? I W.heap.size rb P/\I.heap[db]?=some (.cells #[.iface 331 (.agg #[])] 386 (0,0))/\Bl W I):=fun W hW=>zc g C P.nv nl P W (hP.below hW) hO
 have hgl:=dQ (J 0 aj);have HNa:Hd (∀rb db B D z W,KB.l? W B rb P->W.heap[db]?=some (.cells #[.iface 331 (.agg #[])] 386 (0,0))->z.length=P.nd.length->KB.mB P (bD z)->W.heap[D]?=some (.cells (KB.aP z).toArray KB.aV (0,0))->Cl 148 #[KB.cZ rb db P.nd.length,.slice (some (Ad D 0)) P.nd.length P.nd.length] W fun e I=>(∃v,e=.returned v)/\I.heap[D]?=some (.cells (KB.aP (A0 P z P.nd.length)).toArray KB.aV (0,0))/\Kx (fun k=>k=D) W I/\KB.mB P (bD (A0 P z P.nd.length))):=fun rb db B D z W G O h3 h4 h5=>I4 rb db B D P z W G O hO hc ho hx h3 h4 h5
 have HSw:Hd (∀z:List PE,z.length=P.nd.length->KB.mB P (bD z)->uJ P z->uJ P (A0 P z P.nd.length)):=fun z G O h3=>(Kz hO hc hx G _ (aF _) O h3).1
 have HRn:=hid (fun(e:PE) W=>xU e P.nv W Rv);have TN:Hd (∀n rb db B K tb,Below w.heap.size w n->KB.l? n B rb P->n.heap[db]?=some (.cells #[.iface 331 (.agg #[])] 386 (0,0))->n.heap[K]?=some (ab1 rb db P.nd.length)->n.heap[tb]?=some (abZ (.slice pa pl pc) r ts.length tc nr)->Cl 144 #[KB.cZ rb db P.nd.length,.slice pa pl pc,.func (.func 145) #[] (nk K tb)] n fun e I=>∃z D,e=.returned (b? D P.nd.length)/\w.heap.size<=D/\I.heap[D]?=some (.cells (KB.aP z).toArray KB.aV (0,0))/\Bl n I/\z.length=P.nd.length/\KB.mB P (bD z)/\uJ P z):=by
  intro n rb db B K tb b4 hRl VA zK htb;have hz4:=b4.size
  have hr:=KB.tW (σ:=Unit) (fun _ _=>False) (fun _ _=>True) rb db B 145 pb P (nk K tb) pa pl pc n (fun s _ _ _=>s) (fun _ x old next=>P7 P ts x old next) (muB P.nv) (fun _ z wt=>fW P z wt) () (fun W hW=>hRl.below (yu hW fun _ _ h=>h.elim)) VA (fun h=>h) hO hc ho hx (snB hO hc hx ts)
   ⟨fun _ _ h=>h.elim,fun _ _ _ _ _ h=>h.elim,fun _ _ _ h _=>h,fun _ h=>h,fun _ h=>h,ah,fun xs w=>Tryz.call145 xs w,?_⟩ ⟨none,rfl,fJ _ _⟩ (J.below b4) (A?.keep fun o u h=>ax h b4) trivial
  ·refine hr.mono ?_
   rintro e I ⟨s,z,rfl,G,_,h3,h4,h5⟩;exact⟨z,_,rfl,ah,G,yu h3 fun _ _ h=>h.elim,h5.len,h5.hd,fun i hi=>h4.snd i hi (iW i)⟩
  intro s z wt W x hI hS hxx D _ _ hk;have bW:=yu hk fun _ _ h=>h.elim
  have:=C4 rb db B x K tb P (.slice pa pl pc) r tc ts nr (bD z x) (KB.jM (bD z x) (KB.bL P (bD z) x)) W (aE bW zK) (aE bW htb) (hRl.below bW) hO hx (hS.low x hxx) (hta.below (aq b4 bW)) Yq htl (UI hO hc hx ts hS.hd D).bin;refine this.mono ?_;rintro e I ⟨G,O⟩;exact⟨G,trivial,Ky.of O⟩
 obtain⟨N,hN⟩:=Ea P.nd.length;obtain⟨nv,Z⟩:∃nv,nv=P.nv:=⟨_,rfl⟩;have m:=hid hN;have HNv:=hid Z;rw[<-hN]at Zb HNa HSw TN hm⊢;rw[<-Z]at Zb HRn Rv⊢;obtain⟨i2,YF,FC,FB,FA⟩:=cY C0;have L:Hd (_/\_/\_/\_):=⟨YF,FC,FB,FA⟩;clear hP hO hc ho hx J A? hN Z YF FC FB FA hta Yq htl;generalize ts.length=tn at *;simp only[eV,KB.cZ]at Zb HNa TN⊢;go_enter func89,ntmps89
 go_upto_region 1 with(fail)
 refine gnB (F:=Code.wp _ _ _ _) fun W0 R=>?_
 obtain⟨F,x2⟩:=ae R.b
 go_upto_region 2 with(go_at_call 143;refine(Zb.o _ R.a).mono ?_;rintro e W1 ⟨rb,db,rfl,a1,a2,a3⟩;have E:=hid (Aa a1 (Aa a2 a3));clear a1 a2 a3 F x2)
 refine qA (F:=Code.wp _ _ _ _) fun W2 ni=>?_
 have YY:=ni.a;have Ok:=aq E.B YY;have bw2:=aq R.a Ok;obtain⟨F,x2⟩:=ae ni.b;obtain⟨y1,y2⟩:=ae (aE Ok R.c)
 go_upto_region 3 with(go_at_call 144;refine(TN.o W2 rb db W0.heap.size W1.heap.size (w.heap.size+1) bw2 (E.a.below YY) (aE YY E.b) ni.b (aE Ok R.c)).mono ?_;rintro e W3 ⟨hs0,D,rfl,a1,a2,a3,a4,a5,a6⟩;have H3:=hid (Aa a1 (Aa a2 (Aa a3 (Aa a4 (Aa a5 a6)))));clear a1 a2 a3 a4 a5 a6 F x2 y1 y2)
 have L2:=H3.c;have bw3:=aq bw2 L2;obtain⟨y1,y2⟩:=ae (aE L2 (aE Ok R.c))
 go_wp2_with fail
 clear y1 y2;have hwh:=H3.a;have NW:=hid (Aa ((E.a.below YY).below L2) (Aa (aE L2 (aE YY E.b)) (Aa (aE L2 ni.b) (Aa (aE L2 (aE Ok R.b)) bw3))))
 go_loopw[19] (fun iv wr=>∃(j:Nat) (z:List PE),iv=Iv j/\((j:Int)<=nr∨j=0)/\Hd (wr.heap[D]?=some (.cells (KB.aP z).toArray KB.aV (0,0))/\z.length=N/\KB.mB P (bD z)/\uJ P z/\Kx (fun k=>k=D) W3 wr)) (fun iv _=>(nr-intOf iv).toNat)
 case atStart=>exact⟨0,hs0,rfl,aI rfl,H3.b,H3.d,H3.e,H3.E,Kx.refl _ _⟩
 obtain⟨j,z,rfl,hj,M⟩:=hrel
 have Yp:KtC W3 wr (KB.MJ++[242,86]):=fun k cs t G O=>M.D.box G fun e=>by
  subst e;rw[H3.b]at G;rw[<-(eK (dK G)).2.1]at O;revert O
  decide
 have HTy:=hid (Aa (NW.a.ty fun k cs t G O=>Yp k cs t G (jH.2 (aJ O))) (Aa (Yp _ _ _ NW.b aj) (Aa (Yp _ _ _ NW.c aj) (Yp _ _ _ NW.d aj))));clear Yp;have afd:=hnr.2;by_cases v?:(j:Int)<nr
 ·obtain⟨F,x2⟩:=ae HTy.c
  go_wp2_with (go_at_call 148;refine(HNa.o rb db W0.heap.size D z wr HTy.a HTy.b M.b M.c M.a).mono ?_;rintro e X ⟨⟨v,rfl⟩,a1,a2,a3⟩;have f:=hid (Aa a1 (Aa a2 a3));clear a1 a2 a3 F x2)
  go_roundw
  case rel=>exact⟨j+1,A0 P z N,h',aJ ah,f.a,by rw[sE];exact M.b,f.B,HSw.o z M.b M.c M.d,M.D.trans f.b⟩
  simp[intOf];omega
 go_upto_region 8 with(at_make;refine il _ rfl (.tmp 26) (.tmp 26) 46 rfl wr.heap.size 96 i2 _ 5 underlying46 L.a L.b L.c .i64 .i64 N N N rfl rfl rfl rfl (by rw[L.C];omega) (by unfold maxLen;omega) ak ?_;intro n p FM;have HOw:=hid (Aa p FM);clear p FM)
 have H:Hd (n.heap[wr.heap.size]?=some (.cells (eu (List.replicate N vn0)).toArray 96 (0,0))/\Below wr.heap.size wr n):=by
  have G:=HOw.a;rw[dX _ 5 (by simp[Value.cells]) N]at G;refine⟨?_,(aM _ _).grown HOw.A (aF _) (fun q e=>by cases e)⟩;rw[(e? G).1,<-LN];rfl
 have hhb:=blt M.a;have hwz:w.heap.size<W3.heap.size:=by have:=blt HTy.C;have:=M.D.size;have:=blt NW.d;omega
 have Vj:=M.D.size;have H4:=hid (Aa (aE H.A M.a) (Aa (aE H.A HTy.C) (show Below w.heap.size w n from aq (NW.D.trans (M.D.below ah (fun k e=>ah))) H.A)));have ae8:=blt H.a;generalize hnb:wr.heap.size=nb at *;clear HOw
 go_wp2_with fail
 go_loopw[30] (fun iv wx=>∃(i:Nat) (l:List VN),i<=N/\iv=Iv i/\Hd (zm nb nb N l wx/\l.map Ki=Un nv N z i/\Kx (fun k=>k=nb) n wx)) (fun iv _=>N-(intOf iv).toNat)
 case atStart=>exact⟨0,_,bB _,rfl,Fj H.a,by rw[P?,w8];rfl,Kx.refl _ _⟩
 obtain⟨i,l,hi,rfl,HL⟩:=hrel;by_cases FJ:i<N;rotate_left
 ·have ig:¬(i:Int)<N:=ah
  obtain rfl:i=N:=ah
  go_wp2_with fail
  refine aG (v:=.slice (some (Ad nb 0)) i i) (by simp[results,results89,go_sem]) rfl ⟨nb,rfl,z,?_,M.b,M.c,M.d,?_⟩
  ·have G:=HL.a.fr (B':=w.heap.size) ah ah
   rw[HL.b]at G;have O:=Um nv z;rw[M.b]at O
   rwa[O]at G
  exact H4.B.trans (HL.B.below ah (fun k e=>ah))
 have ig:(i:Int)<N:=ah
 have DJ:=HL.B.box H4.a ah;have hg2:=HL.B.box H4.b ah;have he:z[i]?=some (bD z i):=by
  unfold bD;rw[cx,bk (by rw[M.b];exact FJ)];rfl
 have Nz:wr.rangeAt D (i*17) (KB.aH (bD z i)):=by
  obtain⟨b,o,e,hr⟩:=KB.jN DJ i _ he;cases e
  rwa[ct]at hr
 have HNx:=hid (P! nv N z FJ);generalize bD z i=e at *
 go_upto_region 11 with(first|(refine wpList_load_mid rfl KB.aV (.tmp 33) rfl D (i*17) rfl (KB.aH e) _ Nz KB.fH rfl au ?_)|(refine wpList_store_mid rfl KB.aV (.tmp 9) (.tmp 34) rfl wr.heap.size 0 (KB.aH e).toArray rfl rfl (bO (n:=17) (bf _ _) rfl) au (KB.a! _) ?_))
 refine Ju (F:=Code.wp _ _ _ _) rfl fun U HU=>?_
 simp only[Act.put];have Tx:=aT HU.a;obtain⟨y1,y2⟩:=ae (aE HU.A hg2);have HLU:=hid (HL.a.below HU.A);have hxs:=HL.B.size
 go_upto_region 12 with(first|(refine wpList_load_mid rfl KB.aV (.tmp 9) rfl wr.heap.size 0 rfl (KB.aH e) _ Tx KB.fH rfl au ?_)|(go_at_call 149;refine(HRn.o e U).mono ?_;rintro _ X ⟨a,c,rfl,a1,a2⟩;have f:=hid (Aa a1 a2);clear a1 a2 y1 y2 Tx)|(refine wpList_store_mid rfl 96 (.tmp 41) (.tmp 40) rfl nb (i*5) #[.slice none 0 0,.slice none 0 0,.bool e.r,Iv 0,.slice a (j0 e nv).length c] rfl rfl (uR (HLU.o.below f.A).fB (by rw[HLU.o.len];exact FJ)) au (nd5 _ _ _ _) ?_))
 obtain⟨e2,he2,hn2,A⟩:=HLU.o.first (x:=i) (rk:=0) (rd:=e.r) FJ f.a rfl f.A (by have:=HU.A.size;omega)
 have HY:=hid (Aa A (show Kx (fun k=>k=nb) n (X.setCells nb (i*5) (r7 e2))from sL (S:=fun k=>k=nb) (aJ rfl) (HL.B.trans (Kx.of (aq HU.A f.A))) _ _));have T:Hd ((l.set i e2).map Ki=Un nv N z (i+1)):=by
  show _=_;rw[tT,HL.b,hn2,<-HNx.o];rfl
 rw[he2]at HY;generalize X.setCells nb (i*5) [.slice none 0 0,.slice none 0 0,.bool e.r,Iv 0,.slice a (j0 e nv).length c]=Y at HY⊢;simp only[Act.put];clear he2 hn2 A
 go_wp2_with fail
 go_roundw
 case rel=>exact⟨i+1,l.set i e2,FJ,h',HY.a,T.o,HY.A⟩
 simp[intOf];omega
end
abbrev Stp:=Nat×Value×List Int
def aee(l:List Stp):List Value:=l.flatMap fun s=>[Iv s.1,s.2.1]
structure Fit(pl:List PN)(ps:List (cC×Nat))(nv:Nat):Prop where
  nin:∀p∈pl,L? nv p.n
  edge:∀(j:Nat) (p:PN) (vals:List Int),pl[j]?=some p->p.n.kind≠6->∃t:Nat,(kA ps p.nc j)[(ad2 p.n vals).toNat]?=some (t:Int)/\t<pl.length
def abS{w:World}{sb B n:Nat}{v:Value}{M:List Value}{cs:Array Value}(h:w.ownsRow B 113 2 v n M)(hb:w.heap[sb]?=some (.cells cs 182 (0,0))):v.ownBlock=none∨v.ownBlock≠some sb:=by
 cases t:v.ownBlock with
 |none=>exact aJ rfl
 |some k=>
  refine aI (fun e=>?_);obtain⟨Y,m,G⟩:=fg h k t;cases e;rw[G]at hb;simp at hb
section
variable {n m:Nat} {ps:List (cC×Nat)}
def Kh(vs:List cC)(v:cC):lh vs v<(dI vs v).length:=by
 unfold lh dI;split
 ·rename_i h
  have:=w6 h;omega
 simp only[bu,gL];omega
def Al(vs:List cC)(v:cC):vs.length<=(dI vs v).length:=by
 unfold dI;split<;>simp
def kF(vs:List cC)(s:ByteArray):vs.length<=(dP vs s).length:=by
 unfold dP;split
 ·exact Al _ _
 exact aF _
def um(vs:List cC)(s:ByteArray):yg (dP vs s).length (tB vs s):=by
 unfold yg tB dP;split
 ·intro _;exact⟨Kg _ _,Kh _ _⟩
 intro h;cases h
def yg.mono{o:ot}(h:yg n o)(hm:n<=m):yg m o:=fun e=>⟨(h e).1,by have:=(h e).2;omega⟩
def L?.mono{x:SN}(h:L? n x)(hm:n<=m):L? m x:=⟨h.kind,fun e=>⟨(h.var e).1,by have:=(h.var e).2;omega⟩,fun e=>(h.a e).mono hm,fun e=>(h.b e).mono hm⟩
def aej(n:Nat):L? n ⟨6,0,0,0,o0,o0,emp⟩:=⟨ak,ak,ak,ak⟩
def PW(vs:List cC)(ws:List ByteArray):vs.length<=(tw vs ws).2.2.length/\((tw vs ws).2.1=true->L? (tw vs ws).2.2.length (tw vs ws).1):=by
 have g:∀ws,vs.length<=(sA vs ws).2.2.length/\((sA vs ws).2.1=true->L? (sA vs ws).2.2.length (sA vs ws).1):=by
  intro ws;unfold sA;split
  ·rename_i S
   exact⟨kF _ _,fun _=>⟨ak,ak,fun _=>um _ _,ak⟩⟩
  exact⟨aF _,fun h=>by cases h⟩
 have m:∀ws,vs.length<=(lP vs ws).2.2.length/\((lP vs ws).2.1=true->L? (lP vs ws).2.2.length (lP vs ws).1):=by
  intro ws;unfold lP;split
  ·exact⟨aF _,fun _=>⟨ak,ak,ak,ak⟩⟩
  exact⟨aF _,fun h=>by cases h⟩
 have hi:∀ws,vs.length<=(DI vs ws).2.2.length/\((DI vs ws).2.1=true->L? (DI vs ws).2.2.length (DI vs ws).1):=by
  intro ws;unfold DI;split
  ·rename_i _ S z s J Z
   split
   ·exact⟨bw (kF vs S) (kF _ s),fun _=>⟨ak,ak,fun _=>(um vs S).mono (kF _ s),fun _=>um _ s⟩⟩
   exact⟨aF _,fun h=>by cases h⟩
  exact⟨aF _,fun h=>by cases h⟩
 have y:∀ws,vs.length<=(i? vs ws).2.2.length/\((i? vs ws).2.1=true->L? (i? vs ws).2.2.length (i? vs ws).1):=by
  intro ws;unfold i?;split;rotate_left
  ·exact⟨aF _,fun h=>by cases h⟩
  rename_i V S z q
  have G:=Al vs V.data.toList;have O:=Kh vs V.data.toList;have Y:=Kg vs V.data.toList;have K:=kF (dI vs V.data.toList) z;split;rotate_left
  ·exact⟨aF _,fun h=>by cases h⟩
  split
  ·split
   ·exact⟨G,fun _=>⟨ak,fun _=>⟨Y,O⟩,ak,ak⟩⟩
   exact⟨by simp only;omega,fun _=>⟨ak,fun _=>⟨Y,by simp only;omega⟩,fun _=>um _ _,ak⟩⟩
  ·rename_i s J
   have H:=kF (dP (dI vs V.data.toList) z) J;exact⟨by simp only;omega,fun _=>⟨ak,fun _=>⟨Y,by simp only;omega⟩,fun _=>(um _ _).mono H,fun _=>um _ _⟩⟩
  exact⟨by simp only;omega,fun h=>by cases h⟩
 unfold tw;split
 ·exact⟨aF _,fun h=>by cases h⟩
 split
 ·exact g _
 split
 ·exact hi _
 split
 ·exact m _
 split
 ·exact⟨aF _,fun _=>aej _⟩
 exact y _
def aak(vs:List cC)(ws:List ByteArray):vs.length<=(sJ vs ws).2.2.2.2.length/\((sJ vs ws).2.2.2.1=true->L? (sJ vs ws).2.2.2.2.length (sJ vs ws).2.2.1):=by
 unfold sJ;split
 ·exact⟨aF _,fun h=>by cases h⟩
 split
 ·split
  ·split
   ·exact⟨aF _,fun h=>by cases h⟩
   exact PW _ _
  exact⟨aF _,fun h=>by cases h⟩
 exact PW _ _
def ZA:∀(L:List (List ByteArray)) (vs:List cC) (c X:List PN) (d:List cC),(∀p∈c,L? vs.length p.n)->xR vs c L=some (X,d)->∀p∈X,L? d.length p.n:=by
 intro L
 induction L with
 |nil=>intro vs c X d y h;simp[xR]at h;rw[<-h.1,<-h.2];exact y
 |cons ws r B=>
  intro vs c X d y h;rw[xR]at h;obtain⟨G,O⟩:=aak vs ws;split at h
  ·exact B vs c X d y h
  split at h;rotate_left
  ·cases h
  rename_i u
  refine B _ _ X d ?_ h;intro p K;rcases jH.1 K with K|K
  ·exact(y p K).mono G
  simp at K;subst K;exact O u
def Qx:∀(a:List ByteArray) (i:Nat) (ps b:List (cC×Nat)),mO i ps a=some b->∀p∈b,p∈ps∨p.2<i+a.length:=by
 intro a
 induction a with
 |nil=>intro i ps b h p K;simp[mO]at h;subst h;exact aJ K
 | cons x r B=>
  intro i ps b h p K;rw[mO]at h;split at h
  ·rcases B _ _ _ h p K with O|O
   ·exact aJ O
   exact aI (by simp;omega)
  split at h
  ·cases h
  rcases B _ _ _ h p K with O|O
  ·rcases jH.1 O with Y|Y
   ·exact aJ Y
   simp at Y;subst Y;exact aI ak
  exact aI (by simp;omega)
def Kj(h:∀p∈ps,p.2<n)(h0:0<n)(v:cC):∃t:Nat,BU ps v=(t:Int)/\t<n:=by
 unfold BU;split
 ·rename_i p K
  exact⟨p.2,rfl,h p (by have:=List.mem_of_find?_eq_some K;simpa using this)⟩
 exact⟨0,rfl,h0⟩
def aaU{s:ByteArray}{pl:List PN}{vs:List cC}(h:mN s=Pr.ok pl vs)(hp:mO 0 [] (pl.map PN.bj)=some ps):Fit pl ps vs.length:=by
 obtain⟨_,o,u,L,_⟩:=Cs h;simp only[j4,aS]at u;have c:=u.2;unfold ej at c;rw[K!,hp]at c;simp only[aS]at c;have J:∀p∈ps,p.2<pl.length:=by
  intro p d;rcases Qx _ _ _ _ hp p d with G|G
  ·cases G
  simpa using G
 refine⟨ZA _ [] [] pl vs ak L,?_⟩;intro j p vals U b;have f:=(bn.1 U).1;obtain⟨t,N,n⟩:=Kj J o p.n.goal.data.toList;have x:p.n.kind≠5->j+1<pl.length:=by
  intro a;by_cases e:j+1=pl.length;rotate_left
  ·omega
  exfalso
  have O:=c.2;unfold rf at O;have i:(pl.map PN.nc).getLast?=some p.nc:=by
   rw[Bv,br,bG,show pl.length-1=j by omega,U];rfl
  rw[i]at O;simp only[br,iu,<-e]at O;have:(kA ps p.nc (j+1-1)).contains ((j+1:Nat):Int)=true:=by
   unfold kA F5;have Q:p.nc.n.kind=p.n.kind:=rfl;rw[Q];by_cases K:p.n.kind=4
   ·simp[K]
   simp[K,a,b]
  rw[this]at O;cases O
 unfold kA F5 ad2;have Q:p.nc.n.kind=p.n.kind:=rfl;have g:p.nc.n.goal=p.n.goal:=rfl;rw[Q,g,N];by_cases K:p.n.kind=4
 ·simp only[K,rT]
  by_cases z:xq p.n.test (opW vals p.n.a) (opW vals p.n.b)=false
  ·rw[aD z]
   exact⟨j+1,ak,x ah⟩
  rw[aA z];exact⟨t,ak,n⟩
 rw[aA (by simp[K])];by_cases H:p.n.kind=5
 ·exact⟨t,by simp[H],n⟩
 exact⟨j+1,by simp[K,H,b],x H⟩
end
namespace Wm
end Wm
def aef{vs r:List cC}{v:cC}(h:v∈vs):(vs++r).idxOf v=vs.idxOf v:=by rw[J4,aD h]
section
variable {p:Prop} {s:ByteArray} {pl:List PN} {vs:List cC} {ps:List (cC×Nat)}
structure L9(P:Pm):Prop where
  ok:cE P
  cs:mA P
  op:j9 P
  nx:P.nx.length=P.nd.length
  key:∀n∈P.nd,nh (i6 n)
structure BdN(n:SN):Prop where
  a:Dm n.a
  b:Dm n.b
  av:n.a.isVar=true->n.kind=0∨n.kind=1∨n.kind=3∨n.kind=4
  bv:n.b.isVar=true->n.kind=1∨n.kind=4
  az:n.a.isVar=false->n.a.var=0
  bz:n.b.isVar=false->n.b.var=0
  op:0<=n.op/\n.op<=3
def abf(l:List UInt8):-9223372036854775808<=zP l/\zP l<=9223372036854775807:=by
 unfold zP;cases h:Wm.tg l with
 |none=>simp
 | some x=>
  unfold Wm.tg at h;split at h;rotate_left
  ·cases h
  split at h
  ·split at h
   ·cases h;simp only[xa];omega
   cases h
  split at h
  ·cases h;simp only[xa];omega
  cases h
def me(vs:List cC)(s:ByteArray):Dm (tB vs s)/\((tB vs s).isVar=false->(tB vs s).var=0):=by
 unfold tB;split
 ·exact⟨⟨ak,ak⟩,fun h=>by cases h⟩
 exact⟨abf _,fun _=>rfl⟩
def E0:Dm o0:=⟨aj,aj⟩
def ZW(l:List UInt8):0<=Wm.UJ l/\Wm.UJ l<=3:=by
 unfold Wm.UJ;split
 ·omega
 split
 ·omega
 split
 ·omega
 split<;>omega
def Pu(h:p:=by
 exact fun _=>⟨E0,E0,fun h=>(by cases h),fun h=>(by cases h),fun _=>rfl,fun _=>rfl,ak⟩):p:=h
def Xo(h:p:=by
 exact fun _=>⟨(me _ _).1,E0,fun _=>ak,fun h=>(by cases h),(me _ _).2,fun _=>rfl,ak⟩):p:=h
def PX(vs:List cC)(ws:List ByteArray):(tw vs ws).2.1=true->BdN (tw vs ws).1:=by
 match ws with
 |[]=>intro h;cases h
 | V :: r=>
  unfold tw;simp only;split
  ·unfold sA;split
   ·rename_i S _
    exact Xo
   intro h;cases h
  split
  ·unfold DI;split
   ·split
    ·exact fun _=>⟨(me _ _).1,(me _ _).1,fun _=>ak,fun _=>ak,(me _ _).2,(me _ _).2,ak⟩
    intro h;cases h
   intro h;cases h
  split
  ·unfold lP;split
   ·exact Pu
   intro h;cases h
  split
  ·exact Pu
  unfold i?;split;rotate_left
  ·intro h;cases h
  split;rotate_left
  ·intro h;cases h
  split
  ·split
   ·exact Pu
   exact Xo
  ·exact fun _=>⟨(me _ _).1,(me _ _).1,fun _=>ak,fun _=>ak,(me _ _).2,(me _ _).2,ZW _⟩
  intro h;cases h
def aal(vs:List cC)(ws:List ByteArray):(sJ vs ws).2.2.2.1=true->BdN (sJ vs ws).2.2.1:=by
 unfold sJ;split
 ·intro h;cases h
 split
 ·split
  ·split
   ·intro h;cases h
   exact PX _ _
  intro h;cases h
 exact PX _ _
def ZB:∀(L:List (List ByteArray)) (vs:List cC) (c X:List PN) (d:List cC),(∀p∈c,BdN p.n)->xR vs c L=some (X,d)->∀p∈X,BdN p.n:=by
 intro L
 induction L with
 |nil=>intro vs c X d y h;simp[xR]at h;rw[<-h.1];exact y
 |cons ws r B=>
  intro vs c X d y h;rw[xR]at h;split at h
  ·exact B vs c X d y h
  split at h;rotate_left
  ·cases h
  rename_i u
  refine B _ _ X d ?_ h;intro p K;rcases jH.1 K with K|K
  ·exact y p K
  simp at K;subst K;exact aal _ _ u
def F4(h:mN s=Pr.ok pl vs)(hp:mO 0 [] (pl.map PN.bj)=some ps){j:Nat}{p:PN}(hj:pl[j]?=some p):(kA ps p.nc j).length<=2/\∀t∈kA ps p.nc j,∃k:Nat,t=(k:Int)/\k<pl.length:=by
 obtain⟨_,o,u,L,_⟩:=Cs h;simp only[j4,aS]at u;have c:=u.2;unfold ej at c;rw[K!,hp]at c;simp only[aS]at c;have J:∀p∈ps,p.2<pl.length:=by
  intro p d;rcases Qx _ _ _ _ hp p d with G|G
  ·cases G
  simpa using G
 have f:=(bn.1 hj).1;obtain⟨t,N,n⟩:=Kj J o p.n.goal.data.toList;have g:p.n.kind≠5->p.n.kind≠6->j+1<pl.length:=by
  intro a b;by_cases e:j+1=pl.length;rotate_left
  ·omega
  exfalso
  have O:=c.2;unfold rf at O;have i:(pl.map PN.nc).getLast?=some p.nc:=by
   rw[Bv,br,bG,show pl.length-1=j by omega,hj];rfl
  rw[i]at O;simp only[br,iu,<-e]at O;have:(kA ps p.nc (j+1-1)).contains ((j+1:Nat):Int)=true:=by
   unfold kA F5;have Q:p.nc.n.kind=p.n.kind:=rfl;rw[Q];by_cases K:p.n.kind=4
   ·simp[K]
   simp[K,a,b]
  rw[this]at O;cases O
 unfold kA F5;have Q:p.nc.n.kind=p.n.kind:=rfl;have z:p.nc.n.goal=p.n.goal:=rfl;rw[Q,z,N];by_cases K:p.n.kind=4
 ·have:=g ah ah
  simp only[K,beq_self_eq_true,dx];refine⟨ak,fun x E=>?_⟩;simp only[cQ,gM,ga]at E;rcases E with rfl|rfl
  ·exact⟨t,rfl,n⟩
  exact⟨j+1,ak,this⟩
 by_cases H:p.n.kind=5
 ·simp only[H]
  refine⟨ak,fun x E=>?_⟩;simp at E;subst E;exact⟨t,rfl,n⟩
 by_cases l:p.n.kind=6
 ·simp[l]
 have:=g H l;simp only[eJ,K,H,l,bR];refine⟨ak,fun x E=>?_⟩;simp at E;subst E;exact⟨j+1,ak,this⟩
def CH(ps:List (cC×Nat)):∀(X:List PN) (i j:Nat),(zE ps i X)[j]?=X[j]?.map fun p=>(kA ps p.nc (i+j)).map Int.toNat
 |[],i,j=>by simp[zE]
 |p :: r,i,0=>by simp[zE]
 |p :: r,i,j+1=>by
  rw[zE,ox,ox,CH ps r (i+1) j,show i+1+j=i+(j+1)by omega]
def yk(ps:List (cC×Nat)):∀(X:List PN) (i:Nat),(zE ps i X).length=X.length
 |[],_=>rfl
 |p :: r,i=>by rw[zE,bT,bT,yk ps r]
def E8:∀(l:List Int),(∀t∈l,∃k:Nat,t=(k:Int))->(l.map Int.toNat).map Int.ofNat=l
 |[],_=>rfl
 |x :: l,h=>by
  obtain⟨k,rfl⟩:=h x ak;have:=E8 l (fun t N=>h t (by simp[N]));rw[kL,kL,this];rfl
def Ph{x:Int}(h:-9223372036854775808<=x/\x<=9223372036854775807):(Lit.int .i64 x).wf=true:=by
 obtain⟨G,O⟩:=h;have Q:IntKind.i64.min=-9223372036854775808:=aj
 have z:IntKind.i64.max=9223372036854775807:=aj
 simp only[Lit.wf,Q,z,bm,aS];exact⟨G,O⟩
def CA(h:mN s=Pr.ok pl vs)(hp:mO 0 [] (pl.map PN.bj)=some ps):L9 (nz pl ps vs.length):=by
 obtain⟨_,o,u,L,_⟩:=Cs h;simp only[j4,aS,bm]at u;have hF:=aaU h hp;have f:=ZB _ [] [] pl vs ak L
 have J:∀n∈(nz pl ps vs.length).nd,L? vs.length n/\BdN n:=fun n J=>by
  obtain⟨p,y,rfl⟩:=bP.1 J;exact⟨hF.nin p y,f p y⟩
 have v:(nz pl ps vs.length).nd.length=pl.length:=br _;have A:=u.1.1.1;refine⟨⟨A,by rw[v];exact o,by rw[v];exact u.1.2,fun l hl=>?_,fun n q=>(J n q).1.kind,fun n q=>(J n q).1.var,fun n q e=>?_,fun n q e=>?_⟩,fun i=>?_,fun n q _=>(J n q).2.op,?_,fun n q=>?_⟩
 ·obtain⟨j,U⟩:=G3 hl
  have B:(zE ps 0 pl)[j]?=some l:=U;rw[CH,ct]at B;cases d:pl[j]? with
  |none=>rw[d]at B;cases B
  |some p=>
   rw[d]at B;simp only[kI,dG]at B;obtain⟨a,b⟩:=F4 h hp d;rw[<-B];refine⟨by rw[br];exact a,fun t N=>?_⟩;obtain⟨x,E,rfl⟩:=bP.1 N;obtain⟨k,rfl,X⟩:=b x E;rw[v]
   simpa using X
 ·exact(J n q).1.a (by unfold fm at e;split at e<;>first|omega|(split at e<;>omega))
 ·exact(J n q).1.b (by unfold fm at e;split at e<;>first|omega|(split at e<;>omega))
 ·by_cases hi:i<(nz pl ps vs.length).nd.length
  ·have C:=Du hi
   exact⟨(J _ C).2.a,(J _ C).2.b⟩
  have:(nz pl ps vs.length).at i=om:=by unfold Pm.at;rw[List.getD,bU ah];rfl
  rw[this];exact⟨E0,E0⟩
 ·rw[v];exact yk ps pl 0
 obtain⟨Y,c⟩:=J n q;have va:-9223372036854775808<=n.a.var/\n.a.var<=9223372036854775807:=by
  cases e:n.a.isVar with
  |true=>have:=Y.a (c.av e) e;omega
  |false=>rw[c.az e];omega
 have g:-9223372036854775808<=n.b.var/\n.b.var<=9223372036854775807:=by
  cases e:n.b.isVar with
  |true=>have:=Y.b (c.bv e) e;omega
  |false=>rw[c.bz e];omega
 exact⟨Ph va,Ph c.a,Ph (by have:=c.op;show _<=n.op/\n.op<=_;omega),Ph g,Ph c.b⟩
def KZ{w:World}{g C:Nat}{S:List NC}(h:mN s=Pr.ok pl vs)(hp:mO 0 [] (pl.map PN.bj)=some ps)(hr:fT w g C S)(M:oj w S pl)(he:∀(j:Nat) (c:NC) (p:PN),S[j]?=some c->pl[j]?=some p->Er w c.ev (kA ps p.nc j)):PM w g C S (nz pl ps vs.length):=by
 have v:(nz pl ps vs.length).nd.length=pl.length:=br _;refine⟨hr,by rw[v];exact M.len,fun j c n Z J=>?_,by rw[v];exact yk ps pl 0,fun j c l Z hl=>?_⟩
 ·have W:(pl.map PN.n)[j]?=some n:=J
  rw[bG]at W;cases d:pl[j]? with
  |none=>rw[d]at W;cases W
  |some p=>
   rw[d]at W;simp only[kI,dG]at W;rw[<-W];exact(M.each j c p Z d).n
 have A:(zE ps 0 pl)[j]?=some l:=hl;rw[CH,ct]at A;cases d:pl[j]? with
 |none=>rw[d]at A;cases A
 |some p=>
  rw[d]at A;simp only[kI,dG]at A;rw[<-A,E8 _ fun t N=>(let ⟨k,a,_⟩:=(F4 h hp d).2 t N;⟨k,a⟩)];exact he j c p Z d
end
section
variable {P:Pm} {hs:List PE}
def cB{x:Int}(h:0<=x/\x<=100000):eX x:=⟨ah,ah⟩
def Ay:∀(l:List Int) (U:Int),cw U l=true->∀x∈l,U<=x/\x<=100000
 |[],_,_,x,h=>by cases h
 |a :: l,U,h,x,hx=>by
  simp only[cw,aS,bm]at h;rcases cQ.1 hx with rfl|hx
  ·exact h.1
  have:=Ay l (a+1) h.2 x hx;omega
def aa8{c:Ct}(u:kq c=true)(hp:c.problem<=4):py c:=by
 unfold kq at u;simp only[known,aS,bm,bM,dO]at u;obtain⟨⟨⟨⟨G,O⟩,Y⟩,K⟩,H⟩:=u;refine⟨⟨ah,ah⟩,by rcases Y with h|h;(· rw[h];exact cB ah);rw[h.1];exact cB ah,fun n J=>?_,ah⟩
 have h:=H n J;unfold cy at h;rw[aD hp]at h;simp only[eO,aS,bm,jI]at h;obtain⟨⟨⟨⟨a1,a2⟩,a3⟩,a4⟩,a5⟩:=h;have hl:=pI a4;have L:(∀r∈n.aO,eX r)/\n.aO.length<=100001:=by
  unfold ey at a5;split at a5
  ·simp only[aS,bm,bM,rk]at a5
   exact⟨fun r L=>cB (a5.2 r L),ah⟩
  rw[jI.1 a5];simp
 exact⟨fun f V=>cB (by have:=Ay _ _ a4 f V;omega),L.1,by rw[a2];exact cB ah,by rw[a3];simp,ah,ah,by rw[a3];simp⟩
def aa9{s:Nat×List Nd}(b:cE P)(N:lz P s hs (0,0)):py (gu s.2):=by
 have C:=b.most;have w:=N.ik;refine⟨cB (show 0<=(5:Int)/\(5:Int)<=100000 by omega),cB (show 0<=(1:Int)/\(1:Int)<=100000 by omega),fun n J=>?_,by show s.2.length*88<=_;rw[N.len];omega⟩;have h:=N.Gv n J;have L:0<=n.rank/\n.rank<=100000:=by
  cases T:n.reached with
  |true=>have:=h.vC T;omega
  |false=>have:=h.out T;omega
 have t:n.vals.length<=8:=by
  cases T:n.reached with
  |true=>rw[(h.vC T).1];exact b.nv
  |false=>rw[(h.out T).2];simp
 refine⟨by rw[h.fr.1];simp,by rw[h.fr.2];simp,cB L,fun v t=>?_,by rw[h.fr.1];simp,by rw[h.fr.2];simp,ah⟩;have k:=h.each v t;refine⟨?_,k.lo,by rw[k.hi];exact cB ah,k.first,?_⟩
 ·rcases k.form with f|f|f
  ·rw[f.1];exact cB ah
  ·rw[f.1];exact cB ah
  rw[f.1];exact cB ah
 rcases k.form with f|f|f
 ·rw[f.2.2.2];exact cB ah
 ·exact cB ah
 rw[f.2.2.2.2];exact cB ah
def abb(b:cE P)(hl:hs.length=P.nd.length)(p:KB.mB P (bD hs)):py ⟨6,2,hs.map (jn P.nv)⟩:=by
 have C:=b.most;refine⟨cB (show 0<=(6:Int)/\(6:Int)<=100000 by omega),cB (show 0<=(2:Int)/\(2:Int)<=100000 by omega),fun n J=>?_,by show(hs.map (jn P.nv)).length*88<=_;rw[br,hl];omega⟩;obtain⟨e,H,rfl⟩:=bP.1 J;obtain⟨i,hi⟩:=i!.1 H;have t:∃v,PR P.nv e v/\ei 6 P.nv v:=by
  have:bD hs i=e:=by unfold bD;rw[cx,hi];rfl
  rw[<-this];exact p i
 obtain⟨v,G,O⟩:=t;have d:(j0 e P.nv).length<=8:=by
  unfold j0;split
  ·rw[vV];exact b.nv
  simp
 refine⟨fun f V=>(by cases V),fun f V=>(by cases V),cB (show 0<=(0:Int)/\(0:Int)<=100000 by omega),fun u E=>?_,by simp[jn],by simp[jn],by show(j0 e P.nv).length*48<=_;omega⟩;have E:u∈j0 e P.nv:=E;unfold j0 at E;cases L:e.r with
 |false=>rw[L]at E;simp at E
 | true=>
  rw[L,aD rfl]at E;obtain⟨k,X,rfl⟩:=bP.1 E;have X:=bZ.1 X;cases v with
  |none=>rw[show e=PE.zero from G]at L;cases L
  | some vs=>
   have:okV 6 (e.at k):=by
    rw[G.2.2,cx,bk (by rw[G.2.1];exact X)];exact(O vs rfl).2 _ (eL _)
   obtain⟨_,_,M,U⟩:=IK this;exact⟨cB (show 0<=(3:Int)/\(3:Int)<=100000 by omega),M,U,cB (show 0<=(0:Int)/\(0:Int)<=100000 by omega),cB (show 0<=(0:Int)/\(0:Int)<=100000 by omega)⟩
end
section
open Go.RowKit Go.Shelf Go.Proofs Go.Maps Tryz
attribute [local go_sem] Oper.semAt_some
structure FdC(P:Pm)(p:Int)(nb:Nat)(c:Ct)(w w':World):Prop where
  pr:c.problem=p
  gr:c.bK=if p=6 then 2 else 1
  len:c.nodes.length=P.nd.length
  at_:cj w' (some (Ad nb 0)) c.nodes
  ok:Wt P p c
  vC:py c
  b:Bl w w'
def abe(a b:Int)(x:Option Addr)(j c:Nat):(#[Iv a,Iv b,.slice x j c]).all (·.oneCell')=true:=all_oneCell_toArray (cs:=[Iv a,Iv b,.slice x j c]) (by
 intro u E;simp only[cQ,gM,ga]at E
 rcases E with rfl|rfl|rfl<;>rfl)
def R7(g C q:Nat)(nl:List NC)(P:Pm)(p:Int)(pa r:Option Addr)(pl pc O:Nat)(D:List Int)(G:Int)(w:World)(hP:PM w g C nl P)(L:L9 P)(hp:1<=p/\p<=6)(J:kB w)(k:jB w q (.slice pa pl pc))(hpb:q<w.heap.size)(Y:cz w r D)(b:∀t∈D,eX t)(n:D.length<=maxLen)(T:eX G):
  Cl 43 #[eV g P.nd.length C P.nv,Iv p,.agg #[.slice pa pl pc,.slice r D.length O,Iv G]] w fun e I=>∃nb c,e=.returned (.agg #[Iv p,Iv c.bK,.slice (some (Ad nb 0)) P.nd.length P.nd.length])/\FdC P p nb c w I:=by
 have HS:Hd (p<=4->∀W,Bl w W->Cl 90 #[eV g P.nd.length C P.nv,Iv p,.slice pa pl pc] W fun e I=>∃nb l,e=.returned (b? nb P.nd.length)/\fU W.heap.size I nb (l.map tC)/\FnS P p l/\Bl W I):=fun K W U=>C8 g C q nl P p pa pl pc W (hP.below U) L.ok L.nx L.key ⟨hp.1,K⟩ (J.below U) (k.keep fun o u h=>ax h U) (by have:=U.size;omega)
 have M:Hd (∀W,Bl w W->Cl 88 #[eV g P.nd.length C P.nv,.slice pa pl pc] W fun e I=>∃nb s z,e=.returned (b? nb P.nd.length)/\fU W.heap.size I nb s.2/\lz P s z (0,0)/\Bl W I):=fun W U=>sW g C q nl P pa pl pc W (hP.below U) L.ok L.cs L.op L.nx (J.below U) (k.keep fun o u h=>ax h U) (by have:=U.size;omega)
 have HR:Hd (∀W,Bl w W->Cl 89 #[eV g P.nd.length C P.nv,.agg #[.slice pa pl pc,.slice r D.length O,Iv G]] W fun e I=>∃nb z,e=.returned (b? nb P.nd.length)/\fU W.heap.size I nb (z.map (jn P.nv))/\z.length=P.nd.length/\KB.mB P (bD z)/\uJ P z/\Bl W I):=fun W U=>yL g C q nl P pa r pl pc O D G W (hP.below U) L.ok L.cs L.op L.nx (J.below U) (k.keep fun o u h=>ax h U) (by have:=U.size;omega) (Y.below U) b n T
 have j:=hid L;obtain⟨N,B⟩:=Ea P.nd.length;obtain⟨nv,Z⟩:∃nv,nv=P.nv:=⟨_,rfl⟩;have m:=hid B;have HNv:=hid Z;have ae4:eX p:=⟨ah,ah⟩;rw[<-B,<-Z]at HS M HR⊢;clear hP L J k Y b n B Z;generalize D.length=tn at *;simp only[eV]at HS M HR⊢;go_enter func43,ntmps43
 go_upto_region 1 with(fail)
 refine gn3 (F:=Code.wp _ _ _ _) fun V H=>?_
 have HZ:=hid H.D;obtain⟨F,x2⟩:=ae H.b;obtain⟨y1,y2⟩:=ae H.c;by_cases h5:p=5
 ·subst h5
  go_wp2_with (first|(go_at_call 88;refine(M.o _ H.a).mono ?_;rintro e X ⟨nb,s,z,rfl,a1,a2,a3⟩;have f:=hid (Aa a3 (Aa a1 a2));clear a1 a2 a3 F x2 y1 y2;have ht:=bO (n:=3) (aE f.a H.d) rfl)|(refine wpList_store_mid rfl 51 (.tmp 6) (.tmp 15) rfl (w.heap.size+1+1) 0 #[Iv 5,Iv 1,.slice (some (Ad nb 0)) N N] rfl rfl ht au (abe _ _ _ _ _) ?_))
  have A:=bX (cs:=[Iv 0,Iv 0,.slice none 0 0]) (aE f.a H.d) (vs:=[Iv 5,Iv 1,.slice (some (Ad nb 0)) N N]) rfl;have E:=run_loadVar_mid (P:=Tryz.prog) (X.setCells (w.heap.size+1+1) 0 [Iv 5,Iv 1,.slice (some (Ad nb 0)) N N]) (w.heap.size+1+1) 0 51 _ _ (aT A) underlying51 rfl au;have R:=HZ.o;refine aG (v:=.agg #[Iv 5,Iv 1,.slice (some (Ad nb 0)) N N]) (by simp[results,results43,E,Act.put,asAddr]) rfl ⟨nb,gu s.2,rfl,?_⟩;exact⟨rfl,rfl,f.B.len,f.b.set (show w.heap.size+1+1<V.heap.size by omega),Z1 j.o.ok j.o.cs f.B,aa9 j.o.ok f.B,aY _ ah _ _ _ (aq H.a f.a)⟩
 by_cases h6:p=6
 ·subst h6
  go_wp2_with (first|(go_at_call 89;refine(HR.o _ H.a).mono ?_;rintro e X ⟨nb,z,rfl,a1,b1,x,a2,a3⟩;have f:=hid (Aa a3 (Aa a1 (Aa b1 (Aa x a2))));clear a1 a2 a3 F x2 y1 y2;have ht:=bO (n:=3) (aE f.a H.d) rfl)|(refine wpList_store_mid rfl 51 (.tmp 6) (.tmp 22) rfl (w.heap.size+1+1) 0 #[Iv 6,Iv 2,.slice (some (Ad nb 0)) N N] rfl rfl ht au (abe _ _ _ _ _) ?_))
  have A:=bX (cs:=[Iv 0,Iv 0,.slice none 0 0]) (aE f.a H.d) (vs:=[Iv 6,Iv 2,.slice (some (Ad nb 0)) N N]) rfl;have E:=run_loadVar_mid (P:=Tryz.prog) (X.setCells (w.heap.size+1+1) 0 [Iv 6,Iv 2,.slice (some (Ad nb 0)) N N]) (w.heap.size+1+1) 0 51 _ _ (aT A) underlying51 rfl au;have R:=HZ.o;refine aG (v:=.agg #[Iv 6,Iv 2,.slice (some (Ad nb 0)) N N]) (by simp[results,results43,E,Act.put,asAddr]) rfl ⟨nb,⟨6,2,z.map (jn P.nv)⟩,rfl,?_⟩;exact⟨rfl,rfl,by rw[br];exact f.c.trans m.o,(HNv.o▸f.b:fU _ _ _ (z.map (jn P.nv))).set (show w.heap.size+1+1<V.heap.size by omega),Z2 j.o.ok j.o.cs j.o.nx (f.c.trans m.o) f.d f.D,abb j.o.ok (f.c.trans m.o) f.d,aY _ ah _ _ _ (aq H.a f.a)⟩
 have K:p<=4:=ah
 go_wp2_with (first|(go_at_call 90;refine(HS.o K _ H.a).mono ?_;rintro e X ⟨nb,l,rfl,a1,a2,a3⟩;have f:=hid (Aa a3 (Aa a1 a2));clear a1 a2 a3 F x2 y1 y2;have ht:=bO (n:=3) (aE f.a H.d) rfl)|(refine wpList_store_mid rfl 51 (.tmp 6) (.tmp 29) rfl (w.heap.size+1+1) 0 #[Iv p,Iv 1,.slice (some (Ad nb 0)) N N] rfl rfl ht au (abe _ _ _ _ _) ?_))
 have A:=bX (cs:=[Iv 0,Iv 0,.slice none 0 0]) (aE f.a H.d) (vs:=[Iv p,Iv 1,.slice (some (Ad nb 0)) N N]) rfl;have E:=run_loadVar_mid (P:=Tryz.prog) (X.setCells (w.heap.size+1+1) 0 [Iv p,Iv 1,.slice (some (Ad nb 0)) N N]) (w.heap.size+1+1) 0 51 _ _ (aT A) underlying51 rfl au;have R:=HZ.o;refine aG (v:=.agg #[Iv p,Iv 1,.slice (some (Ad nb 0)) N N]) (by simp[results,results43,E,Act.put,asAddr]) rfl ⟨nb,⟨p,1,l.map tC⟩,rfl,?_⟩;exact⟨rfl,by rw[aA h6],by rw[br];exact f.c,f.b.set (show w.heap.size+1+1<V.heap.size by omega),QI (KE j.o.ok j.o.nx ⟨hp.1,K⟩) ⟨hp.1,K⟩ f.B,aa8 (QI (KE j.o.ok j.o.nx ⟨hp.1,K⟩) ⟨hp.1,K⟩ f.B).ok K,aY _ ah _ _ _ (aq H.a f.a)⟩
end
open Go.RowKit Go.Proofs Go.Maps Tryz
theorem Oc(g C nc:Nat)(na:Option Addr)(S:List NC)(P:Pm)(c:Ct)(w:World)(hP:PM w g C S P)(L:L9 P)(h:cj w na c.nodes)(d:∀x∈c.nodes,gD x)(u:kq c=true)(J:kB w):
  Cl 45 #[eV g P.nd.length C P.nv,.agg #[Iv c.problem,Iv c.bK,.slice na c.nodes.length nc]] w (Rb w (Iv (fK P c))):=by
 have X:(1<=c.problem/\c.problem<=6)/\(c.bK=1∨c.bK=2)/\c.nodes.length<=60:=by
  unfold kq known at u;simp at u;refine⟨⟨u.1.1.1.1,u.1.1.1.2⟩,?_,u.1.2⟩;rcases u.1.1.2 with h|h
  ·exact aI h
  exact aJ h.1
 have f:c.nodes.length≠P.nd.length->fK P c=6:=by
  intro v;unfold fK kz;rw[eS v];rfl
 have b:Hd (c.nodes.length=P.nd.length->c.problem=5->∀W,Bl w W->Cl 93 #[eV g P.nd.length C P.nv,.agg #[Iv c.problem,Iv c.bK,.slice na P.nd.length nc]] W (Rb W (Iv (fK P c)))):=fun hl t W U=>rG g C nc na S P c W (hP.below U) L.ok L.cs L.op L.nx (h.below U) d u hl t
 have a:Hd (c.nodes.length=P.nd.length->c.problem=6->∀W,Bl w W->Cl 94 #[eV g P.nd.length C P.nv,.agg #[Iv c.problem,Iv c.bK,.slice na P.nd.length nc]] W (Rb W (Iv (fK P c)))):=fun hl t W U=>vK g C nc na S P c W (hP.below U) L.ok L.cs L.op L.nx (h.below U) d u hl t
 have I:Hd (c.nodes.length=P.nd.length->c.problem<=4->∀W,Bl w W->Cl 95 #[eV g P.nd.length C P.nv,.agg #[Iv c.problem,Iv c.bK,.slice na P.nd.length nc]] W (Rb W (Iv (fK P c)))):=fun hl t W U=>zR g C nc na S P c W (hP.below U) L.ok L.nx L.key (h.below U) d u hl ⟨X.1.1,t⟩ X.2.1 (J.below U)
 have A:=L.ok.most;have l:=X.2.2;have k:=X.1;have j:=hid f;clear f hP L h d u J X;generalize fK P c=m at I b a j⊢;generalize c.problem=pr at I b a k⊢;generalize c.bK=gr at I b a⊢;generalize P.nd.length=N at I b a j A⊢;generalize c.nodes.length=M at I b a j l⊢;simp only[eV]at I b a⊢;by_cases hl:M=N;rotate_left
 ·have r:((M:Int)==(N:Int))=false:=by simp;omega
  have i:=j.o hl;clear I b a j;go_enter func45,ntmps45
  go_upto_region 1 with fail
  refine yJ (F:=Code.wp _ _ _ _) fun H R=>?_
  obtain⟨F,y⟩:=ae R.o.1.1;obtain⟨B,o⟩:=ae R.o.1.2
  go_wp2_with fail
  go_ret
  exact⟨by rw[i];rfl,R.o.2.1⟩
 subst hl;have p:=hid (I.o rfl);have n:=hid (b.o rfl);have q:=hid (a.o rfl);clear I b a;go_enter func45,ntmps45
 go_upto_region 1 with fail
 refine yJ (F:=Code.wp _ _ _ _) fun H R=>?_
 obtain⟨F,y⟩:=ae R.o.1.1;obtain⟨B,o⟩:=ae R.o.1.2;by_cases O:pr=5
 ·subst O
  go_wp2_with (go_at_call 93;refine(n.o rfl _ R.o.2.1).mono ?_;rintro e T ⟨rfl,D⟩;have E:=hid D;clear D F y B o)
  go_ret
  exact⟨rfl,aq R.o.2.1 E.o⟩
 by_cases G:pr=6
 ·subst G
  go_wp2_with (go_at_call 94;refine(q.o rfl _ R.o.2.1).mono ?_;rintro e T ⟨rfl,D⟩;have E:=hid D;clear D F y B o)
  go_ret
  exact⟨rfl,aq R.o.2.1 E.o⟩
 have z:pr<=4:=by omega
 have K:=hid (p.o z);clear p n q z k
 go_wp2_with (go_at_call 95;refine(K.o _ R.o.2.1).mono ?_;rintro e T ⟨rfl,D⟩;have E:=hid D;clear D F y B o)
 go_ret
 exact⟨rfl,aq R.o.2.1 E.o⟩
section
variable {c:Ct} {s t:ByteArray} {pl:List PN} {vs:List cC}
def M1(u:kq c=true):∀x∈c.nodes,cy c.problem c.bK x=true:=by
 unfold kq at u;rw[aS,bM]at u;exact u.2
def M3(u:kq c=true):(1<=c.problem/\c.problem<=6)/\(c.bK=1∨c.bK=2)/\c.nodes.length<=60:=by
 unfold kq known at u;simp at u;refine⟨⟨u.1.1.1.1,u.1.1.1.2⟩,?_,u.1.2⟩;rcases u.1.1.2 with h|h
 ·exact aI h
 exact aJ h.1
def wA(s t:ByteArray):Int:=match mN s with
 | .inl false=>1
 | .inl true=>2
 | .inr (pl,vs)=>match dec t.data.toList with
  |none=>5
  |some c=>match mO 0 [] (pl.map PN.bj)with|some ps=>fK (nz pl ps vs.length) c|none=>0
def tG(s t:ByteArray):List Nd:=if wA s t=0 then(match dec t.data.toList with|some c=>c.nodes.map qW|none=>[]) else[]
def Sz{b:Bool}(h:mN s=.inl b):wA s t=(if b then 2 else 1)/\tG s t=[]:=by
 have e:wA s t=(if b then 2 else 1):=by unfold wA;rw[h];cases b<;>rfl
 refine⟨e,?_⟩;unfold tG;rw[e,aA (by cases b<;>decide)]
def SC(h:mN s=Pr.ok pl vs)(hd:dec t.data.toList=none):wA s t=5/\tG s t=[]:=by
 have e:wA s t=5:=by unfold wA;rw[h];simp only[hd]
 refine⟨e,?_⟩;unfold tG;rw[e,aA aj]
def SA{ps:List (cC×Nat)}(h:mN s=Pr.ok pl vs)(hp:mO 0 [] (pl.map PN.bj)=some ps)(hd:dec t.data.toList=some c):wA s t=fK (nz pl ps vs.length) c/\tG s t=if fK (nz pl ps vs.length) c=0 then c.nodes.map qW else[]:=by
 have e:wA s t=fK (nz pl ps vs.length) c:=by unfold wA;rw[h];simp only[hd,hp]
 refine⟨e,?_⟩;unfold tG;rw[e,hd]
end
open Go.RowKit Go.Proofs Go.Maps Tryz
def WE(w:World)(s t:ByteArray)(e:Ending)(w':World):Prop:=∃(cl:List N5) (na:Option Addr) (nc:Nat),e=.returned (.tuple #[.slice na cl.length nc,Iv (wA s t)])/\cl.map N5.n=tG s t/\w'.ownsRow w.heap.size 96 5 (.slice na cl.length nc) cl.length (fq cl)/\(∀x∈cl,fL w' w.heap.size x)/\GK cl/\Bl w w'
def WE.nil{w w':World}{s t:ByteArray}{H:Int}(h:wA s t=H/\tG s t=[])(hb:Bl w w'):WE w s t (.returned (.tuple #[.slice none 0 0,Iv H])) w':=
 ⟨[],none,0,by rw[h.1];rfl,h.2.symm,dF _ _ _ _,fun x E=>(by cases E),List.Pairwise.nil,hb⟩
def fL.mono{W:World}{B B':Nat}{x:N5}(h:fL W B x)(hb:B'<=B):fL W B' x:=⟨bJ h.f hb,bJ h.r hb,bJ h.v hb,h.ap⟩
def UK{c:Ct}(u:kq c=true):∀x∈c.nodes,x.vals.length<=8:=by
 intro x E;have h:=M1 u x E;unfold cy at h;split at h
 ·unfold eO at h
  simp only[aS,jI]at h;rw[h.1.1.2];simp
 split at h
 ·unfold eF at h
  simp only[aS,bm]at h;exact h.1.1.1.2
 unfold j5 at h;simp only[aS,jI]at h;rw[h.2];simp
def He(s t:ByteArray)(w:World)(i:Env w)(J:kB w):Cl 20 #[.string s,.string t] w (WE w s t):=by
 have HT:=hid J;have n:=hid i;clear J i;go_enter func20,ntmps20
 go_wp2_with fail
 refine(uj s w n.o).mono ?_;rintro e T ⟨b1,G⟩;have j?:=hid b1;clear b1;cases K:mN s with
 | inl b=>
  rw[K]at G;have f:=hid (Sz (t:=t) K);clear K;cases b
  ·obtain rfl:=G
   go_wp2_with fail
   exact aG (v:=.tuple #[.slice none 0 0,Iv 1]) (by simp[results,results20,go_sem]) rfl (WE.nil f.o (aq j?.o (aC _ _)))
  obtain rfl:=G
  go_wp2_with fail
  exact aG (v:=.tuple #[.slice none 0 0,Iv 2]) (by simp[results,results20,go_sem]) rfl (WE.nil f.o (aq j?.o (aC _ _)))
 | inr q=>
  obtain⟨X,vs⟩:=q;rw[K]at G;obtain⟨g,cap,S,ps,rfl,hg,u,Yv,p,M⟩:=G;have L:=KZ K p u Yv M;have Y:=CA K p;obtain⟨P,hP⟩:=Ea (nz X ps vs.length);have Z:vs.length=P.nv:=by rw[hP];rfl
  have v:X.length=P.nd.length:=by rw[hP];exact(br _).symm
  rw[<-hP]at L Y;have HP:=hid (Aa L Y);have l:Hd ((dec t.data.toList=none->wA s t=5/\tG s t=[])/\∀c,dec t.data.toList=some c->wA s t=fK P c/\tG s t=if fK P c=0 then c.nodes.map qW else[]):=⟨fun hd=>SC K hd,fun c hd=>by rw[hP];exact SA K p hd⟩;rw[Z,v];clear hg u Yv p M L Y hP Z v K
  go_upto_region 2 with fail
  refine uA (F:=Code.wp _ _ _ _) fun W Wx=>?_
  have j:=hid (Aa (aq j?.o Wx.b) (Aa Wx.a (HP.a.below Wx.b)));clear j? Wx;generalize T.heap.size=pb at j⊢
  go_wp2_with fail
  refine(u0 t W).mono ?_;rintro e r ⟨O,b2⟩;have C:=hid (Aa b2 (Aa (aq j.a b2) (Aa (aE b2 j.b) (j.B.below b2))));clear b2;rcases O with⟨c,cl0,la,A,Q,e2,rfl,N,e5,e6⟩|⟨Q,rfl⟩;rotate_left
  ·have f:=hid (l.a Q)
   clear l Q
   go_wp2_with fail
   exact aG (v:=.tuple #[.slice none 0 0,Iv 5]) (by simp[results,results20,go_sem]) rfl (WE.nil f.o (aq C.b (aC _ _)))
  obtain⟨d1,d2⟩:=N8 Q;obtain⟨d3,_⟩:=uF Q;have hlc:c.nodes.length=cl0.length:=by rw[e2];simp
  have adC:cj r la c.nodes:=by rw[e2];exact uo (by rw[hlc]at N;exact N) (fun x E=>(e5 x E).own)
  have hsm:∀x∈c.nodes,x.facts.length<=100000/\x.vals.length<=1000:=fun x E=>⟨bw (d2 x E).2.1 aj,bw (UK d3 x E) aj⟩
  have m:=hid (Aa adC (Aa (fun x E=>(d2 x E).1) (Aa d3 hsm)));have f:=hid (l.A c Q);clear Q e2 N e5 e6 d2 d3 adC hlc hsm l
  go_upto_region 5 with fail
  refine uA (F:=Code.wp _ _ _ _) fun U k=>?_
  have a:=hid (Aa (aq C.b k.b) (Aa k.a (Aa (aE k.b C.c) (Aa (C.C.below k.b) (m.a.below k.b)))));have oZ:W.heap.size<=U.heap.size:=bw C.a.size k.b.size;clear C k;generalize r.heap.size=cb at a⊢;obtain⟨H,zL⟩:=Ea (fK P c);have HCC:Hd (Cl 45 #[eV g P.nd.length cap P.nv,.agg #[Iv c.problem,Iv c.bK,.slice la c.nodes.length A]] U (Rb U (Iv H))):=by
   rw[zL];exact Oc g cap A la S P c U a.d HP.A a.D m.b m.c (HT.o.below a.a)
  have Ti:Hd (wA s t=H/\tG s t=if H=0 then c.nodes.map qW else[]):=by rw[zL];exact f.o
  clear zL f;simp only[eV]at HCC;obtain⟨F,y⟩:=ae a.b;obtain⟨B,y2⟩:=ae a.c;by_cases o:H=0;rotate_left
  ·have h0i:(H==0)=false:=by simpa using o
   have aeK:Hd (wA s t=H/\tG s t=[]):=⟨Ti.a,by rw[Ti.A,aA o]⟩;clear Ti o
   go_wp2_with (go_at_call 45;refine HCC.o.mono ?_;rintro e h ⟨rfl,D⟩;have R:=hid (aq a.a D);clear D F y B y2)
   exact aG (v:=.tuple #[.slice none 0 0,Iv H]) (by simp[results,results20,go_sem]) rfl (WE.nil aeK.o R.o)
  subst o
  go_upto_region 10 with(go_at_call 45;refine HCC.o.mono ?_;rintro e h ⟨rfl,D⟩;have R:=hid (Aa (aq a.a D) (Aa (aE D a.b) (a.D.below D)));clear D F y B y2)
  obtain⟨F,y⟩:=ae R.b;clear HCC
  go_wp2_with (go_at_call 46;refine(MT la A c.nodes h R.B d1 m.C).mono ?_;rintro e W4 ⟨cl,ra,rc,rfl,q2,q3,q4,q5,q6⟩;have I:=hid (Aa q2 (Aa q3 (Aa q4 (Aa q5 q6))));clear q2 q3 q4 q5 q6 F y)
  have d:c.nodes.length=cl.length:=by have:=dv List.length I.a;simpa using this.symm
  refine aG (v:=.tuple #[.slice ra c.nodes.length rc,Iv 0]) (by simp[results,results20,go_sem]) rfl ⟨cl,ra,rc,?_,?_,?_,?_,I.d,?_⟩
  ·rw[Ti.a,d]
  ·rw[I.a,Ti.A];simp
  ·have:=I.b
   rw[d]at this;exact bJ this R.a.size
  ·exact fun x E=>(I.c x E).mono R.a.size
  exact aq R.a I.D
section
variable {s:ByteArray} {p:Int} {c:Ct}
open Go.RowKit Go.Shelf Go.Proofs Go.Maps Tryz
attribute [local go_sem] Oper.semAt_some
def WG(s:ByteArray)(p:Int)(e:Ending):Prop:=match mN s with
 | .inl b=>e=.returned (.tuple #[.string ⟨#[]⟩,Iv (if b then 2 else 1)])
 | .inr q=>∃ps c,mO 0 [] (q.1.map PN.bj)=some ps/\e=.returned (.tuple #[.string ⟨(ij c).toArray⟩,Iv 0])/\c.problem=p/\c.bK=(if p=6 then 2 else 1)/\Wt (nz q.1 ps q.2.length) p c/\py c
def abG{b:Bool}(h:mN s=.inl b):WG s p (.returned (.tuple #[.string ⟨#[]⟩,Iv (if b then 2 else 1)])):=by unfold WG;rw[h]
def ad9{b:List PN}{vs:List cC}{ps:List (cC×Nat)}(h:mN s=.inr (b,vs))(h1:mO 0 [] (b.map PN.bj)=some ps)(h2:c.problem=p)(h3:c.bK=(if p=6 then 2 else 1))(K:Wt (nz b ps vs.length) p c)(H:py c):WG s p (.returned (.tuple #[.string ⟨(ij c).toArray⟩,Iv 0])):=by
 unfold WG;rw[h];exact⟨ps,c,h1,rfl,h2,h3,K,H⟩
def VZ(h:kq c=true)(hs:(ij c).length<=60000):encR c=(⟨(ij c).toArray⟩,0):=by
 unfold encR enc;rw[h];simp[hs]
def BT(s:ByteArray)(p:Int)(pb:Nat)(pa r:Option Addr)(pl pc O:Nat)(D:List Int)(nr:Int)(w:World)(hE:Env w)(J:kB w)(hp:1<=p/\p<=6)(k:jB w pb (.slice pa pl pc))(z:pb<w.heap.size)(hpl:pl<=200)(hta:cz w r D)(Yq:∀t∈D,eX t)(htl:D.length<=20)(T:0<=nr/\nr<=8):
  Cl 18 #[.string s,Iv p,.agg #[.slice pa pl pc,.slice r D.length O,Iv nr]] w fun e I=>WG s p e/\Bl w I:=by
 have n:=hid hE;have N:=hp.1;have hp6:=hp.2;have E:=T.1;have hn8:=T.2;have HFd:Hd (∀g C nl P W,PM W g C nl P->L9 P->Bl w W->Cl 43 #[eV g P.nd.length C P.nv,Iv p,.agg #[.slice pa pl pc,.slice r D.length O,Iv nr]] W fun e I=>∃nb c,e=.returned (.agg #[Iv p,Iv c.bK,.slice (some (Ad nb 0)) P.nd.length P.nd.length])/\FdC P p nb c W I):=fun g C nl P W G h2 U=>R7 g C pb nl P p pa r pl pc O D nr W G h2 hp (J.below U) (k.keep fun o u h=>ax h U) (by have:=U.size;omega) (hta.below U) Yq (by unfold maxLen;omega) ⟨ah,ah⟩
 have ae3:(pl:Int)<=200:=ah
 have ae1:(D.length:Int)<=20:=ah
 clear hE J k hta Yq T;generalize D.length=tn at *;go_enter func18,ntmps18
 go_upto_region 1 with fail
 refine qA (F:=Code.wp _ _ _ _) fun H R=>?_
 have HE0:Hd (Env H):=n.o.below R.a
 go_wp2_with fail
 refine(uj s H HE0.o).mono ?_;rintro e W1 ⟨b1,G⟩;have j?:=hid b1;clear b1;cases A:mN s with
 | inl b=>
  rw[A]at G;have j:=hid (abG (p:=p) A);clear A;cases b
  ·obtain rfl:=G
   go_wp2_with fail
   exact aG (v:=.tuple #[.string ⟨#[]⟩,Iv 1]) (by simp[results,results18,go_sem]) rfl ⟨j.o,aq (aq R.a j?.o) (aC _ _)⟩
  obtain rfl:=G
  go_wp2_with fail
  exact aG (v:=.tuple #[.string ⟨#[]⟩,Iv 2]) (by simp[results,results18,go_sem]) rfl ⟨j.o,aq (aq R.a j?.o) (aC _ _)⟩
 | inr q=>
  obtain⟨pn,vs⟩:=q;rw[A]at G;obtain⟨g,C,nl,ps,rfl,m,Ru,x,Vo,M⟩:=G;have L:=KZ A Vo Ru x M;have aaO:=CA A Vo;obtain⟨P,hP⟩:=Ea (nz pn ps vs.length);have Z:vs.length=P.nv:=by rw[hP];rfl
  have vD:pn.length=P.nd.length:=by rw[hP];exact(br _).symm
  rw[<-hP]at L aaO;have HOk:Hd (∀c:Ct,c.problem=p->c.bK=(if p=6 then 2 else 1)->Wt P p c->py c->WG s p (.returned (.tuple #[.string ⟨(ij c).toArray⟩,Iv 0]))):=fun c h2 h3 K h5=>ad9 A Vo h2 h3 (hP▸K) h5
  have HF:=hid (fun W (U:Bl W1 W)=>HFd.o g C nl P W (L.below U) aaO (aq (aq R.a j?.o) U));rw[Z,vD];clear m Ru x M L aaO vD A Vo hP HFd Z;simp only[eV]at HF
  go_upto_region 2 with fail
  refine qA (F:=Code.wp _ _ _ _) fun V1 Wx=>?_
  obtain⟨F,x2⟩:=ae Wx.b;obtain⟨B,y2⟩:=ae (aE (aq j?.o Wx.a) R.b)
  go_upto_region 8 with fail
  have HEn:Hd (∀(c:Ct) nb X,FdC P p nb c V1 X->Cl 42 #[.agg #[Iv p,Iv c.bK,.slice (some (Ad nb 0)) P.nd.length P.nd.length]] X (Rb X (.tuple #[.string ⟨(ij c).toArray⟩,Iv 0]))):=fun c nb X h=>by
   have:=JG (some (Ad nb 0)) P.nd.length c X h.at_ h.vC;rw[VZ h.ok.ok h.ok.small,h.pr,h.len]at this;exact this
  go_wp2_with (first|(go_at_call 43;refine(HF.o _ Wx.a).mono ?_;rintro e X ⟨nb,c,rfl,hX⟩;have f:=hid hX;clear hX F x2 B y2)|(go_at_call 42;refine(HEn.o c nb X f.o).mono ?_;rintro e Y ⟨rfl,hY⟩;have l:=hid hY;clear hY))
  exact aG (v:=.tuple #[.string ⟨(ij c).toArray⟩,Iv 0]) (by simp[results,results18,go_sem]) rfl ⟨HOk.o c f.o.pr f.o.gr f.o.ok f.o.vC,aq (aq (aq (aq R.a j?.o) Wx.a) f.o.b) l.o⟩
end
section
variable {P:Pm} {c:Ct} {p:Int}
structure LsC(P:Pm)(p:Int)(c:Ct):Prop where
  pr:c.problem=p
  gr:c.bK=1
  ok:kq c=true
  vC:py c
  Ob:fK P c=0
def lT(h:fK P c=0):kz P c=true:=by
 unfold fK at h;cases V:kz P c with
 |true=>rfl
 |false=>rw[V]at h;simp at h
def LU(h:fK P c=0)(hp:c.problem<=4)(m:c.bK=1):xy P c=true/\ur P c=true:=by
 unfold fK at h;rw[lT h,aA ak,aD hp]at h;cases z:xy P c with
 |false=>rw[z]at h;simp at h
 |true=>
  cases hl:ur P c with
  |true=>exact⟨rfl,rfl⟩
  |false=>rw[z,hl,m]at h;simp at h
def LV(h:fK P c=0)(hp:c.problem=5)(m:c.bK=1):kN P c=true/\oV P c=true:=by
 unfold fK at h;rw[lT h,aA ak,aA ah]at h;cases z:kN P c with
 |false=>rw[z]at h;simp at h
 |true=>
  cases hl:oV P c with
  |true=>exact⟨rfl,rfl⟩
  |false=>rw[z,hl,m]at h;simp at h
def Lh{d:Ct}(Y:mA P)(hp:p<=5)(Z:LsC P p c)(hd:LsC P p d):c.nodes.map qW=d.nodes.map qW:=by
 by_cases K:p<=4
 ·have a:=LU Z.Ob (by rw[Z.pr];exact K) Z.gr
  have b:=LU hd.Ob (by rw[hd.pr];exact K) hd.gr;exact vB (Z.pr.trans hd.pr.symm) (B4 Z.ok (by rw[Z.pr];exact K)) (B4 hd.ok (by rw[hd.pr];exact K)) Z.gr hd.gr (lT Z.Ob) (lT hd.Ob) a.1 b.1 a.2 b.2
 have H:p=5:=ah
 have g:∀{c:Ct},LsC P p c->OZ c P.nv:=fun {c} h=>Yl h.ok (h.pr.trans H) h.vC.nodes (by
  rw[<-C7 h.ok (by rw[h.pr];omega) (yK (lT h.Ob)).1]
  exact lT h.Ob)
 have M:∀{c:Ct},LsC P p c->∀x∈c.nodes,x.rank<((100001:Nat):Int)/\∀v∈x.vals,v.rank<((100001:Nat):Int):=fun {c} h x E=>by
  obtain⟨i,hi⟩:=i!.1 E;have:=(g h).at i;rw[show c.at i=x by unfold Ct.at;rw[cx,hi];rfl]at this;exact⟨by have:=this.2.2.2.1;omega,fun v t=>by have:=(this.2.1 v t).2.2;omega⟩
 have a:=LV Z.Ob (Z.pr.trans H) Z.gr;have b:=LV hd.Ob (hd.pr.trans H) hd.gr;exact yr Y (g Z).env (g hd).env (lT Z.Ob) (lT hd.Ob) a.1 b.1 a.2 b.2 (M Z) (M hd)
def S9{s:ByteArray}{b:List PN}{vs:List cC}{ps:List (cC×Nat)}(h:mN s=Pr.ok b vs)(h1:mO 0 [] (b.map PN.bj)=some ps)(K:Wt (nz b ps vs.length) p c)(H:py c):wA s ⟨(ij c).toArray⟩=0/\tG s ⟨(ij c).toArray⟩=c.nodes.map qW:=by
 have hd:dec (⟨(ij c).toArray⟩:ByteArray).data.toList=some c:=by
  show dec (ij c).toArray.toList=some c;rw[List.toList_toArray];exact Di K.ok H K.small
 have:=SA h h1 hd;rw[K.Ob]at this;exact⟨this.1,by rw[this.2,aD rfl]⟩
end
open Go.RowKit Go.Proofs Go.Maps Tryz
def DS{x:Int}(h:-9223372036854775808<=x/\x<=9223372036854775807):wrap64 x=x:=by unfold wrap64;omega
def D5{d n:Int}(hd:0<=d)(hn:0<n):0<=d.tmod n/\d.tmod n<n:=by
 rw[Int.tmod_eq_emod_of_nonneg hd];exact⟨Int.emod_nonneg _ ah,Int.emod_lt_of_pos _ hn⟩
def AW(c n:Int)(w:World)(Z:-9223372036854775808<=c/\c<=9223372036854775807)(hn:0<n/\n<=3000):
  Cl 16 #[Iv c,Iv n] w fun e I=>I=w/\∃r:Nat,e=.returned (Iv r)/\(r:Int)<n:=by
 have E:¬n=0:=ah
 by_cases h:c<0
 ·have C:decide (c<0)=true:=eT h
  obtain⟨G,O⟩:=D5 (d:=-(c+1)) (n:=n) ah hn.1;have H:Hd ((wrap64 (-(wrap64 (c+1)))).tmod n=(-(c+1)).tmod n):=by
   show _=_;rw[DS (x:=c+1) ah,DS (x:=-(c+1)) ah]
  have X:Hd (0<=(-(c+1)).tmod n/\(-(c+1)).tmod n<n):=⟨G,O⟩;clear h G O;go_enter func16,ntmps16
  go_wp2
  go_ret
  refine⟨rfl,((-(c+1)).tmod n).toNat,?_,?_⟩
  ·rw[G4 X.a,<-H.o];rfl
  have:=X.o;omega
 have C:decide (c<0)=false:=eS h;obtain⟨G,O⟩:=D5 (d:=c) (n:=n) ah hn.1;have X:Hd (0<=c.tmod n/\c.tmod n<n):=⟨G,O⟩;clear h G O;go_enter func16,ntmps16
 go_wp2
 go_ret
 refine⟨rfl,(c.tmod n).toNat,?_,?_⟩
 ·rw[G4 X.a];rfl
 have:=X.o;omega
section
variable {p:Prop}
open Go.RowKit Go.Shelf Go.Proofs Go.Maps Tryz
attribute [local go_sem] Oper.semAt_some
abbrev D4(a b:Value)(r:Nat):Obj:=.cells #[a,b,Iv r] 38 (0,0)
def Jg:(Tryz.prog.info? 2).map (fun i=>(i.zero,i.size,i.bytes))=some (some (Iv 0),1,8):=au
def Ap{ps:List Int}{j:Nat}{x:Int}(h:ps[j]?=some x):(ps.take (j+1)).map Iv=(ps.take j).map Iv++[Iv x]:=by
 have hl:=(bn.1 h).1;rw[dS hl,(bn.1 h).2,iq];rfl
def tn3(x y:Option Addr)(j c i d:Nat)(r:Int):(#[Value.slice x j c,.slice y i d,Iv r]).all (·.oneCell')=true:=all_oneCell_toArray (cs:=[Value.slice x j c,.slice y i d,Iv r]) (by
 intro u E;simp only[cQ,gM,ga]at E
 rcases E with rfl|rfl|rfl<;>rfl)
def Y0 (h :p:=by
            go_wp2_with (first|(refine wpList_load_mid rfl 38 (.tmp 7) rfl (w.heap.size+1) 0 rfl [.slice a j c,.slice a2 i c2,Iv r] _ Nz underlying38 rfl au ?_)|(refine wpList_store_mid rfl 38 (.tmp 6) (.tmp 51) rfl w.heap.size 0 #[.slice a j c,.slice a2 i c2,Iv r] rfl rfl ht au (tn3 _ _ _ _ _ _ _) ?_))
            have hq:=bX (cs:=[.slice none 0 0,.slice none 0 0,Iv 0]) HW.o (vs:=[.slice a j c,.slice a2 i c2,Iv r]) rfl;have E:=run_loadVar_mid (P:=Tryz.prog) (wr.setCells w.heap.size 0 [.slice a j c,.slice a2 i c2,Iv r]) w.heap.size 0 38 _ _ (aT hq) underlying38 rfl au;refine aG (v:=.agg #[.slice a j c,.slice a2 i c2,Iv r]) (by simp[results,results19,E,Act.put,asAddr]) rfl ⟨.slice a j c,.slice a2 i c2,r,rfl,ah,?_,?_,aY _ (aF _) _ _ _ HQ.d⟩
            · have h1:=HL.b
              have e:=HT1.A;rw[dL]at e;rw[HT1.a,List.map_take]at h1;rw[e];exact⟨h1.1,h1.2.imp id fun⟨g,C,A,k1,k2,M,U⟩=>⟨g,C,A,k1,ah,(dc _ _ _ _ _ ah).trans ((HQ.c g (by have:=blt M;omega) ah).trans M),U⟩⟩
            · have h1:=HQ.b
              have e:=HT2.A;rw[dL]at e;rw[HT2.a,List.map_take]at h1;rw[e]
              exact⟨h1.1,h1.2.imp id fun⟨g,C,A,k1,k2,M,U⟩=>⟨g,C,A,k1,ah,(dc _ _ _ _ _ ah).trans M,U⟩⟩):p:=h
def YZ (h :p:=by
      go_loopw[9] (fun iv F=>∃(i:Nat) (a2:Option Addr) (c2:Nat),i<=n/\i<=20/\iv=Iv i/\Hd (F.heap[w.heap.size+1]?=some (D4 (.slice a j c) (.slice a2 i c2) r)/\F.ownsRow B2 2 1 (.slice a2 i c2) i ((ts.take i).map Iv)/\(∀q,q<B2->q≠w.heap.size+1->F.heap[q]?=W5.heap[q]?)/\Below w.heap.size w F/\B2<=F.heap.size)) (fun iv _=>n-(intOf iv).toNat)
      case atStart=>exact⟨0,none,0,bB _,ah,rfl,HL.a,dF _ _ _ _,fun _ _ _=>rfl,HL.d,ah⟩
      case round=>
        obtain⟨i,a2,c2,hi,s,rfl,HQ⟩:=hrel;by_cases v?:i<n/\i<20
        · obtain⟨hl3,hl4⟩:=v?
          have ig:(i:Int)<n:=ah
          have aeu:(i:Int)<20:=ah
          obtain⟨x,hx⟩:=La (l:=ts) (i:=i) (by rw[<-HM.A];exact hl3);obtain⟨b,o,rfl,c0⟩:=H0.A i x hx;have HNx:=hid (Ap hx);have Zc:=hid (ax c0 HQ.d);have hbl:b<w.heap.size:=dQ c0;clear c0 hx
          go_upto_region 9 with fail
          refine st (fun W'=>W'.heap[w.heap.size+1]?=some (D4 (.slice a j c) (.slice a2 i c2) r)/\e' W' b (o+i) (Iv x)) 8 (hS:=⟨HQ.a,Zc.o⟩) (h:=fun aB=>?_);refine tt 0 (.pointer (some (Ad (w.heap.size+1) 1))) (h:=?_);refine tt 1 (.slice a2 i c2) (y:=fun W' aU=>by have k1:=(ae aU.1).1;clear aB aU;go_simp) (h:=?_);refine tt 2 (.slice (some (Ad b o)) n tc) (h:=?_);refine tt 3 (Iv i) (h:=?_);refine tt 4 (.pointer (some (Ad b (o+i)))) (h:=?_);refine tt 5 (Iv x) (y:=fun W' aU=>by have k1:=aU.2;clear aB aU;go_simp) (h:=?_);refine rt 6 (h:=fun K hK=>?_)
          go_simp
          refine hK.out _ _ (fun _=>⟨aE (aC wr.drew _) aB.1,ax aB.2 (aC wr.drew _)⟩) ?_;clear hK K;refine pt ?_;refine LH (F:=fun V=>pz _ _ _ _ _ _ _ _ _ V) fun T HT=>?_
          have HF:=hid (bp HQ.b HT.A);have hzT:B2<=T.heap.size:=bw HQ.D HT.A.size;refine rt 7 (h:=fun K hK=>?_);refine e9 rfl (.tmp 43) (.tmp 48) 23 rfl B2 2 i1 (Iv 0) 1 8 underlying23 HI1.a HI1.b HI1.c HI1.C rfl aj (.slice a2 i c2) i ((ts.take i).map Iv) rfl HF.o (Ad wr.heap.size 0) 1 1 [Iv x] rfl rfl (K5 HT.a) (by intro u hu;rw[ja.1 hu];rfl) (by unfold maxLen;omega) ah hzT ?_;intro v7 W7 o7 g7 n7;obtain⟨a7,c7,rfl⟩:=bS o7;have uy:∀q,q<B2->some q≠(Value.slice a2 i c2).ownBlock:=fun q hq e=>by have:=(HF.o.lt q e.symm).1;omega
          have qk:∀q,q<B2->W7.heap[q]?=wr.heap[q]?:=fun q hq=>(g7.block q (fD hq hzT) (uy q hq)).trans (HT.A.block q (fD hq HQ.D))
          have H7:=hid (Aa ((qk (w.heap.size+1) ah).trans HQ.a) (Aa qk (Aa o7 (Aa (show Below B2 wr W7 from(HT.A.mono HQ.D).grown g7 hzT (fun q e=>(HF.o.lt q e).1)) g7.size))));refine hK.out _ _ (fun _=>⟨H7.a,(dC (qk b ah)).trans Zc.o⟩) ?_;clear hK K o7 g7 n7 uy qk aB;refine pt ?_;refine rt 8 (h:=fun K hK=>?_)
          go_simp
          refine hK.out _ _ (fun h=>absurd h aj) ?_;clear hK K;refine pt ?_;refine rt 9 (h:=fun K hK=>?_);have k1:=(ae H7.a).1;have k2:=(ae H7.a).2 1
          go_simp
          refine hK.out _ _ (fun h=>absurd h aj) ?_;clear hK K k1 k2;refine pt ?_;refine dt (h:=?_);have HY:Hd ((W7.setCell (Ad (w.heap.size+1) 1) (dH a7 i c7)).heap[w.heap.size+1]?=some (D4 (.slice a j c) (dH a7 i c7) r)/\(W7.setCell (Ad (w.heap.size+1) 1) (dH a7 i c7)).ownsRow B2 2 1 (dH a7 i c7) (i+1) ((ts.take (i+1)).map Iv)/\(∀q,q<B2->q≠w.heap.size+1->(W7.setCell (Ad (w.heap.size+1) 1) (dH a7 i c7)).heap[q]?=W5.heap[q]?)/\Below w.heap.size w (W7.setCell (Ad (w.heap.size+1) 1) (dH a7 i c7))/\B2<=(W7.setCell (Ad (w.heap.size+1) 1) (dH a7 i c7)).heap.size):=by
            refine⟨by rw[aw H7.a];rfl,by rw[HNx.o];exact nB H7.c H7.a aj,fun q h1 h2=>(aZ _ _ _ _ h2).trans ((H7.b q h1).trans (HQ.c q h1 h2)),(HQ.d.trans (H7.d.mono ah)).setCell (Nat.le_succ _) _,?_⟩;have:=H7.D;have e:(W7.setCell (Ad (w.heap.size+1) 1) (dH a7 i c7)).heap.size=W7.heap.size:=by simp[World.setCell]
            rw[e];omega
          generalize W7.setCell (Ad (w.heap.size+1) 1) (dH a7 i c7)=Y at HY⊢
          go_wp2_with fail
          go_roundw
          case rel=>exact⟨i+1,a7,c7,hl3,hl4,h',HY.o⟩
          case measure=>simp[intOf];omega
        · have HT2:Hd (ts.take i=ts.take 20/\(ts.take 20).length=i):=by
            have:=HM.A;rcases iw i n with h|h
            · obtain rfl:i=20:=ah
              exact⟨rfl,by rw[dL];omega⟩
            · exact⟨by rw[cP ah,cP ah],by rw[dL];omega⟩
          have l:=(HQ.c w.heap.size ah ah).trans HL.c;have Nz:=aT (cs:=[.slice a j c,.slice a2 i c2,Iv r]) HQ.a;have ht:=bO (n:=3) l rfl;have HW:=hid l;clear l;have f:(i:Int)<n->¬(i:Int)<20:=ah
          by_cases R:(i:Int)<n
          · have t:=f R
            exact Y0
          · exact Y0):p:=h
def JY(X ta:Option Addr)(Z tc:Nat)(ps ts:List Int)(G:Int)(w:World)(h1:cz w X ps)(h2:cz w ta ts)(F:ps.length<=maxLen)(A:ts.length<=maxLen)(hn:eX G):
  Cl 19 #[.slice X ps.length Z,.slice ta ts.length tc,Iv G] w fun e I=>∃(a b:Value) (r:Nat),e=.returned (.agg #[a,b,Iv r])/\r<=8/\I.ownsRow w.heap.size 3 1 a (ps.take 200).length ((ps.take 200).map Iv)/\I.ownsRow w.heap.size 2 1 b (ts.take 20).length ((ts.take 20).map Iv)/\Below w.heap.size w I:=by
 have C:=hid (fun W=>AW G 9 W hn ah);have H0:=hid (Aa h1 h2);obtain⟨L,t,s,E,N⟩:=cY sP;have f:Hd (_/\_/\_/\_):=⟨t,s,E,N⟩;obtain⟨i1,J,U,B,hj3⟩:=cY Jg;have HI1:Hd (_/\_/\_/\_):=⟨J,U,B,hj3⟩;obtain⟨m,hm⟩:=Ea ps.length;obtain⟨n,z⟩:=Ea ts.length;rw[<-hm]at F⊢;rw[<-z]at A⊢;have HM:=hid (Aa hm z);unfold maxLen at F A;clear h1 h2 hm z t s E N J U B hj3;go_enter func19,ntmps19
 go_upto_region 1 with fail
 refine qA (F:=Code.wp _ _ _ _) fun W0 R=>?_
 go_upto_region 2 with(go_at_call 16;refine(C.o _).mono ?_;rintro e W1 ⟨rfl,r,rfl,hr⟩)
 refine qA (F:=Code.wp _ _ _ _) fun V H=>?_
 have HZ:=hid (Aa R.B H.B);have D:=R.B;have fV:=H.b;rw[D]at fV⊢;clear D
 go_wp2_with fail
 have O:=HZ.o
 go_loopw[8] (fun iv wr=>∃(j:Nat) (a:Option Addr) (c:Nat),j<=m/\j<=200/\iv=Iv j/\Hd (wr.heap[w.heap.size+1]?=some (D4 (.slice a j c) (.slice none 0 0) r)/\wr.ownsRow V.heap.size 3 1 (.slice a j c) j ((ps.take j).map Iv)/\wr.heap[w.heap.size]?=some (D4 (.slice none 0 0) (.slice none 0 0) 0)/\Below w.heap.size w wr/\V.heap.size<=wr.heap.size)) (fun iv _=>m-(intOf iv).toNat)
 case atStart=>exact⟨0,none,0,bB _,ah,rfl,fV,dF _ _ _ _,aE H.a R.b,aq R.a H.a,aF _⟩
 obtain⟨j,a,c,hj,B,rfl,M⟩:=hrel;by_cases v?:j<m/\j<200;rotate_left
 ·have HL:=hid (Aa M.a (Aa M.b (Aa M.c (Aa M.d M.D))));obtain⟨B2,hB2⟩:=Ea wr.heap.size;have hVB:=M.D;have HT1:Hd (ps.take j=ps.take 200/\(ps.take 200).length=j):=by
   have:=HM.a;rcases iw j m with h|h
   ·obtain rfl:j=200:=ah
    exact⟨rfl,by rw[dL];omega⟩
   exact⟨by rw[cP ah,cP ah],by rw[dL];omega⟩
  clear M;generalize wr=W5 at *;by_cases hmm:j<m
  ·have ig:(j:Int)<m:=ah
   have h2i:¬(j:Int)<200:=ah
   go_wp2_with fail
   exact YZ
  have ig:¬(j:Int)<m:=ah
  go_wp2_with fail
  exact YZ
 obtain⟨hl3,hl4⟩:=v?;have ig:(j:Int)<m:=ah
 have aeu:(j:Int)<200:=ah
 obtain⟨x,hx⟩:=La (l:=ps) (i:=j) (by rw[<-HM.a];exact hl3);obtain⟨b,o,rfl,c0⟩:=H0.a j x hx;have HNx:=hid (Ap hx);have Zc:=hid (ax c0 M.d);have hbl:b<w.heap.size:=dQ c0;clear c0 hx
 go_upto_region 5 with fail
 refine st (fun W'=>W'.heap[w.heap.size+1]?=some (D4 (.slice a j c) (.slice none 0 0) r)/\e' W' b (o+j) (Iv x)) 8 (hS:=⟨M.a,Zc.o⟩) (h:=fun aB=>?_);refine tt 0 (.pointer (cM w.heap.size)) (h:=?_);refine tt 1 (.slice a j c) (y:=fun W' aU=>by have k1:=(ae aU.1).1;clear aB aU;go_simp) (h:=?_);refine tt 2 (.slice (some (Ad b o)) m Z) (h:=?_);refine tt 3 (Iv j) (h:=?_);refine tt 4 (.pointer (some (Ad b (o+j)))) (h:=?_);refine tt 5 (Iv x) (y:=fun W' aU=>by have k1:=aU.2;clear aB aU;go_simp) (h:=?_);refine rt 6 (h:=fun K hK=>?_)
 go_simp
 refine hK.out _ _ (fun _=>⟨aE (aC wr.drew _) aB.1,ax aB.2 (aC wr.drew _)⟩) ?_;clear hK K;refine pt ?_;refine LH (F:=fun V=>pz _ _ _ _ _ _ _ _ _ V) fun T HT=>?_
 have HF:=hid (bp M.b HT.A);have hzT:V.heap.size<=T.heap.size:=bw M.D HT.A.size;have l:w.heap.size+1<V.heap.size:=ah
 refine rt 7 (h:=fun K hK=>?_);refine e9 rfl (.tmp 24) (.tmp 29) 36 rfl V.heap.size 3 L (Iv 0) 1 8 underlying36 f.a f.b f.c f.C rfl aj (.slice a j c) j ((ps.take j).map Iv) rfl HF.o (Ad wr.heap.size 0) 1 1 [Iv x] rfl rfl (K5 HT.a) (by intro u hu;rw[ja.1 hu];rfl) (by unfold maxLen;omega) ah hzT ?_;intro v7 W7 o7 g7 n7;obtain⟨a7,c7,rfl⟩:=bS o7;have uy:∀q,q<V.heap.size->some q≠(Value.slice a j c).ownBlock:=fun q hq e=>by have:=(HF.o.lt q e.symm).1;omega
 have qk:∀q,q<V.heap.size->W7.heap[q]?=wr.heap[q]?:=fun q hq=>(g7.block q (fD hq hzT) (uy q hq)).trans (HT.A.block q (fD hq M.D))
 have H7:=hid (Aa ((qk (w.heap.size+1) l).trans M.a) (Aa ((qk w.heap.size ah).trans M.c) (Aa o7 (Aa (show Below V.heap.size wr W7 from(HT.A.mono M.D).grown g7 hzT (fun q e=>(HF.o.lt q e).1)) g7.size))));refine hK.out _ _ (fun _=>⟨H7.a,(dC (qk b ah)).trans Zc.o⟩) ?_;clear hK K o7 g7 n7 uy qk aB;refine pt ?_;refine rt 8 (h:=fun K hK=>?_)
 go_simp
 refine hK.out _ _ (fun h=>absurd h aj) ?_;clear hK K;refine pt ?_;refine rt 9 (h:=fun K hK=>?_);have k1:=(ae H7.a).1;have k2:=(ae H7.a).2 0
 go_simp
 refine hK.out _ _ (fun h=>absurd h aj) ?_;clear hK K k1 k2;refine pt ?_;refine dt (h:=?_);have HY:Hd ((W7.setCell (Ad (w.heap.size+1) 0) (dH a7 j c7)).heap[w.heap.size+1]?=some (D4 (dH a7 j c7) (.slice none 0 0) r)/\(W7.setCell (Ad (w.heap.size+1) 0) (dH a7 j c7)).ownsRow V.heap.size 3 1 (dH a7 j c7) (j+1) ((ps.take (j+1)).map Iv)/\(W7.setCell (Ad (w.heap.size+1) 0) (dH a7 j c7)).heap[w.heap.size]?=some (D4 (.slice none 0 0) (.slice none 0 0) 0)/\Below w.heap.size w (W7.setCell (Ad (w.heap.size+1) 0) (dH a7 j c7))/\V.heap.size<=(W7.setCell (Ad (w.heap.size+1) 0) (dH a7 j c7)).heap.size):=by
  refine⟨by rw[aw H7.a];rfl,by rw[HNx.o];exact nB H7.c H7.a aj,(aZ _ _ _ _ (by show w.heap.size≠w.heap.size+1;omega)).trans H7.b,(M.d.trans (H7.d.mono ah)).setCell (Nat.le_succ _) _,?_⟩;have:=H7.D;have e:(W7.setCell (Ad (w.heap.size+1) 0) (dH a7 j c7)).heap.size=W7.heap.size:=by simp[World.setCell]
  rw[e];omega
 generalize W7.setCell (Ad (w.heap.size+1) 0) (dH a7 j c7)=Y at HY⊢
 go_wp2_with fail
 go_roundw
 case rel=>exact⟨j+1,a7,c7,hl3,hl4,h',HY.o⟩
 simp[intOf];omega
end
section
variable {w w':World} {B c n:Nat} {e:Ending} {a:Option Addr} {M:List Int} {s t:ByteArray}
open Go.RowKit Go.Shelf Go.Proofs Go.Maps Tryz
def Ml(w:World)(i:Env w):Cl 15 #[] w (Rb w (.bool true)):=by
 have hP:Cl 17 #[.string ⟨#[108,58,32,120,32,61,32,105,110,112,117,116,10,32,105,102,32,120,32,60,32,49,48,32,103,111,116,111,32,108,10,32,111,117,116,112,117,116,32,120,10,114,101,116,117,114,110]⟩] w (Rb w (.tuple #[.string exO,Iv 0])):=by
  have:=xl R9 w i;rw[R!.1,R!.2]at this;exact this
 have H:(exO.toList==[108,58,32,120,32,61,32,105,110,112,117,116,10,105,102,32,120,32,60,32,49,48,32,103,111,116,111,32,108,10,111,117,116,112,117,116,32,120,10,114,101,116,117,114,110,10])=true:=by rw[oz];rfl
 go_enter func15,ntmps15
 go_wp2_with (go_at_call 17;refine hP.mono ?_;rintro e T ⟨rfl,A⟩)
 go_ret
 exact⟨rfl,A⟩
def A5{e:Nat}(h:w.ownsRow B e 1 (.slice a n c) n (M.map Iv)):cz w a M/\n=M.length/\n<=c/\c<=maxLen:=by
 have G:=h.1;rw[br,BK]at G;rcases h.2 with⟨t,o⟩|⟨g,C,A,t,_,_,L,R,_⟩
 ·simp at t
  refine⟨fun j x U=>?_,G.symm,ah,by unfold maxLen;omega⟩;have:=(bn.1 U).1;omega
 simp at t;obtain⟨rfl,rfl⟩:=t;refine⟨fun j x U=>⟨g,0,rfl,?_⟩,G.symm,L,R⟩;have:=h.cells (g:=g) rfl j (Iv x) (by rw[bG,U];rfl)
 rwa[gw]at this
def ZS(h:w.ownsRow B 3 1 (.slice a n c) n (M.map Iv))(hx:∀x∈M,eX x)(h0:0<w.heap.size):∃q,q<w.heap.size/\jB w q (.slice a n c):=by
 obtain⟨hi,J,Z,C⟩:=A5 h;subst J;rcases M with _|⟨y,g⟩
 ·exact⟨0,h0,a,[],c,rfl,Z,C,fun j x U=>by simp at U⟩
 obtain⟨b,o,rfl,k⟩:=hi 0 y rfl;refine⟨b,dQ k,_,y :: g,c,rfl,Z,C,fun j x U=>?_⟩;obtain⟨m,f,e,d⟩:=hi j x U;cases e;exact⟨o,rfl,hx x (aL U),d⟩
def WE.at_(h:WE w s t e w'):∃(g:Option Addr) (nc:Nat),e=.returned (.tuple #[.slice g (tG s t).length nc,Iv (wA s t)])/\cj w' g (tG s t)/\Bl w w':=by
 obtain⟨R,g,nc,rfl,O,Y,K,H,a⟩:=h;have hl:R.length=(tG s t).length:=by rw[<-O];simp
 refine⟨g,nc,by rw[hl],?_,a⟩;rw[<-O];exact uo Y (fun x E=>(K x E).own)
def ad3(h:DcR w w' s e):∃(p g:Int) (t:Option Addr) (n A:Nat) (H:Int),e=.returned (.tuple #[.agg #[Iv p,Iv g,.slice t n A],Iv H])/\∀c,dec s.data.toList=some c->p=c.problem/\g=c.bK:=by
 rcases h with⟨c,R,t,A,Q,z,rfl,N,m,b⟩|⟨Q,rfl⟩
 ·exact⟨_,_,t,_,A,0,rfl,fun d hd=>by rw[Q]at hd;cases hd;exact⟨rfl,rfl⟩⟩
 exact⟨0,0,none,0,0,5,rfl,fun d hd=>by rw[Q]at hd;cases hd⟩
def ZR{n:Nd}(h:gD n):gD (qW n):=by
 refine⟨h.facts,fun f V=>(by cases V),hZ,fun v t=>?_,h.fsz,by simp[qW],by simpa[qW]using h.vsz⟩;obtain⟨u,E,rfl⟩:=bP.1 t;obtain⟨a,b,c,_,_⟩:=h.vals u E;exact⟨a,b,c,hZ,hZ⟩
def SB{p:Int}{b:List PN}{vs:List cC}{ps:List (cC×Nat)}{c:Ct}(h:mN s=Pr.ok b vs)(h1:mO 0 [] (b.map PN.bj)=some ps)(hp:p<=5)(Z:LsC (nz b ps vs.length) p c)(h0:wA s t=0):∃d,dec t.data.toList=some d/\(d.bK=1->d.problem=p->tG s t=c.nodes.map qW):=by
 cases hd:dec t.data.toList with
 |none=>rw[(SC h hd).1]at h0;cases h0
 |some d=>
  refine⟨d,rfl,fun m B=>?_⟩;have k:=SA h h1 hd;rw[h0]at k;rw[k.2,aD k.1.symm];obtain⟨l,_,_,Q⟩:=uF hd;exact Lh (CA h h1).cs hp ⟨B,m,l,Q,k.1.symm⟩ Z
end
section
variable {s:ByteArray} {p:Int}
open Go.RowKit Go.Shelf Go.Proofs Go.Maps Tryz
def AnX(s:ByteArray)(p:Int)(x:ByteArray):Prop:=∀pn vs,mN s=Pr.ok pn vs->∃ps c,mO 0 [] (pn.map PN.bj)=some ps/\x=⟨(ij c).toArray⟩/\c.problem=p/\c.bK=(if p=6 then 2 else 1)/\Wt (nz pn ps vs.length) p c/\py c
def WG.at_{e:Ending}(h:WG s p e):∃x,e=.returned (.tuple #[.string x,Iv (zB s)])/\AnX s p x:=by
 unfold WG at h;cases A:mN s with
 |inl b=>
  rw[A]at h;refine⟨⟨#[]⟩,?_,fun a vs O=>by rw[A]at O;cases O⟩;rw[show zB s=if b then 2 else 1 by unfold zB;rw[A];cases b<;>rfl];exact h
 |inr q=>
  rw[A]at h;obtain⟨ps,c,G,O,Y⟩:=h;refine⟨_,by rw[show zB s=0 by unfold zB;rw[A]];exact O,fun a vs K=>?_⟩;rw[A]at K;cases K;exact⟨ps,c,G,rfl,Y⟩
def abj{t:ByteArray}(h:zB s≠0):wA s t=zB s:=by
 cases A:mN s with
 |inl b=>rw[(Sz A).1];unfold zB;rw[A];cases b<;>rfl
 |inr q=>exfalso;apply h;unfold zB;rw[A]
def YU{x:ByteArray}(h0:zB s=0)(hx:AnX s p x):∃a vs ps c,mN s=Pr.ok a vs/\mO 0 [] (a.map PN.bj)=some ps/\wA s x=0/\tG s x=c.nodes.map qW/\(∀n∈tG s x,gD n)/\(tG s x).length<=60/\(p<=5->LsC (nz a ps vs.length) p c):=by
 cases A:mN s with
 |inl b=>exfalso;unfold zB at h0;rw[A]at h0;cases b<;>cases h0
 | inr q=>
  obtain⟨a,vs⟩:=q;obtain⟨ps,c,G,rfl,Y,K,H,E⟩:=hx a vs A;obtain⟨L,R⟩:=S9 A G H E;refine⟨a,vs,ps,c,rfl,G,L,R,fun n J=>?_,?_,fun d=>⟨Y,by rw[K,aA ah],H.ok,E,H.Ob⟩⟩
  ·rw[R]at J
   obtain⟨m,C,rfl⟩:=bP.1 J;exact ZR (E.nodes m C)
  rw[R,br];exact(M3 H.ok).2.2
def Mh(s t:ByteArray)(pr G:Int)(X ta:Option Addr)(Z O:Nat)(ps D:List Int)(w:World)(i:Env w)(J:kB w)(h1:cz w X ps)(h2:cz w ta D)(hl1:ps.length<=maxLen)(hl2:D.length<=maxLen)(hps:∀x∈ps,eX x)(Y:∀x∈D,eX x)(hpr:eX pr)(hnr:eX G):
  Cl 7 #[.string s,Iv pr,.slice X ps.length Z,.slice ta D.length O,Iv G,.string t] w (Rb w (.bool true)):=by
 have HE:=hid i;have C:=hid (fun W=>AW pr 6 W hpr ah);have Ze:=hid (fun W (hW:Bl w W)=>JY X ta Z O ps D G W (h1.below hW) (h2.below hW) hl1 hl2 hnr);obtain⟨H,zL⟩:=Ea (zB s);have HPr:Hd (∀W,Bl w W->Cl 17 #[.string s] W (Rb W (.tuple #[.string (Ts s),Iv H]))):=fun W hW=>by rw[zL];exact xl s W (i.below hW)
 have HAn:Hd (∀W (a b:Value) (r:Nat) (p:Int) (B:Nat) (M ys:List Int),Bl w W->1<=p->p<=6->r<=8->W.ownsRow B 3 1 a M.length (M.map Iv)->W.ownsRow B 2 1 b ys.length (ys.map Iv)->(∀x∈M,eX x)->(∀x∈ys,eX x)->M.length<=200->ys.length<=20->Cl 18 #[.string s,Iv p,.agg #[a,b,Iv r]] W fun e I=>(∃x,e=.returned (.tuple #[.string x,Iv H])/\AnX s p x)/\Bl W I):=by
  intro W a b r p B M ys hW N hp6 hr y hb E hy lx ly;obtain⟨a1,c1,rfl⟩:=bS y;obtain⟨u,d1,rfl⟩:=bS hb;have hEW:=i.below hW;obtain⟨pb,z,A?⟩:=ZS y E (by obtain⟨⟨te,pe,hc⟩,_⟩:=hEW;have:=dQ hc;omega);rw[zL];exact(BT s p pb a1 u M.length c1 d1 ys r W hEW (J.below hW) ⟨N,hp6⟩ A? z lx (A5 hb).1 hy ly ah).mono fun e I h=>⟨h.1.at_,h.2⟩
 have HCk:Hd (∀x W,Bl w W->Cl 20 #[.string s,.string x] W fun e I=>∃(na:Option Addr) (nc:Nat),e=.returned (.tuple #[.slice na (tG s x).length nc,Iv (wA s x)])/\cj I na (tG s x)/\Bl W I):=fun x W hW=>(He s x W (i.below hW) (J.below hW)).mono fun e I h=>h.at_
 have aec:Hd (∀W (p:Int),Bl w W->1<=p->p<=6->Cl 18 #[.string s,Iv p,.agg #[.slice none 0 0,.slice none 0 0,Iv 0]] W fun e I=>(∃x,e=.returned (.tuple #[.string x,Iv H])/\AnX s p x)/\Bl W I):=fun W p hW h1 h6=>HAn.o W _ _ 0 p 0 [] [] hW h1 h6 ah (dF _ _ _ _) (dF _ _ _ _) ak ak ak ak
 have aeb:Hd (∀W (p:Int) (a b:Value) (r:Nat) B,Bl w W->1<=p->p<=6->r<=8->W.ownsRow B 3 1 a (ps.take 200).length ((ps.take 200).map Iv)->W.ownsRow B 2 1 b (D.take 20).length ((D.take 20).map Iv)->Cl 18 #[.string s,Iv p,.agg #[a,b,Iv r]] W fun e I=>(∃x,e=.returned (.tuple #[.string x,Iv H])/\AnX s p x)/\Bl W I):=fun W p a b r B hW h1 h6 A y hb=>HAn.o W a b r p B _ _ hW h1 h6 A y hb (fun x E=>hps x (lZ E)) (fun x E=>Y x (lZ E)) (List.length_take_le _ _) (List.length_take_le _ _)
 have Ti:=hid zL;clear i J h1 h2 hps Y hpr hnr HAn zL;generalize ps.length=pl at *;generalize D.length=tl at *;go_enter func7,ntmps7
 go_upto_region 3 with(first|(go_at_call 15;refine(Ml w HE.o).mono ?_;rintro e W1 ⟨rfl,u⟩;have q:=hid u;clear u)|(go_at_call 16;refine(C.o W1).mono ?_;rintro e W2 ⟨rfl,r,rfl,hr⟩))
 generalize hk:(1+(r:Int))=k;have FL:1<=k:=ah
 have FK:k<=6:=ah
 clear hk hr C;have hxx:(H !=H)=false:=ak
 go_upto_region 4 with(go_at_call 17;refine(HPr.o _ q.o).mono ?_;rintro e W3 ⟨rfl,S⟩;have qF:=hid (aq q.o S);clear S)
 go_upto_region 5 with(first|(go_at_call 19;refine(Ze.o _ qF.o).mono ?_;rintro e W4 ⟨av,bv,rr,rfl,A,v,o2,b4⟩;have HA1:=hid (aeb.o W4 k av bv rr _ (aq qF.o b4) FL FK A v o2);have l:=hid (aq qF.o b4);clear A v o2 b4)|(go_at_call 18;refine HA1.o.mono ?_;rintro e W5 ⟨⟨F,rfl,hx1⟩,b5⟩;have Q:=hid (aq l.o b5);have z6:=hid hx1;clear b5 hx1))
 go_upto_region 6 with(go_at_call 18;refine(aec.o _ k Q.o FL FK).mono ?_;rintro e W6 ⟨⟨x2,rfl,FD⟩,b6⟩;have GJ:=hid (aq Q.o b6);have zf:=hid FD;clear b6 FD)
 go_upto_region 8 with fail
 clear aec aeb HA1 Ze HPr HE q qF l Q;by_cases h0:H=0;rotate_left
 ·have h0b:(H !=0)=true:=by simp[h0]
  have hee:(H==H)=true:=ak
  have HC:=hid (fun W h=>HCk.o t W h);rw[abj (s:=s) (t:=t) (by rw[<-Ti.o];exact h0),<-Ti.o]at HC;clear HCk z6 zf h0
  go_wp2_with (go_at_call 20;refine(HC.o _ GJ.o).mono ?_;rintro e W7 ⟨na,nc,rfl,a7,b7⟩;have j:=hid (aq GJ.o b7);clear a7 b7)
  go_ret
  exact⟨rfl,j.o⟩
 subst h0;obtain⟨pn,vs,qs,c1,k1,R,k3,U,k5,k6,k7⟩:=YU Ti.o.symm z6.o;obtain⟨pn2,vs2,qs2,c2,m1,m2,m3,m4,m5,m6,m7⟩:=YU Ti.o.symm zf.o;obtain⟨rfl,rfl⟩:pn2=pn/\vs2=vs:=by rw[k1]at m1;cases m1;exact⟨rfl,rfl⟩
 obtain rfl:qs2=qs:=by rw[R]at m2;cases m2;rfl
 have HSm:Hd (k<=5->tG s x2=tG s F):=fun h=>by rw[U,m4];exact Lh (CA k1 R).cs h (m7 h) (k7 h)
 have HLt:Hd (k<=5->wA s t=0->∃d,dec t.data.toList=some d/\(d.bK=1->d.problem=k->tG s t=tG s F)):=fun h h2=>by rw[U];exact SB k1 R h (k7 h) h2
 have HC1:=hid (fun W h=>HCk.o F W h);have Tj:=hid (fun W h=>HCk.o x2 W h);rw[k3]at HC1;rw[m3]at Tj;have HL:=hid (Aa k5 k6);clear k1 R k3 U k5 k6 k7 m1 m2 m3 m4 m5 m6 m7 z6 zf Ti;obtain⟨L,hL⟩:=Ea (tG s F);rw[<-hL]at HSm HLt HC1 HL;clear hL
 go_upto_region 15 with(go_at_call 20;first|(refine(HC1.o _ GJ.o).mono ?_;rintro e W7 ⟨na,nc,rfl,a7,b7⟩;have j:=hid (aq GJ.o b7);have HN7:=hid a7;clear a7 b7 HC1)|(refine(Tj.o _ j.o).mono ?_;rintro e W8 ⟨ma,mc,rfl,a8,b8⟩;have P:=hid (Aa (aq j.o b8) (HN7.o.below b8));have HN8:=hid a8;clear a8 b8))
 by_cases hk:k=6
 ·have f:(k==6)=true:=by simp[hk]
  go_wp2_with fail
  go_ret
  exact⟨rfl,P.a⟩
 have f:(k==6)=false:=by simp[hk]
 have h5:k<=5:=ah
 rw[HSm.o h5]at HN8⊢;clear HSm;have HLT:=hid (HLt.o h5);clear HLt
 go_upto_region 18 with(go_at_call 21;refine(oY na ma nc mc L _ P.A HN8.o HL.a (by have:=HL.A;omega)).mono ?_;rintro e W9 ⟨rfl,b9⟩;have WD:=hid (Aa (aq P.a b9) (P.A.below b9));clear b9)
 obtain⟨et,het⟩:=Ea (wA s t);obtain⟨T,J⟩:=Ea (tG s t);have TP:=hid (fun W h=>HCk.o t W h);rw[<-het,<-J]at TP HLT;clear het J HCk
 go_upto_region 20 with(first|(go_at_call 20;refine(TP.o _ WD.a).mono ?_;rintro e W10 ⟨ta,O,rfl,a10,b10⟩;have abP:=hid (Aa (aq WD.a b10) (Aa (WD.A.below b10) a10));clear a10 b10)|(go_at_call 22;refine(DW t _).mono ?_;rintro e W11 ⟨a11,b11⟩;obtain⟨p,g,la,n,lc,ed,rfl,hd⟩:=ad3 a11;have abO:=hid (Aa (aq abP.a b11) (Aa (abP.b.below b11) (abP.B.below b11)));have HD:=hid hd;clear a11 b11 hd))
 refine qA (F:=Code.wp _ _ _ _) fun V HV=>?_
 have Zd:=hid (Aa (aq abO.a HV.a) (Aa (abO.b.below HV.a) (abO.B.below HV.a)));obtain⟨y1,y2⟩:=ae HV.b;by_cases he:et=0;rotate_left
 ·have heb:(et==0)=false:=by simp[he]
  go_wp2_with fail
  go_ret
  exact⟨rfl,Zd.a⟩
 subst he;obtain⟨d,hd,hs⟩:=HLT.o rfl;obtain⟨rfl,rfl⟩:=HD.o d hd;by_cases hg:d.bK=1;rotate_left
 ·have NJ:(d.bK==1)=false:=by simp[hg]
  go_wp2_with fail
  go_ret
  exact⟨rfl,Zd.a⟩
 have NJ:(d.bK==1)=true:=by simp[hg]
 by_cases K:d.problem=k
 ·have z:(d.problem==k)=true:=by simp[K]
  have hTL:=hs hg K;subst hTL
  go_wp2_with (go_at_call 21;refine(oY ta na O nc _ _ Zd.B Zd.b HL.a (by have:=HL.A;omega)).mono ?_;rintro e W12 ⟨rfl,YY⟩;have aeM:=hid (aq Zd.a YY);clear YY y1 y2)
  go_ret
  exact⟨rfl,aeM.o⟩
 have z:(d.problem==k)=false:=by simp[K]
 go_wp2_with fail
 go_ret
 exact⟨rfl,Zd.a⟩
end
end Go.Proofs.YtmipbiligijcpaaGreatDoor
