import Derived.Test.YtmipbiligijcpaaGreatDoorA04
import Derived.Test.YtmipbiligijcpaaGreatDoorA06
import Derived.Deep.AppendLies
namespace Go.Proofs.YtmipbiligijcpaaGreatDoor
set_option linter.all false
set_option maxHeartbeats 4000000
set_option maxRecDepth 100000
open Go.RowKit Go.Proofs Go.Maps
section
variable {σ:Type}
open Go.RowKit Go.Shelf Go.Proofs Go.Maps Tryz
attribute [local go_sem] Oper.semAt_some
def Nk{p:Nat->Prop}(h:∃n,p n):∃n,p n/\∀m,p m->n<=m:=by
 obtain⟨n,J⟩:=h
 induction n using Nat.strongRecOn with
 | _ n B=>
  by_cases C:∃m,m<n/\p m
  ·obtain⟨m,G,O⟩:=C
   exact B m G O
  exact⟨n,J,fun m h=>Nat.le_of_not_lt fun O=>C ⟨m,O,h⟩⟩
def aam(J:σ->World->Prop)(μ:σ->Nat):∃M:World->Nat,(∀s w,J s w->M w<=μ s)/\∀w,(∃s,J s w)->∃s,J s w/\μ s=M w:=by
 have h:∀w:World,∃m:Nat,(∀s,J s w->m<=μ s)/\((∃s,J s w)->∃s,J s w/\μ s=m):=by
  intro w;by_cases z:∃s,J s w
  ·obtain⟨s,z⟩:=z
   obtain⟨m,⟨C,G,O⟩,Y⟩:=Nk (p:=fun m=>∃s,J s w/\μ s=m) ⟨_,s,z,rfl⟩;exact⟨m,fun t N=>Y _ ⟨t,N,rfl⟩,fun _=>⟨C,G,O⟩⟩
  exact⟨0,fun s h=>absurd ⟨s,h⟩ z,fun h=>absurd h z⟩
 exact⟨fun w=>Classical.choose (h w),fun s w z=>(z? (h w)).1 s z,fun w z=>(z? (h w)).2 z⟩
def vr(ab:Nat)(w:World):
  Cl 209 (bE ab) w fun e I=>e=.returned (.func (.func 268) #[] (bE w.heap.size))/\I=w.alloc (.cells (bE ab) 379):=by
 go_enter func209,ntmps209
 go_wp2_with fail
 go_ret
 exact⟨rfl,rfl⟩
def aaR{s:BS}(hs:bF s)(h:s≠(0,0)):c8 s≠[]:=by
 intro e;refine h (SZ hs ⟨aj,aj⟩ fun f V=>?_);rw[iW,uL];intro D;have:=(cA s hs f).2 ⟨V,D⟩;rw[e]at this;cases this
structure aed(W:World)(ab pb qb:Nat)(wt:BS)(pv:Value):Prop where
  ag:W.heap[ab]?=some (zW wt pv)
  pk:jB W pb pv
  wi:bF wt
  tab:kB W
  box:W.heap[qb]?=some (.cells (bE ab) 379 (0,0))
def M9(n:Nat)(hn:1<=n)(ab q qb:Nat)(I IF:σ->World->Prop)(IY:Nat->σ->World->Prop)(μ:σ->Nat)(P:ab≠q)(hnq:ab≠qb)
  (N:∀s W,I s W->∃c Q,aed W ab q qb c Q)
  (f:∀s W Q,I s W->W.heap[ab]?=some (zW (0,0) Q)->IF s W)
  (U:∀s W c Q x d i,I s W->aed W ab q qb c Q->x∈c8 c->i.heap[ab]?=some (zW (eH c (cH [x])) d)->jB i q d->Kx (·=ab) W i->IY x s i)
  (s0:σ) (l:Nat) (K:World->Prop) (W:World) (hK:∀A B,K A->KeepsOthers A B->K B)
  (p:∀s x T,IY x s T->K T->YieldAt Fence.wide (n-1) Tryz.prog l #[Iv x] T fun e i=>e=.returned (.bool true)/\(∃C,μ C<μ s/\I C i)/\K i) (h0:I s0 W) (m:K W):
  CallsIn Fence.wide n Tryz.prog 268 (#[.func (.yield l) #[] #[]]++(bE qb)) W fun e i=>(∃v,e=.returned v)/\(∃s,IF s i)/\K i:=by
 refine callsIn_of_wp func268 rfl trivial ?_ rfl;simp only[ntmps268,kd,bT,eI,Nat.reduceAdd,Nat.reduceSub,rQ,rP,rO,rN,dT,dw];obtain⟨M,V,t⟩:=aam (fun s w=>I s w/\K w) μ;have G:=hid (Aa N (Aa f (Aa U (Aa hK (Aa p (Aa V t))))));have HJ:=hid (Aa h0 m);clear N f U hK p V t h0 m
 gi_wp2
 gi_loopw[] (fun wr=>Hd (∃s,I s wr/\K wr)) (fun wr=>M wr)
 case atStart=>exact⟨s0,HJ.o⟩
 obtain⟨s,z,hm⟩:=G.F wr hrel.o;obtain⟨c,Q,L⟩:=G.a s wr z.1;have j:=hid (Aa z (Aa hm L));obtain⟨F,y⟩:=ae L.ag;obtain⟨y1,y2⟩:=ae L.box;clear z hm L hrel;by_cases R:c=(0,0)
 ·subst R
  have hq:=fun w=>K6 0 0 0 0 w
  gi_wp2
  go_end0
  exact⟨⟨_,rfl⟩,⟨s,G.b s wr Q j.a.1 j.B.ag⟩,j.a.2⟩
 have hq:∀w,(binOp .neq 267 (kM c.1 c.2) (.agg #[Uv 0,Uv 0])).run Tryz.prog w=.ok (.bool true) w:=by
  intro w;rw[K6]
  congr 2
  obtain⟨a,b⟩:=c;simp at R⊢;omega
 have Z:Hd (Cl 269 (bE ab) wr fun e w'=>∃x d,x∈c8 c/\e=.returned (Iv x)/\w'.heap[ab]?=some (zW (eH c (cH [x])) d)/\jB w' q d/\Kx (·=ab) wr w'):=PT ab q c Q wr j.B.ag j.B.pk P j.B.wi (aaR j.B.wi R) j.B.tab
 gi_wp2_with (refine⟨trivial,?_⟩;gi_at_call 269;refine(fX.2 Z.o).mono ?_;rintro e r ⟨x,d,E,rfl,h1,O,Y⟩;obtain⟨fn,S,u,D,hy,hR⟩:=G.e s x r (G.c s wr c Q x d r j.a.1 j.B E h1 O Y) (G.d _ _ j.a.2 (Y.others fun k o e X=>by subst e;rw[j.B.ag]at X;cases X;rfl));clear E h1 O Y)
 refine hR.mono ?_;rintro e h ⟨rfl,⟨C,J,g⟩,hK3⟩
 gi_wp2
 go_roundw
 case rel=>exact⟨C,g,hK3⟩
 have H:=G.f C h ⟨g,hK3⟩;have h6:=j.b;omega
end
section
variable {m f k:Nat} {l:List BS} {r:RR} {W:World}
open Go.RowKit Go.Shelf Go.Proofs Go.Maps Tryz
def OG(m:Nat)(l:List BS)(f:Nat):List BS:=l.set f (eP (l.getD f (0,0)) (cH [m]))
def Gq(m:Nat)(l:List BS)(fs:List Nat):List BS:=fs.foldl (OG m) l
def tA(E:List (List Nat))(N k:Nat):List BS:=(List.range k).foldl (fun l m=>Gq m l (E.getD m [])) (List.replicate N (0,0))
def KM(m f:Nat)(l:List BS):(OG m l f).length=l.length:=by simp[OG]
def vW(m:Nat):∀(fs:List Nat) (l:List BS),(Gq m l fs).length=l.length
 |[],_=>rfl
 |f :: r,l=>(vW m r (OG m l f)).trans (KM m f l)
def Ez(m f:Nat)(fs:List Nat)(l:List BS):Gq m l (fs++[f])=OG m (Gq m l fs) f:=by simp[Gq]
def oL(E:List (List Nat))(N k:Nat):tA E N (k+1)=Gq k (tA E N k) (E.getD k []):=by simp[tA,kK]
def pJ(E:List (List Nat))(N:Nat):∀k,(tA E N k).length=N
 |0=>by simp[tA]
 |k+1=>by rw[oL,vW,pJ E N k]
def mX{α:Type}(l:List α)(i j:Nat)(x d:α)(hi:i<l.length):(l.set i x).getD j d=if i=j then x else l.getD j d:=by
 simp only[cx,eQ];by_cases h:i=j
 ·subst h;simp[hi]
 simp[h]
def ZC(hm:m<128)(h:∀j,bF (l.getD j (0,0)))(j:Nat):bF ((OG m l f).getD j (0,0)):=by
 unfold OG;by_cases V:f<l.length
 ·rw[mX _ _ _ _ _ V]
  split
  ·exact gp (h f) (gQ _ (by simpa using hm))
  exact h j
 rw[List.set_eq_of_length_le ah];exact h j
def Cm{m:Nat}(hm:m<128):∀(fs:List Nat) (l:List BS),(∀j,bF (l.getD j (0,0)))->∀j,bF ((Gq m l fs).getD j (0,0))
 |[],_,h=>h
 |f :: r,l,h=>Cm hm r (OG m l f) (ZC hm h)
def xS(E:List (List Nat))(N:Nat):∀k,k<=128->∀j,bF ((tA E N k).getD j (0,0))
 |0,_,j=>by
  simp only[tA,List.range_zero,wG,cx,mD];split<;>exact⟨aj,aj⟩
 |k+1,h,j=>by rw[oL];exact Cm ah _ _ (xS E N k ah) j
def abq(hm:m<128)(hf:f<l.length)(j x:Nat)(hx:x<128):bt ((OG m l f).getD j (0,0)) x=(bt (l.getD j (0,0)) x||(decide (j=f)&&decide (x=m))):=by
 unfold OG;rw[mX _ _ _ _ _ hf];by_cases h:f=j
 ·subst h
  rw[aD rfl,gC,k? _ _ hx (by simpa using hm)];simp
 rw[aA h];have:decide (j=f)=false:=by simp;omega
 rw[this];simp
def SU{m:Nat}(hm:m<128)(j x:Nat)(hx:x<128):∀(fs:List Nat) (l:List BS),(∀f∈fs,f<l.length)->bt ((Gq m l fs).getD j (0,0)) x=(bt (l.getD j (0,0)) x||(decide (j∈fs)&&decide (x=m)))
 |[],l,_=>by simp[Gq]
 |f :: r,l,h=>by
  show bt ((Gq m (OG m l f) r).getD j (0,0)) x=_;rw[SU hm j x hx r (OG m l f) (fun g a=>by rw[KM];exact h g (by simp[a])),abq hm (h f ak) j x hx];by_cases G:j=f<;>by_cases O:j∈r<;>by_cases Y:x=m<;>simp[G,O,Y]
def Dq(E:List (List Nat))(N:Nat)(j x:Nat)(hx:x<128)(i:∀m f,f∈E.getD m []->f<N):∀k,k<=128->bt ((tA E N k).getD j (0,0)) x=(decide (x<k)&&decide (j∈E.getD x []))
 |0,_=>by
  simp only[tA,List.range_zero,wG,cx,mD];split<;>simp[iW]
 |k+1,h=>by
  rw[oL,SU ah j x hx _ _ (fun f V=>by rw[pJ];exact i k f V),Dq E N j x hx i k ah];by_cases G:x=k
  ·subst G;simp
  have:(x<k+1)=(x<k):=by simp;omega
  simp[G,this]
def C5(rl:List RR):List (List Nat):=rl.map fun r=>r.es.map (·.1)
def R2{rl:List RR}(h:rl[k]?=some r):(C5 rl).getD k []=r.es.map (·.1):=by simp[C5,cx,h]
def gT{g t:Nat}(h:W.heap[g]?=some (.cells (cG l).toArray t (0,0)))(hk:k<l.length):W.cell? (Ad g (k*2))=some (Uv ((l.getD k (0,0)).1:Int))/\W.cell? (Ad g (k*2+1))=some (Uv ((l.getD k (0,0)).2:Int))/\W.frozen? (Ad g (k*2))=false/\W.frozen? (Ad g (k*2+1))=false:=by
 obtain⟨F,y⟩:=ae h;have:=tm l k (l.getD k (0,0)) (by rw[cx,bk hk];rfl);exact⟨by rw[F,de];exact this.1,by rw[F,de];exact this.2,y _,y _⟩
def Dd{B c:Nat}{x:Nat×Value}(h:W.ownsRow B c 2 r.ev r.es.length (ia r.es))(hk:r.es[k]?=some x):∃g,r.ea=some (Ad g 0)/\W.cell? (Ad g (k*2))=some (Iv x.1)/\W.cell? (Ad g (k*2+1))=some x.2:=by
 have l:=(bn.1 hk).1;obtain⟨V,p⟩:=sZ r.es k x hk;rcases h.2 with⟨_,e⟩|⟨g,C,A,t,_⟩
 ·omega
 simp[RR.ev]at t;refine⟨g,t.1,?_,?_⟩
 ·have:=h.cells (g:=g) (by simp[RR.ev,Value.ownBlock,t.1]) (k*2) _ V
  rwa[gw,ct]at this
 have:=h.cells (g:=g) (by simp[RR.ev,Value.ownBlock,t.1]) (k*2+1) _ p
 rwa[gw,ct]at this
def B!(rb B N:Nat)(rl:List RR)(w:World)(hS:Sys w B rb 2 393 404 rl)(hl:rl.length=N)(hN:N<=60)(TB:∀r∈rl,r.es.length<=200/\(∃s:BS,r.st=eG s)/\∀e∈r.es,e.1<N/\∃fk fc fb,e.2=.func (.func fk) fc fb):
  Cl 225 #[cK rb N] w fun e I=>∃g,e=.returned (b? g N)/\w.heap.size<=g/\I.heap[g]?=some (.cells (cG (tA (C5 rl) N N)).toArray 267 (0,0))/\Bl w I:=by
 obtain⟨i1,hi,D,O,mC⟩:=cY pU;have HI:Hd (_/\_/\_/\_):=⟨hi,D,O,mC⟩;clear hi D O mC;have HH:=hid (Aa hS (Aa hl TB));clear hS hl TB;simp only[cK];go_enter func225,ntmps225
 go_upto_region 1 with(fail)
 have R:Hd (Bl w (w.alloc (.cells (bV rb N) 260))/\(w.alloc (.cells (bV rb N) 260)).heap[w.heap.size]?=some (.cells (bV rb N) 260 (0,0))):=⟨aC _ _,bf _ _⟩;generalize w.alloc (.cells (bV rb N) 260)=H at R⊢;obtain⟨F,x2⟩:=ae R.A
 go_upto_region 2 with(at_make;refine il _ rfl (.tmp 10) (.tmp 10) 264 rfl H.heap.size 267 i1 _ 2 underlying264 HI.a HI.b HI.c .i64 .i64 N N N rfl rfl rfl rfl (by rw[HI.C];omega) (by unfold maxLen;omega) ak ?_;intro T h! Y;have HO:=hid (Aa h! Y);clear h! Y)
 have HM:Hd (T.heap[H.heap.size]?=some (.cells (cG (tA (C5 rl) N 0)).toArray 267 (0,0))/\Below H.heap.size H T):=by
  have h1:=HO.a;rw[dX _ 2 (by simp[Value.cells]) N]at h1;refine⟨?_,(aM _ _).grown HO.A (aF _) (fun q e=>by cases e)⟩;rw[(e? h1).1]
  congr 2
  rw[show tA (C5 rl) N 0=List.replicate N (0,0)by simp[tA],<-wq];rfl
 have hgz:H.heap.size<T.heap.size:=blt HM.a;obtain⟨g,m⟩:=Ea H.heap.size;rw[<-m]at HM hgz;have HG:=hid m;simp only[<-m];have hgw:w.heap.size<g:=by rw[m];exact blt R.A
 obtain⟨y1,y2⟩:=ae (aE (by have k:=HM.A;rw[m]at k;exact k) R.A);clear HO F x2 m
 go_wp2_with fail
 go_loopw[15] (fun iv wr=>∃k:Nat,k<=N/\iv=Iv k/\Hd (wr.heap[g]?=some (.cells (cG (tA (C5 rl) N k)).toArray 267 (0,0))/\Below g H wr)) (fun iv _=>N-(intOf iv).toNat)
 case atStart=>exact⟨0,bB _,rfl,HM.o⟩
 clear HM hgz y1 y2;obtain⟨k,hk,rfl,M⟩:=hrel;have L:Bl w wr:=R.a.trans (M.A.mono ah);by_cases J:k<N;rotate_left
 ·have ig:¬(k:Int)<N:=ah
  have hkN:k=N:=ah
  go_wp2_with fail
  go_ret
  refine⟨g,rfl,ah,?_,L⟩;have:=M.a;rw[hkN]at this;exact this
 have ig:(k:Int)<N:=ah
 obtain⟨r,hr⟩:=La (l:=rl) (i:=k) (by rw[HH.b];exact J);have hS:=HH.a.below L;obtain⟨s0,t⟩:=(HH.B r (aL hr)).2.1;have c0:=hS.cell (j:=0) (v:=Uv s0.1) hr (by simp[oh,t,eG]);have c1:=hS.cell (j:=1) (v:=Uv s0.2) hr (by simp[oh,t,eG]);have c2:=hS.cell (j:=2) (v:=.slice r.ea r.es.length r.ec) hr (by simp[oh,t,eG]);simp only[Nat.reduceAdd,z!]at c0 c1 c2;have HR:=hid (Aa (hS.row r (aL hr)) (Aa (HH.B r (aL hr)) hr));clear hS hr t
 go_upto_region 5 with(fail)
 obtain⟨V,hV⟩:=Ea (wr.alloc (.cells #[Uv s0.1,Uv s0.2,.slice r.ea r.es.length r.ec] 393));have hbV:Bl wr V:=by rw[hV];exact aC _ _
 obtain⟨F,x2⟩:=ae (show V.heap[wr.heap.size]?=_ by rw[hV];exact bf _ _);rw[<-hV];have HV:=hid hbV;clear hV hbV c0 c1 c2
 go_wp2_with fail
 have hge:=blt M.a;have aeC:=HR.b.1
 go_loopw[23] (fun jv wx=>∃j:Nat,j<=r.es.length/\jv=Iv j/\Hd (wx.heap[g]?=some (.cells (cG (Gq k (tA (C5 rl) N k) ((r.es.take j).map (·.1)))).toArray 267 (0,0))/\Below g H wx)) (fun jv _=>r.es.length-(intOf jv).toNat)
 case atStart=>exact⟨0,bB _,rfl,aE HV.o M.a,M.A.trans (HV.o.mono ah)⟩
 clear F x2;obtain⟨j,hj,rfl,G⟩:=hrel;by_cases YE:j<r.es.length;rotate_left
 ·have aaG:¬(j:Int)<(r.es.length:Int):=ah
  go_wp2_with fail
  go_roundw
  case rel=>
   refine⟨k+1,J,h',?_,G.A⟩;have:=G.a;rw[cP ah,<-R2 HR.B,<-oL]at this;exact this
  simp[intOf];omega
 have aaG:(j:Int)<(r.es.length:Int):=ah
 obtain⟨⟨f,fv⟩,E⟩:∃x,r.es[j]?=some x:=⟨_,bk YE⟩;have eB:Bl w wr:=R.a.trans (G.A.mono ah);obtain⟨eg,heg,e0,e1⟩:=Dd ((HH.a.below eB).row r (aL HR.B)) E;obtain⟨hfN,fk,fcs,fbs,hfv⟩:=HR.b.2.2 _ (aL E);simp only at hfN hfv e0 e1;subst hfv;rw[heg];have HX:=hid (Aa E eB);clear E eB
 go_upto_region 8 with(fail)
 obtain⟨U,hU⟩:=Ea (wr.alloc (.cells #[Iv f,.func (.func fk) fcs fbs] 404));have HU:Hd (Bl wr U/\U.heap[wr.heap.size]?=some (.cells #[Iv f,.func (.func fk) fcs fbs] 404 (0,0))):=by rw[hU];exact⟨aC _ _,bf _ _⟩
 rw[<-hU];clear hU e0 e1;obtain⟨l,hl⟩:=Ea (Gq k (tA (C5 rl) N k) ((r.es.take j).map (·.1)))
 have OO:l.length=N:=by rw[hl,vW,pJ]
 have NJ:U.heap[g]?=some (.cells (cG l).toArray 267 (0,0)):=by rw[hl];exact aE HU.a G.a
 have Nw:bF (l.getD f (0,0)):=by rw[hl];exact Cm ah _ _ (xS _ _ k ah) f
 have HN:Hd (Gq k (tA (C5 rl) N k) ((r.es.take (j+1)).map (·.1))=l.set f (eP (l.getD f (0,0)) (cH [k]))):=by
  show _=_;rw[dS YE,(bn.1 HX.a).2,iq,O5,Ez,<-hl];rfl
 obtain⟨u,hu⟩:=Ea (l.getD f (0,0));have HO:Hd (∀X b,X.cell? (Ad b 0)=some (Iv k)->Cl 241 (mH b) X (Rb X (b! (cH [k])))):=fun X b Z=>j6 X b k ah Z
 have Ow:Hd (∀(X:World) b,X.cell? (Ad b 0)=some (Uv u.1)->X.cell? (Ad b 1)=some (Uv u.2)->X.cell? (Ad b 2)=some (Uv ((cH [k]).1:Int))->X.cell? (Ad b 3)=some (Uv ((cH [k]).2:Int))->Cl 267 (oE b) X (Rb X (b! (eP u (cH [k]))))):=fun X b h0 h1 h2 h3=>by have:=e8 X b u (cH [k]) (by rw[hu];exact Nw) (gQ _ fun g m=>by rw[ja.1 m];omega) h0 h1 h2 h3;exact this
 have HKS:Hd (∀W,Bl U W->W.cell? (Ad g (f*2))=some (Uv u.1)/\W.cell? (Ad g (f*2+1))=some (Uv u.2)/\W.frozen? (Ad g (f*2))=false/\W.frozen? (Ad g (f*2+1))=false):=fun W hW=>by rw[hu];exact gT (aE hW NJ) (by rw[OO];exact hfN)
 rw[<-hu]at HN;obtain⟨o1,rK⟩:=Ea (cH [k]);obtain⟨z,hz⟩:=Ea (eP u (cH [k]));rw[<-hz]at HN Ow;rw[<-rK]at HO Ow;have HL:=hid (Aa OO NJ);clear rK hz Nw hu hl OO NJ;have hfi:(f:Int)<N:=ah
 simp only[b!]at HO Ow;refine st (fun W'=>Bl U W') 13 (hS:=(aM _ _).drew) (h:=fun aB=>?_);refine tt 0 (b? g N) (h:=?_);refine tt 1 (.pointer (cu wr.heap.size)) (h:=?_);refine tt 2 (Iv f) (y:=fun W' aU=>by have k1:=(ae (aE aU HU.A)).1;clear aB aU;go_simp) (h:=?_);refine tt 3 (b? g N) (h:=?_);refine tt 4 (.pointer (cu wr.heap.size)) (h:=?_);refine tt 5 (Iv f) (y:=fun W' aU=>by have k1:=(ae (aE aU HU.A)).1;clear aB aU;go_simp) (h:=?_);refine tt 6 (.pointer (some (Ad g (f*2)))) (h:=?_);refine tt 7 (kM u.1 u.2) (y:=fun W' aU=>by have k1:=(HKS.o _ aU).1;have k2:=(HKS.o _ aU).2.1;clear aB aU;go_simp) (h:=?_);refine tt 8 (Iv k) (h:=?_);refine rt 9 (h:=fun K hK=>?_)
 go_simp
 refine hK.out _ _ (fun _=>aq aB (aC _ _)) ?_;clear hK K;refine pt ?_;refine rt 10 (h:=fun K hK=>?_)
 go_simp
 refine bA (HO.o _ _ ak) ?_;rintro e T ⟨rfl,A⟩;have j?:Hd (Bl U T):=aq (aq aB (aC _ _)) A;clear A;refine hK.out _ _ (fun _=>j?.o) ?_;clear hK K;refine pt ?_;refine rt 11 (h:=fun K hK=>?_)
 go_simp
 refine hK.out _ _ (fun _=>aq j?.o (aC _ _)) ?_;clear hK K;refine pt ?_;refine rt 12 (h:=fun K hK=>?_)
 go_simp
 refine bA (Ow.o _ _ ak ak ak ak) ?_;rintro e W2 ⟨rfl,uz⟩;have C:Hd (Bl U W2):=aq (aq j?.o (aC _ _)) uz;clear uz;refine hK.out _ _ (fun _=>C.o) ?_;clear hK K aB;refine pt ?_;refine rt 13 (h:=fun K hK=>?_)
 go_simp
 refine hK.out _ _ (fun h=>absurd h aj) ?_;clear hK K;refine pt ?_;refine rt 14 (h:=fun K hK=>?_);obtain⟨k0,k1,k2,k3⟩:=HKS.o _ C.o
 go_simp
 refine hK.out _ _ (fun h=>absurd h aj) ?_;clear hK K k0 k1 k2 k3;refine pt ?_;refine dt (h:=?_)
 go_wp2_with fail
 go_roundw
 case rel=>
  refine⟨j+1,YE,h',?_,?_⟩
  ·rw[HN.o];exact wB (s:=z) (aE C.o HL.A) (k:=f) (by rw[HL.a];exact hfN)
  exact((G.A.trans ((aq HU.a C.o).mono (by have:=blt G.a;omega))).setCell (aF _) _).setCell (aF _) _
 simp[intOf];omega
end
section
variable {w w':World} {c:NC} {S:List NC}
structure PN where
  bj:ByteArray
  ws:List ByteArray
  n:SN
def PN.nc(p:PN):NC:=⟨p.bj,none,0,0,p.n,none,0,0⟩
def xR(vs:List cC)(acc:List PN):List (List ByteArray)->Option (List PN×List cC)
 |[]=>some (acc,vs)
 |ws :: r=>if ua ws then xR vs acc r else if (sJ vs ws).2.2.2.1 then xR (sJ vs ws).2.2.2.2 (acc++[⟨(sJ vs ws).1,ws.drop (sJ vs ws).2.1,(sJ vs ws).2.2.1⟩]) r else none
def Ng(s:ByteArray):List ByteArray:=Lib.splitB ⟨#[10]⟩ 0 (Lib.countB s ⟨#[10]⟩) s
def Fh(s:ByteArray):List (List ByteArray):=(Ng s).map TY
abbrev Pr:=Bool ⊕ (List PN×List cC)
abbrev Pr.syn:Pr:=.inl false
abbrev Pr.prg:Pr:=.inl true
abbrev Pr.ok(pl:List PN)(vs:List cC):Pr:=.inr (pl,vs)
def j4(pl:List PN)(vs:List cC):Bool:=decide (vs.length<=8)&&decide (0<pl.length)&&decide (pl.length<=60)&&ej (pl.map PN.nc)
def mN(s:ByteArray):Pr:=
 if 3000<s.size then Pr.syn else
 match xR [] [] (Fh s)with
 |none=>Pr.syn
 |some (pl,vs)=>if j4 pl vs then Pr.ok pl vs else Pr.prg
def Kv(vs:List cC)(ws:List ByteArray):(tw vs ws).2.2.length<=vs.length+3:=by
 have g:∀ws,(sA vs ws).2.2.length<=vs.length+3:=by
  intro ws;unfold sA;split
  ·rename_i S;have:=kT vs S;simp only;omega
  simp[iZ]
 have m:∀ws,(lP vs ws).2.2.length<=vs.length+3:=by
  intro ws;unfold lP;split<;>simp[iZ]
 have hi:∀ws,(DI vs ws).2.2.length<=vs.length+3:=by
  intro ws;unfold DI;split
  ·rename_i _ S z s J Z
   split
   ·have:=kT vs S;have:=kT (dP vs S) s;simp only;omega
   simp[iZ]
  simp[iZ]
 have y:∀ws,(i? vs ws).2.2.length<=vs.length+3:=by
  intro ws;unfold i?;split;rotate_left
  ·simp[iZ]
  rename_i V S z q
  have G:=mK vs V.data.toList;have O:=kT (dI vs V.data.toList) z;split;rotate_left
  ·simp[iZ]
  split
  ·split<;>(simp only;omega)
  ·rename_i s J
   have Y:=kT (dP (dI vs V.data.toList) z) J;simp only;omega
  simp only;omega
 unfold tw;split
 ·simp[iZ]
 split
 ·exact g _
 split
 ·exact hi _
 split
 ·exact m _
 split
 ·simp
 exact y _
def U5(vs:List cC)(ws:List ByteArray):(sJ vs ws).2.2.2.2.length<=vs.length+3:=by
 unfold sJ;split
 ·simp[iZ]
 split
 ·split
  ·split
   ·simp[iZ]
   exact Kv _ _
  simp[iZ]
 exact Kv _ _
structure Rep(w:World)(c:NC)(p:PN):Prop where
  bj:c.bj=p.bj
  n:c.n=p.n
  ws:∃g off,c.wa=some (Ad g off)/\Ws w g off p.ws
  wl:c.wl=p.ws.length
structure oj(w:World)(nl:List NC)(pl:List PN):Prop where
  len:nl.length=pl.length
  each:∀(j:Nat) (c:NC) (p:PN),nl[j]?=some c->pl[j]?=some p->Rep w c p
def Rep.mono{p:PN}(h:Rep w c p)(M:∀g t ws,Ws w g t ws->Ws w' g t ws):Rep w' c p:=by
 obtain⟨g,t,G,O⟩:=h.ws;exact⟨h.bj,h.n,⟨g,t,G,M _ _ _ O⟩,h.wl⟩
def oj.mono{pl:List PN}(h:oj w S pl)(M:∀g t ws,Ws w g t ws->Ws w' g t ws):oj w' S pl:=
 ⟨h.len,fun j c p a b=>(h.each j c p a b).mono M⟩
def oj.snoc{pl:List PN}{p:PN}(h:oj w S pl)(Z:Rep w c p):oj w (S++[c]) (pl++[p]):=by
 refine⟨by simp[h.len],fun j a b y D=>?_⟩;by_cases U:j<S.length
 ·rw[mE U]at y
  rw[mE (by have:=h.len;omega)]at D;exact h.each j a b y D
 have hl:=h.len;rw[fC ah]at y;rw[fC ah]at D;have o:j-S.length=0:=by
  have:=(bn.1 y).1;simp at this;omega
 rw[o]at y;rw[<-hl,o]at D;simp at y D;subst y;subst D;exact Z
def xi(hb:Bl w w'):∀g t ws,Ws w g t ws->Ws w' g t ws:=fun g _ _ h=>h.of_block (hb.block g h.lt)
def Zj{l:Nat}(hm:∃es c,w.heap[l]?=some (.map es c))(m:w.grownBy w' (some l)):∀g t ws,Ws w g t ws->Ws w' g t ws:=fun _ _ _ h=>h.grown hm m
def Pc{row:Option Nat}(u:∀k,row=some k->∃A f,w.heap[k]?=some (.cells A 152 f))(m:w.grownBy w' row):∀g t ws,Ws w g t ws->Ws w' g t ws:=by
 intro g t ws h;refine h.of_block (m.block g h.lt ?_);intro e;obtain⟨A,f,Z⟩:=u g e.symm;obtain⟨a,o,_⟩:=h;rw[Z]at o;simp at o
def Nj(S:List NC)(pl:List PN)(hl:S.length=pl.length)(h:∀(j:Nat) (c:NC) (p:PN),S[j]?=some c->pl[j]?=some p->c.bj=p.bj/\c.n=p.n):ej S=ej (pl.map PN.nc):=by
 have Q:S.map NC.bj=(pl.map PN.nc).map NC.bj:=by
  apply dW;intro j;simp only[bG];by_cases U:j<S.length
  ·have a:=bk U
   have b:=bk (l:=pl) (i:=j) ah;rw[a,b];simp[(h j _ _ a b).1,PN.nc]
  rw[bU ah,bU (l:=pl) ah];rfl
 have z:S.map NC.n=(pl.map PN.nc).map NC.n:=by
  apply dW;intro j;simp only[bG];by_cases U:j<S.length
  ·have a:=bk U
   have b:=bk (l:=pl) (i:=j) ah;rw[a,b];simp[(h j _ _ a b).2,PN.nc]
  rw[bU ah,bU (l:=pl) ah];rfl
 unfold ej;rw[Q];split;rotate_left
 ·rfl
 rename_i ps _
 have u:∀l:List NC,lQ ps l=(l.map NC.n).all (fun n=>!jumps n.kind||decide (n.goal.data.toList∈kU ps)):=by
  intro l;simp[lQ,List.all_map];rfl
 have q:∀l:List NC,rf ps l=match (l.map NC.n).getLast? with|some n=>!(F5 n.kind (BU ps n.goal.data.toList) (((l.map NC.n).length-1:Nat)+1)).contains ((l.map NC.n).length:Int)|none=>false:=by
  intro l;unfold rf kA;rw[List.getLast?_map];simp only[br];cases l.getLast?<;>rfl
 rw[u,q,u,q,z]
end
section
variable {w w':World} {B e size n g:Nat} {v:Value} {M:List Value} {s:ByteArray} {row:Option Nat}
open Go.RowKit Go.Proofs Go.Maps Tryz
def Rl:(Tryz.prog.info? 152).map (fun i=>(i.zero,i.size,i.bytes))=some (some (.agg #[.string ⟨#[]⟩,.slice none 0 0,Iv 0,Iv 0,Iv 0,Iv 0,.bool false,Iv 0,Iv 0,.bool false,Iv 0,Iv 0,.slice none 0 0,.string ⟨#[]⟩]),14,160):=au
structure Env(w:World):Prop where
  glob:en w
  aaf:∃m,w.cell? (Ad 1 0)=some (Iv m)
def abL(w:World)(r:Pr)(e:Ending)(w':World):Prop:=
 Bl w w' ∧
 match r with
 | .inl false=>e=.returned (.tuple #[.agg nT,Iv 1])
 | .inl true=>e=.returned (.tuple #[.agg nT,Iv 2])
 | .inr (pl,vs)=>∃g cap nl ps,e=.returned (.tuple #[.agg (cN g pl.length cap vs.length),Iv 0])/\w.heap.size<=g/\fT w' g cap nl/\oj w' nl pl/\mO 0 [] (pl.map PN.bj)=some ps/\(∀(j:Nat) (c:NC) (p:PN),nl[j]?=some c->pl[j]?=some p->Er w' c.ev (kA ps p.nc j))
def IH(s:ByteArray)(w:World)(h:decide (3000<(s.size:Int))=true):
  Cl 40 #[.string s] w (abL w Pr.syn):=by
 go_enter func40,ntmps40
 go_wp2
 exact aG (v:=.tuple #[.agg nT,Iv 1]) (by simp[results,results40,go_sem]) rfl ⟨(aM _ _).alloc (aF _) _,rfl⟩
def Env.alloc(h:Env w)(o:Obj):Env (w.alloc o):=
 ⟨h.glob.alloc o,let ⟨m,C⟩:=h.aaf;⟨m,(gJ w o none).cell C ak⟩⟩
def Env.below(h:Env w)(hb:Bl w w'):Env w':=by
 obtain⟨⟨j,n,Z⟩,m,C⟩:=h;exact⟨⟨j,n,(bC hb).cell Z ak⟩,m,(bC hb).cell C ak⟩
def nC{W W':World}(h:W.ownsRow B e size v n M)(hb:Bl W W'):W'.ownsRow B e size v n M:=
 h.kept (row:=none) (bC hb) (Classical.em _)
def Lj(s:ByteArray):(Ng s).length=Lib.countB s ⟨#[10]⟩+1:=by
 have h:=dv List.length (Wm.yq s);rw[br,Wm.U0]at h;exact h
def U1(s:ByteArray):(Ng s).length<=s.size+2:=by
 rw[Lj];have:=Wm.JK s.data.toList;have e:Lib.countB s ⟨#[10]⟩=Lib.count s.data.toList [10]:=rfl;have:=Wm.cV s;omega
def Fi(s x:ByteArray)(h:x∈Ng s):x.size<=s.size:=by
 have:x.data.toList∈Wm.CT [] s.data.toList:=by rw[<-Wm.yq s];exact BE h
 have:=Wm.aai _ _ _ this;have G:=Wm.cV s;have O:=Wm.cV x;simp only[eI]at this;omega
def DV(s x:ByteArray)(h:x∈TY s):x.size<=s.size/\0<x.size:=by
 have:x.data.toList∈Wm.mr [] s.data.toList:=by rw[<-Hb s];exact BE h
 have:=Wm.Wa _ _ _ this;have G:=Wm.cV s;have O:=Wm.cV x;simp only[eI]at this;refine⟨ah,?_⟩;rcases Nat.eq_zero_or_pos x.size with e|e
 ·exact absurd (dM.1 (O.trans e)) this.2
 exact e
def Kf(s:ByteArray):(TY s).length<=s.size+1:=by
 have h:=dv List.length (Hb s);rw[br]at h;have:=Wm.Sr s.data.toList [];have:=Wm.cV s;omega
def Pj(s:ByteArray)(h:s.size<=3000):tv (TY s):=
 ⟨by have:=Kf s;omega,fun x E=>by have:=(DV s x E).1;omega⟩
structure Pre(B:Nat)(s:ByteArray)(w:World):Prop where
  res:w.heap[B]?=some (.cells nT 86 (0,0))
  lines:w.heap[B+3]?=some (.cells ((Ng s).map Value.string).toArray 9 (0,0))
def Pre.grown(h:Pre B s w)(m:w.grownBy w' row)(h1:some B≠row)(h2:some (B+3)≠row):Pre B s w':=
 ⟨(m.block B (bq.1 h.res).1 h1).trans h.res,(m.block (B+3) (bq.1 h.lines).1 h2).trans h.lines⟩
def Pre.line(h:Pre B s w)(k:Nat)(x:ByteArray)(hx:(Ng s)[k]?=some x):w.cell? (Ad (B+3) k)=some (.string x):=by
 simp[World.cell?,h.lines,hx]
def F8(x:ByteArray)(ws:List ByteArray)(hx:TY x=ws)(w:World)(hs:x.size<=3000):
  Cl 77 #[.string x] w fun e I=>∃(g C:Nat),e=.returned (ix g ws.length C)/\w.heap.size<=g/\ws.length<=C/\C<=maxLen/\Ws I g 0 ws/\Bl w I:=by
 subst hx;have a:=Tryz.strings_FieldsFunc_runes 122 #[] (enters_of func122 au rfl) Wm.CB x w ah (JP w);go_enter func77,ntmps77
 go_wp2_with fail
 refine a.mono ?_;rintro e S ⟨A,rfl,L,p,D⟩
 go_wp2
 go_ret
 have G:=Kf x;refine⟨A,(TY x).length,rfl,L,aF _,by unfold maxLen;omega,?_,D⟩;rcases p.2 with⟨o,_⟩|⟨g,C,b,t,_,m,_,_,_,N⟩
 ·cases o
 cases t;exact⟨b,m,by simpa[TY]using N⟩
def D!(vs:List cC)(ws:List ByteArray)(h:tv ws):(tw vs ws).1.goal.size<=3000:=by
 have H:emp.size<=3000:=aj
 have g:∀ws,(sA vs ws).1.goal.size<=3000:=by
  intro ws;unfold sA;split<;>exact H
 have m:∀ws,tv ws->(lP vs ws).1.goal.size<=3000:=by
  intro ws R;unfold lP;split
  ·rename_i S;exact R.word S ak
  exact H
 have hi:∀ws,tv ws->(DI vs ws).1.goal.size<=3000:=by
  intro ws R;unfold DI;split
  ·rename_i _ S z s J Z
   split
   ·exact R.word Z ak
   exact H
  exact H
 have y:∀ws,(i? vs ws).1.goal.size<=3000:=by
  intro ws;unfold i?;split;rotate_left
  ·exact H
  split
  ·split
   ·split<;>exact H
   ·exact H
   exact H
  exact H
 unfold tw;split
 ·exact H
 split
 ·exact g _
 split
 ·exact hi _ h
 split
 ·exact m _ h
 split
 ·exact H
 exact y _
def Q7(vs:List cC)(ws:List ByteArray)(h:tv ws):(sJ vs ws).1.size<=3000/\(sJ vs ws).2.2.1.goal.size<=3000:=by
 have H:emp.size<=3000:=aj
 unfold sJ;split
 ·exact⟨H,H⟩
 rename_i V r
 have hl:(lr V).size<=3000:=by have:=pR V;have:=h.word V ak;omega
 split
 ·split
  ·split
   ·exact⟨H,H⟩
   exact⟨hl,D! _ _ h.tail⟩
  exact⟨H,H⟩
 exact⟨H,D! _ _ h⟩
def ZU(h:w.ownsRow (B+4) e size v n M):v.ownBlock=none∨v.ownBlock≠some (B+1):=by
 cases t:v.ownBlock with
 |none=>exact aJ rfl
 |some k=>have:=(h.lt k t).1;exact aI (by simp;omega)
def E5(W:World)(o:Obj)(cs:Array Value)(t:TypeId):∀(j:Nat) (u:Value),cs.toList[j]?=some u->((W.alloc o).alloc (.cells cs t)).cell? (((Ad (W.heap.size+1) 0):Addr).add j)=some u:=by
 intro j u U;have h:((W.alloc o).alloc (.cells cs t)).heap[(W.alloc o).heap.size]?=some (cJ cs t):=bf _ _;have R:(W.alloc o).heap.size=W.heap.size+1:=ak
 rw[R]at h;have y:((Ad (W.heap.size+1) 0):Addr).add j=(Ad (W.heap.size+1) j):=by unfold Addr.add;split<;>simp_all
 rw[y];unfold World.cell?;simp only[h]
 simpa using U
def Ei(bj:ByteArray)(a:Option Addr)(l c:Nat)(n:SN):∀u∈(aK bj (.slice a l c) n gq).toList,u.oneCell'=true:=by
 intro u E;simp only[aK,gq,cQ,List.mem_nil_iff,ga]at E;rcases E with rfl|rfl|rfl|rfl|rfl|rfl|rfl|rfl|rfl|rfl|rfl|rfl|rfl|rfl<;>rfl
def TX{t:Nat}{ws:List ByteArray}(h:Ws w g t ws):∀k,Ws w g (t+k) (ws.drop k):=by
 intro k
 induction k with
 |zero=>simpa using h
 | succ k B=>
  by_cases X:k<ws.length
  ·rw[oC X]at B
   exact B.tail
  rw[BI ah];obtain⟨A,G,_⟩:=h;exact⟨A,G,ak⟩
def abI(w:World)(v N d s:Obj):((((w.alloc v).alloc N).alloc d).alloc s).heap[w.heap.size]?=some v/\((((w.alloc v).alloc N).alloc d).alloc s).heap[w.heap.size+1]?=some N/\((((w.alloc v).alloc N).alloc d).alloc s).heap[w.heap.size+1+1]?=some d/\((((w.alloc v).alloc N).alloc d).alloc s).heap[w.heap.size+3]?=some s:=by
 have x:(w.alloc v).heap.size=w.heap.size+1:=ak
 have z:((w.alloc v).alloc N).heap.size=w.heap.size+1+1:=ak
 have c:(((w.alloc v).alloc N).alloc d).heap.size=w.heap.size+3:=ak
 have G:=bf w v;have O:=bf (w.alloc v) N;have Y:=bf ((w.alloc v).alloc N) d;have K:=bf (((w.alloc v).alloc N).alloc d) s;rw[x]at O;rw[z]at Y;rw[c]at K;refine⟨?_,?_,?_,K⟩
 ·rw[ch _ _ _ ah,ch _ _ _ ah,ch _ _ _ ah];exact G
 ·rw[ch _ _ _ ah,ch _ _ _ ah];exact O
 rw[ch _ _ _ ah];exact Y
def E3{S:List NC}(h:w.ownsRow B 152 14 v S.length (eZ S))(h0:0<S.length):∃g C,v=.slice (some (Ad g 0)) S.length C/\B<=g/\fT w g C S:=by
 rcases h.2 with⟨_,e⟩|⟨g,C,A,t,D,m,Z,_,z,N⟩
 ·omega
 exact⟨g,C,t,D,A,m,z,N,Z⟩
def I0(h:w.ownsRow B 152 14 v n M):∃a C,v=.slice a n C:=by
 rcases h.2 with⟨rfl,e⟩|⟨g,C,A,t,_⟩
 ·exact⟨none,0,by rw[e]⟩
 exact⟨_,_,t⟩
def aao(S:List NC)(pl:List PN)(hl:S.length=pl.length)(h:∀(j:Nat) (c:NC) (p:PN),S[j]?=some c->pl[j]?=some p->c.bj=p.bj):S.map NC.bj=pl.map PN.bj:=by
 apply dW;intro j;simp only[bG];by_cases U:j<S.length
 ·have a:=bk U
  have b:=bk (l:=pl) (i:=j) ah;rw[a,b];simp[h j _ _ a b]
 rw[bU ah,bU (l:=pl) ah];rfl
def Sf{ev:Value}{es:List Int}{A:Array Value}{t:TypeId}{f:Nat×Nat}(h:Er w ev es)(Z:w.heap[g]?=some (.cells A t f))(N:t≠3)(o:Nat)(v:Value):Er (w.setCell (Ad g o) v) ev es:=by
 rcases h with h|⟨b,G,O⟩
 ·exact aJ h
 refine aI ⟨b,G,(aZ _ _ _ _ ?_).trans O⟩;rintro rfl;rw[Z]at O;simp at O;exact N O.2.1
def Rd.sN{rb l:Nat}{vs:List cC}(h:Rd w rb l vs)(m:w.grownBy w' row)(h1:some rb≠row)(h2:some l≠row):Rd w' rb l vs:=
 ⟨(m.block rb h.Lf h1).trans h.box,h.own.kept m h2,h.nodup⟩
def Env.sN(h:Env w)(a:w.grownBy w' row)(h1:some 5≠row)(h2:some 1≠row):Env w':=by
 obtain⟨⟨j,n,Z⟩,m,C⟩:=h;exact⟨⟨j,n,a.cell Z h1⟩,m,a.cell C h2⟩
def ado{b j:Nat}(h:∀k,row=some k->b<=k)(hj:j<b):some j≠row:=by
 intro e;have:=h j e.symm;omega
def adk(h:Env w):1<w.heap.size:=by
 obtain⟨m,C⟩:=h.aaf;exact World.block_lt_of_cell? w _ C
def Ps{p:Prop}(h:p:=by
 refine aG (v:=.tuple #[.agg nT,Iv 2]) (by simp[results,results40,go_sem,H]) rfl ?_;rw[HN.o]
 exact⟨(D.setCell (aF _) _).setCell (aF _) _,rfl⟩):p:=h
def MX(s:ByteArray)(w:World)(hs:s.size<=3000)(hE:Env w):
  Cl 40 #[.string s] w (abL w (mN s)):=by
 have h3:decide (3000<(s.size:Int))=false:=by rw[gK];omega
 have hmm:=@run_makeMap Tryz.prog;obtain⟨i0,hi,lu,O,mC⟩:=cY Rl;have HI:Hd (Tryz.prog.info? 152=some i0/\i0.zero=some (.agg #[.string ⟨#[]⟩,.slice none 0 0,Iv 0,Iv 0,Iv 0,Iv 0,.bool false,Iv 0,Iv 0,.bool false,Iv 0,Iv 0,.slice none 0 0,.string ⟨#[]⟩])/\i0.size=14/\i0.bytes=160):=⟨hi,lu,O,mC⟩;clear hi lu O mC;go_enter func40,ntmps40
 go_wp2_with fail
 have TH:=((hE.alloc (.cells nT 86)).alloc (.map #[] 0)).alloc (.cells #[.map (some (w.heap.size+1))] 143);obtain⟨m,hm⟩:=TH.aaf;refine(Tryz.strings_Split s ⟨#[10]⟩ m _ ah hm aj).mono ?_;rintro e W1 ⟨rfl,LD⟩;have aex:=Lj s;have afg:=U1 s;rw[<-aex]at *;have TG:Env W1:=by rw[LD];exact TH.alloc _
 have OQ:Bl w W1:=by
  rw[LD];exact((((aM _ _).alloc (aF _) _).alloc ak _).alloc (by simp;omega) _).alloc (by simp;omega) _
 have K:=abI w (.cells nT 86) (.map #[] 0) (.cells #[.map (some (w.heap.size+1))] 143) (.cells ((Ng s).map Value.string).toArray 9);have vE:Pre w.heap.size s W1:=by
  rw[LD];exact⟨K.1,K.2.2.2⟩
 have TE:Rd W1 (w.heap.size+1+1) (w.heap.size+1) []:=by
  rw[LD];refine⟨K.2.2.1,?_,J5⟩;obtain⟨es,clock,D,F,hs',hD⟩:=World.ownsMap_made (H:=Unit) (w.alloc (.cells nT 86)) Tryz.prog 9 (plainElem Tryz.prog 3);have hb':(((w.alloc (.cells nT 86)).alloc (.map #[] 0))).heap[w.heap.size+1]?=some (.map es clock):=by
   have:(w.alloc (.cells nT 86)).heap.size=w.heap.size+1:=ak
   rw[<-this];exact D
  refine⟨es,clock,?_,F,hs',hD⟩;rw[ch _ _ _ ak,ch _ _ _ ak];exact hb'
 clear K;have O:W1.heap.size=w.heap.size+4:=by rw[LD];simp
 have HG:Hd (5<w.heap.size/\1<w.heap.size):=⟨hE.glob.lt,adk hE⟩;have HZ:Hd (W1.heap.size=w.heap.size+4):=O;clear LD hm O TH hE
 go_wp2_with fail
 go_loopw[5,20] (fun v i wr=>∃(k:Nat) (vs:List cC) (acc:List PN) (S:List NC),k<=(Ng s).length/\i=Iv k/\Hd (xR [] [] (Fh s)=xR vs acc ((Fh s).drop k))/\wr.ownsRow (w.heap.size+4) 152 14 v S.length (eZ S)/\oj wr S acc/\Rd wr (w.heap.size+1+1) (w.heap.size+1) vs/\Env wr/\Pre w.heap.size s wr/\Bl w wr/\Hd (vs.length<=3*k/\S.length<=k/\(∀c∈S,c.bj.size<=3000/\c.n.goal.size<=3000)/\w.heap.size+4<=wr.heap.size)) (fun _ i _=>(Ng s).length-(intOf i).toNat)
 case atStart=>
  refine⟨0,[],[],[],bB _,rfl,rfl,dF _ _ _ _,⟨rfl,fun j c p h=>by simp at h⟩,TE,TG,vE,OQ,?_⟩;exact⟨ak,ak,ak,by have:=HZ.o;omega⟩
 clear TE TG vE OQ;obtain⟨k,vs,acc,S,hk,rfl,X,ku,lO,TE,hEn,vE,D,R⟩:=hrel;by_cases J:k<(Ng s).length
 ·obtain⟨x,E⟩:=La J
  have hxs:x.size<=3000:=by have:=Fi s x (aL E);omega
  obtain⟨ws,B⟩:∃ws,TY x=ws:=⟨_,rfl⟩;have adE:=vE.line k x E;have ig:(k:Int)<((Ng s).length:Int):=ah
  have Nv:tv ws:=B▸Pj x hxs;have rB:∀y∈ws,0<y.size:=by rw[<-B];exact fun y hy=>(DV x y hy).2
  have hcw:=fun W=>F8 x ws B W hxs
  have HCW:=(show Hd (∀W,Cl 77 #[.string x] W fun e I=>∃(g C:Nat),e=.returned (ix g ws.length C)/\W.heap.size<=g/\ws.length<=C/\C<=maxLen/\Ws I g 0 ws/\Bl W I)from hcw);have YH:(Fh s).drop k=ws :: (Fh s).drop (k+1):=by
   rw[oC (by simpa[Fh]using J)]
   congr 1
   have h1:=(bn.1 E);simp only[Fh,tO,h1.2,B]
  have HD:Hd (xR [] [] (Fh s)=xR vs acc (ws :: (Fh s).drop (k+1))):=by show _=_;rw[X.o,YH]
  clear hcw YH B X E;have hbz:=D.size
  go_wp2_with fail
  refine bA (HCW.o _) ?_;clear HCW;rintro e W2 ⟨A,C,rfl,hA,o,aes,OT,N⟩;have VD:=D.trans (N.mono hbz)
  match ws,Nv,rB,HD,o,OT with
  | [],Nv,rB,HD,o,OT=>
   go_wp2_with (go_at_call 78;refine(t! _ _ _).mono ?_;rintro e I ⟨rfl,rfl⟩)
   refine⟨⟨k+1,vs,acc,S,ah,h',?_,nC ku N,lO.mono (xi N),TE.grown N,hEn.below N,vE.grown (bC N) ak ak,VD,?_⟩,by simp[intOf];omega⟩
   ·show _=_
    rw[HD.o];rfl
   have:=R.o;exact⟨ah,ah,this.2.2.1,by have:=N.size;omega⟩
  | V :: r,Nv,rB,HD,o,OT=>
   have hw0:=rB V ak;have hw3:=Nv.word V ak;have hl0:(((V :: r).length:Int)==0)=false:=by rw[er];simp;omega
   have VG:=TE.grown N;have aaN:=hEn.below N;have hRL:=Cd (w.heap.size+1+1) (w.heap.size+1) A 0 C (V :: r) vs W2 ak o aes Nv (by have:=R.a;unfold maxLen;omega) VG aaN.glob OT;have HRL:Hd (Cl 79 #[.pointer (eD w.heap.size),.slice (some (Ad A 0)) (V :: r).length C] W2 (Tk W2 (w.heap.size+1+1) (w.heap.size+1) A 0 (V :: r).length C (sJ vs (V :: r)))):=hRL;clear hRL;cases hno:ua (V :: r)with
   | true=>
    go_wp2_with (go_at_call 78;refine(nW A 0 _ C V r _ hl0 hw0 hw3 OT).mono ?_;rintro e I ⟨rfl,rfl⟩)
    refine⟨⟨k+1,vs,acc,S,ah,h',?_,nC ku N,lO.mono (xi N),VG,aaN,vE.grown (bC N) ak ak,VD,?_⟩,by simp[intOf];omega⟩
    ·show _=_
     rw[HD.o,xR,hno,aD rfl]
    have:=R.o;exact⟨ah,ah,this.2.2.1,by have:=N.size;omega⟩
   | false=>
    go_wp2_with (go_at_call 78;refine(nW A 0 _ C V r _ hl0 hw0 hw3 OT).mono ?_;rintro e I ⟨rfl,rfl⟩)
    refine bA HRL.o ?_;clear HRL;rintro e W3 ⟨bj,kk,ad,l,c,n,ok,zo,rfl,HS,HOK,aeB,Jp⟩;have RN:=(vE.grown (bC N) ak ak).grown Jp ak ak;obtain⟨H,FD⟩:=ae RN.res;have hBz:w.heap.size<W3.heap.size:=(bq.1 RN.res).1;have Y:Bl w W3:=VD.trans ⟨Jp.os,Jp.tape,Jp.output,Jp.size,fun j U=>Jp.block j (by have:=VD.size;omega) (by simp;omega)⟩;have K:w.heap.size+4<=W3.heap.size:=by have:=R.C;have:=N.size;have:=Jp.size;omega
    cases ok with
    | false=>
     have HN:Hd (mN s=Pr.syn):=by
      show _=_;unfold mN;rw[aA ah,HD.o,xR,hno,<-HS.o];rfl
     go_wp2_with fail
     refine aG (v:=.tuple #[.agg nT,Iv 1]) (by simp[results,results40,go_sem,H,hBz]) rfl ?_;rw[HN.o];refine⟨?_,rfl⟩;refine uM ?_ (by simp[World.setCell];omega) _;exact(Y.setCell (aF _) _).setCell (aF _) _
    | true=>
     have FI:=((((nC ku N).kept Jp (ZU ku))).alloc (.cells (aK bj (.slice ad l c) n gq) 152)).alloc (.cells (aK bj (.slice ad l c) n gq) 152);have YA:=E5 W3 (.cells (aK bj (.slice ad l c) n gq) 152) (aK bj (.slice ad l c) n gq) 152;have Jm:=Ei bj ad l c n;have adG:S.length+1<=maxLen:=by have:=R.b;unfold maxLen;omega
     have adF:(S.length+1)*160<=140737488355328:=by have:=R.b;omega
     have YL:w.heap.size+4<=((W3.alloc (.cells (aK bj (.slice ad l c) n gq) 152)).alloc (.cells (aK bj (.slice ad l c) n gq) 152)).heap.size:=by simp;omega
     have HH:Hd (_/\_/\_/\_):=⟨FI,YA,Jm,YL⟩;have hR3:=(lO.mono (xi N)).mono (Zj VG.isMap Jp);have hE3:Env W3:=aaN.sN Jp (by have:=HG.a;first|(simp;omega)|(intro e;have:=dK e;omega)) (by have:=HG.A;first|(simp;done)|(simp;omega)|(intro e;have:=dK e;omega));have hW3:=OT.grown VG.isMap Jp;have M:Hd (oj W3 S acc/\Env W3/\Ws W3 A 0 (V :: r)):=⟨hR3,hE3,hW3⟩;clear hR3 hE3 hW3;simp only[aK,gq]at HH;clear ku FI YA Jm YL lO TE hEn vE adE
     go_wp2_with (at_builtin;go_must (refine nj _ rfl (.tmp 36) (.tmp 38) 84 rfl (w.heap.size+4) 152 i0 _ 14 160 underlying84 HI.a HI.b HI.c HI.C rfl aj _ _ _ rfl HH.a (Ad (W3.heap.size+1) 0) 1 1 _ rfl rfl HH.b HH.c adG adF HH.C ?_;intro v4 W4 mU G aeQ))
     have uy:=HH.a.lt;have Vx:=((gJ W3 (.cells #[.string bj,.slice ad l c,Iv n.kind,Iv n.var,Iv n.op,Iv n.test,.bool n.a.isVar,Iv n.a.var,Iv n.a.const,.bool n.b.isVar,Iv n.b.var,Iv n.b.const,.slice none 0 0,.string n.goal] 152) u5.ownBlock).trans (gJ _ (.cells #[.string bj,.slice ad l c,Iv n.kind,Iv n.var,Iv n.op,Iv n.test,.bool n.a.isVar,Iv n.a.var,Iv n.a.const,.bool n.b.isVar,Iv n.b.var,Iv n.b.const,.slice none 0 0,.string n.goal] 152) u5.ownBlock)).trans G;have P:∀j,j<w.heap.size+4->some j≠u5.ownBlock:=fun j U=>ado (fun q hq=>(uy q hq).1) U
     have Jn:=Q7 vs (V :: r) Nv;have OO:=U5 vs (V :: r);rw[<-HS.o]at Jn OO;simp only at Jn OO;have hB:=R.o;have adv:∀g t ws,Ws W3 g t ws->Ws W4 g t ws:=by
      intro g t ws h;exact Pc (fg HH.a) G g t ws ((h.alloc _).alloc _)
     refine⟨⟨k+1,zo,acc++[⟨bj,(V :: r).drop kk,n⟩],S++[⟨bj,ad,l,c,n,none,0,0⟩],ah,h',?_,?_,?_,aeB.sN Vx (P _ ah) (P _ ah),M.b.sN Vx (P _ (by have:=HG.a;omega)) (P _ (by have:=HG.A;omega)),RN.grown Vx (P _ ah) (P _ ah),?_,?_⟩,by simp[intOf];omega⟩
     ·show _=_
      rw[HD.o,xR,hno,<-HS.o];rfl
     ·rw[bu,zu]
      exact mU
     ·refine(M.a.mono adv).snoc ⟨rfl,rfl,?_,?_⟩
      ·obtain⟨e1,z,e3⟩:=HOK.o trivial
       refine⟨A,0+kk,e1,adv _ _ _ ?_⟩;exact TX M.B kk
      obtain⟨e1,z,e3⟩:=HOK.o trivial;rw[z];simp
     ·refine⟨Vx.os.trans Y.os,Vx.tape.trans Y.tape,Vx.output.trans Y.output,bw Y.size Vx.size,fun j U=>(Vx.block j ah (P j ah)).trans (Y.block j U)⟩
     refine⟨ah,by simp;omega,?_,by have:=Vx.size;omega⟩;intro d hd;rcases jH.1 hd with h|h
     ·exact hB.2.2.1 d h
     simp at h;subst h;exact Jn
 obtain rfl:k=(Ng s).length:=ah
 have HF:Hd (xR [] [] (Fh s)=some (acc,vs)):=by
  show _=_;rw[X.o,BI (by simp[Fh])];rfl
 clear X;have aeU:=TE.cell;have hmo:=TE.own;have oZ:=Ej vs TE.nodup;obtain⟨H,FD⟩:=ae vE.res;have hB:=R.o;by_cases h8:8<vs.length
 ·have d8:decide (8<(vs.length:Int))=true:=by rw[bm];omega
  have HN:Hd (mN s=Pr.prg):=by
   show _=_;unfold mN;rw[aA ah,HF.o];simp only;rw[aA (by simp[j4];omega)]
  go_wp2_with (at_len;refine wI _ rfl _ 141 rfl 9 3 underlying141 _ (w.heap.size+1) vs.length (tab vs) rfl hmo ?_)
  exact Ps
 have d8:decide (8<(vs.length:Int))=false:=by rw[gK];omega
 by_cases NR:S.length=0∨60<S.length
 ·have HN:Hd (mN s=Pr.prg):=by
   show _=_;unfold mN;rw[aA ah,HF.o];simp only;rw[aA (by have:=lO.len;simp[j4];intros;omega)]
  obtain⟨a,cp,rfl⟩:=I0 ku;have hlk:∀W,Cl 80 #[.slice a S.length cp] W fun e I=>e=.returned (.bool false)/\I=W:=by
   intro W;by_cases h0:S.length=0
   ·rw[h0];exact Nh a cp W
   exact Ni a _ cp W (by rw[er];omega) (by rw[bm];omega)
  have HL:Hd (∀W,Cl 80 #[.slice a S.length cp] W fun e I=>e=.returned (.bool false)/\I=W):=hlk;clear hlk
  go_wp2_with (first
   |(at_len;refine wI _ rfl _ 141 rfl 9 3 underlying141 _ (w.heap.size+1) vs.length (tab vs) rfl hmo ?_)
   |(go_at_call 80;refine bA (HL.o _) ?_;rintro e I ⟨rfl,rfl⟩))
  exact Ps
 obtain⟨g,cp,rfl,hgB,hN⟩:=E3 ku ah;have HLK:=(show Hd _ from Q6 g cp S wr hN ah ah (fun c Z=>(hB.2.2.1 c Z).1) (fun c Z=>(hB.2.2.1 c Z).2));have hlk:ej S=ej (acc.map PN.nc):=Nj S acc lO.len (fun j c p a b=>⟨(lO.each j c p a b).bj,(lO.each j c p a b).n⟩);have n1:some w.heap.size≠some g:=by simp;omega
 have n2:some (w.heap.size+3)≠some g:=by simp;omega
 have n3:some (w.heap.size+1+1)≠some g:=by simp;omega
 have n4:some (w.heap.size+1)≠some g:=by simp;omega
 have T:Hd (_/\_/\_/\_):=⟨n1,n2,n3,n4⟩;clear n1 n2 n3 n4;have HLL:Hd (ej S=ej (acc.map PN.nc)):=hlk;clear hlk;cases u:ej S with
 | false=>
  have HN:Hd (mN s=Pr.prg):=by
   show _=_;unfold mN;rw[aA ah,HF.o];simp only;rw[aA (by simp only[j4,<-HLL.o,u];simp)]
  go_wp2_with (first
   |(at_len;refine wI _ rfl _ 141 rfl 9 3 underlying141 _ (w.heap.size+1) vs.length (tab vs) rfl hmo ?_)
   |(go_at_call 80;refine bA HLK.o ?_;rintro e Q ⟨rfl,f,Yu⟩;clear H FD;obtain⟨H,FD⟩:=ae (vE.grown f T.a T.b).res))
  refine aG (v:=.tuple #[.agg nT,Iv 2]) (by simp[results,results40,go_sem,H]) rfl ?_;rw[HN.o];refine⟨?_,rfl⟩;have LC:Bl w Q:=D.trans ⟨f.os,f.tape,f.output,f.size,fun j U=>f.block j (by have:=D.size;omega) (by simp;omega)⟩;exact(LC.setCell (aF _) _).setCell (aF _) _
 | true=>
  have HN:Hd (mN s=Pr.ok acc vs):=by
   show _=_;unfold mN;rw[aA ah,HF.o];simp only;rw[aD (by have:=lO.len;simp only[j4,<-HLL.o,u];simp;omega)]
  go_wp2_with (first
   |(at_len;first|refine wI _ rfl _ 141 rfl 9 3 underlying141 _ (w.heap.size+1) vs.length (tab vs) rfl aer ?_|refine wI _ rfl _ 141 rfl 9 3 underlying141 _ (w.heap.size+1) vs.length (tab vs) rfl hmo ?_)
   |(go_at_call 80;refine bA HLK.o ?_;rintro e Q ⟨rfl,f,Yu⟩;clear H FD;obtain⟨H,FD⟩:=ae (vE.grown f T.a T.b).res;have adL:=TE.sN f T.c T.C;have aez:=adL.cell;have aer:=adL.own))
  refine aG (v:=.tuple #[.agg (cN g S.length cp vs.length),Iv 0]) (by simp[results,results40,go_sem,H]) rfl ?_;rw[HN.o];have LC:Bl w Q:=D.trans ⟨f.os,f.tape,f.output,f.size,fun j U=>f.block j (by have:=D.size;omega) (by simp;omega)⟩;refine⟨(LC.setCell (aF _) _).setCell (aF _) _,?_⟩;obtain⟨ps,nl',hp,hN5,hL5⟩:=Yu u;have aaD:=(vE.grown f T.a T.b).res;have hR5:oj Q S acc:=lO.mono (Pc (fun q hq=>by cases hq;obtain⟨cur,Z,_⟩:=hN;exact⟨cur,(0,0),Z⟩) f);refine⟨g,cp,nl',ps,by rw[lO.len],ah,?_,?_,?_,?_⟩
  ·exact hN5.of_block ((aZ _ _ _ _ (by show g≠w.heap.size;omega)).trans (aZ _ _ _ _ (by show g≠w.heap.size;omega)))
  ·refine oj.mono (w:=Q) ?_ ?_
   ·refine⟨hL5.len.trans lO.len,fun j c' p hc' hp'=>?_⟩
    have U:j<S.length:=by have:=(bn.1 hc').1;have:=hL5.len;omega
    have Z:=bk U;obtain⟨c2,a1,a2,a3,a4⟩:=hL5.done j _ U Z;rw[hc']at a1;cases a1;have L:=hR5.each j _ p Z hp';exact⟨a2.bj.trans L.bj,a2.n.trans L.n,by rw[a2.wa];exact L.ws,a2.wl.trans L.wl⟩
   intro a t ws h;have P:a≠w.heap.size:=by
    rintro rfl;obtain⟨cur,Z,_⟩:=h;rw[aaD]at Z;simp at Z
   exact(h.set P _).set P _
  ·rw[<-aao S acc lO.len (fun j c p a b=>(lO.each j c p a b).bj)];exact hp
  intro j c' p hc' hp';have U:j<S.length:=by have:=(bn.1 hc').1;have:=hL5.len;omega
  have Z:=bk U;obtain⟨c2,a1,a2,a3,a4⟩:=hL5.done j _ U Z;rw[hc']at a1;cases a1;have L:=hR5.each j _ p Z hp';have e:kA ps p.nc j=kA ps S[j] j:=by unfold kA;rw[L.n];rfl
  rw[e];have ady:(Q.setCell (Ad w.heap.size 0) (ix g S.length cp)).heap[w.heap.size]?=some (.cells #[.slice (some (Ad g 0)) S.length cp,Iv 0] 86 (0,0)):=by
   simp[World.setCell,rU,aaD]
  exact Sf (Sf a3 aaD aj 0 _) ady aj 1 _
def uj(s:ByteArray)(w:World)(i:Env w):Cl 40 #[.string s] w (abL w (mN s)):=by
 by_cases h:3000<s.size
 ·have e:mN s=Pr.syn:=by unfold mN;rw[aD h]
  rw[e];exact IH s w (by rw[bm];omega)
 exact MX s w ah i
end
section
variable {ws:List ByteArray} {pl:List PN} {w w':World} {B b k g:Nat} {c:Array Value} {t:TypeId} {f:Nat×Nat} {S:List NC} {p:Prop}
open Go.RowKit Go.Proofs Go.Maps Tryz
def jw(ws:List ByteArray):List UInt8:=match ws with|[]=>[]|x :: r=>x.data.toList++r.flatMap (fun y=>32 :: y.data.toList)
def lbl(b:ByteArray):List UInt8:=if b.toList.isEmpty then[] else b.data.toList++[58,32]
def oW(p:PN):List UInt8:=lbl p.bj++jw p.ws++[10]
def vx(pl:List PN):List UInt8:=pl.flatMap oW
def Vd(ws:List ByteArray)(x:ByteArray):jw (ws++[x])=jw ws++(if ws=[] then[] else[32])++x.data.toList:=by
 cases ws with
 |nil=>simp[jw]
 |cons a r=>simp[jw]
def Vc(ws:List ByteArray)(k:Nat)(x:ByteArray)(h:ws[k]?=some x):jw (ws.take (k+1))=jw (ws.take k)++(if k=0 then[] else[32])++x.data.toList:=by
 have hl:=(bn.1 h);rw[dS hl.1,hl.2,Vd]
 congr 2
 by_cases X:k=0
 ·subst X;simp
 have:ws.take k≠[]:=by
  intro e;have Y:=dv List.length e;rw[dL,eI]at Y;have:=hl.1;omega
 simp[X,this]
def Qr(pl:List PN)(p:PN):vx (pl++[p])=vx pl++oW p:=by simp[vx]
def Qq(pl:List PN)(k:Nat)(p:PN)(h:pl[k]?=some p):vx (pl.take (k+1))=vx (pl.take k)++oW p:=by
 have hl:=(bn.1 h);rw[dS hl.1,hl.2,Qr]
structure Psz(pl:List PN):Prop where
  len:pl.length<=60
  bj:∀p∈pl,p.bj.size<=3000
  ws:∀p∈pl,tv p.ws
def VO(r:List ByteArray)(h:∀x∈r,x.size<=3000):(r.flatMap (fun y=>32 :: y.data.toList)).length<=r.length*3001:=by
 induction r with
 |nil=>simp
 |cons a r B=>
  have G:=h a ak;have O:=B (fun x E=>h x (by simp[E]));have Y:=Wm.cV a;simp only[bY,bu,bT]at O⊢;omega
def Ym(ws:List ByteArray)(h:tv ws):(jw ws).length<=10000000:=by
 cases ws with
 |nil=>simp[jw]
 |cons a r=>
  have G:=h.word a ak;have O:=VO r (fun x E=>h.word x (by simp[E]));have Y:=Wm.cV a;have K:=h.len;simp only[jw,bu,bT]at O K⊢;omega
def Pa(h:tv ws)(k:Nat):tv (ws.take k):=⟨by have:=h.len;simp;omega,fun x E=>h.word x (lZ E)⟩
def Q9(b:ByteArray)(h:b.size<=3000):(lbl b).length<=3002:=by
 have:=Wm.cV b;unfold lbl;split<;>simp;omega
def U4(p:PN)(h1:p.bj.size<=3000)(h2:tv p.ws):(oW p).length<=10010000:=by
 have:=Q9 p.bj h1;have:=Ym p.ws h2;simp[oW];omega
def ZN:∀(X:List PN),(∀p∈X,p.bj.size<=3000)->(∀p∈X,tv p.ws)->(vx X).length<=X.length*10010000:=by
 intro X
 induction X with
 |nil=>intros;simp[vx]
 |cons p r B=>
  intro G O;have a:=U4 p (G p ak) (O p ak);have b:=B (fun x E=>G x (by simp[E])) (fun x E=>O x (by simp[E]));simp only[vx,bY,bu,bT]at b⊢;omega
def Psz.Uc(h:Psz pl)(k:Nat):(vx (pl.take k)).length<=700000000:=by
 have:=ZN (pl.take k) (fun p K=>h.bj p (lZ K)) (fun p K=>h.ws p (lZ K));have O:=h.len;have Y:(pl.take k).length<=60:=by simp;omega
 omega
def adq{l:List UInt8}(h:Bs w B b l)(hk:w.heap[k]?=some (.cells c t f))(N:t≠159):k≠b:=by
 rintro rfl;obtain⟨_,p,v,_,D,_⟩:=h;rw[hk]at D;simp at D;exact N D.2.1
def yA{l:List UInt8}(h:Bs w B b l)(hk:Kp b w w')(Z:w.heap[k]?=some (.cells c t f))(N:t≠159)(H:t≠5):w'.heap[k]?=w.heap[k]?:=by
 rw[hk.keep k _ Z (adq h Z N) (fun F E e=>by simp at e;exact H e.2.1),Z]
def Ws.kp{t:Nat}{l:List UInt8}(h:Ws w g t ws)(f:Bs w B b l)(hk:Kp b w w'):Ws w' g t ws:=by
 obtain⟨A,Z,N⟩:=h;exact⟨A,(yA f hk Z aj aj).trans Z,N⟩
def fT.kp{C:Nat}{l:List UInt8}(h:fT w g C S)(f:Bs w B b l)(hk:Kp b w w'):fT w' g C S:=by
 obtain⟨A,Z,N⟩:=h;exact⟨A,(yA f hk Z aj aj).trans Z,N⟩
def Bs.alloc{l:List UInt8}(h:Bs w B b l)(o:Obj):Bs (w.alloc o) B b l:=by
 obtain⟨f,p,v,K,D,g,J⟩:=h;exact⟨f,p,v,K,(ch _ _ _ (bq.1 D).1).trans D,g.alloc o,J⟩
def kQ(h:oj w S pl)(o:Obj):oj (w.alloc o) S pl:=h.mono (fun _ _ _ h=>h.alloc o)
def Ga{l:List UInt8}{cs:Array Value}(h:w.heap[k]?=some (cJ cs t))(N:t≠159)(H:t≠5)(f:Bs w B b l)(hk:Kp b w w'):w'.heap[k]?=some (cJ cs t):=
 (yA f hk h N H).trans h
def abX(h:p:=by
 obtain⟨m,hm,rfl,f,B,M,U,D⟩:=hrel;have adJ:=D.size;have z:=HPQ.o m;by_cases hml:m<p.ws.length;rotate_left
 ·obtain rfl:m=p.ws.length:=ah
  rw[oy]at f z
  go_wp2_with (go_at_call 82;refine(qq w.heap.size (w.heap.size+1) _ 10 _ f ah ah).mono ?_;rintro e W4 ⟨rfl,u,b,v⟩)
  go_roundw
  case rel=>
   refine⟨k+1,ah,h',?_,B.kp f b,M.mono (fun _ _ _ h=>h.kp f b),D.trans v⟩;rw[Qq pl k p K]
   simpa[oW,dj]using u
  simp[intOf];omega
 obtain⟨x,E⟩:=La hml;have hxc:=U.cell m x E;have aeY:=hWz.word x (aL E);have hJ4:(vx (pl.take k)++lbl p.bj++jw (p.ws.take m)++[32]).length+x.size<=140737488355328:=by rw[bu,gL];omega
 have hxs:=hWz.word x (aL E);have O:(m:Int)<(p.ws.length:Int):=ah
 have Z:Hd (jw (p.ws.take (m+1))=jw (p.ws.take m)++(if m=0 then[] else[32])++x.data.toList):=Vc p.ws m x E;by_cases h0:m=0
 ·subst h0
  have aeZ:e' wr l oa (.string x):=hxc;clear hxc hJ4
  go_wp2_with (go_at_call 81;refine(gF w.heap.size (w.heap.size+1) _ x _ f ah ah).mono ?_;rintro e W5 ⟨⟨_,rfl⟩,hB5,a,W⟩)
  go_roundw
  case rel=>
   refine⟨1,ah,h',?_,B.kp f a,M.mono (fun _ _ _ h=>h.kp f a),U.kp f a,D.trans W⟩;rw[Z.o]
   simpa[dj]using hB5
  simp[intOf];omega
 have hm0:decide (0<(m:Int))=true:=by rw[bm];omega
 go_wp2_with (first
  |(go_at_call 82;refine(qq w.heap.size (w.heap.size+1) _ 32 _ f ah ah).mono ?_;rintro e W4 ⟨rfl,u,b,v⟩;have afi:=v.size)
  |(go_at_call 81;refine(gF w.heap.size (w.heap.size+1) _ x _ u hJ4 ah).mono ?_;rintro e W5 ⟨⟨_,rfl⟩,hB5,a,W⟩))
 go_roundw
 case rel=>
  refine⟨m+1,ah,h',?_,(B.kp f b).kp u a,(M.mono (fun _ _ _ h=>h.kp f b)).mono (fun _ _ _ h=>h.kp u a),(U.kp f b).kp u a,(D.trans v).trans W⟩;rw[Z.o,aA h0]
  simpa[dj]using hB5
 simp[intOf];omega):p:=h
def MQ(g C:Nat)(nv:Int)(S:List NC)(pl:List PN)(w:World)(B:fT w g C S)(M:oj w S pl)(R:Psz pl)(h0:0<pl.length):
  Cl 41 #[.agg (cN g pl.length C nv)] w (Rb w (.string ⟨(vx pl).toArray⟩)):=by
 have hg:=B.lt;go_enter func41,ntmps41
 go_wp2_with fail
 have adN:Bs ((w.alloc (.cells (cN g pl.length C nv) 86)).alloc (.cells #[.pointer none,.slice none 0 0] 159)) w.heap.size (w.heap.size+1) []:=by
  refine⟨ah,_,_,aJ rfl,?_,dF _ _ _ _,by simp[Value.ownBlock]⟩;have:=bf (w.alloc (.cells (cN g pl.length C nv) 86)) (.cells #[.pointer none,.slice none 0 0] 159)
  simpa using this
 go_loopw[11] (fun i wr=>∃(k:Nat),k<=pl.length/\i=Iv k/\Bs wr w.heap.size (w.heap.size+1) (vx (pl.take k))/\fT wr g C S/\oj wr S pl/\Bl w wr) (fun i _=>pl.length-(intOf i).toNat)
 case atStart=>
  exact⟨0,bB _,rfl,adN,(B.alloc _).alloc _,kQ (kQ M _) _,((aM _ _).alloc (aF _) _).alloc ak _⟩
 clear adN B M;obtain⟨k,X,rfl,f,B,M,D⟩:=hrel;have d:=M.len;have P:=D.size;by_cases J:k<pl.length;rotate_left
 ·obtain rfl:k=pl.length:=ah
  rw[oy]at f;have hne:vx pl≠[]:=by
   cases pl with
   |nil=>simp at h0
   |cons p r=>simp[vx,oW]
  have T:=(show Hd (vx pl≠[])from hne);clear hne
  go_wp2_with (go_at_call 83;refine(tj w.heap.size (w.heap.size+1) _ _ f T.o).mono ?_;rintro e W4 ⟨rfl,v⟩)
  go_ret
  exact⟨rfl,D.trans v⟩
 obtain⟨p,K⟩:=La J;obtain⟨c,hc⟩:=La (l:=S) (i:=k) ah;obtain⟨A,q1,t,y,Q,q5,q6,q7,q8,L,q10,G,q12,q13⟩:=B.all k c hc;have adz:=M.each k c p hc K;have hWz:=R.ws p (aL K);have hLz:=R.bj p (aL K);have hwl:=hWz.len;have ae5:=R.len;have hTz:=R.Uc k;have VH:∀m,(vx (pl.take k)++lbl p.bj++jw (p.ws.take m)).length<=800000000:=by
  intro m;have h1:=Q9 p.bj hLz;have h2:=Ym (p.ws.take m) (Pa hWz m);simp only[bu];omega
 have HPZ:Hd (∀m,(vx (pl.take k)++lbl p.bj++jw (p.ws.take m)).length<=800000000):=VH;clear VH;have s:(k:Int)<(pl.length:Int):=ah
 obtain⟨l,oa,hwa,OT⟩:=adz.ws;obtain⟨bj,wa,wl,wc,n,ea,el,ec⟩:=c;obtain⟨rfl,rfl,_,rfl⟩:=adz;simp only at hwa;subst hwa;simp only at A q1 t y Q q5 q6 q7 q8 L q10 G q12 q13;have VH:=HPZ.o;cases hem:p.bj.toList.isEmpty with
 |true=>
  have I:Hd (lbl p.bj=[]):=by show _=_;unfold lbl;rw[hem];rfl
  clear VH
  go_wp2_with fail
  have VH:=HPZ.o;have HPQ:Hd (∀m,(vx (pl.take k)++lbl p.bj++jw (p.ws.take m)).length<=800000000):=VH;clear VH
  go_loopw[25] (fun i F=>∃(m:Nat),m<=p.ws.length/\i=Iv m/\Bs F w.heap.size (w.heap.size+1) (vx (pl.take k)++lbl p.bj++jw (p.ws.take m))/\fT F g C S/\oj F S pl/\Ws F l oa p.ws/\Bl w F) (fun i _=>p.ws.length-(intOf i).toNat)
  case atStart=>exact⟨0,bB _,rfl,by rw[I.o];simpa[jw]using f.alloc _,B.alloc _,kQ M _,OT.alloc _,D.alloc P _⟩
  clear f B M D OT A q1 t y Q q5 q6 q7 q8 L q10 G q12 q13;exact abX
 | false=>
  have I:Hd (lbl p.bj=p.bj.data.toList++[58,32]):=by show _=_;unfold lbl;rw[hem];rfl
  have HPQ:Hd (∀m,(vx (pl.take k)++lbl p.bj++jw (p.ws.take m)).length<=800000000):=VH;clear VH
  go_wp2_with (first
   |(go_at_call_of 81 (Value.string p.bj);refine(gF w.heap.size (w.heap.size+1) _ p.bj _ (f.alloc _) ah (by simp;omega)).mono ?_;rintro e W2 ⟨⟨_,rfl⟩,o,V,N⟩;have eB:=Ga (bf wr _) aj aj (f.alloc _) V;obtain⟨H,q⟩:=ae eB;have adJ:=N.size;have hnb:wr.heap.size<W2.heap.size:=(bq.1 eB).1)
   |(go_at_call 81;refine(gF w.heap.size (w.heap.size+1) _ ⟨#[58,32]⟩ _ o (by simp;have:(ByteArray.mk #[58,32]).size=2:=rfl;omega) (by simp at adJ;omega)).mono ?_;rintro e W3 ⟨⟨_,rfl⟩,hB3,j,Y⟩;have hby:=Ga eB aj aj o j;clear H q;obtain⟨H,q⟩:=ae hby))
  go_loopw[25] (fun i F=>∃(m:Nat),m<=p.ws.length/\i=Iv m/\Bs F w.heap.size (w.heap.size+1) (vx (pl.take k)++lbl p.bj++jw (p.ws.take m))/\fT F g C S/\oj F S pl/\Ws F l oa p.ws/\Bl w F) (fun i _=>p.ws.length-(intOf i).toNat)
  case atStart=>exact⟨0,bB _,rfl,by rw[I.o];simpa[jw,dj]using hB3,((B.alloc _).kp (f.alloc _) V).kp o j,((kQ M _).mono (fun _ _ _ h=>h.kp (f.alloc _) V)).mono (fun _ _ _ h=>h.kp o j),((OT.alloc _).kp (f.alloc _) V).kp o j,((D.alloc P _).trans N).trans Y⟩
  clear f B M D OT o hB3 V j N Y eB hby H q A q1 t y Q q5 q6 q7 q8 L q10 G q12 q13;exact abX
def Pb(h:tv ws)(k:Nat):tv (ws.drop k):=⟨by have:=h.len;simp;omega,fun x E=>h.word x (List.mem_of_mem_drop E)⟩
def Zz:∀(L:List (List ByteArray)) (vs:List cC) (c X:List PN) (d:List cC),(∀ws∈L,tv ws)->(∀p∈c,p.bj.size<=3000/\tv p.ws)->xR vs c L=some (X,d)->∀p∈X,p.bj.size<=3000/\tv p.ws:=by
 intro L
 induction L with
 |nil=>intro vs c X d _ y h;simp[xR]at h;rw[<-h.1];exact y
 | cons ws r B=>
  intro vs c X d a y h;have R:=a ws ak;rw[xR]at h;split at h
  ·exact B vs c X d (fun x E=>a x (by simp[E])) y h
  split at h
  ·refine B _ _ X d (fun x E=>a x (by simp[E])) ?_ h
   intro p K;rcases jH.1 K with K|K
   ·exact y p K
   simp at K;subst K;exact⟨(Q7 vs ws R).1,Pb R _⟩
  cases h
def aaj(s:ByteArray)(h:s.size<=3000):∀ws∈Fh s,tv ws:=by
 intro ws B;obtain⟨x,E,rfl⟩:=bP.1 B;exact Pj x (by have:=Fi s x E;omega)
def Cs{s:ByteArray}{vs:List cC}(h:mN s=Pr.ok pl vs):Psz pl/\0<pl.length/\j4 pl vs=true/\xR [] [] (Fh s)=some (pl,vs)/\s.size<=3000:=by
 unfold mN at h;split at h
 ·cases h
 rename_i z
 split at h
 ·cases h
 rename_i a d L
 split at h;rotate_left
 ·cases h
 rename_i K
 cases h;have R:=Zz (Fh s) [] [] pl vs (aaj s ah) ak L;have c:=K;simp only[j4,aS,bm]at c;exact⟨⟨c.1.2,fun p K=>(R p K).1,fun p K=>(R p K).2⟩,c.1.1.2,K,L,ah⟩
def Ts(s:ByteArray):ByteArray:=match mN s with | .inr (pl,_)=>⟨(vx pl).toArray⟩|_=>⟨#[]⟩
def zB(s:ByteArray):Int:=match mN s with | .inr (_,_)=>0 | .inl false=>1 | .inl true=>2
def abW(h:p:=by
 clear L;go_enter func17,ntmps17
 go_wp2_with (go_at_call 40;refine hP.mono ?_;rintro e T ⟨A,rfl⟩)
 go_ret2
 rw[j.a,j.A]
 exact⟨rfl,A.alloc A.size _⟩):p:=h
def xl(s:ByteArray)(w:World)(i:Env w):
  Cl 17 #[.string s] w (Rb w (.tuple #[.string (Ts s),Iv (zB s)])):=by
 have hP:=uj s w i;rcases L:mN s with b|⟨X,vs⟩;rotate_left
 ·skip
  obtain⟨R,o,_⟩:=Cs L;rw[L]at hP;have j:Hd (Ts s=⟨(vx X).toArray⟩/\zB s=0):=⟨by unfold Ts;rw[L],by unfold zB;rw[L]⟩;clear L;go_enter func17,ntmps17
  go_wp2_with (first
   |(go_at_call 40;refine hP.mono ?_;rintro e T ⟨A,g,C,S,ps,rfl,c,B,M,d,a⟩)
   |(go_at_call 41;refine(MQ g C _ S X _ (B.alloc _) (kQ M _) R o).mono ?_;rintro e r ⟨rfl,N⟩))
  go_ret2
  rw[j.a,j.A];exact⟨rfl,(A.alloc A.size _).trans (N.mono (by have:=A.size;simp;omega))⟩
 cases b with
 |false=>
  rw[L]at hP;have j:Hd (Ts s=⟨#[]⟩/\zB s=1):=⟨by unfold Ts;rw[L],by unfold zB;rw[L]⟩;exact abW
 |true=>
  rw[L]at hP;have j:Hd (Ts s=⟨#[]⟩/\zB s=2):=⟨by unfold Ts;rw[L],by unfold zB;rw[L]⟩;exact abW
end
open Go.RowKit Go.Proofs Go.Maps Tryz
def qz(o a b:Int):Int:=if o=0 then wrap64 (a+b) else if o=1 then wrap64 (a-b) else if o=2 then wrap64 (a*b) else if b=0 then 0 else wrap64 (a.tdiv b)
def EW(o b:Int):Bool:=o==0||o==1||o==2||!(b==0)
def xq(t a b:Int):Bool:=if t=0 then decide (a<b) else if t=1 then decide (a<=b) else if t=2 then a==b else a !=b
def WH:wrap64 0=0:=by unfold wrap64;omega
def Xt{p:Prop}(h:p:=by
 go_enter func172,ntmps172
 go_wp2
 all_goals
  go_ret2
  refine⟨ug ?_ ?_,rfl⟩<;>simp_all[qz,EW,WH]):p:=h
def Om(o a b:Int)(w:World):
  Cl 172 #[Iv o,Iv a,Iv b] w fun e I=>e=.returned (.tuple #[Iv (qz o a b),.bool (EW o b)])/\I=w:=by
 by_cases D:b=0
 ·subst D
  exact Xt
 have c:(b==0)=false:=by simp[D]
 exact Xt
def NA(t a b:Int)(w:World):
  Cl 173 #[Iv t,Iv a,Iv b] w fun e I=>e=.returned (.bool (xq t a b))/\I=w:=by
 go_enter func173,ntmps173
 go_wp2
 all_goals
  go_ret
  refine⟨aW ?_,rfl⟩<;>simp_all[xq]
section
variable {K:Type}
structure Pm where
  nd:List SN
  nx:List (List Nat)
  nv:Nat
def zE(ps:List (cC×Nat)):Nat->List PN->List (List Nat)
 |_,[]=>[]
 |j,p :: r=>(kA ps p.nc j).map Int.toNat :: zE ps (j+1) r
def nz(pl:List PN)(ps:List (cC×Nat))(nv:Nat):Pm:=⟨pl.map PN.n,zE ps 0 pl,nv⟩
def Pm.at(P:Pm)(j:Nat):SN:=P.nd.getD j om
def Pm.qY(P:Pm)(j:Nat):List Nat:=P.nx.getD j []
def jf(n:SN):Bool:=decide (n.kind<=2)
abbrev Key:=(Bool×Int×Int)×Int×(Bool×Int×Int)
def Ns(o:ot):Bool×Int×Int:=(o.isVar,o.var,o.const)
def Bf(n:SN):Option Key:=if n.kind=1/\(n.a.isVar=true∨n.b.isVar=true) then some (Ns n.a,n.op,Ns n.b) else none
def ft[DecidableEq K](acc:List K)(o:Option K):List K:=match o with|none=>acc|some x=>if x∈acc then acc else acc++[x]
def Be[DecidableEq K](ks:List (Option K)):List K:=ks.foldl ft []
def Pm.ex(P:Pm):List Key:=Be (P.nd.map Bf)
def sO(k:Key)(v:Int):Bool:=(k.1.1&&k.1.2.1==v)||(k.2.2.1&&k.2.2.2.1==v)
def Pm.ev(P:Pm)(i f:Nat):Bool:=match Bf (P.at i),P.ex[f]? with|some x,some y=>decide (x=y)|_,_=>false
def Pm.kl(P:Pm)(i f:Nat):Bool:=jf (P.at i)&&(match P.ex[f]? with|some y=>sO y (P.at i).var|none=>false)
def qC:Nat->List SN->List Nat
 |_,[]=>[]
 |i,n :: r=>if jf n then i :: qC (i+1) r else qC (i+1) r
def Pm.pg(P:Pm)(f:Nat):Option Nat:=if f<P.nv then none else(qC 0 P.nd)[f-P.nv]?
def Pm.V9(P:Pm)(f:Nat):Int:=if f<P.nv then f else match P.pg f with|some i=>(P.at i).var|none=>-1
def fm(n:SN):Nat:=if n.kind=0∨n.kind=3 then 1 else if n.kind=1∨n.kind=4 then 2 else 0
def Zn(n:SN)(v:Int):Bool:=(decide (0<fm n)&&n.a.isVar&&n.a.var==v)||(decide (1<fm n)&&n.b.isVar&&n.b.var==v)
def Pm.facts(P:Pm)(p:Int):Nat:=if p=1 then P.nv+(qC 0 P.nd).length else if p=2 then P.nv else P.ex.length
def Pm.st(P:Pm)(p:Int)(n f:Nat):Bool:=
 if p=1 then n==0&&decide (f<P.nv)
 else if p=2 then Zn (P.at n) f
 else if p=3 then n==0
 else(P.at n).kind==6||(P.kl n f&&!P.ev n f)
def Pm.ad(P:Pm)(p:Int)(m f:Nat):Bool:=if p=1 then P.pg f==some m else if p=3 then P.kl m f else false
def Pm.ps(P:Pm)(p:Int)(n m f:Nat):Bool:=
 if p=1 then !(jf (P.at m)&&(P.at m).var==P.V9 f)
 else if p=2 then !(jf (P.at n)&&(P.at n).var==f)
 else if p=3 then !P.ev m f
 else !P.ev n f
def i7(n:Nat):Nat->List Nat->List Nat
 |_,[]=>[]
 |k,t :: r=>if t=n then k :: i7 n (k+1) r else i7 n (k+1) r
def gA(n:Nat):Nat->List (List Nat)->List (Nat×Nat)
 |_,[]=>[]
 |i,l :: r=>(i7 n 0 l).map (fun k=>(i,k))++gA n (i+1) r
def Pm.ins(P:Pm)(n:Nat):List (Nat×Nat):=gA n 0 P.nx
def Pm.Ya(P:Pm)(p:Int)(n:Nat):List Nat:=if p=2∨p=4 then P.qY n else(P.ins n).map Prod.fst
def Pm.rule(P:Pm)(p:Int)(f n:Nat)(th:Nat->Bool):Bool:=P.st p n f||(P.Ya p n).any fun m=>P.ad p m f||(P.ps p n m f&&th m)
def q?:Nd:=⟨[],[],false,0,[]⟩
def Ct.at(c:Ct)(j:Nat):Nd:=c.nodes.getD j q?
def Nd.kZ(x:Nd)(f:Nat):Bool:=decide ((f:Int)∈x.facts)
def Nd.qP(x:Nd)(f:Nat):Int:=x.aO.getD (x.facts.idxOf (f:Int)) 0
def qt(c:Ct)(f:Nat)(r:Int)(n:Nat):Bool:=(c.at n).kZ f&&(decide (r<0)||decide ((c.at n).qP f<r))
def xy(P:Pm)(c:Ct):Bool:=(List.range (P.facts c.problem)).all fun f=>(List.range P.nd.length).all fun n=>!P.rule c.problem f n (qt c f (-1))||qt c f (-1) n
def ur(P:Pm)(c:Ct):Bool:=(List.range (P.facts c.problem)).all fun f=>(List.range P.nd.length).all fun n=>!qt c f (-1) n||P.rule c.problem f n (qt c f ((c.at n).qP f))
def fM(vs:List VV)(o:ot):VV:=if o.isVar then vs.getD o.var.toNat ⟨false,0,0⟩ else VV.one o.const
def Yg (n:SN) (k:Nat) (vs:List VV):EV:=
  if n.kind=2 then some (vs.set n.var.toNat VV.fA)
  else if n.kind=0 then some (vs.set n.var.toNat (fM vs n.a))
  else if n.kind=4 then(if (fM vs n.a).any||(fM vs n.b).any||xq n.test (fM vs n.a).lo (fM vs n.b).lo==decide (k=0) then some vs else none)
  else if n.kind=1 then
    (if n.op=3/\(fM vs n.b).any=false/\(fM vs n.b).lo=0 then none
     else if (fM vs n.a).any||(fM vs n.b).any then some (vs.set n.var.toNat VV.fA)
     else some (vs.set n.var.toNat (VV.one (qz n.op (fM vs n.a).lo (fM vs n.b).lo))))
  else some vs
def zl(t:Int)(yes:Bool)(a b:VV):Option (VV×VV):=
 if t=0/\yes=true then(if b.hi=-9223372036854775808∨a.lo=9223372036854775807 then none else some (cI a (-9223372036854775808) (b.hi-1),cI b (a.lo+1) 9223372036854775807))
 else if t=1/\yes=true then some (cI a (-9223372036854775808) b.hi,cI b a.lo 9223372036854775807)
 else if t=0 then some (cI a b.lo 9223372036854775807,cI b (-9223372036854775808) a.hi)
 else if t=1 then(if a.hi=-9223372036854775808∨b.lo=9223372036854775807 then none else some (cI a (b.lo+1) 9223372036854775807,cI b (-9223372036854775808) (a.hi-1)))
 else if (t=2/\yes=true)∨(t≠2/\yes=false) then some (cI a b.lo b.hi,cI a b.lo b.hi)
 else if a.lo=a.hi/\VV.wz a b=true then none
 else some (a,b)
def yi(q:VV×VV):Option (VV×VV):=if q.1.hi<q.1.lo∨q.2.hi<q.2.lo then none else some q
def qm(t:Int)(yes:Bool)(a b:VV):Option (VV×VV):=match zl t yes a b with|none=>none|some q=>yi q
def chR (av bv:Int) (vs:List VV) (x y:VV):EV:=
  if 0<=bv then
    (if (if bv=av then cI x y.lo y.hi else y).hi<(if bv=av then cI x y.lo y.hi else y).lo then none
     else some ((if 0<=av then vs.set av.toNat x else vs).set bv.toNat (if bv=av then cI x y.lo y.hi else y)))
  else some (if 0<=av then vs.set av.toNat x else vs)
def nE(o:ot):Int:=if o.isVar then o.var else -1
def chV(n:SN)(vs:List VV)(x y:VV):EV:=chR (nE n.a) (nE n.b) vs x y
def Sx(op:Int)(a b:VV):Option VV:=if op=0 then some (DA a b) else if op=1 then some (r9 a b) else if op=2 then some (CO a b) else jS a b
def Yf(n:SN)(k:Nat)(vs:List VV):EV:=
 if n.kind=2 then some (vs.set n.var.toNat VV.all)
 else if n.kind=0 then some (vs.set n.var.toNat (fM vs n.a))
 else if n.kind=4 then(match qm n.test (decide (k=0)) (fM vs n.a) (fM vs n.b)with|none=>none|some q=>chV n vs q.1 q.2)
 else if n.kind=1 then(match Sx n.op (fM vs n.a) (fM vs n.b)with|none=>none|some v=>some (vs.set n.var.toNat v))
 else some vs
def Fb(p:Int)(n:SN)(k:Nat)(e:EV):EV:=match e with|none=>none|some vs=>if p=5 then Yg n k vs else Yf n k vs
def Pm.Tp(P:Pm)(n:Nat):EV:=if n=0 then some (List.replicate P.nv ⟨false,0,0⟩) else none
def Pm.say(P:Pm)(p:Int)(n:Nat)(at_:Nat->EV):EV:=(P.ins n).foldl (fun out q=>CY p out (Fb p (P.at q.1) q.2 (at_ q.1))) (P.Tp n)
def fN(r:Int)(v:Vl):VV:=if v.kind=3 then⟨false,v.lo,v.hi⟩ else if v.kind=1 then VV.one v.lo else if v.early&&decide (0<=r)&&decide (r<=v.rank) then VV.one v.first else VV.fA
def mQ(x:Nd)(r:Int):EV:=if x.reached=false∨(0<=r/\r<=x.rank) then none else some (x.vals.map (fN r))
def e7(c:Ct)(r:Int)(n:Nat):EV:=mQ (c.at n) r
def kN(P:Pm)(c:Ct):Bool:=(List.range P.nd.length).all fun n=>Oi c.problem (P.say c.problem n (e7 c (-1))) (e7 c (-1) n)
def Db(e:EV)(j:Nat):Bool:=match e with|none=>false|some vs=>(vs.getD j ⟨false,0,0⟩).any
def Nf(P:Pm)(c:Ct)(n:Nat):Bool:=
 !(c.at n).reached||(Oi c.problem (mQ (c.at n) ((c.at n).rank+1)) (P.say c.problem n (e7 c (c.at n).rank)) &&
  (List.range (c.at n).vals.length).all fun j=>match (c.at n).vals[j]? with|some v=>!v.early||Db (P.say c.problem n (e7 c v.rank)) j|none=>true)
def oV(P:Pm)(c:Ct):Bool:=(List.range P.nd.length).all fun n=>Nf P c n
def kz(P:Pm)(c:Ct):Bool:=decide (c.nodes.length=P.nd.length)&&c.nodes.all fun x=>(x.facts.all fun f=>decide (f<(if c.problem<=4 then(P.facts c.problem:Int) else 0)))&&(!x.reached||decide (x.vals.length=P.nv))
def fK(P:Pm)(c:Ct):Int:=
 if kz P c=false then 6
 else if c.problem<=4 then(if xy P c=false then 7 else if c.bK=2∨ur P c=true then 0 else 8)
 else(if kN P c=false then 7 else if c.bK=1/\oV P c=false then 8 else 0)
def plV(v:Vl):Vl:=⟨v.kind,v.lo,v.hi,false,0,0⟩
def qW(x:Nd):Nd:=⟨x.facts,[],x.reached,0,x.vals.map plV⟩
end
def K!(pl:List PN):(pl.map PN.nc).map NC.bj=pl.map PN.bj:=by simp[PN.nc,wH]
def Kg(vs:List cC)(v:cC):0<=lh vs v:=by unfold lh;split<;>omega
section
open Go.RowKit Go.Shelf Go.Proofs Go.Maps Tryz
attribute [local go_sem] Oper.semAt_some
def zv(q m:Nat)(a:Option Addr)(N c:Nat)(hs:List BS)(w:World)(hq:w.heap[q]?=some (.cells #[.slice a N c] 264 (0,0)))(hl:hs.length=N)(B:N<=60)(hm:m<N)(hS:ld w a hs):
  Cl 224 (xg m q) w (Rb w (b! (cn hs m))):=by
 have E:hs[m]?=some (cn hs m):=by unfold cn;rw[List.getD,bk ah];rfl
 obtain⟨b,o,rfl,P,Y⟩:=hS m _ E;have O:(m:Int)<N:=ah
 generalize cn hs m=z at *;obtain⟨F,y⟩:=ae hq;have D:=aC w eE;have t:=ax P D;have d:=ax Y D;have J:=blt hq;have p:q≠w.heap.size:=ah
 clear hS E hl hq P Y D;go_enter func224,ntmps224
 go_wp2_with fail
 refine aG (v:=b! z) (by simp[results,results224,go_sem,b!]) rfl ⟨rfl,?_⟩
 (repeat first|exact aM _ _|refine rM ?_ (by first|omega|(simp;omega)) _|refine uM ?_ (by first|omega|(simp;omega)|(simp;done)) _)
structure OY(N:Nat)(hs:List BS)(wt:BS):Prop where
  len:hs.length=N
  each:∀s∈hs,bF s
  wi:bF wt
  low:∀x∈c8 wt,x<N
structure Y5{σ:Type}(S:Nat->Prop)(C:σ->World->Prop)(w:World)(rb N fk:Nat)(caps:Array Value)(rd:List BS)(bx g Ih qb ab:Nat)(s:σ)(hs:List BS)(W:World):Prop where
  k:Kx S w W
  c:C s W
  tab:kB W
  sys:W.heap[w.heap.size]?=some (.cells (bV rb N) 260 (0,0))
  chg:W.heap[w.heap.size+1]?=some (.cells #[.func (.func fk) #[] caps] 273 (0,0))
  held:W.heap[w.heap.size+1+1]?=some (.cells (cG hs).toArray 267 (0,0))
  eB:W.heap[bx]?=some (.cells #[.slice (eD w.heap.size) N N] 264 (0,0))
  hold:W.heap[bx+1]?=some (.cells #[.func (.func 224) #[] (bE bx)] 321 (0,0))
  rdr:W.heap[g]?=some (.cells (cG rd).toArray 267 (0,0))
  rbc:W.heap[Ih]?=some (.cells (kg g N) 264 (0,0))
  box:W.heap[qb]?=some (.cells (bE ab) 379 (0,0))
  hl:w.heap.size+1+1<bx
  gl:bx+1<g
  rl:g<Ih
  al:Ih<ab
  ql:ab<qb
section
variable {σ:Type} {S:Nat->Prop} {C:σ->World->Prop} {w:World} {rb N fk:Nat} {caps:Array Value} {rd:List BS} {bx g Ih qb ab:Nat} {s:σ} {hs:List BS} {W W':World}
def Y5.keep(h:Y5 S C w rb N fk caps rd bx g Ih qb ab s hs W)(hS:∀k,S k->k<w.heap.size)(Y:∀s W W',C s W->(∀k,S k->W'.heap[k]?=W.heap[k]?)->C s W')(b:0<w.heap.size){X:Nat->Prop}(hk:Kx X W W')(T:∀k,X k->k=ab∨qb<k):Y5 S C w rb N fk caps rd bx g Ih qb ab s hs W':=by
 have o:=h.hl;have G:=h.gl;have O:=h.rl;have a:=h.al;have K:=h.ql;have R:=bw h.k.size hk.size;have nx:∀k,k<qb+1->k≠ab->¬X k:=fun k hk J E=>by rcases T k E with e|e<;>omega
 refine⟨⟨hk.os.trans h.k.os,hk.tape.trans h.k.tape,hk.output.trans h.k.output,R,fun k c J=>(hk.keep k (fD c h.k.size) (nx k ah ah)).trans (h.k.keep k c J)⟩,Y s W W' h.c (fun k hs=>?_),hk.tab h.tab (nx _ ah ah),hk.box h.sys (nx _ ah ah),hk.box h.chg (nx _ ah ah),hk.box h.held (nx _ ah ah),hk.box h.eB (nx _ ah ah),hk.box h.hold (nx _ ah ah),hk.box h.rdr (nx _ ah ah),hk.box h.rbc (nx _ ah ah),hk.box h.box (nx _ ah ah),o,G,O,a,K⟩;have:=hS k hs;exact hk.keep k (fD this h.k.size) (nx _ ah ah)
def Y5.Mg{b:σ}{a:List BS}(h:Y5 S C w rb N fk caps rd bx g Ih qb ab s hs W)(hS:∀k,S k->k<w.heap.size)(d:¬S 0)(hk:Kx (fun k=>S k∨k=w.heap.size+1+1∨k=ab) W W')(Z:C b W')(n:0<w.heap.size)(T:W'.heap[w.heap.size+1+1]?=some (.cells (cG a).toArray 267 (0,0))):Y5 S C w rb N fk caps rd bx g Ih qb ab b a W':=by
 have o:=h.hl;have G:=h.gl;have O:=h.rl;have Y:=h.al;have K:=h.ql;have R:=bw h.k.size hk.size;have nx:∀k,w.heap.size<=k->k≠w.heap.size+1+1->k≠ab->¬(S k∨k=w.heap.size+1+1∨k=ab):=fun k G O Y K=>by rcases K with K|K|K;(· have:=hS k K;omega);all_goals omega
 exact⟨⟨hk.os.trans h.k.os,hk.tape.trans h.k.tape,hk.output.trans h.k.output,R,fun k c J=>(hk.keep k (fD c h.k.size) (by rintro(h|h|h);(· exact J h);all_goals omega)).trans (h.k.keep k c J)⟩,Z,hk.tab h.tab (by rintro(h|h|h);(· exact d h);all_goals omega),hk.box h.sys (nx _ ah ah ah),hk.box h.chg (nx _ ah ah ah),T,hk.box h.eB (nx _ ah ah ah),hk.box h.hold (nx _ ah ah ah),hk.box h.rdr (nx _ ah ah ah),hk.box h.rbc (nx _ ah ah ah),hk.box h.box (nx _ ah ah ah),o,G,O,Y,K⟩
end
end
section
variable {s t c:BS} {x N:Nat} {hs:List BS}
def C9{α:Type}{p q:α->Bool}:∀(l:List α),(∀x∈l,p x=true->q x=true)->(l.filter p).length<=(l.filter q).length
 |[],_=>aF _
 |a :: l,h=>by
  have B:=C9 l fun x E=>h x (by simp[E])
  have o:=h a ak;rw[tV,tV];cases K:p a<;>cases A:q a
  ·simpa using B
  ·simp;omega
  ·rw[o K]at A;cases A
  simp;omega
def wy{α:Type}{p q:α->Bool}:∀(l:List α),(∀x∈l,p x=true->q x=true)->(∃x∈l,p x=false/\q x=true)->(l.filter p).length<(l.filter q).length
 |[],_,h=>by obtain⟨x,E,_⟩:=h;cases E
 | a :: l,h,he=>by
  have B:=C9 l fun x E=>h x (by simp[E])
  have o:=h a ak;rw[tV,tV];cases K:p a<;>cases A:q a
  ·have:∃x∈l,p x=false/\q x=true:=by
    obtain⟨x,E,G,O⟩:=he;rcases cQ.1 E with rfl|E
    ·rw[O]at A;cases A
    exact⟨x,E,G,O⟩
   simpa using wy l (fun x E=>h x (by simp[E])) this
  ·simp;omega
  ·rw[o K]at A;cases A
  have:∃x∈l,p x=false/\q x=true:=by
   obtain⟨x,E,G,O⟩:=he;rcases cQ.1 E with rfl|E
   ·rw[G]at K;cases K
   exact⟨x,E,G,O⟩
  simpa using wy l (fun x E=>h x (by simp[E])) this
def R1(h:∀f,f<128->bt s f=true->bt t f=true)(he:∃f,f<128/\bt s f=false/\bt t f=true):(c8 s).length<(c8 t).length:=by
 rw[uC,uC];obtain⟨f,G,O,Y⟩:=he;exact wy _ (fun x E=>h x (bZ.1 E)) ⟨f,bZ.2 G,O,Y⟩
def rH{f:Nat}(hx:x<128)(hf:f<128):bt (cH [x]) f=decide (f=x):=by rw[k? _ _ hf (by simpa using hx)];simp
def jE(hx:x<128):bF (cH [x]):=gQ _ (by simpa using hx)
def WI(hi:bF c)(hx:x∈c8 c):(c8 (eH c (cH [x]))).length<(c8 c).length:=by
 obtain⟨G,O⟩:=(cA c hi x).1 hx;refine R1 (fun f V h=>?_) ⟨x,G,?_,O⟩
 ·rw[kj _ _ _ (jE G) V,aS]at h;exact h.1
 rw[kj _ _ _ (jE G) G,rH G G];simp
def muS(hs:List BS):Nat:=(hs.map fun s=>128-(c8 s).length).sum
def Ks{f:BS->Nat}:∀(l:List BS) (i:Nat) (s:BS),i<l.length->f s<f (l.getD i (0,0))->((l.set i s).map f).sum<(l.map f).sum
 |[],i,s,h,_=>by simp at h
 |a :: l,0,s,_,h=>by simp at h⊢;exact h
 |a :: l,i+1,s,h,h2=>by
  have:=Ks l i s (by simpa using h) (by simpa using h2);rw[cU,kL,kL,tU,tU];omega
def QQ(N:bF t)(h:zS (eH s t)=false):∃f,f<128/\bt s f=true/\bt t f=false:=by
 have G:¬∀f,f<128->bt s f=true->bt t f=true:=fun O=>by rw[(mP N).2 O]at h;cases h
 simp only[Classical.not_forall]at G;obtain⟨f,G,O,Y⟩:=G;exact⟨f,G,O,by simpa using Y⟩
def Le{said:BS}(hx:x<hs.length)(hi:bF (cn hs x))(h:zS (eH said (cn hs x))=false):muS (hs.set x (eP (cn hs x) said))<muS hs:=by
 refine Ks (f:=fun s=>128-(c8 s).length) hs x _ hx ?_;obtain⟨f,G,O,Y⟩:=QQ hi h;have J:(c8 (cn hs x)).length<(c8 (eP (cn hs x) said)).length:=R1 (fun g _ m=>by rw[gC,m];rfl) ⟨f,G,Y,by rw[gC,O];simp⟩;have:=nJ (eP (cn hs x) said);show 128-_<128-(c8 (cn hs x)).length;omega
def Z9(hs:List BS)(wt:BS):Nat:=muS hs*200+(c8 wt).length
def OY.skip(h:OY N hs c)(x:Nat)(hx:x<128):OY N hs (eH c (cH [x])):=by
 refine⟨h.len,h.each,jj _ _,fun y T=>h.low y ?_⟩;obtain⟨G,O⟩:=(cA _ (jj _ _) y).1 T;rw[kj _ _ _ (jE hx) G,aS]at O;exact(cA c h.wi y).2 ⟨G,O.1⟩
def OY.step{z r:BS}(h:OY N hs c)(x:Nat)(hx:x<128)(R:bF z)(hr:bF r)(hl:∀y∈c8 r,y<N):OY N (hs.set x z) (eP (eH c (cH [x])) r):=by
 have O:=h.skip x hx;refine⟨by rw[ke];exact h.len,fun s hs=>?_,gp O.wi hr,fun y T=>?_⟩
 ·rcases gN hs with hs|rfl
  ·exact h.each s hs
  exact R
 obtain⟨Y,K⟩:=(cA _ (gp O.wi hr) y).1 T;rw[gC,dO]at K;rcases K with K|K
 ·exact O.low y ((cA _ O.wi y).2 ⟨Y,K⟩)
 exact hl y ((cA _ hr y).2 ⟨Y,K⟩)
def Ko(B:N<=128):∀x∈c8 (jK N),x<N:=fun x E=>by
 obtain⟨G,O⟩:=(cA _ (oG N B) x).1 E;rw[vm N x B G]at O
 simpa using O
end
section
variable {w:World} {M:List Int}
def M?{ad:Addr}(h:cz w (some ad) M):∀(j:Nat) (u:Value),(M.map Iv)[j]?=some u->w.cell? (ad.add j)=some u:=by
 intro j u U;simp only[bG,BJ]at U;obtain⟨x,E,rfl⟩:=U;obtain⟨b,o,e,Z⟩:=h j x E;cases e;rw[gw];exact Z
def Fv{B:Nat}{a:Option Addr}{c n:Nat}(h:w.ownsRow B 3 1 (.slice a n c) M.length (M.map Iv)):cz w a M:=by
 intro j x U;have f:=(bn.1 U).1;rcases h.2 with⟨_,e⟩|⟨g,C,A,t,_⟩
 ·omega
 simp at t;obtain⟨rfl,rfl,rfl⟩:=t;have:=h.cells (g:=g) rfl j (Iv x) (by simp[U]);rw[gw]at this;exact⟨g,0,rfl,this⟩
end
end Go.Proofs.YtmipbiligijcpaaGreatDoor
