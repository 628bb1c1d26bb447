import Derived.Test.YtmipbiligijcpaaGreatDoorA14
import Derived.Test.YtmipbiligijcpaaGreatDoorA12
namespace Go.Proofs.YtmipbiligijcpaaGreatDoor
set_option linter.all false
set_option maxRecDepth 100000
set_option maxHeartbeats 8000000
open Go.RowKit Go.Proofs Go.Maps
section
variable {nx:List (List Nat)} {i:Nat} {D:List Nat}
def Fy(n t:Nat):∀(M:List Nat) (j:Nat),i7 n j (M++[t])=i7 n j M++(if t=n then[j+M.length] else[])
 |[],j=>by simp[i7]
 |x :: r,j=>by
  have B:=Fy n t r (j+1);have e:j+1+r.length=j+(r.length+1):=ah
  simp only[dw,i7,B,bT,e];by_cases h:x=n
  ·rw[aD h,aD h];rfl
  rw[aA h,aA h]
def A7(n:Nat)(l:List Nat):∀(M:List (List Nat)) (j:Nat),gA n j (M++[l])=gA n j M++(i7 n 0 l).map (fun k=>(j+M.length,k))
 |[],j=>by simp[gA]
 |x :: r,j=>by
  have B:=A7 n l r (j+1);have e:j+1+r.length=j+(r.length+1):=ah
  simp only[dw,gA,B,bT,e,dj]
def mS(n:Nat):∀(M:List (List Nat)) (j:Nat) (q:Nat×Nat),q∈gA n j M->q.1<j+M.length
 |[],j,q,h=>by simp[gA]at h
 |x :: r,j,q,h=>by
  simp only[gA,jH,bP]at h;rcases h with⟨k,_,rfl⟩|h
  ·simp
  have:=mS n r (j+1) q h;simp only[bT];omega
def uw(n:Nat):∀(M:List Nat) (j:Nat),(i7 n j M).length<=M.length
 |[],j=>by simp[i7]
 |x :: r,j=>by
  have:=uw n r (j+1);simp only[i7];split<;>simp<;>omega
def kX(n:Nat):∀(M:List (List Nat)) (j:Nat),(∀l∈M,l.length<=2)->(gA n j M).length<=2*M.length
 |[],j,_=>by simp[gA]
 |x :: r,j,h=>by
  have G:=kX n r (j+1) (fun l hl=>h l (by simp[hl]));have O:=uw n x 0;have Y:=h x ak;simp only[gA,bu,br,bT];omega
def zn(nx:List (List Nat))(i j k:Nat):List (Nat×Nat):=gA k 0 (nx.take i)++(i7 k 0 ((nx.getD i []).take j)).map fun q=>(i,q)
def O!{j t:Nat}(hi:nx[i]?=some D)(hj:D[j]?=some t)(k:Nat):zn nx i (j+1) k=zn nx i j k++(if t=k then[(i,j)] else[]):=by
 have e:nx.getD i []=D:=by rw[List.getD,hi];rfl
 have hl:=(bn.1 hj).1;unfold zn;rw[e,dS hl,(bn.1 hj).2,Fy,iq,dj,dL,jW (qJ hl)]
 congr 2
 split<;>simp
def TU(hi:nx[i]?=some D)(k:Nat):zn nx (i+1) 0 k=zn nx i D.length k:=by
 have e:nx.getD i []=D:=by rw[List.getD,hi];rfl
 have hl:=(bn.1 hi).1;unfold zn;rw[e,oy,dS hl,(bn.1 hi).2,A7,tI,dL,jW (qJ hl)];simp[i7]
def TW(nx:List (List Nat))(k:Nat):zn nx nx.length 0 k=gA k 0 nx:=by
 unfold zn;rw[oy,tI];simp[i7]
def O?(nx:List (List Nat))(k:Nat):zn nx 0 0 k=[]:=by
 unfold zn;simp[i7,gA]
def TV(h:∀l∈nx,l.length<=2)(i j k:Nat):(zn nx i j k).length<=2*nx.length+2:=by
 unfold zn;have G:=kX k (nx.take i) 0 (fun l hl=>h l (lZ hl));have O:=uw k ((nx.getD i []).take j) 0;have Y:((nx.getD i []).take j).length<=2:=by
  refine bw (List.length_take_le' _ _) ?_;rw[List.getD];cases e:nx[i]? with
  |none=>simp
  |some l=>exact h l (aL e)
 have K:(nx.take i).length<=nx.length:=List.length_take_le' _ _;rw[bu,br];omega
def qu(n:Nat):PE:=⟨n==0,VV.z,VV.z,VV.z,VV.z,VV.z,VV.z,VV.z,VV.z⟩
def Ee(n:Nat):qu (n+1)=PE.zero:=by unfold qu PE.zero;congr 1
end
section
variable {w W:World} {b t k B rb m d c:Nat} {vs:List Value} {rl:List RR} {r:RR} {F:World->Prop} {a:Obj}
def B5(b t:Nat):∀(vs pre d a:List Value) (w:World) (o:Nat),o=pre.length->w.heap[b]?=some (.cells (pre++d++a).toArray t (0,0))->d.length=vs.length->(w.setCells b o vs).heap[b]?=some (.cells (pre++vs++a).toArray t (0,0))
 |[],pre,d,a,w,o,_,h,hl=>by
  obtain rfl:d=[]:=dM.1 hl
  simpa[World.setCells]using h
 |v :: vs,pre,[],a,w,o,_,_,hl=>by simp at hl
 | v :: vs,pre,x :: d,a,w,o,g,h,hl=>by
  have G:(w.setCell (Ad b o) v).heap[b]?=some (.cells ((pre++[v])++d++a).toArray t (0,0)):=by
   rw[aw h]
   congr 2
   rw[cS,g]
   congr 1
   simp
  have O:=B5 b t vs (pre++[v]) d a (w.setCell (Ad b o) v) (o+1) (by simp[g]) G (by simpa using hl);have Y:(pre++[v])++vs++a=pre++v :: vs++a:=ak
  rw[Y]at O
  simpa[World.setCells]using O
def FV:∀(l pre z:List Value),z.length=l.length->List.foldl (fun(cs:Array Value) (x:Value×Nat)=>cs.setIfInBounds x.snd x.fst) (pre++z).toArray (l.zipIdx pre.length)=(pre++l).toArray
 |[],pre,z,h=>by
  obtain rfl:z=[]:=dM.1 h;rfl
 |v :: l,pre,[],h=>by simp at h
 | v :: l,pre,y :: z,h=>by
  rw[List.zipIdx_cons,gx];have e:(pre++y :: z).toArray.setIfInBounds pre.length v=((pre++[v])++z).toArray:=by
   rw[cS]
   congr 1
   simp
  have B:=FV l (pre++[v]) z (by simpa using h);rw[bu,gL]at B;show List.foldl _ ((pre++y :: z).toArray.setIfInBounds pre.length v) _=_;rw[e,B];simp
def FW{l z:List Value}(h:z.length=l.length):List.foldl (fun(cs:Array Value) (x:Value×Nat)=>cs.setIfInBounds x.snd x.fst) z.toArray l.zipIdx=l.toArray:=FV l [] z h
def ab0{n:Nat}{cs:Array Value}(h:w.heap[b]?=some (cJ cs t))(hn:n<=cs.size):w.there b 0 n:=fun j U=>by
 rw[ct];refine⟨?_,(ae h).2 j⟩;rw[(ae h).1,qH ah];rfl
def scb{o:Nat}{x:Obj}(hk:w.heap[k]?=some x)(hn:k≠b):(w.setCells b o vs).heap[k]?=some x:=(dc b vs o w k hn).trans hk
def Sys.aaS{X S:World}(h:Sys X B rb m d c rl)(hk:rl[k]?=some r)(a:B<=X.heap.size)(x:X.grownBy S r.ev.ownBlock):TF B d c X S:=by
 have u:=h.row r (aL hk);refine⟨(aM _ _).grown x a (fun q e=>(u.lt q e).1),?_⟩;intro q cs t f e G O;refine x.block q (bq.1 e).1 ?_;intro z;rcases u.2 with⟨I,_⟩|⟨g,C,A,I,_,Y,_⟩
 ·rw[I]at z;simp[Value.ownBlock]at z
 rw[I]at z;have:q=g:=by simpa[Value.ownBlock]using z
 subst this;rw[Y]at e;simp at e;exact O e.2.1.symm
def uA(h:∀V,Hd (V.heap[w.heap.size]?=some a/\Bl w V/\V.heap.size=w.heap.size+1)->F V):F (w.alloc a):=h _ ⟨bf _ _,aC _ _,ak⟩
def yJ{b:Obj}(h:∀V,Hd ((V.heap[w.heap.size]?=some a/\V.heap[w.heap.size+1]?=some b)/\Bl w V/\V.heap.size=w.heap.size+1+1)->F V):F ((w.alloc a).alloc b):=h _ ⟨aN _ _ _,aX _ _ _,ak⟩
def aeE{b c:Obj}(h:∀V,Hd ((V.heap[w.heap.size]?=some a/\V.heap[w.heap.size+1]?=some b/\V.heap[w.heap.size+1+1]?=some c)/\Bl w V/\V.heap.size=w.heap.size+1+1+1)->F V):F (((w.alloc a).alloc b).alloc c):=h _ ⟨Gi _ _ _ _,cq _ _ _ _,ak⟩
def aeD(h:∀V,Hd (V.heap[w.heap.size]?=some a/\Bl w V)->F V):F (w.alloc a).drew:=h _ ⟨bf w a,(aC w a).drew⟩
def Ju{cs:List Value}(hl:cs.length=vs.length)(h:∀V,Hd (V.heap[w.heap.size]?=some (cJ vs.toArray t)/\Bl w V)->F V):F ((w.alloc (.cells cs.toArray t)).setCells w.heap.size 0 vs):=h _ ⟨bX (bf _ _) hl,aY _ (aF _) _ _ _ (aC _ _)⟩
def pG(h:r.st.length=m):(oh r)[m]?=some r.ev:=by subst h;simp[oh]
def Sys.lower{B':Nat}(h:Sys W B rb m d c rl)(hb:B'<=B):Sys W B' rb m d c rl:=by
 refine⟨h.fB,bw hb h.low,h.len,fun r L=>?_,h.vH⟩;have o:=h.row r L;refine⟨o.1,?_⟩;rcases o.2 with a|⟨g,C,A,G,O,Y⟩
 ·exact aJ a
 exact aI ⟨g,C,A,G,bw hb O,Y⟩
def Sys.range(h:Sys W B rb m d c rl)(hk:rl[k]?=some r):W.rangeAt rb (k*(m+1)) (oh r):=fun _ _ t=>(h.cell hk t).1
def Sys.first{st f:List Value}(h:Sys W B rb m d c (⟨st,none,0,[]⟩ :: rl))(N:c≠d)(hl:f.length=m):Sys (W.setCells rb 0 f) B rb m d c (⟨f,none,0,[]⟩ :: rl):=by
 refine⟨?_,h.low,?_,?_,?_⟩
 ·have G:=h.fB
  have O:=h.len ⟨st,none,0,[]⟩ ak;have e:gX (⟨st,none,0,[]⟩ :: rl)=[]++st++(Value.slice none 0 0 :: gX rl):=by simp[gX,oh,RR.ev]
  have z:gX (⟨f,none,0,[]⟩ :: rl)=[]++f++(Value.slice none 0 0 :: gX rl):=by simp[gX,oh,RR.ev]
  rw[e]at G;rw[z];exact B5 rb d f [] st _ W 0 rfl G (O.trans hl.symm)
 ·intro r L
  rcases cQ.1 L with rfl|L
  ·exact hl
  exact h.len r (by simp[L])
 ·intro r L
  rcases cQ.1 L with rfl|L
  ·exact dF _ _ _ _
  have o:=h.row r (by simp[L]);refine⟨o.1,?_⟩;rcases o.2 with a|⟨g,C,A,G,O,Y,K⟩
  ·exact aJ a
  refine aI ⟨g,C,A,G,O,(dc _ _ _ _ _ ?_).trans Y,K⟩;rintro rfl;exact lI o h.fB N (by rw[G];rfl)
 intro i j a b hi U I;cases i with
 |zero=>simp at hi;subst hi;exact aJ rfl
 | succ i=>
  cases j with
  |zero=>
   simp at U;subst U;rcases h.vH (i+1) 0 a _ (by simpa using hi) rfl I with G|G
   ·exact aJ G
   exact aI G
  |succ j=>exact h.vH (i+1) (j+1) a b (by simpa using hi) (by simpa using U) I
end
section
variable {p:Prop}
open Go.RowKit Go.Proofs Go.Maps Tryz
def qs5(h:p:=by
 obtain⟨k,R⟩:∃k:Nat,n.var=(k:Int):=⟨n.var.toNat,ah⟩;have hk:k<8:=ah
 have f:n.var.toNat=k:=ah
 rw[f];have j:=hid (fun W=>jo e n.a W ha);have l:=hid (fun W=>kD e k (iY e n.a) W hk);generalize iY e n.a=va at j l⊢;clear hv ha f;obtain⟨kind,var,op,test,s,I,goal⟩:=n;simp only at R;subst R;simp only[aK,KC.qv,KB.qv]at j l hn⊢;go_enter ac6,acQ
 go_upto_region 1 with fail
 have H:Hd ((d' ((w.alloc (.cells (aH e).toArray aV)).alloc (.cells dE aV)) w.heap.size (aH e).toArray aV/\d' ((w.alloc (.cells (aH e).toArray aV)).alloc (.cells dE aV)) (w.heap.size+1) dE aV)/\Bl w ((w.alloc (.cells (aH e).toArray aV)).alloc (.cells dE aV))/\d' ((w.alloc (.cells (aH e).toArray aV)).alloc (.cells dE aV)) nb #[.string bj,.slice wa wl wc,Iv kind,Iv k,Iv op,Iv test,.bool s.isVar,Iv s.var,Iv s.const,.bool I.isVar,Iv I.var,Iv I.const,.slice ea el ec,.string goal] 152/\d' ((w.alloc (.cells (aH e).toArray aV)).alloc (.cells dE aV)) db #[.iface gj (.agg #[])] vu):=⟨aN _ _ _,aX _ _ _,aE (aX _ _ _) hn,aE (aX _ _ _) hd⟩;have b:=hid (Aa hn hd);clear hn hd;generalize((w.alloc (.cells (aH e).toArray aV)).alloc (.cells dE aV))=V at H⊢;have J:w.heap.size+1<V.heap.size:=blt H.a.2;refine wp_region_held_drew (S:=fun W'=>Bl w W'/\d' W' w.heap.size (aH e).toArray aV) au ⟨H.b.drew,H.a.1⟩ (fun aB=>?_);refine tz 0 (.agg (aH e).toArray) (y:=yieldsIf_load_mid au _ _ rfl _ _ rfl _ _ (fun W' aU=>aT aU.2) fH rfl au) (h:=?_);refine tq 1 (.pointer (some (Ad nb 3))) (h:=?_);refine tq 2 (Iv k) (y:=fun W' aU=>by have L:=(ae (aE aU.1 b.a)).1;have M:=(ae (aE aU.1 b.A)).1;clear aB aU;go_simp) (h:=?_);refine tq 3 (.iface gj (.agg #[])) (y:=fun W' aU=>by have L:=(ae (aE aU.1 b.a)).1;have M:=(ae (aE aU.1 b.A)).1;clear aB aU;go_simp) (h:=?_);refine tz 4 (.agg (aH e).toArray) (y:=yieldsIf_load_mid au _ _ rfl _ _ rfl _ _ (fun W' aU=>aT aU.2) fH rfl au) (h:=?_);refine tq 5 (.pointer (some (Ad nb 6))) (h:=?_);refine tq 6 (.agg #[.bool s.isVar,Iv s.var,Iv s.const]) (y:=fun W' aU=>by have L:=(ae (aE aU.1 b.a)).1;have M:=(ae (aE aU.1 b.A)).1;clear aB aU;go_simp) (h:=?_);refine r1 7 (h:=fun K A=>?_)
 go_simp
 refine(j.o _).mono ?_;rintro r F ⟨rfl,D⟩;have g:Hd (Bl V F):=aq ay D;clear D;refine A.out _ _ ⟨aq H.b g.o,aE g.o H.a.1⟩ (fun aB=>?_);clear A K;refine pt ?_;refine r1 8 (h:=fun K A=>?_)
 go_simp
 refine(l.o _).mono ?_;rintro r t ⟨rfl,D⟩;have u:Hd (Bl V t):=aq (aq g.o ay) D;clear D;refine A.out _ _ ⟨aq H.b u.o,aE u.o H.a.1⟩ (fun aB=>?_);clear A K;refine pt ?_;refine r1 9 (h:=fun K A=>?_);rw[aD au];have N:=bO (n:=17) (aE u.o H.a.2) rfl;refine wp_store_mid aV (.tmp 4) (.tmp 13) rfl (w.heap.size+1) 0 (aH (e.put k va)).toArray rfl rfl N au (a! _) ?_;refine A.out _ _ ⟨aY _ ah _ _ _ (aq H.b u.o),(dc _ _ _ _ _ ah).trans (aE u.o H.a.1)⟩ (fun aB=>?_);clear A K;refine pt ?_;refine wpAnyH_done au ?_ _
 go_wp2_with fail
 have hq:=bX (cs:=pK) (aE u.o H.a.2) (vs:=aH (e.put k va)) rfl;have E:=run_loadVar_mid (P:=Tryz.prog) (t.setCells (w.heap.size+1) 0 (aH (e.put k va))) (w.heap.size+1) 0 aV (aH (e.put k va)) _ (aT hq) fH rfl au
 refine aG (v:=.agg (aH (e.put k va)).toArray) (by simp[results,results308,results318,E,Act.put,asAddr]) rfl ⟨rfl,aY _ ah _ _ _ (aq H.b u.o)⟩):p:=h
open KC in
def KC.ya(e:PE)(bj:ByteArray)(wa ea:Option Addr)(wl wc el ec:Nat)(n:SN)(nb db:Nat)(w:World)(hn:w.heap[nb]?=some (.cells (aK bj (.slice wa wl wc) n (.slice ea el ec)) 152 (0,0)))(hd:w.heap[db]?=some (.cells #[.iface 328 (.agg #[])] 381 (0,0)))(hv:0<=n.var/\n.var<8)(ha:n.a.isVar=true->0<=n.a.var/\n.a.var<8):
 Cl 308 #[.agg (KC.aH e).toArray,.pointer (some (Ad nb 0)),.pointer (some (Ad db 0))] w (Rb w (.agg (KC.aH (e.put n.var.toNat (iY e n.a))).toArray)):=by exact qs5
open KB in
def KB.ya(e:PE)(bj:ByteArray)(wa ea:Option Addr)(wl wc el ec:Nat)(n:SN)(nb db:Nat)(w:World)(hn:w.heap[nb]?=some (.cells (aK bj (.slice wa wl wc) n (.slice ea el ec)) 152 (0,0)))(hd:w.heap[db]?=some (.cells #[.iface 331 (.agg #[])] 386 (0,0)))(hv:0<=n.var/\n.var<8)(ha:n.a.isVar=true->0<=n.a.var/\n.a.var<8):
 Cl 318 #[.agg (KB.aH e).toArray,.pointer (some (Ad nb 0)),.pointer (some (Ad db 0))] w (Rb w (.agg (KB.aH (e.put n.var.toNat (iY e n.a))).toArray)):=by exact qs5
def qs6(h:p:=by
 obtain⟨k,R⟩:∃k:Nat,n.var=(k:Int):=⟨n.var.toNat,ah⟩;have hk:k<8:=ah
 have f:n.var.toNat=k:=ah
 rw[f]
 first|(have _:=Cr;have j:=hid (fun W=>I? (.agg #[]) W rfl))|(have j:=hid (fun W=>JR (.agg #[]) W rfl))
 first|(have _:=Cr;have l:=hid (fun W=>kD e k VV.fA W hk))|(have l:=hid (fun W=>kD e k VV.all W hk))
 have C:=AJ;clear hv f;obtain⟨kind,var,op,test,s,I,goal⟩:=n;simp only at R;subst R;simp only[aK,KC.qv,KB.qv,ep,VV.fA,VV.all]at j l hn⊢;go_enter ac5,acP
 go_upto_region 1 with fail
 have H:Hd ((d' ((w.alloc (.cells (aH e).toArray aV)).alloc (.cells dE aV)) w.heap.size (aH e).toArray aV/\d' ((w.alloc (.cells (aH e).toArray aV)).alloc (.cells dE aV)) (w.heap.size+1) dE aV)/\Bl w ((w.alloc (.cells (aH e).toArray aV)).alloc (.cells dE aV))/\d' ((w.alloc (.cells (aH e).toArray aV)).alloc (.cells dE aV)) nb #[.string bj,.slice wa wl wc,Iv kind,Iv k,Iv op,Iv test,.bool s.isVar,Iv s.var,Iv s.const,.bool I.isVar,Iv I.var,Iv I.const,.slice ea el ec,.string goal] 152/\d' ((w.alloc (.cells (aH e).toArray aV)).alloc (.cells dE aV)) db #[.iface gj (.agg #[])] vu):=⟨aN _ _ _,aX _ _ _,aE (aX _ _ _) hn,aE (aX _ _ _) hd⟩;have b:=hid (Aa hn hd);clear hn hd;generalize((w.alloc (.cells (aH e).toArray aV)).alloc (.cells dE aV))=V at H⊢;have J:w.heap.size+1<V.heap.size:=blt H.a.2;refine wp_region_held_drew (S:=fun W'=>Bl w W'/\d' W' w.heap.size (aH e).toArray aV) au ⟨H.b.drew,H.a.1⟩ (fun aB=>?_);refine tz 0 (.agg (aH e).toArray) (y:=yieldsIf_load_mid au _ _ rfl _ _ rfl _ _ (fun W' aU=>aT aU.2) fH rfl au) (h:=?_);refine tq 1 (.pointer (some (Ad nb 3))) (h:=?_);refine tq 2 (Iv k) (y:=fun W' aU=>by have L:=(ae (aE aU.1 b.a)).1;have M:=(ae (aE aU.1 b.A)).1;clear aB aU;go_simp) (h:=?_);refine tq 3 (.iface gj (.agg #[])) (y:=fun W' aU=>by have L:=(ae (aE aU.1 b.a)).1;have M:=(ae (aE aU.1 b.A)).1;clear aB aU;go_simp) (h:=?_);refine r1 4 (h:=fun K A=>?_)
 go_simp
 refine(j.o _).mono ?_;rintro r F ⟨rfl,D⟩;have g:Hd (Bl V F):=aq ay D;clear D;refine A.out _ _ ⟨aq H.b g.o,aE g.o H.a.1⟩ (fun aB=>?_);clear A K;refine pt ?_;refine r1 5 (h:=fun K A=>?_)
 go_simp
 refine(l.o _).mono ?_;rintro r t ⟨rfl,D⟩;have u:Hd (Bl V t):=aq (aq g.o ay) D;clear D;refine A.out _ _ ⟨aq H.b u.o,aE u.o H.a.1⟩ (fun aB=>?_);clear A K;refine pt ?_;refine r1 6 (h:=fun K A=>?_);rw[aD au];have N:=bO (n:=17) (aE u.o H.a.2) rfl
 first|(have _:=Cr;refine wp_store_mid aV (.tmp 4) (.tmp 10) rfl (w.heap.size+1) 0 (aH (e.put k ⟨true,0,0⟩)).toArray rfl rfl N au (a! _) ?_)|(refine wp_store_mid aV (.tmp 4) (.tmp 10) rfl (w.heap.size+1) 0 (aH (e.put k ⟨false,-9223372036854775808,9223372036854775807⟩)).toArray rfl rfl N au (a! _) ?_)
 refine A.out _ _ ⟨aY _ ah _ _ _ (aq H.b u.o),(dc _ _ _ _ _ ah).trans (aE u.o H.a.1)⟩ (fun aB=>?_);clear A K;refine pt ?_;refine wpAnyH_done au ?_ _
 go_wp2_with fail
 first|(have _:=Cr;have hq:=bX (cs:=pK) (aE u.o H.a.2) (vs:=aH (e.put k ⟨true,0,0⟩)) rfl)|(have hq:=bX (cs:=pK) (aE u.o H.a.2) (vs:=aH (e.put k ⟨false,-9223372036854775808,9223372036854775807⟩)) rfl)
 first|(have _:=Cr;have E:=run_loadVar_mid (P:=Tryz.prog) (t.setCells (w.heap.size+1) 0 (aH (e.put k ⟨true,0,0⟩))) (w.heap.size+1) 0 aV (aH (e.put k ⟨true,0,0⟩)) _ (aT hq) fH rfl au)|(have E:=run_loadVar_mid (P:=Tryz.prog) (t.setCells (w.heap.size+1) 0 (aH (e.put k ⟨false,-9223372036854775808,9223372036854775807⟩))) (w.heap.size+1) 0 aV (aH (e.put k ⟨false,-9223372036854775808,9223372036854775807⟩)) _ (aT hq) fH rfl au)
 first|(have _:=Cr;refine aG (v:=.agg (aH (e.put k ⟨true,0,0⟩)).toArray) (by simp[results,results311,results321,E,Act.put,asAddr]) rfl ⟨rfl,aY _ ah _ _ _ (aq H.b u.o)⟩)|(refine aG (v:=.agg (aH (e.put k ⟨false,-9223372036854775808,9223372036854775807⟩)).toArray) (by simp[results,results311,results321,E,Act.put,asAddr]) rfl ⟨rfl,aY _ ah _ _ _ (aq H.b u.o)⟩)):p:=h
open KC in
def KC.x!(e:PE)(bj:ByteArray)(wa ea:Option Addr)(wl wc el ec:Nat)(n:SN)(nb db:Nat)(w:World)(hn:w.heap[nb]?=some (.cells (aK bj (.slice wa wl wc) n (.slice ea el ec)) 152 (0,0)))(hd:w.heap[db]?=some (.cells #[.iface 328 (.agg #[])] 381 (0,0)))(hv:0<=n.var/\n.var<8):
 Cl 311 #[.agg (KC.aH e).toArray,.pointer (some (Ad nb 0)),.pointer (some (Ad db 0))] w (Rb w (.agg (KC.aH (e.put n.var.toNat VV.fA)).toArray)):=by exact qs6
open KB in
def KB.x!(e:PE)(bj:ByteArray)(wa ea:Option Addr)(wl wc el ec:Nat)(n:SN)(nb db:Nat)(w:World)(hn:w.heap[nb]?=some (.cells (aK bj (.slice wa wl wc) n (.slice ea el ec)) 152 (0,0)))(hd:w.heap[db]?=some (.cells #[.iface 331 (.agg #[])] 386 (0,0)))(hv:0<=n.var/\n.var<8):
 Cl 321 #[.agg (KB.aH e).toArray,.pointer (some (Ad nb 0)),.pointer (some (Ad db 0))] w (Rb w (.agg (KB.aH (e.put n.var.toNat VV.all)).toArray)):=by exact qs6
def qs7(h:p:=by
 have f:=hid (fun W=>su e bj wa ea wl wc el ec n W hv ha hb C1 sR);clear hv ha hb C1 sR;generalize qT e n=z at f⊢;obtain⟨kind,var,op,test,s,I,goal⟩:=n;simp only[aK]at f hn⊢;go_enter ac4,acO
 go_upto_region 1 with fail
 have H:Hd ((d' ((w.alloc (.cells (aH e).toArray aV)).alloc (.cells dE aV)) w.heap.size (aH e).toArray aV/\d' ((w.alloc (.cells (aH e).toArray aV)).alloc (.cells dE aV)) (w.heap.size+1) dE aV)/\Bl w ((w.alloc (.cells (aH e).toArray aV)).alloc (.cells dE aV))/\d' ((w.alloc (.cells (aH e).toArray aV)).alloc (.cells dE aV)) nb #[.string bj,.slice wa wl wc,Iv kind,Iv var,Iv op,Iv test,.bool s.isVar,Iv s.var,Iv s.const,.bool I.isVar,Iv I.var,Iv I.const,.slice ea el ec,.string goal] 152/\d' ((w.alloc (.cells (aH e).toArray aV)).alloc (.cells dE aV)) db #[.iface gj (.agg #[])] vu):=⟨aN _ _ _,aX _ _ _,aE (aX _ _ _) hn,aE (aX _ _ _) hd⟩;have b:=hid (Aa hn hd);clear hn hd;generalize((w.alloc (.cells (aH e).toArray aV)).alloc (.cells dE aV))=V at H⊢;have J:w.heap.size+1<V.heap.size:=blt H.a.2;have L:=aT H.a.1;obtain⟨B,o⟩:=ae H.c;obtain⟨x,a⟩:=ae H.C
 go_wp2_with (first|(refine wpList_load_mid rfl aV (.tmp 3) rfl w.heap.size 0 rfl (aH e) _ L fH rfl au ?_)|((first|go_at_call 313 | go_at_call 323);refine(f.o _).mono ?_;rintro r F ⟨rfl,hb⟩;have g:Hd (Bl V F):=hb;clear hb;have N:=bO (n:=17) (aE g.o H.a.2) rfl)|(refine wpList_store_mid rfl aV (.tmp 4) (.tmp 8) rfl (w.heap.size+1) 0 (aH (z)).toArray rfl rfl N au (a! _) ?_))
 have A:=bX (cs:=pK) (aE g.o H.a.2) (vs:=aH (z)) rfl;have E:=run_loadVar_mid (P:=Tryz.prog) (F.setCells (w.heap.size+1) 0 (aH (z))) (w.heap.size+1) 0 aV (aH (z)) _ (aT A) fH rfl au
 refine aG (v:=.agg (aH (z)).toArray) (by simp[results,results312,results322,E,Act.put,asAddr]) rfl ⟨rfl,aY _ ah _ _ _ (aq H.b g.o)⟩):p:=h
open KC in
def KC.x?(e:PE)(bj:ByteArray)(wa ea:Option Addr)(wl wc el ec:Nat)(n:SN)(nb db:Nat)(w:World)(hn:w.heap[nb]?=some (.cells (aK bj (.slice wa wl wc) n (.slice ea el ec)) 152 (0,0)))(hd:w.heap[db]?=some (.cells #[.iface 328 (.agg #[])] 381 (0,0)))(hv:0<=n.var/\n.var<8)(ha:n.a.isVar=true->0<=n.a.var/\n.a.var<8)(hb:n.b.isVar=true->0<=n.b.var/\n.b.var<8)(C1:dq (bQ (iY e n.a)))(sR:dq (bQ (iY e n.b))):
 Cl 312 #[.agg (KC.aH e).toArray,.pointer (some (Ad db 0)),.pointer (some (Ad nb 0))] w (Rb w (.agg (KC.aH (KC.qT e n)).toArray)):=by exact qs7
open KB in
def KB.x?(e:PE)(bj:ByteArray)(wa ea:Option Addr)(wl wc el ec:Nat)(n:SN)(nb db:Nat)(w:World)(hn:w.heap[nb]?=some (.cells (aK bj (.slice wa wl wc) n (.slice ea el ec)) 152 (0,0)))(hd:w.heap[db]?=some (.cells #[.iface 331 (.agg #[])] 386 (0,0)))(hv:0<=n.var/\n.var<8)(ha:n.a.isVar=true->0<=n.a.var/\n.a.var<8)(hb:n.b.isVar=true->0<=n.b.var/\n.b.var<8)(C1:dq (bQ (iY e n.a)))(sR:dq (bQ (iY e n.b))):
 Cl 322 #[.agg (KB.aH e).toArray,.pointer (some (Ad db 0)),.pointer (some (Ad nb 0))] w (Rb w (.agg (KB.aH (KB.qT e n)).toArray)):=by exact qs7
def qs8(h:p:=by
 go_enter ac3,acN
 go_upto_region 1 with fail
 have H:Hd ((d' ((w.alloc (.cells (aH e).toArray aV)).alloc (.cells dE aV)) w.heap.size (aH e).toArray aV/\d' ((w.alloc (.cells (aH e).toArray aV)).alloc (.cells dE aV)) (w.heap.size+1) dE aV)/\Bl w ((w.alloc (.cells (aH e).toArray aV)).alloc (.cells dE aV))):=⟨aN _ _ _,aX _ _ _⟩;generalize((w.alloc (.cells (aH e).toArray aV)).alloc (.cells dE aV))=V at H⊢;have L:=aT H.a.1;have N:=bO (n:=17) H.a.2 rfl
 go_wp2_with (first|(refine wpList_load_mid rfl aV (.tmp 1) rfl w.heap.size 0 rfl (aH e) _ L fH rfl au ?_)|(refine wpList_store_mid rfl aV (.tmp 2) (.tmp 3) rfl (w.heap.size+1) 0 (aH e).toArray rfl rfl N au (a! _) ?_))
 have A:=bX (cs:=pK) H.a.2 (vs:=aH e) rfl;have E:=run_loadVar_mid (P:=Tryz.prog) (V.setCells (w.heap.size+1) 0 (aH e)) (w.heap.size+1) 0 aV (aH e) _ (aT A) fH rfl au
 refine aG (v:=.agg (aH e).toArray) (by simp[results,results316,results326,E,Act.put,asAddr]) rfl ⟨rfl,aY _ ah _ _ _ H.A⟩):p:=h
open KC in
def KC.x7(e:PE)(w:World):
 Cl 316 #[.agg (KC.aH e).toArray] w (Rb w (.agg (KC.aH e).toArray)):=by exact qs8
open KB in
def KB.x7(e:PE)(w:World):
 Cl 326 #[.agg (KB.aH e).toArray] w (Rb w (.agg (KB.aH e).toArray)):=by exact qs8
end
section
open Go.RowKit Go.Proofs Go.Maps Tryz
def qs9{p:Prop}(h:p:=by
 obtain⟨b,D⟩:=Ea e.r;have j:(aH e)[0]?=some (.bool b):=by rw[D];rfl
 rw[<-D]at hh⊢;clear D;have l:=hid hh;clear hh;go_enter ac2,acM
 go_upto_region 1 with fail
 have H:Hd ((((w.alloc (.cells (aH e).toArray aV)).alloc (.cells dE aV)).heap[w.heap.size]?=some (.cells (aH e).toArray aV (0,0))/\((w.alloc (.cells (aH e).toArray aV)).alloc (.cells dE aV)).heap[w.heap.size+1]?=some (.cells dE aV (0,0)))/\Bl w ((w.alloc (.cells (aH e).toArray aV)).alloc (.cells dE aV))/\((w.alloc (.cells (aH e).toArray aV)).alloc (.cells dE aV)).heap[sb]?=some (.cells #[.func (.func fk) #[] caps] Io (0,0))):=⟨aN _ _ _,aX _ _ _,aE (aX _ _ _) hs⟩;clear hs;generalize((w.alloc (.cells (aH e).toArray aV)).alloc (.cells dE aV))=V at H⊢;have J:w.heap.size+1<V.heap.size:=blt H.a.2;have t:V.cell? (Ad w.heap.size 0)=some (.bool b):=by rw[(ae H.a.1).1];exact(de ..).trans j
 cases b
 ·have N:=bO (n:=17) H.a.2 rfl
  go_wp2_with (refine wpList_store_mid rfl aV (.tmp 3) (.tmp 7) rfl (w.heap.size+1) 0 (aH PE.zero).toArray rfl rfl N au (a! _) ?_)
  have A:=bX (cs:=pK) H.a.2 (vs:=aH PE.zero) rfl;have E:=run_loadVar_mid (P:=Tryz.prog) (V.setCells (w.heap.size+1) 0 (aH PE.zero)) (w.heap.size+1) 0 aV (aH PE.zero) _ (aT A) fH rfl au;refine aG (v:=.agg (aH PE.zero).toArray) (by simp[results,results317,results327,E,Act.put,asAddr]) rfl ⟨rfl,aY _ ah _ _ _ H.b⟩
 ·have L:=aT H.a.1
  obtain⟨B,o⟩:=ae H.B;have f:=hid (l.o rfl V H.b)
  go_wp2_with (first|(refine wpList_load_mid rfl aV (.tmp 2) rfl w.heap.size 0 rfl (aH e) _ L fH rfl au ?_)|(refine f.o.mono ?_;rintro r F ⟨rfl,D⟩;have g:Hd (Bl V F):=D;clear D;have N:=bO (n:=17) (aE g.o H.a.2) rfl)|(refine wpList_store_mid rfl aV (.tmp 3) (.tmp 10) rfl (w.heap.size+1) 0 (aH e2).toArray rfl rfl N au (a! _) ?_))
  have A:=bX (cs:=pK) (aE g.o H.a.2) (vs:=aH e2) rfl;have E:=run_loadVar_mid (P:=Tryz.prog) (F.setCells (w.heap.size+1) 0 (aH e2)) (w.heap.size+1) 0 aV (aH e2) _ (aT A) fH rfl au
  refine aG (v:=.agg (aH e2).toArray) (by simp[results,results317,results327,E,Act.put,asAddr]) rfl ⟨rfl,aY _ ah _ _ _ (aq H.b g.o)⟩):p:=h
open KC in
def KC.jr(e e2:PE)(sb fk:Nat)(caps:Array Value)(w:World)(hs:w.heap[sb]?=some (.cells #[.func (.func fk) #[] caps] 376 (0,0)))(o:∀M w,(callFunc fk M).run Tryz.prog w=.ok (.enter fk M) w)
 (hh:e.r=true->∀W,Bl w W->Cl fk (#[.agg (KC.aH e).toArray]++caps) W (Rb W (.agg (KC.aH e2).toArray))):
 Cl 317 #[.agg (KC.aH e).toArray,.pointer (some (Ad sb 0))] w (Rb w (.agg (KC.aH (if e.r then e2 else PE.zero)).toArray)):=by exact qs9
open KB in
def KB.jr(e e2:PE)(sb fk:Nat)(caps:Array Value)(w:World)(hs:w.heap[sb]?=some (.cells #[.func (.func fk) #[] caps] 338 (0,0)))(o:∀M w,(callFunc fk M).run Tryz.prog w=.ok (.enter fk M) w)
 (hh:e.r=true->∀W,Bl w W->Cl fk (#[.agg (KB.aH e).toArray]++caps) W (Rb W (.agg (KB.aH e2).toArray))):
 Cl 327 #[.agg (KB.aH e).toArray,.pointer (some (Ad sb 0))] w (Rb w (.agg (KB.aH (if e.r then e2 else PE.zero)).toArray)):=by exact qs9
end
section
variable {p:Prop} {w w':World} {sb:Nat} {n:SN} {s:Bool}
open Go.RowKit Go.Proofs Go.Maps Tryz
def KC.X0(kind:Int)(nb db fb fk:Nat)(caps:Array Value):Prop:=
 (kind=0/\fk=308/\caps=(nk nb db))∨(kind=2/\fk=311/\caps=(nk nb db))∨(kind=1/\fk=312/\caps=(nk db nb))∨(kind=4/\fk=314/\caps=#[.pointer (some (Ad db 0)),.pointer (some (Ad nb 0)),.pointer (some (Ad fb 0))])∨((kind≠0/\kind≠1/\kind≠2/\kind≠4)/\fk=316/\caps=#[])
def KB.X0(kind:Int)(nb db fb fk:Nat)(caps:Array Value):Prop:=
 (kind=0/\fk=318/\caps=(nk nb db))∨(kind=2/\fk=321/\caps=(nk nb db))∨(kind=1/\fk=322/\caps=(nk db nb))∨(kind=4/\fk=324/\caps=#[.pointer (some (Ad db 0)),.pointer (some (Ad nb 0)),.pointer (some (Ad fb 0))])∨((kind≠0/\kind≠1/\kind≠2/\kind≠4)/\fk=326/\caps=#[])
def KC.pM(w:World)(sb:Nat)(n:SN)(so:Bool):Prop:=∃(bj:ByteArray) (wa ea:Option Addr) (wl wc el ec nb db fb fk:Nat) (caps:Array Value),w.heap[db]?=some (.cells #[.iface 328 (.agg #[])] 381 (0,0))/\w.heap[nb]?=some (.cells (aK bj (.slice wa wl wc) n (.slice ea el ec)) 152 (0,0))/\w.heap[fb]?=some (xe so)/\w.heap[sb]?=some (.cells #[.func (.func fk) #[] caps] 376 (0,0))/\KC.X0 n.kind nb db fb fk caps
def KB.pM(w:World)(sb:Nat)(n:SN)(so:Bool):Prop:=∃(bj:ByteArray) (wa ea:Option Addr) (wl wc el ec nb db fb fk:Nat) (caps:Array Value),w.heap[db]?=some (.cells #[.iface 331 (.agg #[])] 386 (0,0))/\w.heap[nb]?=some (.cells (aK bj (.slice wa wl wc) n (.slice ea el ec)) 152 (0,0))/\w.heap[fb]?=some (xe so)/\w.heap[sb]?=some (.cells #[.func (.func fk) #[] caps] 338 (0,0))/\KB.X0 n.kind nb db fb fk caps
def acA(h:p:=by
 obtain⟨kind,var,op,test,⟨g,av,ac⟩,⟨D,bv,bc⟩,goal⟩:=n;have Q:=hid (fun(a b c d:Obj)=>dD w a b c d);simp only[aK];cases o:(kind==0)
 ·cases O:(kind==2)
  ·cases G:(kind==1)
   ·cases K:(kind==4)
    ·have M:Hd (X0 kind (w.heap.size+1) w.heap.size (w.heap.size+1+1) UB #[]):=aI (aI (aI (aI ⟨by simp at o G O K;exact⟨o,G,O,K⟩,rfl,rfl⟩)))
     go_enter MN,ML
     go_wp2_with fail
     obtain⟨L,f,Y,U⟩:=Gh w (.cells #[.iface gj (.agg #[])] vu) (.cells #[.string bj,.slice wa wl wc,Iv kind,Iv var,Iv op,Iv test,.bool g,Iv av,Iv ac,.bool D,Iv bv,Iv bc,.slice ea el ec,.string goal] 152) (.cells #[.bool so] 4) (.cells #[.func (.func UB) #[] #[]] Io);refine aG (v:=.func (.func Ip) #[] #[.pointer (uO w.heap.size)]) (by simp[results,results274,results279,go_sem]) rfl ⟨w.heap.size+3,rfl,ah,⟨bj,wa,ea,wl,wc,el,ec,w.heap.size+1,w.heap.size,w.heap.size+2,UB,#[],L,f,Y,U,M.o⟩,Q.o _ _ _ _⟩
    ·have M:Hd (X0 kind (w.heap.size+1) w.heap.size (w.heap.size+1+1) UA #[.pointer (cu w.heap.size),.pointer (cM w.heap.size),.pointer (eD w.heap.size)]):=aI (aI (aI (aJ ⟨by simpa using K,rfl,rfl⟩)))
     go_enter MN,ML
     go_wp2_with fail
     obtain⟨L,f,Y,U⟩:=Gh w (.cells #[.iface gj (.agg #[])] vu) (.cells #[.string bj,.slice wa wl wc,Iv kind,Iv var,Iv op,Iv test,.bool g,Iv av,Iv ac,.bool D,Iv bv,Iv bc,.slice ea el ec,.string goal] 152) (.cells #[.bool so] 4) (.cells #[.func (.func UA) #[] #[.pointer (cu w.heap.size),.pointer (cM w.heap.size),.pointer (eD w.heap.size)]] Io);refine aG (v:=.func (.func Ip) #[] #[.pointer (uO w.heap.size)]) (by simp[results,results274,results279,go_sem]) rfl ⟨w.heap.size+3,rfl,ah,⟨bj,wa,ea,wl,wc,el,ec,w.heap.size+1,w.heap.size,w.heap.size+2,UA,#[.pointer (cu w.heap.size),.pointer (cM w.heap.size),.pointer (eD w.heap.size)],L,f,Y,U,M.o⟩,Q.o _ _ _ _⟩
   ·have M:Hd (X0 kind (w.heap.size+1) w.heap.size (w.heap.size+1+1) Uz #[.pointer (cu w.heap.size),.pointer (cM w.heap.size)]):=aI (aI (aJ ⟨by simpa using G,rfl,rfl⟩))
    go_enter MN,ML
    go_wp2_with fail
    obtain⟨L,f,Y,U⟩:=Gh w (.cells #[.iface gj (.agg #[])] vu) (.cells #[.string bj,.slice wa wl wc,Iv kind,Iv var,Iv op,Iv test,.bool g,Iv av,Iv ac,.bool D,Iv bv,Iv bc,.slice ea el ec,.string goal] 152) (.cells #[.bool so] 4) (.cells #[.func (.func Uz) #[] #[.pointer (cu w.heap.size),.pointer (cM w.heap.size)]] Io);refine aG (v:=.func (.func Ip) #[] #[.pointer (uO w.heap.size)]) (by simp[results,results274,results279,go_sem]) rfl ⟨w.heap.size+3,rfl,ah,⟨bj,wa,ea,wl,wc,el,ec,w.heap.size+1,w.heap.size,w.heap.size+2,Uz,#[.pointer (cu w.heap.size),.pointer (cM w.heap.size)],L,f,Y,U,M.o⟩,Q.o _ _ _ _⟩
  ·have M:Hd (X0 kind (w.heap.size+1) w.heap.size (w.heap.size+1+1) Uy #[.pointer (cM w.heap.size),.pointer (cu w.heap.size)]):=aI (aJ ⟨by simpa using O,rfl,rfl⟩)
   go_enter MN,ML
   go_wp2_with fail
   obtain⟨L,f,Y,U⟩:=Gh w (.cells #[.iface gj (.agg #[])] vu) (.cells #[.string bj,.slice wa wl wc,Iv kind,Iv var,Iv op,Iv test,.bool g,Iv av,Iv ac,.bool D,Iv bv,Iv bc,.slice ea el ec,.string goal] 152) (.cells #[.bool so] 4) (.cells #[.func (.func Uy) #[] #[.pointer (cM w.heap.size),.pointer (cu w.heap.size)]] Io);refine aG (v:=.func (.func Ip) #[] #[.pointer (uO w.heap.size)]) (by simp[results,results274,results279,go_sem]) rfl ⟨w.heap.size+3,rfl,ah,⟨bj,wa,ea,wl,wc,el,ec,w.heap.size+1,w.heap.size,w.heap.size+2,Uy,#[.pointer (cM w.heap.size),.pointer (cu w.heap.size)],L,f,Y,U,M.o⟩,Q.o _ _ _ _⟩
 ·have M:Hd (X0 kind (w.heap.size+1) w.heap.size (w.heap.size+1+1) Ux #[.pointer (cM w.heap.size),.pointer (cu w.heap.size)]):=aJ ⟨by simpa using o,rfl,rfl⟩
  go_enter MN,ML
  go_wp2_with fail
  obtain⟨L,f,Y,U⟩:=Gh w (.cells #[.iface gj (.agg #[])] vu) (.cells #[.string bj,.slice wa wl wc,Iv kind,Iv var,Iv op,Iv test,.bool g,Iv av,Iv ac,.bool D,Iv bv,Iv bc,.slice ea el ec,.string goal] 152) (.cells #[.bool so] 4) (.cells #[.func (.func Ux) #[] #[.pointer (cM w.heap.size),.pointer (cu w.heap.size)]] Io)
  refine aG (v:=.func (.func Ip) #[] #[.pointer (uO w.heap.size)]) (by simp[results,results274,results279,go_sem]) rfl ⟨w.heap.size+3,rfl,ah,⟨bj,wa,ea,wl,wc,el,ec,w.heap.size+1,w.heap.size,w.heap.size+2,Ux,#[.pointer (cM w.heap.size),.pointer (cu w.heap.size)],L,f,Y,U,M.o⟩,Q.o _ _ _ _⟩):p:=h
open KC in
def KC.AV(bj:ByteArray)(wa ea:Option Addr)(wl wc el ec:Nat)(n:SN)(so:Bool)(w:World):
 Cl 274 #[.iface 328 (.agg #[]),.agg (aK bj (.slice wa wl wc) n (.slice ea el ec)),.bool so] w fun r I=>∃K,r=.returned (.func (.func 317) #[] (bE K))/\w.heap.size<=K/\KC.pM I K n so/\Bl w I:=by exact acA
open KB in
def KB.AV(bj:ByteArray)(wa ea:Option Addr)(wl wc el ec:Nat)(n:SN)(so:Bool)(w:World):
 Cl 279 #[.iface 331 (.agg #[]),.agg (aK bj (.slice wa wl wc) n (.slice ea el ec)),.bool so] w fun r I=>∃K,r=.returned (.func (.func 327) #[] (bE K))/\w.heap.size<=K/\KB.pM I K n so/\Bl w I:=by exact acA
def WN(h:p:=by
 obtain⟨bj,wa,ea,wl,wc,el,ec,nb,v,a,d,b,G,O,Y,K,H⟩:=h
 exact⟨bj,wa,ea,wl,wc,el,ec,nb,v,a,d,b,aE hb G,aE hb O,aE hb Y,aE hb K,H⟩):p:=h
def KC.pM.below(h:KC.pM w sb n s)(hb:Bl w w'):KC.pM w' sb n s:=by
 exact WN
def KB.pM.below(h:KB.pM w sb n s)(hb:Bl w w'):KB.pM w' sb n s:=by
 exact WN
end
section
variable {p:Prop} {B sb i j rb q f B':Nat} {w w' W W' V:World} {n:SN} {s:Bool} {P:Pm} {es:List (Nat×Value)} {M d:Nat->List (Nat×Nat)} {ql:List RR} {cs:Array Value} {t:TypeId} {r:RR} {z:Option Addr}
open Go.RowKit Go.Proofs Go.Maps Tryz
abbrev KC.cZ(rb db n:Nat):Value:=.agg #[.slice (some (Ad rb 0)) n n,.func (.func 270) #[] (bE db),.func (.func 272) #[] (bE db)]
abbrev KB.cZ(rb db n:Nat):Value:=.agg #[.slice (some (Ad rb 0)) n n,.func (.func 275) #[] (bE db),.func (.func 277) #[] (bE db)]
abbrev KC.x5(sb:Nat):Value:=.func (.func 317) #[] (bE sb)
abbrev KB.x5(sb:Nat):Value:=.func (.func 327) #[] (bE sb)
def KC.Gs(W:World)(P:Pm)(es:List (Nat×Value))(xs:List (Nat×Nat)):Prop:=es.length=xs.length/\∀(j:Nat) (e:Nat×Value) (x:Nat×Nat),es[j]?=some e->xs[j]?=some x->e.1=x.1/\∃sb,e.2=KC.x5 sb/\KC.pM W sb (P.at x.1) (decide (x.2=0))
def KB.Gs(W:World)(P:Pm)(es:List (Nat×Value))(xs:List (Nat×Nat)):Prop:=es.length=xs.length/\∀(j:Nat) (e:Nat×Value) (x:Nat×Nat),es[j]?=some e->xs[j]?=some x->e.1=x.1/\∃sb,e.2=KB.x5 sb/\KB.pM W sb (P.at x.1) (decide (x.2=0))
structure KC.oo(W:World)(B rb:Nat)(P:Pm)(xs:Nat->List (Nat×Nat))(ql:List RR):Prop where
  sys:Sys W B rb 17 375 378 ql
  len:ql.length=P.nd.length
  st:∀k r,ql[k]?=some r->r.st=KC.aH (qu k)
  es:∀k r,ql[k]?=some r->KC.Gs W P r.es (xs k)
structure KB.oo(W:World)(B rb:Nat)(P:Pm)(xs:Nat->List (Nat×Nat))(ql:List RR):Prop where
  sys:Sys W B rb 17 337 340 ql
  len:ql.length=P.nd.length
  st:∀k r,ql[k]?=some r->r.st=KB.aH (qu k)
  es:∀k r,ql[k]?=some r->KB.Gs W P r.es (xs k)
def acr(h:p:=by
 obtain⟨bj,wa,ea,wl,wc,el,ec,nb,v,a,d,b,G,O,Y,K,H⟩:=h
 exact⟨bj,wa,ea,wl,wc,el,ec,nb,v,a,d,b,hf.box G aj aj,hf.box O aj aj,hf.box Y aj aj,hf.box K aj aj,H⟩):p:=h
open KC in
def KC.pM.tf(h:KC.pM w sb n s)(hf:TF B 375 378 w w'):KC.pM w' sb n s:=by exact acr
open KB in
def KB.pM.tf(h:KB.pM w sb n s)(hf:TF B 337 340 w w'):KB.pM w' sb n s:=by exact acr
def KC.Gs.mono{M:List (Nat×Nat)}(h:KC.Gs W P es M)(a:∀K n s,KC.pM W K n s->KC.pM W' K n s):KC.Gs W' P es M:=
 ⟨h.1,fun j e x H E=>by obtain⟨G,K,O,Y⟩:=h.2 j e x H E;exact⟨G,K,O,a _ _ _ Y⟩⟩
def KB.Gs.mono{M:List (Nat×Nat)}(h:KB.Gs W P es M)(a:∀K n s,KB.pM W K n s->KB.pM W' K n s):KB.Gs W' P es M:=
 ⟨h.1,fun j e x H E=>by obtain⟨G,K,O,Y⟩:=h.2 j e x H E;exact⟨G,K,O,a _ _ _ Y⟩⟩
def acq(h:p:=by
 refine⟨by simp[h.1],fun k e x H E=>?_⟩;by_cases X:k<es.length
 ·rw[mE X]at H
  rw[mE (by rw[<-h.1];exact X)]at E;exact h.2 k e x H E
 ·rw[fC ah]at H
  rw[fC (by have:=h.1;omega)]at E;have S:k-es.length=0:=by have:=(bn.1 H).1;simp at this;exact this
  rw[S]at H;rw[<-h.1,S]at E;simp at H E;subst H E
  exact⟨rfl,sb,rfl,hd⟩):p:=h
open KC in
def KC.Gs.snoc{M:List (Nat×Nat)}(h:KC.Gs W P es M)(hd:KC.pM W sb (P.at i) (decide (j=0))):KC.Gs W P (es++[(i,KC.x5 sb)]) (M++[(i,j)]):=by exact acq
open KB in
def KB.Gs.snoc{M:List (Nat×Nat)}(h:KB.Gs W P es M)(hd:KB.pM W sb (P.at i) (decide (j=0))):KB.Gs W P (es++[(i,KB.x5 sb)]) (M++[(i,j)]):=by exact acq
def KC.oo.below(h:KC.oo W B rb P M ql)(hb:Bl W W'):KC.oo W' B rb P M ql:=
 ⟨h.sys.below hb,h.len,h.st,fun k r L=>(h.es k r L).mono fun _ _ _ hd=>hd.below hb⟩
def KB.oo.below(h:KB.oo W B rb P M ql)(hb:Bl W W'):KB.oo W' B rb P M ql:=
 ⟨h.sys.below hb,h.len,h.st,fun k r L=>(h.es k r L).mono fun _ _ _ hd=>hd.below hb⟩
def acp(h:p:=by
 obtain⟨bj,wa,ea,wl,wc,el,ec,nb,v,a,d,b,G,O,Y,e,H⟩:=h;have k:∀{p:Nat} {c:Array Value} {u:TypeId},W.heap[p]?=some (cJ c u)->u≠ZH->W'.heap[p]?=some (cJ c u):=by
  intro p c u K E;refine(hh p ?_).trans K;rintro rfl;rw[K]at hq;simp at hq;exact E (hq.2.trans ht)
 exact⟨bj,wa,ea,wl,wc,el,ec,nb,v,a,d,b,k G aj,k O aj,k Y aj,k e aj,H⟩):p:=h
open KC in
def KC.pM.yC(h:KC.pM W sb n s)(hq:W.heap[q]?=some (cJ cs t))(ht:t=233)(hh:∀k,k≠q->W'.heap[k]?=W.heap[k]?):KC.pM W' sb n s:=by exact acp
open KB in
def KB.pM.yC(h:KB.pM W sb n s)(hq:W.heap[q]?=some (cJ cs t))(ht:t=242)(hh:∀k,k≠q->W'.heap[k]?=W.heap[k]?):KB.pM W' sb n s:=by exact acp
def KC.oo.yC(h:KC.oo W B rb P M ql)(hq:W.heap[q]?=some (.cells cs 233 (0,0)))(T:∀k,k≠q->W'.heap[k]?=W.heap[k]?):KC.oo W' B rb P M ql:=
 ⟨h.sys.keep hq ⟨aj,aj⟩ T,h.len,h.st,fun k r L=>(h.es k r L).mono fun _ _ _ hd=>hd.yC hq rfl T⟩
def KB.oo.yC(h:KB.oo W B rb P M ql)(hq:W.heap[q]?=some (.cells cs 242 (0,0)))(T:∀k,k≠q->W'.heap[k]?=W.heap[k]?):KB.oo W' B rb P M ql:=
 ⟨h.sys.keep hq ⟨aj,aj⟩ T,h.len,h.st,fun k r L=>(h.es k r L).mono fun _ _ _ hd=>hd.yC hq rfl T⟩
def KC.sv(h:Bl w V)(hf:TF w.heap.size 375 378 V W):Bl w W:=h.trans hf.low
def KB.sv(h:Bl w V)(hf:TF w.heap.size 337 340 V W):Bl w W:=h.trans hf.low
def aco(h:p:=by
 have J:=(bn.1 hr).1;refine⟨hs,by rw[ke];exact h.len,fun k q A=>?_,fun k q A=>?_⟩
 ·rw[eQ]at A
  by_cases e:t=k
  ·subst e
   rw[aD rfl,aD J]at A;cases A;exact h.st t r hr
  ·rw[aA e]at A
   exact h.st k q A
 ·rw[eQ]at A
  rw[hx];by_cases e:t=k
  ·subst e
   rw[aD rfl,aD J]at A;cases A;rw[aD rfl];exact((h.es t r hr).mono fun _ _ _ hd=>hd.tf hf).snoc hd
  ·rw[aA e]at A
   rw[aA e,gi]
   exact(h.es k q A).mono fun _ _ _ hd=>hd.tf hf):p:=h
open KC in
def KC.oo.next{t:Nat}(h:KC.oo W B rb P M ql)(hr:ql[t]?=some r)(hs:Sys W' B rb 17 375 378 (ql.set t ⟨r.st,z,f,r.es++[(i,KC.x5 sb)]⟩))(hf:TF B 375 378 W W')(hd:KC.pM W' sb (P.at i) (decide (j=0)))(hx:∀k,d k=M k++(if t=k then[(i,j)] else[])):KC.oo W' B rb P d (ql.set t ⟨r.st,z,f,r.es++[(i,KC.x5 sb)]⟩):=by exact aco
open KB in
def KB.oo.next{t:Nat}(h:KB.oo W B rb P M ql)(hr:ql[t]?=some r)(hs:Sys W' B rb 17 337 340 (ql.set t ⟨r.st,z,f,r.es++[(i,KB.x5 sb)]⟩))(hf:TF B 337 340 W W')(hd:KB.pM W' sb (P.at i) (decide (j=0)))(hx:∀k,d k=M k++(if t=k then[(i,j)] else[])):KB.oo W' B rb P d (ql.set t ⟨r.st,z,f,r.es++[(i,KB.x5 sb)]⟩):=by exact aco
def KC.oo.low(h:KC.oo W B rb P M ql)(hb:B'<=B):KC.oo W B' rb P M ql:=⟨h.sys.lower hb,h.len,h.st,h.es⟩
def KB.oo.low(h:KB.oo W B rb P M ql)(hb:B'<=B):KB.oo W B' rb P M ql:=⟨h.sys.lower hb,h.len,h.st,h.es⟩
def KC.l?(W:World)(B rb:Nat)(P:Pm):Prop:=∃ql,KC.oo W B rb P P.ins ql
def KB.l?(W:World)(B rb:Nat)(P:Pm):Prop:=∃ql,KB.oo W B rb P P.ins ql
def KC.l?.below(h:KC.l? W B rb P)(hb:Bl W W'):KC.l? W' B rb P:=by
 obtain⟨ql,h⟩:=h;exact⟨ql,h.below hb⟩
def KB.l?.below(h:KB.l? W B rb P)(hb:Bl W W'):KB.l? W' B rb P:=by
 obtain⟨ql,h⟩:=h;exact⟨ql,h.below hb⟩
def KC.AP:(Tryz.prog.info? 375).map (fun i=>(i.zero,i.size,i.bytes))=some (some (.agg (KC.aH PE.zero++[Value.slice none 0 0]).toArray),18,160):=au
def KB.AP:(Tryz.prog.info? 337).map (fun i=>(i.zero,i.size,i.bytes))=some (some (.agg (KB.aH PE.zero++[Value.slice none 0 0]).toArray),18,160):=au
def KC.AQ:(Tryz.prog.info? 378).map (fun i=>(i.zero,i.size,i.bytes))=some (some (.agg #[Iv 0,.nilFunc]),2,16):=au
def KB.AQ:(Tryz.prog.info? 340).map (fun i=>(i.zero,i.size,i.bytes))=some (some (.agg #[Iv 0,.nilFunc]),2,16):=au
def acn(h:p:=by
 obtain⟨n,e⟩:∃n,P.nd.length=n+1:=⟨P.nd.length-1,ah⟩;rw[e,dN]at h;refine⟨_,h.first aj rfl,by rw[e];simp,fun k r L=>?_,fun k r L=>?_⟩
 ·cases k with
  |zero=>simp at L;subst L;rfl
  |succ k=>
   rw[ox]at L;rw[ji (aL L),Ee]
 ·rw[O?]
  have:r.es=[]:=by
   cases k with
   |zero=>simp at L;subst L;rfl
   |succ k=>
    rw[ox]at L;rw[ji (aL L)]
  rw[this]
  exact⟨rfl,fun j e x H _=>by simp at H⟩):p:=h
open KC in
def KC.oo.start(hn:0<P.nd.length)(h:Sys W B rb 17 375 378 (List.replicate P.nd.length ⟨KC.aH PE.zero,none,0,[]⟩)):∃ql,KC.oo (W.setCells rb 0 (KC.aH (qu 0))) B rb P (zn P.nx 0 0) ql:=by exact acn
open KB in
def KB.oo.start(hn:0<P.nd.length)(h:Sys W B rb 17 337 340 (List.replicate P.nd.length ⟨KB.aH PE.zero,none,0,[]⟩)):∃ql,KB.oo (W.setCells rb 0 (KB.aH (qu 0))) B rb P (zn P.nx 0 0) ql:=by exact acn
def acm(h:p:=by
 obtain⟨i1,hi,lu,O,mC⟩:=cY AP;have HI:Hd (_/\_/\_/\_):=⟨hi,lu,O,mC⟩;clear hi lu O mC;obtain⟨i0,hi,lu,O,mC⟩:=cY AQ;have HJ:Hd (_/\_/\_/\_):=⟨hi,lu,O,mC⟩;clear hi lu O mC;have hN:=hO.most;have hN0:=hO.pos;have HH:=hid (Aa hP hO);clear hP hO;obtain⟨N,rC⟩:=Ea P.nd.length;rw[<-rC]at hN hN0⊢;have m:=hid rC;clear rC;simp only[eV];go_enter acV,acF
 go_upto_region 1 with fail
 refine aeE (F:=Code.wp _ _ _ _) fun V H=>?_
 obtain⟨x1,x2⟩:=ae H.a.1;have hNp:(0:Int)<N:=ah
 go_upto_region 2 with(at_make;refine il _ rfl (.tmp 13) (.tmp 13) ab8 rfl w.heap.size qh i1 _ 18 ab6 HI.a HI.b HI.c .i64 .i64 N N N rfl rfl rfl rfl (by rw[HI.C];omega) (by unfold maxLen;omega) (by have:=H.b.size;omega) ?_;intro T n iP;have HO:=hid (Aa n iP);clear n iP)
 clear x1 x2;have HS0:Hd (Sys T w.heap.size V.heap.size 17 qh mL (List.replicate N ⟨aH PE.zero,none,0,[]⟩)/\Bl w T/\T.heap[w.heap.size]?=V.heap[w.heap.size]?/\T.heap[w.heap.size+1]?=V.heap[w.heap.size+1]?/\T.heap[w.heap.size+1+1]?=V.heap[w.heap.size+1+1]?):=by
  have h1:=HO.a;have h2:=H.B;rw[jx _ 18 rfl N]at h1;exact⟨Sys.made _ h1 rfl,H.b.grown HO.A ah (fun q e=>by cases e),HO.A.block _ ah ak,HO.A.block _ ah ak,HO.A.block _ ah ak⟩
 clear HO;refine uA (F:=Code.wp _ _ _ _) fun W2 C=>?_
 have HW:Hd (Sys W2 w.heap.size V.heap.size 17 qh mL (List.replicate N ⟨aH PE.zero,none,0,[]⟩)/\Bl w W2/\V.heap.size<T.heap.size/\(_/\_/\_)/\_):=⟨HS0.a.below C.b,aq HS0.b C.b,blt HS0.a.fB,⟨aE C.b (HS0.c.trans H.a.1),aE C.b (HS0.d.trans H.a.2.1),aE C.b (HS0.D.trans H.a.2.2)⟩,C.a⟩;have HR:=hid H.B;clear C HS0 H;generalize T.heap.size=sx at HW⊢;generalize V.heap.size=rb at HW HR⊢;have ht:W2.there rb 0 17:=ab0 HW.a.fB (by rw[kd,Av _ HW.a.len,GN];omega);obtain⟨y1,o⟩:=ae HW.D
 go_upto_region 3 with(refine wpList_store_mid rfl aV (.tmp 22) (.tmp 20) rfl rb 0 (aH (qu 0)).toArray rfl rfl ht au (a! _) ?_)
 clear y1 o ht;obtain⟨q0,s⟩:=oo.start (P:=P) (by rw[<-m.o];exact hN0) (by rw[<-m.o];exact HW.a);have K:∀{k:Nat} {x:Obj},W2.heap[k]?=some x->k≠rb->(W2.setCells rb 0 (aH (qu 0))).heap[k]?=some x:=scb;have f:Hd (oo (W2.setCells rb 0 (aH (qu 0))) w.heap.size rb P (zn P.nx 0 0) q0/\Bl w (W2.setCells rb 0 (aH (qu 0)))/\(_/\_/\_)/\_):=⟨s,aY _ HW.a.low _ _ _ HW.b,⟨K HW.d.1 (by have:=HR.o;omega),K HW.d.2.1 (by have:=HR.o;omega),K HW.d.2.2 (by have:=HR.o;omega)⟩,K HW.D (by have:=HW.c;omega)⟩;clear s HW K;generalize W2.setCells rb 0 (aH (qu 0))=W3 at f⊢;obtain⟨x1,x2⟩:=ae f.c.1;simp only[Act.put]
 go_wp2_with fail
 go_loopw[26] (fun iv wr=>∃(i:Nat) (ql:List RR),i<=N/\iv=Iv i/\Hd (oo wr w.heap.size rb P (zn P.nx i 0) ql/\TF w.heap.size qh mL W3 wr)) (fun iv _=>N-(intOf iv).toNat)
 case atStart=>exact⟨0,q0,bB _,rfl,f.a,TF.refl _ _ _ _⟩
 case round=>
  obtain⟨i,ql,hi,rfl,M⟩:=hrel;by_cases v?:i<N
  ·have ig:(i:Int)<N:=ah
   have wj:=(HH.a.below f.b).tf M.A aj aj aj aj;obtain⟨nc,D,hc,LB,hat,F,Rq,hEr⟩:=wj.nodes (k:=i) (by rw[<-m.o];exact v?);have cc:=fun j (hj:j<14)=>(wj.row.cells i nc hc j hj)
   obtain⟨nd,vD⟩:=Ea nc.n;rw[<-vD]at cc LB hat;obtain⟨ta,Lw,htI⟩:=hEr.ints;rw[br]at Lw;rw[Lw]at cc;simp only[NC.wv]at cc;generalize nc.bj=bj at cc;generalize nc.wa=wa at cc;generalize nc.wl=wl at cc;generalize nc.wc=wc at cc;obtain⟨Yd,Z⟩:=Ea (aK bj (.slice wa wl wc) nd (.slice ta D.length D.length));have Jm:Yd.all (·.oneCell')=true:=by rw[Z];simp[aK,Value.oneCell']
   have oZ:Yd.size=14:=by rw[Z];rfl
   have h12:Yd[12]?=some (.slice ta D.length D.length):=by rw[Z];rfl
   have hrN:wr.rangeAt g (i*14) Yd.toList:=fun j v hv=>by
    have hj:j<14:=by have:=(bn.1 hv).1;rw[GM,oZ]at this;exact this
    rw[cc j hj,<-Z]
    simpa using hv
   have b:=hid (Aa Z (Aa F (Aa hat (Aa hc Lw))));have adw:=(HH.A.nx D (aL F)).1;clear Z cc hat vD LB hc wj Rq hEr Lw htI F
   go_upto_region 6 with(first|(refine wpList_load_mid rfl 152 (.tmp 29) rfl g (i*14) rfl Yd.toList _ hrN underlying152 rfl (by rw[GM,oZ];kernel_rfl) ?_)|(refine wpList_store_mid rfl 152 (.tmp 7) (.tmp 30) rfl wr.heap.size 0 Yd rfl rfl (bO (bf _ _) (by rw[oZ];rfl)) (by rw[oZ];kernel_rfl) Jm ?_))
   refine Ju (F:=Code.wp _ _ _ _) (by simp[oZ]) fun V H=>?_
   obtain⟨z1,z2⟩:=ae H.a;have d12:V.cell? (Ad wr.heap.size 12)=some (.slice ta D.length D.length):=by rw[z1];simpa using h12
   have B:w.heap.size<=wr.heap.size:=bw f.b.size M.A.low.size;simp only[Act.put];clear z1 z2 hrN
   go_wp2_with fail
   clear d12;have HT:Hd (TF w.heap.size qh mL W3 V/\oo V w.heap.size rb P (zn P.nx i 0) ql):=⟨M.A.trans (TF.aR H.A B),M.a.below H.A⟩;have HB:=hid H.a;clear H M B;generalize wr.heap.size=nb at HB⊢
   go_loopw[34] (fun jv wr=>∃(j:Nat) (pl:List RR),j<=D.length/\jv=Iv j/\Hd (oo wr w.heap.size rb P (zn P.nx i j) pl/\TF w.heap.size qh mL V wr)) (fun jv _=>D.length-(intOf jv).toNat)
   case atStart=>exact⟨0,ql,bB _,rfl,HT.A,TF.refl _ _ _ _⟩
   case round=>
    obtain⟨j,pl,hj,rfl,I⟩:=hrel;by_cases FJ:j<D.length
    ·have Ry:(j:Int)<(D.length:Int):=ah
     obtain⟨t,E⟩:=La FJ;have htN:t<N:=by rw[m.o];exact(HH.A.nx D (aL b.b)).2 t (aL E)
     have HTV:Hd (TF w.heap.size qh mL W3 wr):=HT.a.trans I.A;have YN:=(HH.a.below f.b).tf HTV.o aj aj aj aj;obtain⟨ta',aaA,FF⟩:=(YN.nx i nc D b.d b.b).ints;rw[br,b.D]at aaA;obtain rfl:ta=ta':=by simpa using aaA
     obtain⟨b1,o1,rfl,c0⟩:=FF j (t:Int) (by rw[bG,E];rfl);clear YN FF aaA
     go_upto_region 9 with fail
     clear c0;have hrV:=aT (I.A.box HB.o aj aj);obtain⟨z1,z2⟩:=ae (HTV.o.box f.c.2.1 aj aj);have HC:Hd (∀W,Cl acC #[.iface gj (.agg #[]),.agg Yd,.bool ((j:Int)==0)] W fun r w'=>∃sb,r=.returned (x5 sb)/\W.heap.size<=sb/\pM w' sb nd (decide (j=0))/\Bl W w'):=by
      have e:((j:Int)==0)=decide (j=0):=by rw[cR];simp
      rw[e,b.a];exact fun W=>AV _ _ _ _ _ _ _ _ _ W
     go_upto_region 10 with(first|(refine wpList_load_mid rfl 152 (.tmp 7) rfl nb 0 rfl Yd.toList _ hrV underlying152 rfl (by rw[GM,oZ];kernel_rfl) ?_)|((first|go_at_call 274 | go_at_call 279);refine(HC.o _).mono ?_;rintro e Y ⟨sb,rfl,_,hd,hb⟩;have HY:=hid (Aa hd hb);clear hd hb))
     refine uA (F:=Code.wp _ _ _ _) fun U HU=>?_
     have TQ:Hd (Below wr.heap.size wr U/\wr.heap.size<=Y.heap.size):=⟨aq HY.A HU.b,HY.A.size⟩;have HEU:=hid (HY.a.below HU.b);have Vj:w.heap.size<=wr.heap.size:=bw f.b.size HTV.o.low.size;have HTU:Hd (TF w.heap.size qh mL W3 U):=HTV.o.trans (TF.aR TQ.a Vj);obtain⟨r,hr⟩:=La (l:=pl) (i:=t) (by rw[I.a.len,<-m.o];exact htN);have Oz:=hid (Aa hr E);have adx:(t:Int)<N:=ah
     have Jq:r.es.length<=130:=by
      rw[(I.a.es t r hr).1];have:=TV (fun l hl=>(HH.A.nx l hl).1) i j t (nx:=P.nx);have:=HH.a.U6;have:=m.o;omega
     have Yw:=blt I.a.sys.fB;clear hr E z1 z2 hrV HC;generalize Y.heap.size=eb at HU TQ⊢;refine wp_region_held_drew (S:=fun W'=>TF w.heap.size qh mL W3 W'/\W'.heap[eb]?=some (.cells #[Iv i,x5 sb] mL (0,0))) au ⟨HTU.o.trans (TF.aR (aM _ _).drew (bw Vj TQ.a.size)),HU.a⟩ (fun aB=>?_);refine tq 0 (nV sx) (h:=?_);refine tq 1 (b? rb N) (y:=fun W' aU=>by have L:=(ae (aU.1.box f.C aj aj)).1;clear aB aU;go_simp) (h:=?_);refine tq 2 (Iv t) (h:=?_);refine tq 3 (nV sx) (h:=?_);refine tq 4 (b? rb N) (y:=fun W' aU=>by have L:=(ae (aU.1.box f.C aj aj)).1;clear aB aU;go_simp) (h:=?_);refine tq 5 (Iv t) (h:=?_);refine tq 6 (.pointer (some (Ad rb (t*18)))) (h:=?_);refine tq 7 (.pointer (some (Ad rb (t*18+17)))) (h:=?_);refine tq 9 (.agg #[Iv i,x5 sb]) (y:=fun W' aU=>by have L:=(ae aU.2).1;clear aB aU;go_simp) (h:=?_);have hB0:=bw Vj TQ.a.size;refine wpAnyH_ready (rs:=[8,10]) au ak ?_;refine AllReadyH.cons rfl (fun K A=>?oA) (AllReadyH.cons rfl (fun K A=>?oB) AllReadyH.nil)
     case' oA=>
      obtain⟨L,R⟩:=(I.a.sys.below (aq TQ.a (aM _ _).drew)).cell (j:=17) Oz.a (v:=r.ev) (pG (I.a.sys.len r (aL Oz.a)));simp only[Nat.reduceAdd,RR.ev]at L R
      go_simp
      refine A.out _ _ aB (fun aB=>?_);clear L R;clear A K;refine pt ?_;refine r1 10 (h:=fun K A=>?_)
      go_simp
      refine A.out _ _ ⟨aB.1.trans (TF.aR (aC _ _) hB0),aE (aC _ _) aB.2⟩ (fun aB=>?_);clear A K;refine pt ?_
     case' oB=>
      go_simp
      refine A.out _ _ ⟨aB.1.trans (TF.aR (aC _ _) hB0),aE (aC _ _) aB.2⟩ (fun aB=>?_);clear A K;refine pt ?_;refine r1 8 (h:=fun K A=>?_);obtain⟨L,R⟩:=(I.a.sys.below (aq TQ.a ((aC U (.cells #[Iv i,x5 sb] mL)).drew))).cell (j:=17) Oz.a (v:=r.ev) (pG (I.a.sys.len r (aL Oz.a)));simp only[Nat.reduceAdd,RR.ev]at L R
      go_simp
      refine A.out _ _ aB (fun aB=>?_);clear L R;clear A K;refine pt ?_
     all_goals
      clear aB;refine aeD (F:=fun V=>wpAnyH _ _ _ _ _ _ _ _ V) fun X J=>?_
      have aB:TF w.heap.size qh mL W3 X/\X.heap[eb]?=some (.cells #[Iv i,x5 sb] mL (0,0)):=⟨HTU.o.trans (TF.aR J.A hB0),aE J.A HU.a⟩;have Te:Hd (Sys X w.heap.size rb 17 qh mL pl/\Below wr.heap.size wr X):=⟨I.a.sys.below (aq TQ.a J.A),aq TQ.a J.A⟩;refine r1 11 (h:=fun K A=>?_);refine e9 rfl (.tmp 54) (.tmp 56) ab7 rfl w.heap.size mL i0 (.agg #[Iv 0,.nilFunc]) 2 16 ab5 HJ.a HJ.b HJ.c HJ.C rfl aj (bH r.ea r.es.length r.ec) r.es.length (ia r.es) (by simp[Act.eval,Act.put]) (Te.a.row r (aL Oz.a)) (Ad U.heap.size 0) 1 1 [Iv i,x5 sb] (by simp[Act.eval,Act.put]) rfl (E7 J.a) (by intro u hu;simp at hu;rcases hu with rfl|rfl<;>rfl) (by unfold maxLen;omega) ah (bw Vj Te.A.size) ?_;intro v4 W4 mU G A!;obtain⟨a4,c4,rfl⟩:=bS mU;have H4:=hid (Aa mU (Aa G A!));clear mU G A!;have he4:W4.heap[eb]?=some (.cells #[Iv i,x5 sb] mL (0,0)):=(H4.b.block eb (blt aB.2) (fun e=>by have:=((I.a.sys.row r (aL Oz.a)).lt eb e.symm).2;have:=TQ.A;omega)).trans aB.2;refine A.out _ _ ⟨aB.1.trans (Te.a.aaS Oz.a (bw Vj Te.A.size) H4.b),he4⟩ (fun aB=>?_);clear A K;refine pt ?_;refine tq 12 (.pointer (some (Ad rb (t*18)))) (h:=?_);refine tq 13 (.pointer (some (Ad rb (t*18+17)))) (h:=?_);refine r1 14 (h:=fun K A=>?_);obtain⟨L,R⟩:=Te.a.SI (j:=17) aj Oz.a (aM _ _) H4.b (v:=r.ev) (pG (Te.a.len r (aL Oz.a)));simp only[Nat.reduceAdd,RR.ev]at L R;have F:=Te.a.grow (e:=(i,x5 sb)) aj Oz.a (aM _ _) H4.b H4.a H4.B;have iX:=Te.a.frame (v:=.slice a4 (r.es.length+1) c4) Oz.a (aM _ _) (bw Vj Te.A.size) H4.b (t*18+17);have GI:=hid (Aa F iX);clear F iX
      go_simp
      refine A.out _ _ ⟨(HTU.o.trans (TF.aR J.A hB0)).trans GI.A,(aZ _ _ _ _ (by have:=TQ.A;dsimp only;omega)).trans he4⟩ (fun aB=>?_);clear L R;clear A K;refine pt ?_;refine wpAnyH_done au ?_ _;clear aB he4
      go_wp2_with fail
      go_roundw
      case rel=>
       refine⟨j+1,_,ah,h',I.a.next Oz.a GI.a ((TF.aR Te.A Vj).trans GI.A) (by rw[b.c];exact(HEU.o.below J.A).tf GI.A) (O! b.b Oz.A),(I.A.trans (TF.aR Te.A Vj)).trans GI.A⟩
      case measure=>simp[intOf];omega
    ·have Ry:¬(j:Int)<(D.length:Int):=ah
     obtain rfl:j=D.length:=ah
     go_wp2_with fail
     go_roundw
     case rel=>
      refine⟨i+1,pl,ah,h',?_,HT.a.trans I.A⟩;have e:zn P.nx (i+1) 0=zn P.nx i D.length:=funext fun k=>TU b.b k
      rw[e];exact I.a
     case measure=>simp[intOf];omega
  ·have ig:¬(i:Int)<N:=ah
   obtain rfl:N=i:=ah
   obtain⟨y1,o⟩:=ae (M.A.box f.C aj aj);obtain⟨z1,z2⟩:=ae (M.A.box f.c.2.2 aj aj)
   go_wp2_with fail
   have hz:=M.A.box f.c.2.2 aj aj;have HS3:=hid (Aa (aw (o:=0) hz (b? rb N)) (Aa (aw (o:=1) (aw (o:=0) hz (b? rb N)) (.func (.func xY) #[] #[.pointer (cM w.heap.size)])) (aw (o:=2) (aw (o:=1) (aw (o:=0) hz (b? rb N)) (.func (.func xY) #[] #[.pointer (cM w.heap.size)])) (.func (.func xX) #[] #[.pointer (cM w.heap.size)]))));have q0:=(ae HS3.a).1;have q1:=(ae HS3.b).1;have q2:=(ae HS3.B).1;refine aG (v:=cZ rb (w.heap.size+1) N) (by simp[results,results212,results213,go_sem,q0,q1,q2]) rfl ⟨rb,w.heap.size+1,rfl,⟨ql,?_⟩,?_,?_⟩
   ·have e:zn P.nx N 0=P.ins:=funext fun k=>by rw[m.o,<-HH.a.U6];exact TW P.nx k
    rw[<-e];exact M.a.yC hz (fun k hk=>by rw[aZ _ _ _ _ hk,aZ _ _ _ _ hk,aZ _ _ _ _ hk])
   ·rw[aZ _ _ _ _ (by dsimp only;omega),aZ _ _ _ _ (by dsimp only;omega),aZ _ _ _ _ (by dsimp only;omega)]
    exact M.A.box f.c.2.1 aj aj
   ·exact(((sv f.b M.A).setCell (by show _<=w.heap.size+1+1;omega) _).setCell (by show _<=w.heap.size+1+1;omega) _).setCell (by show _<=w.heap.size+1+1;omega) _):p:=h
open KC in
theorem KC.iK(g C nv:Nat)(f:List NC)(P:Pm)(w:World)(hP:PM w g C f P)(hO:cE P):
 Cl 212 #[eV g P.nd.length C nv,.iface 328 (.agg #[])] w fun e w'=>∃rb b,e=.returned (KC.cZ rb b P.nd.length)/\KC.l? w' w.heap.size rb P/\w'.heap[b]?=some (.cells #[.iface 328 (.agg #[])] 381 (0,0))/\Bl w w':=by exact acm
open KB in
theorem KB.iK(g C nv:Nat)(f:List NC)(P:Pm)(w:World)(hP:PM w g C f P)(hO:cE P):
 Cl 213 #[eV g P.nd.length C nv,.iface 331 (.agg #[])] w fun e w'=>∃rb b,e=.returned (KB.cZ rb b P.nd.length)/\KB.l? w' w.heap.size rb P/\w'.heap[b]?=some (.cells #[.iface 331 (.agg #[])] 386 (0,0))/\Bl w w':=by exact acm
end
section
open Go.RowKit Go.Proofs Go.Maps Tryz
def vZ(v:VV)(b:BB):VV:=⟨v.any,b.1,b.2⟩
def KC.MK(ts:Int)(so:Bool)(a b:VV):Option (VV×VV):=if a.any||b.any||(xq ts a.lo b.lo==so) then some (a,b) else none
def KB.MK(ts:Int)(so:Bool)(a b:VV):Option (VV×VV):=if (cL ts so (bQ a) (bQ b)).2.2 then some (vZ a (cL ts so (bQ a) (bQ b)).1,vZ b (cL ts so (bQ a) (bQ b)).2.1) else none
def KC.KW(D:Int)(s:Bool)(a b:VV)(_:dq (bQ a))(_:dq (bQ b)):∃x y ok,KC.MK D s a b=(if ok then some (x,y) else none)/\∀w,Cl 382 #[.agg #[],Iv D,.bool s,KC.qv a,KC.qv b] w (Rb w (.tuple #[KC.qv x,KC.qv y,.bool ok])):=⟨a,b,_,rfl,fun w=>Fs (.agg #[]) D s a.any b.any a.lo b.lo w rfl⟩
def KB.KW(D:Int)(s:Bool)(a b:VV)(ha:dq (bQ a))(hb:dq (bQ b)):∃x y ok,KB.MK D s a b=(if ok then some (x,y) else none)/\∀w,Cl 389 #[.agg #[],Iv D,.bool s,KB.qv a,KB.qv b] w (Rb w (.tuple #[KB.qv x,KB.qv y,.bool ok])):=⟨_,_,_,rfl,fun w=>Gg (.agg #[]) D s (bQ a) (bQ b) w rfl ha hb⟩
def KC.qU(e:PE)(n:SN)(so:Bool):PE:=match KC.MK n.test so (iY e n.a) (iY e n.b)with|some v=>KC.fP (KC.fP e n.a v.1) n.b v.2|none=>PE.zero
def KB.qU(e:PE)(n:SN)(so:Bool):PE:=match KB.MK n.test so (iY e n.a) (iY e n.b)with|some v=>KB.fP (KB.fP e n.a v.1) n.b v.2|none=>PE.zero
def qs4{p:Prop}(h:p:=by
 obtain⟨x,yy,ok,hcp,Y⟩:=KW n.test so (iY e n.a) (iY e n.b) C1 sR;have m:Hd (qU e n so=if ok then fP (fP e n.a x) n.b yy else PE.zero):=by show _=_;(first|unfold KC.qU|unfold KB.qU);rw[hcp];cases ok<;>rfl
 have HVA:=hid (fun W=>jo e n.a W ha);have Mb:=hid (fun W=>jo e n.b W hb);have HCP:=hid Y;have HN1:=hid (fun W=>oO e n.a x W ha);have T:=hid (fun W=>oO (fP e n.a x) n.b yy W hb);have C:=xZ;have hna:=xW;generalize qU e n so=ne at m⊢;generalize iY e n.a=va at HVA HCP;generalize iY e n.b=vb at Mb HCP;generalize fP (fP e n.a x) n.b yy=z at m T;generalize fP e n.a x=e1 at HN1 T;clear hcp Y ha hb C1 sR;obtain⟨kind,var,op,test,s,I,goal⟩:=n;simp only[aK,KC.qv,KB.qv]at HVA Mb HCP HN1 T⊢;go_enter ac7,acR
 go_upto_region 1 with fail
 have H:=hid (Aa (Gi w (.cells (aH e).toArray aV) (.cells #[.string bj,.slice wa wl wc,Iv kind,Iv var,Iv op,Iv test,.bool s.isVar,Iv s.var,Iv s.const,.bool I.isVar,Iv I.var,Iv I.const,.slice ea el ec,.string goal] 152) (.cells dE aV)) (cq w (.cells (aH e).toArray aV) (.cells #[.string bj,.slice wa wl wc,Iv kind,Iv var,Iv op,Iv test,.bool s.isVar,Iv s.var,Iv s.const,.bool I.isVar,Iv I.var,Iv I.const,.slice ea el ec,.string goal] 152) (.cells dE aV)));generalize(((w.alloc (.cells (aH e).toArray aV)).alloc (.cells #[.string bj,.slice wa wl wc,Iv kind,Iv var,Iv op,Iv test,.bool s.isVar,Iv s.var,Iv s.const,.bool I.isVar,Iv I.var,Iv I.const,.slice ea el ec,.string goal] 152)).alloc (.cells dE aV))=V at H⊢;have lV:w.heap.size+2<V.heap.size:=blt H.a.2.2
 go_cut [9,10,11] from 12 (fun pa pb okv F=>∃B U:Nat,pa=.pointer (some (Ad B 0))/\pb=.pointer (some (Ad U 0))/\okv=.bool ok/\Hd (Bl V F/\F.heap[B]?=some (.cells #[(dp x),(dn x)] g! (0,0))/\F.heap[U]?=some (.cells #[(dp yy),(dn yy)] g! (0,0))))
 case first=>
  refine wp_region_held_drew (S := fun W' => Bl V W') au ((aM _ _).drew) (fun aB => ?_);refine tq 0 (.iface gj (.agg #[])) (h := ?_);refine tq 1 (.pointer (some (Ad (w.heap.size + 1) 5))) (h := ?_);refine tq 2 (Iv test) (y := fun W' aU => by have k := (ae (aE aU H.o.1.2.1)).1; clear aB aU; go_simp) (h := ?_);refine tq 3 (.bool so) (h := ?_);refine tq 4 (.iface gj (.agg #[])) (h := ?_);refine tz 5 (.agg (aH e).toArray) (y := yieldsIf_load_mid au _ _ rfl _ _ rfl _ _ (fun W' aU => aT (aE aU H.o.1.1)) fH rfl au) (h := ?_);refine tq 6 (.pointer (some (Ad (w.heap.size + 1) 6))) (h := ?_);refine tq 7 (.agg #[.bool s.isVar, Iv s.var, Iv s.const]) (y := fun W' aU => by have k := (ae (aE aU H.o.1.2.1)).1; clear aB aU; go_simp) (h := ?_);refine tq 9 (.iface gj (.agg #[])) (h := ?_);refine tz 10 (.agg (aH e).toArray) (y := yieldsIf_load_mid au _ _ rfl _ _ rfl _ _ (fun W' aU => aT (aE aU H.o.1.1)) fH rfl au) (h := ?_);refine tq 11 (.pointer (some (Ad (w.heap.size + 1) 9))) (h := ?_);refine tq 12 (.agg #[.bool I.isVar, Iv I.var, Iv I.const]) (y := fun W' aU => by have k := (ae (aE aU H.o.1.2.1)).1; clear aB aU; go_simp) (h := ?_);refine tq 14 (.func (.method "warrant/rules.assume") #[.iface gj (.agg #[])] #[]) (h := ?_);refine tq 15 (.func (.method "warrant/rules.assume") #[.iface gj (.agg #[])] #[]) (h := ?_);refine tq 16 (.iface gj (.agg #[])) (h := ?_);refine ad7 (fun a0 L a W => ∃ (Kc Kb Ka OC J! J? J9 x9 Kd G! : Value) (B U : Nat), a = ((((((((((a0.put (some 21) Kc).put (some 26) Kb).put (some 30) Ka).put (some 12) OC).put (some 31) J!).put (some 32) J?).put (some 33) J9).put (some 9) x9).put (some 10) Kd).put (some 11) G!) /\ Hd ((List.range 27).all (fun j => L j || [8, 13, 17, 18, 19, 20, 21, 22, 23, 24, 25, 26].contains j) = true /\ Bl V W /\ (L 8 = true -> Kc = .agg #[(dp va), (dn va)]) /\ (L 13 = true -> Kb = .agg #[(dp vb), (dn vb)]) /\ (L 17 = true -> Ka = .tuple #[.agg #[(dp x), (dn x)], .agg #[(dp yy), (dn yy)], .bool ok]) /\ (L 18 = true -> OC = .tuple #[.agg #[(dp x), (dn x)], .agg #[(dp yy), (dn yy)], .bool ok]) /\ (L 19 = true -> J! = .agg #[(dp x), (dn x)]) /\ (L 20 = true -> J? = .agg #[(dp yy), (dn yy)]) /\ (L 21 = true -> J9 = .bool ok) /\ (L 26 = true -> G! = .bool ok) /\ (L 22 = true -> x9 = .pointer (some (Ad B 0)) /\ V.heap.size <= B /\ W.heap[B]? = some (.cells (if L 24 then #[(dp x), (dn x)] else Gr) g! (0, 0))) /\ (L 23 = true -> Kd = .pointer (some (Ad U 0)) /\ V.heap.size <= U /\ W.heap[U]? = some (.cells (if L 25 then #[(dp yy), (dn yy)] else Gr) g! (0, 0))) /\ (L 22 = true -> L 23 = true -> B ≠ U) /\ (L 24 = true -> L 22 = true) /\ (L 25 = true -> L 23 = true))) (h0 := ?_) (hS := ?_) (step := ?_) (done := ?_)
  ·refine⟨undef,undef,undef,undef,undef,undef,undef,undef,undef,undef,0,0,?_,au,aB,?_⟩
   ·simp only[Act.put,cS,dm,cU]
   ·refine⟨?_,?_,?_,?_,?_,?_,?_,?_,?_,?_,?_,?_,?_⟩<;>(intro h;cases h)
  ·rintro L b v ⟨_,_,_,_,_,_,_,_,_,_,_,_,_,h⟩
   exact h.b
  ·clear aB
   rintro i o L b W hi E RL ⟨Kc,Kb,Ka,OC,J!,J?,J9,x9,Kd,G!,B,U,rfl,G⟩ K A;have A?:=pick G.a (bq.1 hi).1 E;obtain⟨j1,j2,a8,L8,a17,GG,L7,a20,a21,a26,g,D,ne,Mz,My⟩:=G.o;clear G;simp only[cQ,gM,ga]at A?;rcases A? with rfl|rfl|rfl|rfl|rfl|rfl|rfl|rfl|rfl|rfl|rfl|rfl
   all_goals
    cases (show some (⟨_,_,_,_,_,_⟩:Oper)=some o from hi);simp only[Act.put,cS,dm,cU]
   ·go_simp
    refine(HVA.o _).mono ?_;rintro r X ⟨rfl,hb⟩;exact A.out _ _ ⟨.agg #[(dp va),(dn va)],Kb,Ka,OC,J!,J?,J9,x9,Kd,G!,B,U,by simp only[Act.put,cS,dm,cU],n? j1,aq j2 hb,fun _=>rfl,L8,a17,GG,L7,a20,a21,a26,fun h=>⟨(g h).1,(g h).2.1,aE hb (g h).2.2⟩,fun h=>⟨(D h).1,(D h).2.1,aE hb (D h).2.2⟩,ne,Mz,My⟩
   ·go_simp
    refine(Mb.o _).mono ?_;rintro r X ⟨rfl,hb⟩;exact A.out _ _ ⟨Kc,.agg #[(dp vb),(dn vb)],Ka,OC,J!,J?,J9,x9,Kd,G!,B,U,by simp only[Act.put,cS,dm,cU],n? j1,aq j2 hb,a8,fun _=>rfl,a17,GG,L7,a20,a21,a26,fun h=>⟨(g h).1,(g h).2.1,aE hb (g h).2.2⟩,fun h=>⟨(D h).1,(D h).2.1,aE hb (D h).2.2⟩,ne,Mz,My⟩
   ·obtain rfl:=a8 (RL ⟨8,.data⟩ ak rfl)
    obtain rfl:=L8 (RL ⟨13,.data⟩ ak rfl)
    go_simp
    refine(HCP.o _).mono ?_;rintro r X ⟨rfl,hb⟩;exact A.out _ _ ⟨.agg #[(dp va),(dn va)],.agg #[(dp vb),(dn vb)],.tuple #[.agg #[(dp x),(dn x)],.agg #[(dp yy),(dn yy)],.bool ok],OC,J!,J?,J9,x9,Kd,G!,B,U,by simp only[Act.put,cS,dm,cU],n? j1,aq j2 hb,a8,L8,fun _=>rfl,GG,L7,a20,a21,a26,fun h=>⟨(g h).1,(g h).2.1,aE hb (g h).2.2⟩,fun h=>⟨(D h).1,(D h).2.1,aE hb (D h).2.2⟩,ne,Mz,My⟩
   ·obtain rfl:=a17 (RL ⟨17,.data⟩ ak rfl)
    go_simp
    exact A.out _ _ ⟨Kc,Kb,.tuple #[.agg #[(dp x),(dn x)],.agg #[(dp yy),(dn yy)],.bool ok],.tuple #[.agg #[(dp x),(dn x)],.agg #[(dp yy),(dn yy)],.bool ok],J!,J?,J9,x9,Kd,G!,B,U,by simp only[Act.put,cS,dm,cU],n? j1,j2,a8,L8,a17,fun _=>rfl,L7,a20,a21,a26,g,D,ne,Mz,My⟩
   ·obtain rfl:=GG (RL ⟨18,.data⟩ ak rfl)
    go_simp
    exact A.out _ _ ⟨Kc,Kb,Ka,.tuple #[.agg #[(dp x),(dn x)],.agg #[(dp yy),(dn yy)],.bool ok],.agg #[(dp x),(dn x)],J?,J9,x9,Kd,G!,B,U,by simp only[Act.put,cS,dm,cU],n? j1,j2,a8,L8,a17,GG,fun _=>rfl,a20,a21,a26,g,D,ne,Mz,My⟩
   ·obtain rfl:=GG (RL ⟨18,.data⟩ ak rfl)
    go_simp
    exact A.out _ _ ⟨Kc,Kb,Ka,.tuple #[.agg #[(dp x),(dn x)],.agg #[(dp yy),(dn yy)],.bool ok],J!,.agg #[(dp yy),(dn yy)],J9,x9,Kd,G!,B,U,by simp only[Act.put,cS,dm,cU],n? j1,j2,a8,L8,a17,GG,L7,fun _=>rfl,a21,a26,g,D,ne,Mz,My⟩
   ·obtain rfl:=GG (RL ⟨18,.data⟩ ak rfl)
    go_simp
    exact A.out _ _ ⟨Kc,Kb,Ka,.tuple #[.agg #[(dp x),(dn x)],.agg #[(dp yy),(dn yy)],.bool ok],J!,J?,.bool ok,x9,Kd,G!,B,U,by simp only[Act.put,cS,dm,cU],n? j1,j2,a8,L8,a17,GG,L7,a20,fun _=>rfl,a26,g,D,ne,Mz,My⟩
   ·have hf:L 24=false:=by cases h:L 24;(· rfl);exact absurd (Mz h) (by rw[E];decide)
    go_simp
    exact A.out _ _ ⟨Kc,Kb,Ka,OC,J!,J?,J9,.pointer (cu W.heap.size),Kd,G!,W.heap.size,U,by simp only[Act.put,cS,dm,cU],n? j1,aq j2 (aC _ _),a8,L8,a17,GG,L7,a20,a21,a26,fun _=>⟨rfl,j2.size,by show _=some (Obj.cells (if L 24=true then _ else _) _ _);rw[hf];exact bf _ _⟩,fun h=>⟨(D h).1,(D h).2.1,aE (aC _ _) (D h).2.2⟩,fun _ h=>Nat.ne_of_gt (blt (D h).2.2),fun h=>absurd (hf.symm.trans h) aj,My⟩
   ·have hf:L 25=false:=by cases h:L 25;(· rfl);exact absurd (My h) (by rw[E];decide)
    go_simp
    exact A.out _ _ ⟨Kc,Kb,Ka,OC,J!,J?,J9,x9,.pointer (cu W.heap.size),G!,B,W.heap.size,by simp only[Act.put,cS,dm,cU],n? j1,aq j2 (aC _ _),a8,L8,a17,GG,L7,a20,a21,a26,fun h=>⟨(g h).1,(g h).2.1,aE (aC _ _) (g h).2.2⟩,fun _=>⟨rfl,j2.size,by show _=some (Obj.cells (if L 25=true then _ else _) _ _);rw[hf];exact bf _ _⟩,fun h _=>Nat.ne_of_lt (blt (g h).2.2),Mz,fun h=>absurd (hf.symm.trans h) aj⟩
   ·have l22:L 22=true:=RL ⟨22,.data⟩ ak rfl
    obtain⟨rfl,R,eB⟩:=g l22;obtain rfl:=L7 (RL ⟨19,.data⟩ ak rfl);rw[E,aA aj]at eB;have k1:=(ae eB).1;have k2:=(ae eB).2
    go_simp
    exact A.out _ _ ⟨Kc,Kb,Ka,OC,.agg #[(dp x),(dn x)],J?,J9,.pointer (some (Ad B 0)),Kd,G!,B,U,by simp only[Act.put,cS,dm,cU],n? j1,(j2.setCell R _).setCell R _,a8,L8,a17,GG,L7,a20,a21,a26,fun _=>⟨rfl,R,by rw[aw (aw eB _) _];rfl⟩,fun h=>⟨(D h).1,(D h).2.1,(aZ _ _ _ _ (fun e=>ne l22 h e.symm)).trans ((aZ _ _ _ _ (fun e=>ne l22 h e.symm)).trans (D h).2.2)⟩,ne,fun _=>l22,My⟩
   ·have l23:L 23=true:=RL ⟨23,.data⟩ ak rfl
    obtain⟨rfl,R,eB⟩:=D l23;obtain rfl:=a20 (RL ⟨20,.data⟩ ak rfl);rw[E,aA aj]at eB;have k1:=(ae eB).1;have k2:=(ae eB).2
    go_simp
    exact A.out _ _ ⟨Kc,Kb,Ka,OC,J!,.agg #[(dp yy),(dn yy)],J9,x9,.pointer (some (Ad U 0)),G!,B,U,by simp only[Act.put,cS,dm,cU],n? j1,(j2.setCell R _).setCell R _,a8,L8,a17,GG,L7,a20,a21,a26,fun h=>⟨(g h).1,(g h).2.1,(aZ _ _ _ _ (ne h l23)).trans ((aZ _ _ _ _ (ne h l23)).trans (g h).2.2)⟩,fun _=>⟨rfl,R,by rw[aw (aw eB _) _];rfl⟩,ne,Mz,fun _=>l23⟩
   ·obtain rfl:=a21 (RL ⟨21,.data⟩ ak rfl)
    go_simp
    exact A.out _ _ ⟨Kc,Kb,Ka,OC,J!,J?,.bool ok,x9,Kd,.bool ok,B,U,by simp only[Act.put,cS,dm,cU],n? j1,j2,a8,L8,a17,GG,L7,a20,a21,fun _=>rfl,g,D,ne,Mz,My⟩
  ·clear aB
   rintro L b W Z ⟨Kc,Kb,Ka,OC,J!,J?,J9,x9,Kd,G!,B,U,rfl,G⟩;obtain⟨j1,j2,a8,L8,a17,GG,L7,a20,a21,a26,g,D,ne,Mz,My⟩:=G.o;have hl:=fun i (h:i<27)=>Z i h
   obtain⟨rfl,-,h1⟩:=g (hl 22 aj);obtain⟨rfl,-,O⟩:=D (hl 23 aj);obtain rfl:=a26 (hl 26 aj);rw[hl 24 aj,aD rfl]at h1;rw[hl 25 aj,aD rfl]at O;have l:=hid (Aa j2 (Aa h1 O));clear j1 j2 a8 L8 a17 GG L7 a20 a21 a26 g D ne Mz My hl Z G h1 O;simp only[Act.put,cS,dm,cU]
   go_wp2_with fail
   go_meet
   case rel=>exact⟨B,U,rfl,rfl,rfl,l.o⟩
 case rest=>
  obtain⟨B,U,rfl,rfl,rfl,f⟩:=hcut
  rename World=>X4
  have lX:=f.a.size;cases ok
  ·have HNz:Hd (ne=PE.zero):=m.o
   have N:=bO (n:=17) (aE f.a H.a.2.2) rfl
   go_wp2_with (refine wpList_store_mid rfl aV (.tmp 8) (.tmp 36) rfl (w.heap.size+1+1) 0 (aH PE.zero).toArray rfl rfl N au (a! _) ?_)
   have hq:=bX (cs:=pK) (aE f.a H.a.2.2) (vs:=aH PE.zero) rfl;have E:=run_loadVar_mid (P:=Tryz.prog) (X4.setCells (w.heap.size+1+1) 0 (aH PE.zero)) (w.heap.size+1+1) 0 aV (aH PE.zero) _ (aT hq) fH rfl au;refine aG (v:=.agg (aH PE.zero).toArray) (by simp[results,results315,results325,E,Act.put,asAddr]) rfl ⟨by rw[HNz.o],aY _ ah _ _ _ (aq H.A f.a)⟩
  ·have HNt:Hd (ne=z):=m.o
   have TH:=aE f.a H.a.1;have TG:=aE f.a H.a.2.1;have M:=aE f.a H.a.2.2;have nR1:B≠w.heap.size+1+1:=by rintro rfl;have h:=f.b;rw[M]at h;simp at h
   have nR2:U≠w.heap.size+1+1:=by rintro rfl;have h:=f.B;rw[M]at h;simp at h
   clear M
   go_upto_region 4 with fail
   refine wp_region_held_drew (S:=fun W'=>Bl w W'/\d' W' w.heap.size (aH e).toArray aV/\d' W' (w.heap.size+1) #[.string bj,.slice wa wl wc,Iv kind,Iv var,Iv op,Iv test,.bool s.isVar,Iv s.var,Iv s.const,.bool I.isVar,Iv I.var,Iv I.const,.slice ea el ec,.string goal] 152/\d' W' B #[(dp x),(dn x)] g!/\d' W' U #[(dp yy),(dn yy)] g!) au ⟨(aq H.A f.a).drew,TH,TG,f.b,f.B⟩ (fun aB=>?_);refine tq 0 (.iface gj (.agg #[])) (h:=?_);refine tq 1 (.iface gj (.agg #[])) (h:=?_);refine tz 2 (.agg (aH e).toArray) (y:=yieldsIf_load_mid au _ _ rfl _ _ rfl _ _ (fun W' aU=>aT aU.2.1) fH rfl au) (h:=?_);refine tq 3 (.pointer (some (Ad (w.heap.size+1) 6))) (h:=?_);refine tq 4 (.agg #[.bool s.isVar,Iv s.var,Iv s.const]) (y:=fun W' aU=>by have k1:=(ae aU.2.2.1).1;have k3:=(ae aU.2.2.2.1).1;have k5:=(ae aU.2.2.2.2).1;clear aB aU;go_simp) (h:=?_);refine tq 5 (.agg #[(dp x),(dn x)]) (y:=fun W' aU=>by have k1:=(ae aU.2.2.1).1;have k3:=(ae aU.2.2.2.1).1;have k5:=(ae aU.2.2.2.2).1;clear aB aU;go_simp) (h:=?_);refine tq 7 (.pointer (some (Ad (w.heap.size+1) 9))) (h:=?_);refine tq 8 (.agg #[.bool I.isVar,Iv I.var,Iv I.const]) (y:=fun W' aU=>by have k1:=(ae aU.2.2.1).1;have k3:=(ae aU.2.2.2.1).1;have k5:=(ae aU.2.2.2.2).1;clear aB aU;go_simp) (h:=?_);refine tq 9 (.agg #[(dp yy),(dn yy)]) (y:=fun W' aU=>by have k1:=(ae aU.2.2.1).1;have k3:=(ae aU.2.2.2.1).1;have k5:=(ae aU.2.2.2.2).1;clear aB aU;go_simp) (h:=?_);refine r1 6 (h:=fun K A=>?_)
   go_simp
   refine(HN1.o _).mono ?_;rintro r Y1 ⟨rfl,hb⟩;have u:Hd (Bl X4 Y1):=aq ay hb;clear hb;refine A.out _ _ ⟨aq H.A (aq f.a u.o),aE u.o (aE f.a H.a.1),aE u.o (aE f.a H.a.2.1),aE u.o f.b,aE u.o f.B⟩ (fun aB=>?_);clear A K;refine pt ?_;refine r1 10 (h:=fun K A=>?_)
   go_simp
   refine(T.o _).mono ?_;rintro r Y2 ⟨rfl,hb⟩;have t:Hd (Bl X4 Y2):=aq (aq u.o ay) hb;clear hb;refine A.out _ _ ⟨aq H.A (aq f.a t.o),aE t.o (aE f.a H.a.1),aE t.o (aE f.a H.a.2.1),aE t.o f.b,aE t.o f.B⟩ (fun aB=>?_);clear A K;refine pt ?_;refine r1 11 (h:=fun K A=>?_);rw[aD au];have N:=bO (n:=17) (aE t.o (aE f.a H.a.2.2)) rfl;refine wp_store_mid aV (.tmp 8) (.tmp 47) rfl (w.heap.size+1+1) 0 (aH z).toArray rfl rfl N au (a! _) ?_;refine A.out _ _ ⟨aY _ ah _ _ _ (aq H.A (aq f.a t.o)),(dc _ _ _ _ _ ah).trans (aE t.o (aE f.a H.a.1)),(dc _ _ _ _ _ ah).trans (aE t.o (aE f.a H.a.2.1)),(dc _ _ _ _ _ nR1).trans (aE t.o f.b),(dc _ _ _ _ _ nR2).trans (aE t.o f.B)⟩ (fun aB=>?_);clear A K;refine pt ?_;refine wpAnyH_done au ?_ _
   go_wp2_with fail
   have hq:=bX (cs:=pK) (aE t.o (aE f.a H.a.2.2)) (vs:=aH z) rfl;have E:=run_loadVar_mid (P:=Tryz.prog) (Y2.setCells (w.heap.size+1+1) 0 (aH z)) (w.heap.size+1+1) 0 aV (aH z) _ (aT hq) fH rfl au
   refine aG (v:=.agg (aH z).toArray) (by simp[results,results315,results325,E,Act.put,asAddr]) rfl ⟨by rw[HNt.o],aY _ ah _ _ _ (aq H.A (aq f.a t.o))⟩):p:=h
open KC in
def KC.uZ(e:PE)(bj:ByteArray)(wa ea:Option Addr)(wl wc el ec:Nat)(n:SN)(so:Bool)(w:World)(ha:n.a.isVar=true->0<=n.a.var/\n.a.var<8)(hb:n.b.isVar=true->0<=n.b.var/\n.b.var<8)(C1:dq (bQ (iY e n.a)))(sR:dq (bQ (iY e n.b))):
 Cl 315 #[.iface 328 (.agg #[]),.agg (KC.aH e).toArray,.agg (aK bj (.slice wa wl wc) n (.slice ea el ec)),.bool so] w (Rb w (.agg (KC.aH (KC.qU e n so)).toArray)):=by exact qs4
open KB in
def KB.uZ(e:PE)(bj:ByteArray)(wa ea:Option Addr)(wl wc el ec:Nat)(n:SN)(so:Bool)(w:World)(ha:n.a.isVar=true->0<=n.a.var/\n.a.var<8)(hb:n.b.isVar=true->0<=n.b.var/\n.b.var<8)(C1:dq (bQ (iY e n.a)))(sR:dq (bQ (iY e n.b))):
 Cl 325 #[.iface 331 (.agg #[]),.agg (KB.aH e).toArray,.agg (aK bj (.slice wa wl wc) n (.slice ea el ec)),.bool so] w (Rb w (.agg (KB.aH (KB.qU e n so)).toArray)):=by exact qs4
end
section
open Go.RowKit Go.Proofs Go.Maps Tryz
def acB{p:Prop}(h:p:=by
 have f:=hid (fun W=>uZ e bj wa ea wl wc el ec n so W ha hb C1 sR);clear ha hb C1 sR;generalize qU e n so=z at f⊢;obtain⟨kind,var,op,test,s,I,goal⟩:=n;simp only[aK]at f hn⊢;go_enter ac1,acL
 go_upto_region 1 with fail
 have H:Hd ((d' ((w.alloc (.cells (aH e).toArray aV)).alloc (.cells dE aV)) w.heap.size (aH e).toArray aV/\d' ((w.alloc (.cells (aH e).toArray aV)).alloc (.cells dE aV)) (w.heap.size+1) dE aV)/\Bl w ((w.alloc (.cells (aH e).toArray aV)).alloc (.cells dE aV))/\d' ((w.alloc (.cells (aH e).toArray aV)).alloc (.cells dE aV)) nb #[.string bj,.slice wa wl wc,Iv kind,Iv var,Iv op,Iv test,.bool s.isVar,Iv s.var,Iv s.const,.bool I.isVar,Iv I.var,Iv I.const,.slice ea el ec,.string goal] 152/\d' ((w.alloc (.cells (aH e).toArray aV)).alloc (.cells dE aV)) db #[.iface gj (.agg #[])] vu/\((w.alloc (.cells (aH e).toArray aV)).alloc (.cells dE aV)).heap[fb]?=some (xe so)):=⟨aN _ _ _,aX _ _ _,aE (aX _ _ _) hn,aE (aX _ _ _) hd,aE (aX _ _ _) hf⟩;clear hn hd hf;generalize((w.alloc (.cells (aH e).toArray aV)).alloc (.cells dE aV))=V at H⊢;have J:w.heap.size+1<V.heap.size:=blt H.a.2;have L:=aT H.a.1;obtain⟨B,o⟩:=ae H.c;obtain⟨x,a⟩:=ae H.d;obtain⟨m,S⟩:=ae H.D
 go_wp2_with (first|(refine wpList_load_mid rfl aV (.tmp 4) rfl w.heap.size 0 rfl (aH e) _ L fH rfl au ?_)|((first|go_at_call 315 | go_at_call 325);refine(f.o _).mono ?_;rintro r F ⟨rfl,hb⟩;have g:Hd (Bl V F):=hb;clear hb;have N:=bO (n:=17) (aE g.o H.a.2) rfl)|(refine wpList_store_mid rfl aV (.tmp 5) (.tmp 10) rfl (w.heap.size+1) 0 (aH z).toArray rfl rfl N au (a! _) ?_))
 have A:=bX (cs:=pK) (aE g.o H.a.2) (vs:=aH z) rfl;have E:=run_loadVar_mid (P:=Tryz.prog) (F.setCells (w.heap.size+1) 0 (aH z)) (w.heap.size+1) 0 aV (aH z) _ (aT A) fH rfl au
 refine aG (v:=.agg (aH z).toArray) (by simp[results,results314,results324,E,Act.put,asAddr]) rfl ⟨rfl,aY _ ah _ _ _ (aq H.b g.o)⟩):p:=h
open KC in
def KC.x8(e:PE)(bj:ByteArray)(wa ea:Option Addr)(wl wc el ec:Nat)(n:SN)(so:Bool)(nb db fb:Nat)(w:World)(hn:w.heap[nb]?=some (.cells (aK bj (.slice wa wl wc) n (.slice ea el ec)) 152 (0,0)))(hd:w.heap[db]?=some (.cells #[.iface 328 (.agg #[])] 381 (0,0)))(hf:w.heap[fb]?=some (xe so))(ha:n.a.isVar=true->0<=n.a.var/\n.a.var<8)(hb:n.b.isVar=true->0<=n.b.var/\n.b.var<8)(C1:dq (bQ (iY e n.a)))(sR:dq (bQ (iY e n.b))):
 Cl 314 #[.agg (KC.aH e).toArray,.pointer (some (Ad db 0)),.pointer (some (Ad nb 0)),.pointer (some (Ad fb 0))] w (Rb w (.agg (KC.aH (KC.qU e n so)).toArray)):=by exact acB
open KB in
def KB.x8(e:PE)(bj:ByteArray)(wa ea:Option Addr)(wl wc el ec:Nat)(n:SN)(so:Bool)(nb db fb:Nat)(w:World)(hn:w.heap[nb]?=some (.cells (aK bj (.slice wa wl wc) n (.slice ea el ec)) 152 (0,0)))(hd:w.heap[db]?=some (.cells #[.iface 331 (.agg #[])] 386 (0,0)))(hf:w.heap[fb]?=some (xe so))(ha:n.a.isVar=true->0<=n.a.var/\n.a.var<8)(hb:n.b.isVar=true->0<=n.b.var/\n.b.var<8)(C1:dq (bQ (iY e n.a)))(sR:dq (bQ (iY e n.b))):
 Cl 324 #[.agg (KB.aH e).toArray,.pointer (some (Ad db 0)),.pointer (some (Ad nb 0)),.pointer (some (Ad fb 0))] w (Rb w (.agg (KB.aH (KB.qU e n so)).toArray)):=by exact acB
end
section
def KC.eU(e:PE)(n:SN)(so:Bool):PE:=if e.r then(if n.kind=0 then e.put n.var.toNat (iY e n.a) else if n.kind=2 then e.put n.var.toNat VV.fA else if n.kind=1 then KC.qT e n else if n.kind=4 then KC.qU e n so else e) else PE.zero
def KB.eU(e:PE)(n:SN)(so:Bool):PE:=if e.r then(if n.kind=0 then e.put n.var.toNat (iY e n.a) else if n.kind=2 then e.put n.var.toNat VV.all else if n.kind=1 then KB.qT e n else if n.kind=4 then KB.qU e n so else e) else PE.zero
def acz{p:Prop}(h:p:=by
 obtain⟨bj,wa,ea,wl,wc,el,ec,nb,v,a,d,b,G,O,Y,K,H⟩:=h;rcases H with⟨J,rfl,rfl⟩|⟨J,rfl,rfl⟩|⟨J,rfl,rfl⟩|⟨J,rfl,rfl⟩|⟨⟨g,c,V,k⟩,rfl,rfl⟩
 ·have q:eU e n so=if e.r then e.put n.var.toNat (iY e n.a) else PE.zero:=by(first|unfold KC.eU|unfold KB.eU);simp[J]
  rw[q];exact jr e _ sb _ _ w K (fun M w=>adf M w) fun _ W U=>ya e bj wa ea wl wc el ec n nb v W (aE U O) (aE U G) (hv ah) (ha (by simp[fm,J]))
 ·first|(have _:=Cr;have q:eU e n so=if e.r then e.put n.var.toNat VV.fA else PE.zero:=by(first|unfold KC.eU|unfold KB.eU);simp[J])|(have q:eU e n so=if e.r then e.put n.var.toNat VV.all else PE.zero:=by(first|unfold KC.eU|unfold KB.eU);simp[J])
  rw[q];exact jr e _ sb _ _ w K (fun M w=>ade M w) fun _ W U=>x! e bj wa ea wl wc el ec n nb v W (aE U O) (aE U G) (hv ah)
 ·have q:eU e n so=if e.r then qT e n else PE.zero:=by(first|unfold KC.eU|unfold KB.eU);simp[J]
  rw[q];exact jr e _ sb _ _ w K (fun M w=>adb M w) fun _ W U=>x? e bj wa ea wl wc el ec n nb v W (aE U O) (aE U G) (hv ah) (ha (by simp[fm,J])) (hb (by simp[fm,J])) (C1 (by simp[fm,J])) (sR (by simp[fm,J]))
 ·have q:eU e n so=if e.r then qU e n so else PE.zero:=by(first|unfold KC.eU|unfold KB.eU);simp[J]
  rw[q];exact jr e _ sb _ _ w K (fun M w=>ada M w) fun _ W U=>x8 e bj wa ea wl wc el ec n so nb v a W (aE U O) (aE U G) (aE U Y) (ha (by simp[fm,J])) (hb (by simp[fm,J])) (C1 (by simp[fm,J])) (sR (by simp[fm,J]))
 ·have q:eU e n so=if e.r then e else PE.zero:=by(first|unfold KC.eU|unfold KB.eU);simp[g,c,V,k]
  rw[q]
  exact jr e _ sb _ _ w K (fun M w=>ac9 M w) fun _ W U=>x7 e W):p:=h
open KC in
def KC.AL(e:PE)(n:SN)(so:Bool)(sb:Nat)(w:World)(h:KC.pM w sb n so)(hv:n.kind<=2->0<=n.var/\n.var<8)(hk:0<=n.kind)(ha:0<fm n->n.a.isVar=true->0<=n.a.var/\n.a.var<8)(hb:1<fm n->n.b.isVar=true->0<=n.b.var/\n.b.var<8)(C1:0<fm n->dq (bQ (iY e n.a)))(sR:1<fm n->dq (bQ (iY e n.b))):
 Cl 317 #[.agg (KC.aH e).toArray,.pointer (some (Ad sb 0))] w (Rb w (.agg (KC.aH (KC.eU e n so)).toArray)):=by exact acz
open KB in
def KB.AL(e:PE)(n:SN)(so:Bool)(sb:Nat)(w:World)(h:KB.pM w sb n so)(hv:n.kind<=2->0<=n.var/\n.var<8)(hk:0<=n.kind)(ha:0<fm n->n.a.isVar=true->0<=n.a.var/\n.a.var<8)(hb:1<fm n->n.b.isVar=true->0<=n.b.var/\n.b.var<8)(C1:0<fm n->dq (bQ (iY e n.a)))(sR:1<fm n->dq (bQ (iY e n.b))):
 Cl 327 #[.agg (KB.aH e).toArray,.pointer (some (Ad sb 0))] w (Rb w (.agg (KB.aH (KB.eU e n so)).toArray)):=by exact acz
end
section
variable {nv k:Nat} {e:PE} {vs:List VV}
def PR(nv:Nat)(e:PE):EV->Prop
 |none=>e=PE.zero
 |some vs=>e.r=true/\vs.length=nv/\∀i,e.at i=vs.getD i VV.z
def nZ(h:PR nv e (some vs))(o:ot):iY e o=fM vs o:=by
 unfold iY fM;rw[h.2.2];rfl
def l!(h:PR nv e (some vs))(hn:nv<=8)(hk:k<nv)(x:VV):PR nv (e.put k x) (some (vs.set k x)):=by
 obtain⟨G,O,Y⟩:=h;refine⟨G,by rw[ke,O],fun i=>?_⟩;rw[PE.jy _ ah,Y,List.getD,List.getD,eQ];by_cases hi:i=k
 ·subst hi
  rw[aD rfl,aD rfl,aD ah];rfl
 rw[aA hi,aA (fun h=>hi h.symm)]
def UG(h:PR nv e (some vs))(hn:nv<=8)(hk:k<nv):PR nv (e.put k (e.at k)) (some vs):=by
 obtain⟨G,O,Y⟩:=h;refine⟨G,O,fun i=>?_⟩;rw[PE.jy _ ah];split
 ·rename_i hi;rw[hi,Y]
 exact Y i
def KY(h:PR nv e (some vs))(hn:nv<=8)(o:ot)(g:o.isVar=true->0<=o.var/\o.var<nv)(x:VV):PR nv (KC.fP e o x) (some vs):=by
 unfold KC.fP;split
 ·rename_i Z
  rw[aS]at Z;have:=g Z.2;exact UG h hn ah
 exact h
def Qs{v:EV}(h:PR nv e v)(hn:nv<=8)(n:SN)(s:Nat)(hv:n.kind<=2->0<=n.var/\n.var<nv)(hk:0<=n.kind)(g:n.kind=1->0<=n.op/\n.op<=3)(ha:0<fm n->n.a.isVar=true->0<=n.a.var/\n.a.var<nv)(hb:1<fm n->n.b.isVar=true->0<=n.b.var/\n.b.var<nv):PR nv (KC.eU e n (decide (s=0))) (Fb 5 n s v):=by
 cases v with
 |none=>
  have o:e=PE.zero:=h;subst o;show KC.eU PE.zero n _=PE.zero;unfold KC.eU;rfl
 | some vs=>
  show PR nv (KC.eU e n (decide (s=0))) (Yg n s vs);unfold KC.eU Yg;rw[aD h.1];by_cases H:n.kind=0
  ·rw[aD H,aA ah,aD H,nZ h]
   exact l! h hn (by have:=hv ah;omega) _
  rw[aA H];by_cases R:n.kind=2
  ·rw[aD R,aD R]
   exact l! h hn (by have:=hv ah;omega) _
  rw[aA R,aA R,aA H];by_cases L:n.kind=1;rotate_left
  ·rw[aA L,aA L]
   by_cases U:n.kind=4;rotate_left
   ·rw[aA U,aA U]
    exact h
   rw[aD U,aD U];unfold KC.qU KC.MK;rw[nZ h,nZ h];by_cases Y:((fM vs n.a).any||(fM vs n.b).any||xq n.test (fM vs n.a).lo (fM vs n.b).lo==decide (s=0))=true
   ·rw[aD Y,aD Y]
    exact KY (KY h hn n.a (ha (by simp[fm,U])) _) hn n.b (hb (by simp[fm,U])) _
   rw[aA Y,aA Y];rfl
  rw[aD L,aA ah,aD L];unfold KC.qT KC.UC;rw[nZ h,nZ h];by_cases Y:n.op=3/\(fM vs n.b).any=false/\(fM vs n.b).lo=0
  ·rw[aD Y,aD Y]
   rfl
  rw[aA Y,aA Y];by_cases c:((fM vs n.a).any||(fM vs n.b).any)=true
  ·rw[aD c,aD c]
   exact l! h hn (by have:=hv ah;omega) _
  rw[aA c,aA c];have u:EW n.op (fM vs n.b).lo=true:=by
   have:=g L;have X:(fM vs n.b).any=false:=by
    rw[mF,BP]at c;exact c.2
   unfold EW;by_cases k:(fM vs n.b).lo=0
   ·have:n.op≠3:=fun a=>Y ⟨a,X,k⟩
    simp;omega
   simp[k]
  rw[aD u];exact l! h hn (by have:=hv ah;omega) _
end
section
variable {a b x:VV} {e:PE} {o:ot} {nv:Nat}
structure TK(a:VV):Prop where
  any:a.any=false
  le:a.lo<=a.hi
  lo:-9223372036854775808<=a.lo
  hi:a.hi<=9223372036854775807
def Xf{p:Prop}(h:p:=by
 by_cases h:p.1<=p.2/\q.1<=q.2
 ·rw[aD (by simp[h]),aA (by simp;omega)]
 rw[aA (by simp;omega),aD (by simp;omega)]):p:=h
def Lr(a b:VV)(p q:BB)(x y:VV)(hx:x=vZ a p)(T:y=vZ b q):(if (je p q).2.2 then some (vZ a (je p q).1,vZ b (je p q).2.1) else none)=yi (x,y):=by
 subst hx T;unfold je yi vZ;exact Xf
def Lq(a b:VV)(p q:BB)(x y:VV)(hx:x=vZ a q)(T:y=vZ b p):(if (Mj (je p q)).2.2 then some (vZ a (Mj (je p q)).1,vZ b (Mj (je p q)).2.1) else none)=yi (x,y):=by
 subst hx T;unfold je yi vZ Mj;exact Xf
def Dj(h:TK a)(u:Int):cI a (-9223372036854775808) u=vZ a (a.lo,min a.hi u):=by
 unfold cI vZ;have:=h.lo;rw[aA ah]
 congr 1
 split<;>simp<;>omega
def Dk(h:TK a)(u:Int):cI a u 9223372036854775807=vZ a (max a.lo u,a.hi):=by
 unfold cI vZ;have:=h.hi;rw[aA (c:=(9223372036854775807:Int)<a.hi) ah]
 congr 1
 split<;>simp<;>omega
def Wj(ha:TK a)(hb:TK b)(t:Int)(s:Bool):KB.MK t s a b=qm t s a b:=by
 by_cases c:t=0
 ·subst c
  cases s
  ·have r:qm 0 false a b=yi (cI a b.lo 9223372036854775807,cI b (-9223372036854775808) a.hi):=by unfold qm zl;simp
   rw[r];exact Lq a b (b.lo,min b.hi a.hi) (max a.lo b.lo,a.hi) _ _ (by rw[Dk ha]) (by rw[Dj hb])
  by_cases Z:b.hi=-9223372036854775808∨a.lo=9223372036854775807
  ·have r:qm 0 true a b=none:=by unfold qm zl;simp[Z]
   have l:cL 0 true (bQ a) (bQ b)=((0,0),(0,0),false):=by
    show iL (bQ a) (bQ b)=_;unfold iL;rw[aD (by exact Z)]
   unfold KB.MK;rw[r,l];rfl
  have r:qm 0 true a b=yi (cI a (-9223372036854775808) (b.hi-1),cI b (a.lo+1) 9223372036854775807):=by unfold qm zl;simp[Z]
  have l:cL 0 true (bQ a) (bQ b)=je (a.lo,min a.hi (b.hi-1)) (max b.lo (a.lo+1),b.hi):=by
   show iL (bQ a) (bQ b)=_;unfold iL;rw[aA (by exact Z)];rfl
  unfold KB.MK;rw[r,l];exact Lr a b _ _ _ _ (by rw[Dj ha]) (by rw[Dk hb])
 by_cases j:t=1
 ·subst j
  cases s;rotate_left
  ·have r:qm 1 true a b=yi (cI a (-9223372036854775808) b.hi,cI b a.lo 9223372036854775807):=by unfold qm zl;simp
   rw[r];exact Lr a b (a.lo,min a.hi b.hi) (max b.lo a.lo,b.hi) _ _ (by rw[Dj ha]) (by rw[Dk hb])
  by_cases Z:a.hi=-9223372036854775808∨b.lo=9223372036854775807
  ·have r:qm 1 false a b=none:=by unfold qm zl;simp[Z]
   have l:cL 1 false (bQ a) (bQ b)=((0,0),(0,0),false):=by
    show Mj (iL (bQ b) (bQ a))=_;unfold iL;rw[aD (by exact Z)];rfl
   unfold KB.MK;rw[r,l];rfl
  have r:qm 1 false a b=yi (cI a (b.lo+1) 9223372036854775807,cI b (-9223372036854775808) (a.hi-1)):=by unfold qm zl;simp[Z]
  have l:cL 1 false (bQ a) (bQ b)=Mj (je (b.lo,min b.hi (a.hi-1)) (max a.lo (b.lo+1),a.hi)):=by
   show Mj (iL (bQ b) (bQ a))=_;unfold iL;rw[aA (by exact Z)];rfl
  unfold KB.MK;rw[r,l];exact Lq a b _ _ _ _ (by rw[Dk ha]) (by rw[Dj hb])
 have y:(if (j8 (bQ a) (bQ b)).2.2 then some (vZ a (j8 (bQ a) (bQ b)).1,vZ b (j8 (bQ a) (bQ b)).2.1) else none)=yi (cI a b.lo b.hi,cI a b.lo b.hi):=by
  have e:=F7 a b;unfold j8 yi;rw[e];have Q:vZ a (bQ (cI a b.lo b.hi))=cI a b.lo b.hi:=rfl;have z:vZ b (bQ (cI a b.lo b.hi))=cI a b.lo b.hi:=by
   have G:=ha.any;have O:=hb.any;unfold vZ bQ cI;rw[G,O]
  by_cases Z:(bQ (cI a b.lo b.hi)).1<=(bQ (cI a b.lo b.hi)).2
  ·have o:(cI a b.lo b.hi).lo<=(cI a b.lo b.hi).hi:=Z
   rw[aD (by simpa using Z),aA (by simp;omega),Q,z]
  have o:¬(cI a b.lo b.hi).lo<=(cI a b.lo b.hi).hi:=Z;rw[aA (by simpa using Z),aD (by left;simp;omega)]
 have P:(if (eY (bQ a) (bQ b)).2.2 then some (vZ a (eY (bQ a) (bQ b)).1,vZ b (eY (bQ a) (bQ b)).2.1) else none)=(match (if a.lo=a.hi/\VV.wz a b=true then none else some (a,b))with|none=>none|some q=>yi q):=by
  obtain⟨a1,a2,a3⟩:=a;obtain⟨u,x,S⟩:=b;have G:=ha.any;have O:=hb.any;have Y:=ha.le;have K:=hb.le;simp only at G O Y K;subst G O;unfold eY bQ vZ VV.wz;by_cases Z:a2=a3/\(a2=x/\a3=S)
  ·rw[aA (by simp;omega),aD (by simp;omega)]
  rw[aD (by simp;omega),aA (by simp;omega)];simp only[yi];rw[aA (by simp;omega)]
 by_cases E:t=2
 ·subst E
  cases s
  ·have r:qm 2 false a b=(match (if a.lo=a.hi/\VV.wz a b=true then none else some (a,b))with|none=>none|some q=>yi q):=by unfold qm zl;simp;rfl
   rw[r];exact P
  have r:qm 2 true a b=yi (cI a b.lo b.hi,cI a b.lo b.hi):=by unfold qm zl;simp
  rw[r];exact y
 cases s
 ·have r:qm t false a b=yi (cI a b.lo b.hi,cI a b.lo b.hi):=by unfold qm zl;simp[c,j,E]
  have l:cL t false (bQ a) (bQ b)=j8 (bQ a) (bQ b):=by unfold cL;simp[c,j,E]
  unfold KB.MK;rw[r,l];exact y
 have r:qm t true a b=(match (if a.lo=a.hi/\VV.wz a b=true then none else some (a,b))with|none=>none|some q=>yi q):=by unfold qm zl;simp[c,j,E];rfl
 have l:cL t true (bQ a) (bQ b)=eY (bQ a) (bQ b):=by unfold cL;simp[c,j,E]
 unfold KB.MK;rw[r,l];exact P
def abC(ha:TK a)(hb:TK b){t:Int}{s:Bool}{q:VV×VV}(h:qm t s a b=some q):(a.lo<=q.1.lo/\q.1.hi<=a.hi/\q.1.lo<=q.1.hi/\q.1.any=false)/\(b.lo<=q.2.lo/\q.2.hi<=b.hi/\q.2.lo<=q.2.hi/\q.2.any=false):=by
 have key:∀x y:VV,yi (x,y)=some q->(a.lo<=x.lo/\x.hi<=a.hi/\x.any=false)->(b.lo<=y.lo/\y.hi<=b.hi/\y.any=false)->(a.lo<=q.1.lo/\q.1.hi<=a.hi/\q.1.lo<=q.1.hi/\q.1.any=false)/\(b.lo<=q.2.lo/\q.2.hi<=b.hi/\q.2.lo<=q.2.hi/\q.2.any=false):=by
  intro x y X E T;unfold yi at X;split at X
  ·cases X
  rename_i Z
  simp only[dG]at X;subst X;simp only[not_or,Int.not_lt]at Z;exact⟨⟨E.1,E.2.1,Z.1,E.2.2⟩,T.1,T.2.1,Z.2,T.2.2⟩
 have c:∀(v:VV) (l u:Int),TK v->v.lo<=(cI v l u).lo/\(cI v l u).hi<=v.hi/\(cI v l u).any=false:=by
  intro v l u e;unfold cI;refine⟨?_,?_,e.any⟩<;>simp only<;>split<;>omega
 have d:b.lo<=(cI a b.lo b.hi).lo/\(cI a b.lo b.hi).hi<=b.hi:=by
  unfold cI;refine⟨?_,?_⟩<;>simp only<;>split<;>omega
 unfold qm at h;cases K:zl t s a b with
 |none=>rw[K]at h;cases h
 | some z=>
  rw[K]at h;obtain⟨x,y⟩:=z;refine key x y h ?_ ?_
  ·unfold zl at K
   split at K
   ·split at K
    ·cases K
    simp only[dG,fE]at K;rw[<-K.1];exact c _ _ _ ha
   split at K
   ·simp only[dG,fE]at K;rw[<-K.1];exact c _ _ _ ha
   split at K
   ·simp only[dG,fE]at K;rw[<-K.1];exact c _ _ _ ha
   split at K
   ·split at K
    ·cases K
    simp only[dG,fE]at K;rw[<-K.1];exact c _ _ _ ha
   split at K
   ·simp only[dG,fE]at K;rw[<-K.1];exact c _ _ _ ha
   split at K
   ·cases K
   simp only[dG,fE]at K;rw[<-K.1];exact⟨dU _,dU _,ha.any⟩
  unfold zl at K;split at K
  ·split at K
   ·cases K
   simp only[dG,fE]at K;rw[<-K.2];exact c _ _ _ hb
  split at K
  ·simp only[dG,fE]at K;rw[<-K.2];exact c _ _ _ hb
  split at K
  ·simp only[dG,fE]at K;rw[<-K.2];exact c _ _ _ hb
  split at K
  ·split at K
   ·cases K
   simp only[dG,fE]at K;rw[<-K.2];exact c _ _ _ hb
  split at K
  ·simp only[dG,fE]at K;rw[<-K.2];exact⟨d.1,d.2,(c _ _ _ ha).2.2⟩
  split at K
  ·cases K
  simp only[dG,fE]at K;rw[<-K.2];exact⟨dU _,dU _,hb.any⟩
def aa6{v:VV}(h1:v.lo<=x.lo)(h2:x.hi<=v.hi)(h3:v.any=x.any):cI v x.lo x.hi=x:=by
 obtain⟨l,b,a⟩:=x;simp only at h1 h2 h3;unfold cI;rw[h3];simp only
 congr 1
 ·split<;>omega
 split<;>omega
def Lc(hr:e.r=true)(g:o.isVar=true)(h1:(e.at o.var.toNat).lo<=x.lo)(h2:x.hi<=(e.at o.var.toNat).hi)(h3:(e.at o.var.toNat).any=x.any)(K:x.lo<=x.hi):KB.fP e o x=e.put o.var.toNat x:=by
 unfold KB.fP KB.Tr;rw[hr,g,aa6 h1 h2 h3,aD K];rfl
def Lb(g:o.isVar=false):KB.fP e o x=e:=by
 unfold KB.fP;rw[g];simp
def adg{vs:List VV}(h:PR nv e (some vs))(hn:nv<=8)(n:SN)(ha:n.a.isVar=true->0<=n.a.var/\n.a.var<nv)(hb:n.b.isVar=true->0<=n.b.var/\n.b.var<nv){y:VV}(hx:(fM vs n.a).lo<=x.lo/\x.hi<=(fM vs n.a).hi/\x.lo<=x.hi/\x.any=false)(T:(fM vs n.b).lo<=y.lo/\y.hi<=(fM vs n.b).hi/\y.lo<=y.hi/\y.any=false)(l:(fM vs n.a).any=false)(j:(fM vs n.b).any=false):PR nv (KB.fP (KB.fP e n.a x) n.b y) (chV n vs x y):=by
 rw[<-nZ h]at hx l;rw[<-nZ h]at T j;have s:∀f,(n.a.isVar=true->f=e.put n.a.var.toNat x)->(n.a.isVar=false->f=e)->PR nv f (some (if 0<=nE n.a then vs.set (nE n.a).toNat x else vs)):=by
  intro f G O;cases t:n.a.isVar
  ·rw[O t]
   have:nE n.a=-1:=by unfold nE;rw[t];rfl
   rw[this];exact h
  rw[G t];have:nE n.a=n.a.var:=by unfold nE;rw[t];rfl
  rw[this,aD (ha t).1];exact l! h hn (by have:=ha t;omega) x
 have g:KB.fP e n.a x=if n.a.isVar then e.put n.a.var.toNat x else e:=by
  cases t:n.a.isVar
  ·rw[Lb t];rfl
  have q:iY e n.a=e.at n.a.var.toNat:=by unfold iY;rw[t];rfl
  rw[q]at hx l;rw[Lc h.1 t hx.1 hx.2.1 (by rw[l,hx.2.2.2]) hx.2.2.1];rfl
 have N:=s (KB.fP e n.a x) (fun t=>by rw[g,t];rfl) (fun t=>by rw[g,t];rfl);unfold chV chR;cases c:n.b.isVar
 ·have:nE n.b=-1:=by unfold nE;rw[c];rfl
  rw[this,aA aj,Lb c];exact N
 have k:nE n.b=n.b.var:=by unfold nE;rw[c];rfl
 have D:=hb c;rw[k,aD D.1];have p:iY e n.b=e.at n.b.var.toNat:=by unfold iY;rw[c];rfl
 rw[p]at T j;by_cases z:n.b.var=nE n.a;rotate_left
 ·have u:(KB.fP e n.a x).at n.b.var.toNat=e.at n.b.var.toNat:=by
   rw[g];cases b:n.a.isVar
   ·rfl
   have o:nE n.a=n.a.var:=by unfold nE;rw[b];rfl
   have:=ha b;show(e.put n.a.var.toNat x).at _=_;rw[PE.jy _ ah,aA ah]
  rw[aA z,aA ah,Lc N.1 c (by rw[u];exact T.1) (by rw[u];exact T.2.1) (by rw[u,j,T.2.2.2]) T.2.2.1];exact l! N hn ah _
 have b:n.a.isVar=true:=by
  cases t:n.a.isVar
  ·have:nE n.a=-1:=by unfold nE;rw[t];rfl
   omega
  rfl
 have o:nE n.a=n.a.var:=by unfold nE;rw[b];rfl
 have u:(KB.fP e n.a x).at n.b.var.toNat=x:=by
  rw[g,b];show(e.put n.a.var.toNat x).at _=x;rw[PE.jy _ (by have:=ha b;omega),aD (by rw[z,o])]
 rw[aD z];have E:∀r:PE,r.r=true->r.at n.b.var.toNat=x->KB.fP r n.b y=(match KB.Tr x y with|some m=>r.put n.b.var.toNat m|none=>PE.zero):=by
  intro r r1 a1;unfold KB.fP;rw[r1,c,a1];rfl
 rw[E _ N.1 u];unfold KB.Tr;by_cases Z:(cI x y.lo y.hi).lo<=(cI x y.lo y.hi).hi
 ·rw[aD Z,aA ah]
  exact l! N hn ah _
 rw[aA Z,aD ah];rfl
def Qt{v:EV}(h:PR nv e v)(hn:nv<=8)(n:SN)(s:Nat)(b:∀vs,v=some vs->0<fm n->TK (fM vs n.a))(D:∀vs,v=some vs->1<fm n->TK (fM vs n.b))(hv:n.kind<=2->0<=n.var/\n.var<nv)(hk:0<=n.kind)(ha:0<fm n->n.a.isVar=true->0<=n.a.var/\n.a.var<nv)(hb:1<fm n->n.b.isVar=true->0<=n.b.var/\n.b.var<nv):PR nv (KB.eU e n (decide (s=0))) (Fb 6 n s v):=by
 cases v with
 |none=>
  have o:e=PE.zero:=h;subst o;show KB.eU PE.zero n _=PE.zero;unfold KB.eU;rfl
 | some vs=>
  show PR nv (KB.eU e n (decide (s=0))) (Yf n s vs);unfold KB.eU Yf;rw[aD h.1];by_cases H:n.kind=0
  ·rw[aD H,aA ah,aD H,nZ h]
   exact l! h hn (by have:=hv ah;omega) _
  rw[aA H];by_cases R:n.kind=2
  ·rw[aD R,aD R]
   exact l! h hn (by have:=hv ah;omega) _
  rw[aA R,aA R,aA H];by_cases L:n.kind=1
  ·rw[aD L,aA ah,aD L]
   unfold KB.qT;rw[nZ h,nZ h];have q:KB.UC n.op (fM vs n.a) (fM vs n.b)=Sx n.op (fM vs n.a) (fM vs n.b):=rfl;rw[q];cases Sx n.op (fM vs n.a) (fM vs n.b)with
   |none=>rfl
   |some m=>exact l! h hn (by have:=hv ah;omega) _
  rw[aA L,aA L];by_cases U:n.kind=4;rotate_left
  ·rw[aA U,aA U]
   exact h
  rw[aD U,aD U];have a:0<fm n:=by simp[fm,U]
  have N:1<fm n:=by simp[fm,U]
  have ra:=b vs rfl a;have B:=D vs rfl N;unfold KB.qU;rw[nZ h,nZ h,Wj ra B];cases A:qm n.test (decide (s=0)) (fM vs n.a) (fM vs n.b)with
  |none=>rfl
  |some q=>
   have hi:=abC ra B A;exact adg h hn n (ha a) (hb N) hi.1 hi.2 ra.any B.any
end
section
variable {p:Prop} {a e:PE} {w w':World} {b o:Nat} {cs:List Value}
open Go.RowKit Go.Proofs Go.Maps Tryz
def KC.qPE.rW(i:Nat):PE.zero.at i=VV.z:=by
 unfold PE.at PE.zero;simp
def KB.qPE.rW(i:Nat):PE.zero.at i=VV.z:=by
 unfold PE.at PE.zero;simp
def KC.vw(a b:VV):VV:=if (a.any==b.any&&a.lo==b.lo) then a else VV.fA
def KB.vw(a b:VV):VV:=⟨a.any,min a.lo b.lo,max a.hi b.hi⟩
def KC.KQ(a b:VV)(w:World)(ha:dq (bQ a))(hb:dq (bQ b)):Cl 387 #[.agg #[],KC.qv a,KC.qv b] w (Rb w (KC.qv (KC.vw a b))):=by
 refine(Nr (.agg #[]) a.any b.any a.lo b.lo w rfl ha.lo hb.lo).mono ?_;rintro r I ⟨rfl,hb⟩;refine⟨?_,hb⟩;unfold KC.vw;split<;>rfl
def KB.KQ(a b:VV)(w:World)(_:dq (bQ a))(_:dq (bQ b)):Cl 394 #[.agg #[],KB.qv a,KB.qv b] w (Rb w (KB.qv (KB.vw a b))):=Oj (.agg #[]) (bQ a) (bQ b) w rfl
def KC.lq(a e:PE)(i:Nat):PE:=(List.range i).foldl (fun s k=>s.put k (KC.vw (a.at k) (e.at k))) a
def KB.lq(a e:PE)(i:Nat):PE:=(List.range i).foldl (fun s k=>s.put k (KB.vw (a.at k) (e.at k))) a
def KC.fQ(a e:PE)(i:Nat):KC.lq a e (i+1)=(KC.lq a e i).put i (KC.vw (a.at i) (e.at i)):=by simp[KC.lq,kK]
def KB.fQ(a e:PE)(i:Nat):KB.lq a e (i+1)=(KB.lq a e i).put i (KB.vw (a.at i) (e.at i)):=by simp[KB.lq,kK]
def KC.vY(a e:PE):∀(i:Nat),i<=8->∀j,i<=j->(KC.lq a e i).at j=a.at j
 |0,_,_,_=>rfl
 |i+1,h,j,hj=>by rw[KC.fQ,PE.jy _ ah,aA ah,KC.vY a e i ah j ah]
def KB.vY(a e:PE):∀(i:Nat),i<=8->∀j,i<=j->(KB.lq a e i).at j=a.at j
 |0,_,_,_=>rfl
 |i+1,h,j,hj=>by rw[KB.fQ,PE.jy _ ah,aA ah,KB.vY a e i ah j ah]
def acx(h:p:=by
 have key:∀k,k<=8->∀i,dq (bQ ((lq a e k).at i)):=by
  intro k
  induction k with
  |zero=>exact fun _=>ha
  |succ k B=>
   intro X i;rw[fQ,PE.jy _ ah];split
   ·exact hj _ _ (ha k) (he k)
   ·exact B ah i
 exact key 8 ah):p:=h
open KC in
def KC.XZ(ha:∀i,dq (bQ (a.at i)))(he:∀i,dq (bQ (e.at i)))(hj:∀a b:VV,dq (bQ a)->dq (bQ b)->dq (bQ (KC.vw a b))):∀i,dq (bQ ((KC.lq a e 8).at i)):=by exact acx
open KB in
def KB.XZ(ha:∀i,dq (bQ (a.at i)))(he:∀i,dq (bQ (e.at i)))(hj:∀a b:VV,dq (bQ a)->dq (bQ b)->dq (bQ (KB.vw a b))):∀i,dq (bQ ((KB.lq a e 8).at i)):=by exact acx
def KC.jM(a e:PE):PE:=if a.r then(if e.r then KC.lq a e 8 else a) else e
def KB.jM(a e:PE):PE:=if a.r then(if e.r then KB.lq a e 8 else a) else e
def KC.gn(w:World)(ao:Option Addr)(es:List PE):Prop:=∀j e,es[j]?=some e->∃b o,ao=some (Ad b o)/\w.rangeAt b (o+j*17) (KC.aH e)
def KB.gn(w:World)(ao:Option Addr)(es:List PE):Prop:=∀j e,es[j]?=some e->∃b o,ao=some (Ad b o)/\w.rangeAt b (o+j*17) (KB.aH e)
def KC.fe(h:w.rangeAt b o cs)(hb:Bl w w'):w'.rangeAt b o cs:=fun j v t=>ax (h j v t) hb
def KB.fe(h:w.rangeAt b o cs)(hb:Bl w w'):w'.rangeAt b o cs:=fun j v t=>ax (h j v t) hb
def KC.x4(a e:PE):∀i,(KC.lq a e i).r=a.r
 |0=>rfl
 |i+1=>by rw[KC.fQ];exact KC.x4 a e i
def KB.x4(a e:PE):∀i,(KB.lq a e i).r=a.r
 |0=>rfl
 |i+1=>by rw[KB.fQ];exact KB.x4 a e i
def acw (h:p:=by
 have l:=hid (Aa h (Aa tF hj));clear h tF hj;obtain⟨k,hk⟩:=Ea es.length;rw[<-hk]at hn⊢;have m:=hid hk;clear hk;go_enter acZ,acJ
 go_upto_region 2 with fail
 have H:Hd ((((w.alloc (.cells dE aV)).alloc (.cells dE aV)).heap[w.heap.size]?=some (.cells dE aV (0,0))/\((w.alloc (.cells dE aV)).alloc (.cells dE aV)).heap[w.heap.size+1]?=some (.cells (aH PE.zero).toArray aV (0,0)))/\Below w.heap.size w ((w.alloc (.cells dE aV)).alloc (.cells dE aV))):=⟨aN _ _ _,aX _ _ _⟩;generalize((w.alloc (.cells dE aV)).alloc (.cells dE aV))=V at H⊢
 go_wp2_with fail
 go_loopw[12] (fun iv wr=>∃(j:Nat) (a:PE),j<=k/\iv=Iv j/\Hd (a=(es.take j).foldl jM PE.zero/\(∀i,dq (bQ (a.at i)))/\Below w.heap.size w wr/\wr.heap[w.heap.size]?=some (.cells dE aV (0,0))/\wr.heap[w.heap.size+1]?=some (.cells (aH a).toArray aV (0,0)))) (fun iv _=>k-(intOf iv).toNat)
 case atStart=>exact⟨0,PE.zero,bB _,rfl,rfl,fun i=>by rw[qPE.rW];exact⟨aj,aj⟩,H.A,H.a.1,H.a.2⟩
 case round=>
  obtain⟨j,a,hj,rfl,M⟩:=hrel;by_cases Vs:j<k
  ·have adD:(j:Int)<k:=ah
   obtain⟨e,he⟩:=La (l:=es) (i:=j) (by rw[<-m.o];exact Vs);obtain⟨b,o,rfl,Tx⟩:=l.a j e he;have hr:=fe Tx M.c;have n:=hid (Aa (Bc jM PE.zero he) (l.b e (aL he)));clear Tx he;have Vq:=bO (n:=17) (bf wr (.cells dE aV)) rfl
   go_upto_region 5 with(first|(refine wpList_load_mid rfl aV (.tmp 14) rfl b (o+j*17) rfl (aH e) _ hr fH rfl au ?_)|(refine wpList_store_mid rfl aV (.tmp 7) (.tmp 15) rfl wr.heap.size 0 (aH e).toArray rfl rfl Vq au (a! _) ?_))
   have Wy:Hd (Below wr.heap.size wr ((wr.alloc (.cells dE aV)).setCells wr.heap.size 0 (aH e))/\((wr.alloc (.cells dE aV)).setCells wr.heap.size 0 (aH e)).heap[wr.heap.size]?=some (.cells (aH e).toArray aV (0,0))):=⟨aY _ (aF _) _ _ _ (aC _ _),bX (cs:=pK) (bf wr (.cells dE aV)) rfl⟩
   try simp only[Act.put]
   generalize(wr.alloc (.cells dE aV)).setCells wr.heap.size 0 (aH e)=U at Wy⊢;have Ji:=M.c.size;have lw:w.heap.size+1<wr.heap.size:=blt M.D;have R:=aE Wy.a M.d;have hjb:=aE Wy.a M.D;have O:=hid (Aa R (Aa hjb (aq M.c Wy.a)));clear R hjb hr Vq;obtain⟨u,OQ⟩:=Ea a.r;obtain⟨x,N⟩:=Ea e.r;have t:U.cell? (Ad (w.heap.size+1) 0)=some (.bool u):=by rw[(ae O.b).1];exact(de ..).trans (by rw[OQ];rfl)
   have C:U.cell? (Ad wr.heap.size 0)=some (.bool x):=by rw[(ae Wy.A).1];exact(de ..).trans (by rw[N];rfl)
   have X:Hd (jM a e=if u then(if x then lq a e 8 else a) else e):=by show _=_;rw[OQ,N];rfl
   clear OQ N;cases u
   ·have Tx:=aT Wy.A
    have htj:=bO (n:=17) O.b rfl
    go_upto_region 13 with(first|(refine wpList_load_mid rfl aV (.tmp 7) rfl wr.heap.size 0 rfl (aH e) _ Tx fH rfl au ?_)|(refine wpList_store_mid rfl aV (.tmp 5) (.tmp 19) rfl (w.heap.size+1) 0 (aH e).toArray rfl rfl htj au (a! _) ?_))
    try simp only[Act.put]
    have HU2:Hd (Below w.heap.size w (U.setCells (w.heap.size+1) 0 (aH e))/\(U.setCells (w.heap.size+1) 0 (aH e)).heap[w.heap.size]?=some (.cells dE aV (0,0))/\(U.setCells (w.heap.size+1) 0 (aH e)).heap[w.heap.size+1]?=some (.cells (aH e).toArray aV (0,0))):=⟨aY _ ah _ _ _ O.B,(dc _ _ _ _ _ ah).trans O.a,bX O.b rfl⟩;generalize U.setCells (w.heap.size+1) 0 (aH e)=U2 at HU2⊢;clear t C
    go_wp2_with fail
    go_roundw
    case rel=>exact⟨j+1,e,Vs,h',by rw[n.a,<-M.a,X.o];rfl,n.A,HU2.a,HU2.b,HU2.B⟩
    case measure=>simp[intOf];omega
   ·cases x
    ·go_wp2_with fail
     go_roundw
     case rel=>exact⟨j+1,a,Vs,h',by rw[n.a,<-M.a,X.o];rfl,M.b,O.B,O.a,O.b⟩
     case measure=>simp[intOf];omega
    ·have Tx:=qtl Wy.A
     go_wp2_with (refine wpList_load_mid rfl Uw (.tmp 23) rfl wr.heap.size 1 rfl (aH e).tail _ Tx Uu rfl au ?_)
     obtain⟨F,heb⟩:=Ea wr.heap.size;rw[<-heb]at lw Wy⊢;have hue:F<U.heap.size:=blt Wy.A;have HLO:=hid (Aa M.a (Aa M.b X.o));clear heb t C Tx M X Ji
     go_loopw[25] (fun iv wr=>∃i:Nat,i<=8/\iv=Iv i/\Hd (Below w.heap.size w wr/\wr.heap[w.heap.size]?=some (.cells dE aV (0,0))/\wr.heap[w.heap.size+1]?=some (.cells (aH (lq a e i)).toArray aV (0,0)))) (fun iv _=>8-(intOf iv).toNat)
     case atStart=>exact⟨0,ah,rfl,O.B,O.a,O.b⟩
     case round=>
      obtain⟨i,B,rfl,I⟩:=hrel;by_cases J:i<8
      ·have s:(i:Int)<8:=ah
       have k0:=fun W=>Qn e J W
       have hm:=EI;have hna:=EG;have f:=hid (fun W=>KQ (a.at i) (e.at i) W (HLO.b i) (n.A i));simp only[KC.qv,KB.qv]at f;have Zf:=hid (vY a e i B i (aF _));have GI:=hid (fQ a e i);generalize vw (a.at i) (e.at i)=jv at f GI;have lwr:w.heap.size+1<wr.heap.size:=blt I.B
       go_upto_region 11 with fail
       have Z:Hd (Below w.heap.size w (wr.alloc (.cells #[(dp (e.at i)),(dn (e.at i))] g!))/\(wr.alloc (.cells #[(dp (e.at i)),(dn (e.at i))] g!)).heap[wr.heap.size]?=some (.cells #[(dp (e.at i)),(dn (e.at i))] g! (0,0))/\(wr.alloc (.cells #[(dp (e.at i)),(dn (e.at i))] g!)).heap[w.heap.size+1]?=some (.cells (aH (lq a e i)).toArray aV (0,0))):=⟨aq I.a (aC _ _),bf _ _,aE (aC _ _) I.B⟩;have Y:=hid (aE (aC wr (.cells #[(dp (e.at i)),(dn (e.at i))] g!)) I.b);generalize wr.alloc (.cells #[(dp (e.at i)),(dn (e.at i))] g!)=T at Z Y⊢;have nvj:wr.heap.size≠w.heap.size+1:=ah
       clear k0;refine wp_region_held_drew (S := fun W' => Below w.heap.size w W' /\ W'.heap[wr.heap.size]? = some (.cells #[(dp (e.at i)), (dn (e.at i))] g! (0, 0))) au ⟨Z.o.1.drew, Z.o.2.1⟩ (fun aB => ?_);refine tq 0 (Iv i) (h := ?_);refine tq 1 (.iface gj (.agg #[])) (h := ?_);refine tq 2 (Iv i) (h := ?_);refine tq 3 (.pointer (some (Ad (w.heap.size + 1) 1))) (h := ?_);refine tq 4 (xh w.heap.size i) (h := ?_);refine tq 6 (.agg #[(dp (e.at i)), (dn (e.at i))]) (y := fun W' aU => by have L := (ae aU.2).1; clear aB aU; go_simp) (h := ?_);refine tq 7 (.func (.method "warrant/rules.join") #[.iface gj (.agg #[])] #[]) (h := ?_);refine tq 8 (.func (.method "warrant/rules.join") #[.iface gj (.agg #[])] #[]) (h := ?_);refine tq 9 (.iface gj (.agg #[])) (h := ?_);refine tq 11 (.pointer (some (Ad (w.heap.size + 1) 1))) (h := ?_);refine r1 5 (h := fun K A => ?_);obtain ⟨t, C⟩ := Qo Z.o.2.2 J;rw [Zf.o] at t C
       go_simp
       refine A.out _ _ aB (fun aB=>?_);clear A K t C;refine pt ?_;refine r1 10 (h:=fun K A=>?_)
       go_simp
       refine(f.o _).mono ?_;rintro r G ⟨rfl,D⟩;have g:Hd (Bl T G):=aq ay D;clear D;refine A.out _ _ ⟨aq Z.a g.o,aE g.o Z.b⟩ (fun aB=>?_);clear A K;refine pt ?_;refine tq 12 (xh w.heap.size i) (h:=?_);refine r1 13 (h:=fun K A=>?_);have hj:=aE g.o Z.B;obtain⟨t,C⟩:=Qo hj J;obtain⟨_,z⟩:=ae hj
       go_simp
       refine A.out _ _ ⟨((aq Z.a g.o).setCell (by dsimp only;omega) _).setCell (by dsimp only;omega) _,((aZ _ _ _ _ nvj).trans (aZ _ _ _ _ nvj)).trans (aE g.o Z.b)⟩ (fun aB=>?_);clear A K t C z;refine pt ?_;refine wpAnyH_done au ?_ _
       go_wp2_with fail
       go_roundw
       case rel=>
        refine⟨i+1,J,h',((aq Z.a g.o).setCell (by dsimp only;omega) _).setCell (by dsimp only;omega) _,((aZ _ _ _ _ (by show w.heap.size≠w.heap.size+1;omega)).trans (aZ _ _ _ _ (by show w.heap.size≠w.heap.size+1;omega))).trans (aE g.o Y.o),?_⟩;rw[GI.o,aw (aw (aE g.o Z.B) _) _,sn _ J]
       case measure=>simp[intOf];omega
      ·have s:¬(i:Int)<8:=ah
       obtain rfl:i=8:=ah
       go_wp2_with fail
       go_roundw
       case rel=>exact⟨j+1,lq a e 8,Vs,h',by rw[n.a,<-HLO.a,HLO.B];rfl,XZ HLO.b n.A l.B,I.a,I.b,I.B⟩
       case measure=>simp[intOf];omega
  ·have adD:¬(j:Int)<k:=ah
   obtain rfl:j=k:=ah
   have HA:Hd (a=es.foldl jM PE.zero):=by show _=_;rw[M.a,m.o,oy]
   have hr:=aT M.D;have ht:=bO (n:=17) M.d rfl
   go_wp2_with (first|(refine wpList_load_mid rfl aV (.tmp 5) rfl (w.heap.size+1) 0 rfl (aH a) _ hr fH rfl au ?_)|(refine wpList_store_mid rfl aV (.tmp 4) (.tmp 44) rfl w.heap.size 0 (aH a).toArray rfl rfl ht au (a! _) ?_))
   have hq:=bX (cs:=pK) M.d (vs:=aH a) rfl;have E:=run_loadVar_mid (P:=Tryz.prog) (wr.setCells w.heap.size 0 (aH a)) w.heap.size 0 aV (aH a) _ (aT hq) fH rfl au
   refine aG (v:=.agg (aH a).toArray) (by simp[results,results271,results276,E,Act.put,asAddr]) rfl ⟨by rw[HA.o],aY _ (aF _) _ _ _ M.c⟩):p:=h
open KC in
def KC.AO(Z:Option Addr)(c:Nat)(es:List PE)(w:World)(h:KC.gn w Z es)(hn:es.length<=1000)(tF:∀e∈es,∀i,dq (bQ (e.at i)))(hj:∀a b:VV,dq (bQ a)->dq (bQ b)->dq (bQ (KC.vw a b))):
 Cl 271 #[.iface 328 (.agg #[]),.slice Z es.length c] w (Rb w (.agg (KC.aH (es.foldl KC.jM PE.zero)).toArray)):=by exact acw
open KB in
def KB.AO(Z:Option Addr)(c:Nat)(es:List PE)(w:World)(h:KB.gn w Z es)(hn:es.length<=1000)(tF:∀e∈es,∀i,dq (bQ (e.at i)))(hj:∀a b:VV,dq (bQ a)->dq (bQ b)->dq (bQ (KB.vw a b))):
 Cl 276 #[.iface 331 (.agg #[]),.slice Z es.length c] w (Rb w (.agg (KB.aH (es.foldl KB.jM PE.zero)).toArray)):=by exact acw
end
section
variable {p:Prop}
open Go.RowKit Go.Proofs Go.Maps Tryz
def acv(h:p:=by
 have f:=hid (fun W (U:Bl w W)=>AO ao c es W (fun j e l=>by obtain⟨b,o,q,L⟩:=h j e l;exact⟨b,o,q,fe L U⟩) hn tF hj);clear h tF hj hn;generalize es.foldl jM PE.zero=z at f⊢;generalize es.length=k at f⊢;go_enter acY,acI
 go_upto_region 1 with fail
 have H:Hd (d' (w.alloc (.cells dE aV)) w.heap.size dE aV/\Bl w (w.alloc (.cells dE aV))/\d' (w.alloc (.cells dE aV)) db #[.iface gj (.agg #[])] vu):=⟨bf _ _,aC _ _,aE (aC _ _) hd⟩;clear hd;generalize w.alloc (.cells dE aV)=V at H⊢;obtain⟨x,m⟩:=ae H.B;have d:=hid (f.o V H.b)
 go_wp2_with (first|((first|go_at_call 271 | go_at_call 276);refine d.o.mono ?_;rintro r F ⟨rfl,D⟩;have g:Hd (Bl V F):=D;clear D;have N:=bO (n:=17) (aE g.o H.a) rfl)|(refine wpList_store_mid rfl aV (.tmp 3) (.tmp 6) rfl w.heap.size 0 (aH z).toArray rfl rfl N au (a! _) ?_))
 have A:=bX (cs:=pK) (aE g.o H.a) (vs:=aH z) rfl;have E:=run_loadVar_mid (P:=Tryz.prog) (F.setCells w.heap.size 0 (aH z)) w.heap.size 0 aV (aH z) _ (aT A) fH rfl au
 refine aG (v:=.agg (aH z).toArray) (by simp[results,results270,results275,E,Act.put,asAddr]) rfl ⟨rfl,aY _ (aF _) _ _ _ (aq H.b g.o)⟩):p:=h
open KC in
def KC.qS(ao:Option Addr)(c db:Nat)(es:List PE)(w:World)(hd:w.heap[db]?=some (.cells #[.iface 328 (.agg #[])] 381 (0,0)))(h:KC.gn w ao es)(hn:es.length<=1000)(tF:∀e∈es,∀i,dq (bQ (e.at i)))(hj:∀a b:VV,dq (bQ a)->dq (bQ b)->dq (bQ (KC.vw a b))):
 Cl 270 #[.slice ao es.length c,.pointer (some (Ad db 0))] w (Rb w (.agg (KC.aH (es.foldl KC.jM PE.zero)).toArray)):=by exact acv
open KB in
def KB.qS(ao:Option Addr)(c db:Nat)(es:List PE)(w:World)(hd:w.heap[db]?=some (.cells #[.iface 331 (.agg #[])] 386 (0,0)))(h:KB.gn w ao es)(hn:es.length<=1000)(tF:∀e∈es,∀i,dq (bQ (e.at i)))(hj:∀a b:VV,dq (bQ a)->dq (bQ b)->dq (bQ (KB.vw a b))):
 Cl 275 #[.slice ao es.length c,.pointer (some (Ad db 0))] w (Rb w (.agg (KB.aH (es.foldl KB.jM PE.zero)).toArray)):=by exact acv
def acu(h:p:=by
 have f:=hid (fun W=>yb lo hi W hl hh);clear hl hh;generalize e4 lo hi=q at f⊢;go_enter acX,acH
 go_upto_region 1 with fail
 have H:Hd ((d' ((w.alloc (.cells (aH lo).toArray aV)).alloc (.cells (aH hi).toArray aV)) w.heap.size (aH lo).toArray aV/\d' ((w.alloc (.cells (aH lo).toArray aV)).alloc (.cells (aH hi).toArray aV)) (w.heap.size+1) (aH hi).toArray aV)/\Bl w ((w.alloc (.cells (aH lo).toArray aV)).alloc (.cells (aH hi).toArray aV))/\d' ((w.alloc (.cells (aH lo).toArray aV)).alloc (.cells (aH hi).toArray aV)) db #[.iface gj (.agg #[])] vu):=⟨aN _ _ _,aX _ _ _,aE (aX _ _ _) hd⟩;clear hd;generalize((w.alloc (.cells (aH lo).toArray aV)).alloc (.cells (aH hi).toArray aV))=V at H⊢;obtain⟨x,a⟩:=ae H.B;have z:=aT H.a.1;have j:=aT H.a.2
 go_wp2_with (first|(refine wpList_load_mid rfl aV (.tmp 3) rfl w.heap.size 0 rfl (aH lo) _ z fH rfl au ?_)|(refine wpList_load_mid rfl aV (.tmp 4) rfl (w.heap.size+1) 0 rfl (aH hi) _ j fH rfl au ?_)|((first|go_at_call 273 | go_at_call 278);refine(f.o _).mono ?_;rintro r F ⟨rfl,D⟩;have g:Hd (Bl V F):=D;clear D))
 go_ret
 exact⟨rfl,aq H.b g.o⟩):p:=h
open KC in
def KC.lH(lo hi:PE)(db:Nat)(w:World)(hd:w.heap[db]?=some (.cells #[.iface 328 (.agg #[])] 381 (0,0)))(hl:∀i,dq (bQ (lo.at i)))(hh:∀i,dq (bQ (hi.at i))):
 Cl 272 #[.agg (KC.aH lo).toArray,.agg (KC.aH hi).toArray,.pointer (some (Ad db 0))] w (Rb w (.bool (KC.e4 lo hi))):=by exact acu
open KB in
def KB.lH(lo hi:PE)(db:Nat)(w:World)(hd:w.heap[db]?=some (.cells #[.iface 331 (.agg #[])] 386 (0,0)))(hl:∀i,dq (bQ (lo.at i)))(hh:∀i,dq (bQ (hi.at i))):
 Cl 277 #[.agg (KB.aH lo).toArray,.agg (KB.aH hi).toArray,.pointer (some (Ad db 0))] w (Rb w (.bool (KB.e4 lo hi))):=by exact acu
end
open Go.RowKit Go.Proofs Go.Maps Tryz
def B9(rd:Bool)(vs:List Vl)(i:Nat):PE:=(List.range i).foldl (fun s k=>s.put k ⟨false,(vs.getD k ⟨0,0,0,false,0,0⟩).lo,(vs.getD k ⟨0,0,0,false,0,0⟩).hi⟩) ⟨rd,VV.z,VV.z,VV.z,VV.z,VV.z,VV.z,VV.z,VV.z⟩
def xO(rd:Bool)(vs:List Vl)(i:Nat):B9 rd vs (i+1)=(B9 rd vs i).put i ⟨false,(vs.getD i ⟨0,0,0,false,0,0⟩).lo,(vs.getD i ⟨0,0,0,false,0,0⟩).hi⟩:=by simp[B9,kK]
def Ik(fa ra va:Option Addr)(fl fc rl rc vc:Nat)(rd:Bool)(rk:Int)(vs:List Vl)(w:World)(h:jA w va vs)(hn:vs.length<=8):
  Cl 165 #[.agg #[.slice fa fl fc,.slice ra rl rc,.bool rd,Iv rk,.slice va vs.length vc]] w (Rb w (.agg (KB.aH (B9 rd vs vs.length)).toArray)):=by
 have l:=hid h;clear h;go_enter func165,ntmps165
 go_upto_region 1 with fail
 have H:Hd (d' ((w.alloc (.cells #[.slice fa fl fc,.slice ra rl rc,.bool rd,Iv rk,.slice va vs.length vc] 96)).alloc (.cells tX 250)) w.heap.size #[.slice fa fl fc,.slice ra rl rc,.bool rd,Iv rk,.slice va vs.length vc] 96/\d' ((w.alloc (.cells #[.slice fa fl fc,.slice ra rl rc,.bool rd,Iv rk,.slice va vs.length vc] 96)).alloc (.cells tX 250)) (w.heap.size+1) tX 250/\Bl w ((w.alloc (.cells #[.slice fa fl fc,.slice ra rl rc,.bool rd,Iv rk,.slice va vs.length vc] 96)).alloc (.cells tX 250))):=⟨(aN _ _ _).1,(aN _ _ _).2,aX _ _ _⟩;generalize((w.alloc (.cells #[.slice fa fl fc,.slice ra rl rc,.bool rd,Iv rk,.slice va vs.length vc] 96)).alloc (.cells tX 250))=V at H⊢;obtain⟨F,y⟩:=ae H.a;have d:=bO (n:=17) (bf V (.cells tX 250)) rfl
 go_upto_region 2 with(refine wpList_store_mid rfl 250 (.tmp 3) (.tmp 8) rfl V.heap.size 0 (KB.aH (B9 rd vs 0)).toArray rfl rfl d au (KB.a! _) ?_)
 have O:Hd (Below V.heap.size V ((V.alloc (.cells tX 250)).setCells V.heap.size 0 (KB.aH (B9 rd vs 0)))/\d' ((V.alloc (.cells tX 250)).setCells V.heap.size 0 (KB.aH (B9 rd vs 0))) V.heap.size (KB.aH (B9 rd vs 0)).toArray 250):=⟨aY _ (aF _) _ _ _ (aC _ _),bX (cs:=[.bool false,Iv 0,Iv 0,Iv 0,Iv 0,Iv 0,Iv 0,Iv 0,Iv 0,Iv 0,Iv 0,Iv 0,Iv 0,Iv 0,Iv 0,Iv 0,Iv 0]) (bf V (.cells tX 250)) rfl⟩
 try simp only[Act.put]
 generalize(V.alloc (.cells tX 250)).setCells V.heap.size 0 (KB.aH (B9 rd vs 0))=U at O⊢;have lV:w.heap.size+1<V.heap.size:=blt H.b;generalize q:V.heap.size=f at O lV⊢;have e:Hd (Bl w U/\d' U w.heap.size #[.slice fa fl fc,.slice ra rl rc,.bool rd,Iv rk,.slice va vs.length vc] 96/\d' U (w.heap.size+1) tX 250/\d' U f (KB.aH (B9 rd vs 0)).toArray 250):=by
  rw[<-q]at O⊢;exact⟨aq H.B O.a,aE O.a H.a,aE O.a H.b,O.A⟩
 clear O F y d q H;obtain⟨F,y⟩:=ae e.b
 go_wp2_with fail
 clear F y
 go_loopw[12] (fun p wr=>∃i:Nat,i<=vs.length/\p=Iv i/\Hd (Bl w wr/\wr.heap[w.heap.size+1]?=some (.cells tX 250 (0,0))/\wr.heap[f]?=some (.cells (KB.aH (B9 rd vs i)).toArray 250 (0,0)))) (fun p _=>vs.length-(intOf p).toNat)
 case atStart=>exact⟨0,bB _,rfl,e.a,e.c,e.C⟩
 obtain⟨i,hi,rfl,M⟩:=hrel;by_cases J:i<vs.length;rotate_left
 ·have s:¬(i:Int)<(vs.length:Int):=ah
  have a:i=vs.length:=ah
  rw[a]at M;have D:=aT M.B;have N:=bO (n:=17) M.b rfl;obtain⟨z,R⟩:=Ea (B9 rd vs vs.length);rw[<-R]at D;have n:=hid R;clear R
  go_wp2_with (first|(refine wpList_load_mid rfl 250 (.tmp 3) rfl f 0 rfl (KB.aH z) _ D underlying250 rfl au ?_)|(refine wpList_store_mid rfl 250 (.tmp 2) (.tmp 26) rfl (w.heap.size+1) 0 (KB.aH z).toArray rfl rfl N au (KB.a! _) ?_))
  have A:=bX (cs:=[.bool false,Iv 0,Iv 0,Iv 0,Iv 0,Iv 0,Iv 0,Iv 0,Iv 0,Iv 0,Iv 0,Iv 0,Iv 0,Iv 0,Iv 0,Iv 0,Iv 0]) M.b (vs:=KB.aH z) rfl;have E:=run_loadVar_mid (P:=Tryz.prog) (wr.setCells (w.heap.size+1) 0 (KB.aH z)) (w.heap.size+1) 0 250 (KB.aH z) _ (aT A) underlying250 rfl au;refine aG (v:=.agg (KB.aH z).toArray) (by simp[results,results165,E,Act.put,asAddr]) rfl ⟨by rw[n.o],aY _ ah _ _ _ M.a⟩
 have s:(i:Int)<(vs.length:Int):=ah
 have B:i<8:=ah
 have g:(i:Int)<8:=ah
 obtain⟨v,t⟩:=La J;obtain⟨b,o,rfl,P,Y,c,X,k,u⟩:=l.o i v t;have d0:=ax P M.a;have C:=ax Y M.a;have j:=ax c M.a;have K:=ax X M.a;have m:=ax k M.a;have d5:=ax u M.a;have W:Hd (B9 rd vs (i+1)=(B9 rd vs i).put i ⟨false,v.lo,v.hi⟩):=by show _=_;rw[xO,List.getD,t];rfl
 clear P Y c X k u t;have lj:f<wr.heap.size:=blt M.B
 go_upto_region 5 with fail
 have Z:Hd (Bl wr (wr.alloc (.cells (iy v.kind v.lo v.hi v.early v.first v.rank) 73))/\d' (wr.alloc (.cells (iy v.kind v.lo v.hi v.early v.first v.rank) 73)) wr.heap.size (iy v.kind v.lo v.hi v.early v.first v.rank) 73):=⟨aC _ _,bf _ _⟩;generalize wr.alloc (.cells (iy v.kind v.lo v.hi v.early v.first v.rank) 73)=T at Z⊢;clear d0 C j K m d5;obtain⟨F,y⟩:=ae Z.A;have x:=aE Z.a M.B;obtain⟨S,Q⟩:=KB.Qo x B;obtain⟨_,z⟩:=ae x;have n1:wr.heap.size≠f:=ah
 have n2:=n1.symm;have G:=hid x;clear x
 go_wp2_with fail
 go_roundw
 case rel=>
  have L:=aq M.a Z.a;refine⟨i+1,J,h',(L.setCell (by dsimp only;omega) _).setCell (by dsimp only;omega) _,((aZ _ _ _ _ (by show w.heap.size+1≠f;omega)).trans (aZ _ _ _ _ (by show w.heap.size+1≠f;omega))).trans (aE Z.a M.b),?_⟩;rw[W.o,aw (aw G.o _) _,<-KB.sn (B9 rd vs i) B ⟨false,v.lo,v.hi⟩]
 simp[intOf];omega
open Go.RowKit Go.Proofs Go.Maps Tryz
def Gz(vs:List Vl)(r:Int)(i:Nat):PE:=(List.range i).foldl (fun s k=>s.put k (Rg (vs.getD k ⟨0,0,0,false,0,0⟩) r)) ⟨true,VV.z,VV.z,VV.z,VV.z,VV.z,VV.z,VV.z,VV.z⟩
def yD(vs:List Vl)(r:Int)(i:Nat):Gz vs r (i+1)=(Gz vs r i).put i (Rg (vs.getD i ⟨0,0,0,false,0,0⟩) r):=by simp[Gz,kK]
def Tt(rd:Bool)(rk:Int)(vs:List Vl)(r:Int):PE:=if rd&&decide (rk<r) then Gz vs r vs.length else PE.zero
def WL{p:Prop}(h:p:=by
 obtain⟨F,y⟩:=ae H.a;have N:=bO (n:=17) H.b rfl
 go_wp2_with (refine wpList_store_mid rfl 228 (.tmp 4) (.tmp 17) rfl (w.heap.size+1) 0 (KC.aH PE.zero).toArray rfl rfl N au (KC.a! _) ?_)
 have A:=bX (cs:=[.bool false,.bool false,Iv 0,.bool false,Iv 0,.bool false,Iv 0,.bool false,Iv 0,.bool false,Iv 0,.bool false,Iv 0,.bool false,Iv 0,.bool false,Iv 0]) H.b (vs:=KC.aH PE.zero) rfl;have E:=run_loadVar_mid (P:=Tryz.prog) (V.setCells (w.heap.size+1) 0 (KC.aH PE.zero)) (w.heap.size+1) 0 228 (KC.aH PE.zero) _ (aT A) underlying228 rfl au
 refine aG (v:=.agg (KC.aH PE.zero).toArray) (by simp[results,results162,E,Act.put,asAddr]) rfl ⟨by rw[X.o],aY _ ah _ _ _ H.B⟩):p:=h
def mx(fa ra va:Option Addr)(fl fc rl rc vc:Nat)(rd:Bool)(rk r:Int)(vs:List Vl)(w:World)(h:jA w va vs)(hn:vs.length<=8):
  Cl 162 #[.agg #[.slice fa fl fc,.slice ra rl rc,.bool rd,Iv rk,.slice va vs.length vc],Iv r] w (Rb w (.agg (KC.aH (Tt rd rk vs r)).toArray)):=by
 have l:=hid h;clear h;obtain⟨ne,P⟩:=Ea (Tt rd rk vs r);rw[<-P];go_enter func162,ntmps162
 go_upto_region 1 with fail
 have H:Hd (d' ((w.alloc (.cells #[.slice fa fl fc,.slice ra rl rc,.bool rd,Iv rk,.slice va vs.length vc] 96)).alloc (.cells tY 228)) w.heap.size #[.slice fa fl fc,.slice ra rl rc,.bool rd,Iv rk,.slice va vs.length vc] 96/\d' ((w.alloc (.cells #[.slice fa fl fc,.slice ra rl rc,.bool rd,Iv rk,.slice va vs.length vc] 96)).alloc (.cells tY 228)) (w.heap.size+1) tY 228/\Bl w ((w.alloc (.cells #[.slice fa fl fc,.slice ra rl rc,.bool rd,Iv rk,.slice va vs.length vc] 96)).alloc (.cells tY 228))):=⟨(aN _ _ _).1,(aN _ _ _).2,aX _ _ _⟩;generalize((w.alloc (.cells #[.slice fa fl fc,.slice ra rl rc,.bool rd,Iv rk,.slice va vs.length vc] 96)).alloc (.cells tY 228))=V at H⊢;have lV:w.heap.size+1<V.heap.size:=blt H.b;cases rd
 ·have X:Hd (ne=PE.zero):=P
  clear P;exact WL
 by_cases hrk:r<=rk
 ·have hd:decide (rk<r)=false:=by simp;omega
  have X:Hd (ne=PE.zero):=by show _=_;rw[P,Tt,hd];rfl
  clear P hd;exact WL
 have hd:decide (rk<r)=true:=by simp;omega
 have X:Hd (ne=Gz vs r vs.length):=by show _=_;rw[P,Tt,hd];rfl
 clear P hd;obtain⟨F,y⟩:=ae H.a;have d:=bO (n:=17) (bf V (.cells tY 228)) rfl
 go_upto_region 4 with(refine wpList_store_mid rfl 228 (.tmp 5) (.tmp 18) rfl V.heap.size 0 (KC.aH (Gz vs r 0)).toArray rfl rfl d au (KC.a! _) ?_)
 have O:Hd (Below V.heap.size V ((V.alloc (.cells tY 228)).setCells V.heap.size 0 (KC.aH (Gz vs r 0)))/\d' ((V.alloc (.cells tY 228)).setCells V.heap.size 0 (KC.aH (Gz vs r 0))) V.heap.size (KC.aH (Gz vs r 0)).toArray 228):=⟨aY _ (aF _) _ _ _ (aC _ _),bX (cs:=[.bool false,.bool false,Iv 0,.bool false,Iv 0,.bool false,Iv 0,.bool false,Iv 0,.bool false,Iv 0,.bool false,Iv 0,.bool false,Iv 0,.bool false,Iv 0]) (bf V (.cells tY 228)) rfl⟩
 try simp only[Act.put]
 generalize(V.alloc (.cells tY 228)).setCells V.heap.size 0 (KC.aH (Gz vs r 0))=U at O⊢;generalize q:V.heap.size=f at O lV⊢;have e:Hd (Bl w U/\d' U w.heap.size #[.slice fa fl fc,.slice ra rl rc,.bool true,Iv rk,.slice va vs.length vc] 96/\d' U (w.heap.size+1) tY 228/\d' U f (KC.aH (Gz vs r 0)).toArray 228):=by
  rw[<-q]at O⊢;exact⟨aq H.B O.a,aE O.a H.a,aE O.a H.b,O.A⟩
 clear O F y d q H;obtain⟨F,y⟩:=ae e.b
 go_wp2_with fail
 clear F y
 go_loopw[22] (fun p wr=>∃i:Nat,i<=vs.length/\p=Iv i/\Hd (Bl w wr/\wr.heap[w.heap.size+1]?=some (.cells tY 228 (0,0))/\wr.heap[f]?=some (.cells (KC.aH (Gz vs r i)).toArray 228 (0,0)))) (fun p _=>vs.length-(intOf p).toNat)
 case atStart=>exact⟨0,bB _,rfl,e.a,e.c,e.C⟩
 obtain⟨i,hi,rfl,M⟩:=hrel;by_cases J:i<vs.length;rotate_left
 ·have s:¬(i:Int)<(vs.length:Int):=ah
  have a:i=vs.length:=ah
  rw[a,<-X.o]at M;have hr:=aT M.B;have N:=bO (n:=17) M.b rfl
  go_wp2_with (first|(refine wpList_load_mid rfl 228 (.tmp 5) rfl f 0 rfl (KC.aH ne) _ hr underlying228 rfl au ?_)|(refine wpList_store_mid rfl 228 (.tmp 4) (.tmp 34) rfl (w.heap.size+1) 0 (KC.aH ne).toArray rfl rfl N au (KC.a! _) ?_))
  have A:=bX (cs:=[.bool false,.bool false,Iv 0,.bool false,Iv 0,.bool false,Iv 0,.bool false,Iv 0,.bool false,Iv 0,.bool false,Iv 0,.bool false,Iv 0,.bool false,Iv 0]) M.b (vs:=KC.aH ne) rfl;have E:=run_loadVar_mid (P:=Tryz.prog) (wr.setCells (w.heap.size+1) 0 (KC.aH ne)) (w.heap.size+1) 0 228 (KC.aH ne) _ (aT A) underlying228 rfl au;refine aG (v:=.agg (KC.aH ne).toArray) (by simp[results,results162,E,Act.put,asAddr]) rfl ⟨rfl,aY _ ah _ _ _ M.a⟩
 have s:(i:Int)<(vs.length:Int):=ah
 have B:i<8:=ah
 have afc:(i:Int)<8:=ah
 obtain⟨v,t⟩:=La J;obtain⟨b,o,rfl,c0,Y,c,c3,k,u⟩:=l.o i v t;have d0:=ax c0 M.a;have C:=ax Y M.a;have j:=ax c M.a;have K:=ax c3 M.a;have m:=ax k M.a;have d5:=ax u M.a;have R:Hd (Gz vs r (i+1)=(Gz vs r i).put i (Rg v r)):=by show _=_;rw[yD,List.getD,t];rfl
 have HC:=hid (fun W=>Dn v r W);generalize Rg v r=kv at R HC;simp only[KC.qv]at HC;clear c0 Y c c3 k u t;have n:f<wr.heap.size:=blt M.B
 go_upto_region 7 with fail
 have Z:Hd (Bl wr (wr.alloc (.cells (iy v.kind v.lo v.hi v.early v.first v.rank) 73))/\d' (wr.alloc (.cells (iy v.kind v.lo v.hi v.early v.first v.rank) 73)) wr.heap.size (iy v.kind v.lo v.hi v.early v.first v.rank) 73):=⟨aC _ _,bf _ _⟩;generalize wr.alloc (.cells (iy v.kind v.lo v.hi v.early v.first v.rank) 73)=T at Z⊢;clear d0 C j K m d5;obtain⟨F,y⟩:=ae Z.A
 go_wp2_with (go_at_call 234;refine(HC.o _).mono ?_;rintro x X1 ⟨rfl,D⟩;have g:=hid (aq Z.a D);clear D;have hj:=aE g.o M.B;obtain⟨S,Q⟩:=KC.Qo hj B;obtain⟨_,z⟩:=ae hj;have G:=hid hj;clear hj)
 go_roundw
 case rel=>
  have L:=aq M.a g.o;refine⟨i+1,J,h',(L.setCell (by dsimp only;omega) _).setCell (by dsimp only;omega) _,((aZ _ _ _ _ (by show w.heap.size+1≠f;omega)).trans (aZ _ _ _ _ (by show w.heap.size+1≠f;omega))).trans (aE g.o M.b),?_⟩;rw[R.o,aw (aw G.o _) _,KC.sn _ B]
 simp[intOf];omega
end Go.Proofs.YtmipbiligijcpaaGreatDoor
