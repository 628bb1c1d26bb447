import Derived.Test.YtmipbiligijcpaaGreatDoorA20
namespace Go.Proofs.YtmipbiligijcpaaGreatDoor
set_option linter.all false
set_option maxRecDepth 100000
set_option maxHeartbeats 4000000
open Go.RowKit Go.Shelf Go.Proofs Go.Maps
section
variable {S:Nat->Obj->Prop} {w w' W:World} {q b hb k:Nat} {P:Pm} {hs l:List PE} {z:PE} {p:Prop} {c r:BS} {σ:Type}
open Go.RowKit Go.Shelf Go.Proofs Go.Maps Tryz
attribute [local go_sem] Oper.semAt_some
structure Ky(S:Nat->Obj->Prop)(w w':World):Prop where
  os:w'.os=w.os
  tape:w'.tape=w.tape
  output:w'.output=w.output
  size:w.heap.size<=w'.heap.size
  keep:∀k o,w.heap[k]?=some o->¬S k o->w'.heap[k]?=some o
def Ky.of(h:Bl w w'):Ky S w w':=⟨h.os,h.tape,h.output,h.size,fun k _ e _=>(h.block k (blt e)).trans e⟩
def Ky.ofx{S:Nat->Prop}(h:Kx S w w'):Ky (fun k _=>S k) w w':=⟨h.os,h.tape,h.output,h.size,fun _ _ e J=>h.box e J⟩
def Ky.refl(S:Nat->Obj->Prop)(w:World):Ky S w w:=Ky.of (aM _ _)
def Ky.trans{u v:World}(h:Ky S u v)(k:Ky S v w):Ky S u w:=
 ⟨k.os.trans h.os,k.tape.trans h.tape,k.output.trans h.output,bw h.size k.size,fun i o e z=>k.keep i o (h.keep i o e z) z⟩
def Ky.mono{a:Nat->Obj->Prop}(h:Ky S w w')(hs:∀k o,S k o->a k o):Ky a w w':=⟨h.os,h.tape,h.output,h.size,fun k o e J=>h.keep k o e fun h=>J (hs k o h)⟩
def Ky.box(h:Ky S w w'){o:Obj}(e:w.heap[q]?=some o)(hq:¬S q o):w'.heap[q]?=some o:=h.keep q o e hq
def Ky.cell(h:Ky S w w'){o:Nat}{v:Value}(e:w.cell? (Ad q o)=some v)(hq:∀Y,¬S q Y):w'.cell? (Ad q o)=some v:=by
 obtain⟨c,t,f,Z⟩:=gG e;exact(dC ((h.box Z (hq _)).trans Z.symm)).trans e
def Ky.drewN(h:Ky S w w')(n:Nat):Ky S w (w'.drewN n):=⟨h.os,h.tape,h.output,h.size,h.keep⟩
def Ky.tab(h:Ky S w w')(J:kB w)(hs:∀o,¬S 0 o):kB w':=fun j U=>h.cell (J j U) hs
def Ky.others(h:Ky S w w')(hs:∀k o,S k o->w.heap[k]?=some o->o.isCells=true):KeepsOthers w w':=
 ⟨h.size,fun k o X Z=>h.box X fun e=>by rw[hs k o e X]at Z;cases Z⟩
def Ky.set(h:Ky S w w')(hb:(∀o,w.heap[b]?=some o->S b o))(o:Nat)(v:Value):Ky S w (w'.setCell (Ad b o) v):=
 ⟨h.os,h.tape,h.output,by simpa[World.setCell]using h.size,fun k x e J=>(aZ _ _ _ _ (by rintro rfl;exact J (hb x e))).trans (h.keep k x e J)⟩
def sK{S:Nat->Obj->Prop}{w:World}{b:Nat}:∀{I:World},Ky S w I->(∀o,w.heap[b]?=some o->S b o)->∀(o:Nat) (vs:List Value),Ky S w (I.setCells b o vs)
 |_,h,_,_,[]=>h
 |_,h,hb,o,v :: r=>sK (h.set hb o v) hb (o+1) r
abbrev Lu(o:Obj):Prop:=∃c f,o=.cells c 73 f
structure DC{σ:Type}(S:Nat->Obj->Prop)(C:σ->World->Prop)(w:World)(fx:List (Nat×Obj))(hb:Nat)(s:σ)(ho:Obj)(W:World):Prop where
  k:Ky S w W
  c:C s W
  tab:kB W
  held:W.heap[hb]?=some ho
  fix:∀q o,(q,o)∈fx->W.heap[q]?=some o
section
variable {σ:Type} {S:Nat->Obj->Prop} {C:σ->World->Prop} {w:World} {fx:List (Nat×Obj)} {hb qb ab:Nat} {s s':σ} {ho ho':Obj} {W W':World}
def DC.keep(h:DC S C w fx hb s ho W)(b:∀q o,(q,o)∈fx->w.heap.size<=q/\q≠hb/\q≠ab/\q<=qb/\¬Lu o)(a:w.heap.size<=hb/\hb<ab/\ab<qb)(hS:∀k o,S k o->k<w.heap.size∨Lu o)(Y:∀s W W',C s W->(∀k o,W.heap[k]?=some o->S k o->W'.heap[k]?=some o)->C s W')(N:0<w.heap.size){X:Nat->Prop}(hk:Kx X W W')(T:∀k,X k->k=ab∨qb<k)(g:∀k o,X k->W.heap[k]?=some o->¬Lu o):DC S C w fx hb s ho W':=by
 have R:=bw h.k.size hk.size;have nx:∀k,k<qb+1->k≠ab->¬X k:=fun k hk J E=>by rcases T k E with e|e<;>omega
 refine⟨⟨hk.os.trans h.k.os,hk.tape.trans h.k.tape,hk.output.trans h.k.output,R,fun k o e J=>hk.box (h.k.keep k o e J) (nx k (by have:=blt e;omega) (by have:=blt e;omega))⟩,Y s W W' h.c (fun k o e z=>hk.box e fun E=>?_),hk.tab h.tab (nx _ ah ah),hk.box h.held (nx _ ah ah),fun q o A=>?_⟩
 ·rcases hS k o z with G|G
  ·exact nx k ah ah E
  exact g k o E e G
 have:=b q o A;exact hk.box (h.fix q o A) (nx _ ah ah)
def DC.Mg(h:DC S C w fx hb s ho W)(b:∀q o,(q,o)∈fx->w.heap.size<=q/\q≠hb/\q≠ab/\q<=qb/\¬Lu o)(a:w.heap.size<=hb/\hb<ab/\ab<qb)(hS:∀k o,S k o->k<w.heap.size∨Lu o)(N:∀o,¬S 0 o)(hk:Ky (fun k o=>S k o∨k=hb∨k=ab) W W')(Z:C s' W')(n:0<w.heap.size)(T:W'.heap[hb]?=some ho'):DC S C w fx hb s' ho' W':=by
 have R:=bw h.k.size hk.size;refine⟨⟨hk.os.trans h.k.os,hk.tape.trans h.k.tape,hk.output.trans h.k.output,R,fun k o e J=>hk.box (h.k.keep k o e J) (by have:=blt e;rintro(h|h|h);(· exact J h);all_goals omega)⟩,Z,hk.tab h.tab (fun o=>by rintro(h|h|h);(· exact N o h);all_goals omega),T,fun q o A=>?_⟩
 have G:=b q o A;exact hk.box (h.fix q o A) (by rintro(h|h|h);(· rcases hS q o h with O|O;(· omega);exact G.2.2.2.2 O);all_goals omega)
end
def Zt{P:Program}{d:Array Oper}{o:Oper}{a:Act}{K:Act->World->Prop}{Q:Exit->Act->World->Prop}{E:Prop}(v:Value)(M:Region.wanted o (yielded d a.tmps)=true)(h:(execOp a.eval o).run P w=.ok (.value v) w')(A:K (a.put o.dst v) w'):if Region.wanted o (yielded d a.tmps)=true then Oper.wp P o a w K Q else E:=by
 rw[aD M];unfold Oper.wp;rw[h];exact A
def vO{t:Nat}{pre a:List Value}:∀{vs cs:List Value},W.heap[b]?=some (.cells (pre++(cs++a)).toArray t (0,0))->cs.length=vs.length->(W.setCells b pre.length vs).heap[b]?=some (.cells (pre++(vs++a)).toArray t (0,0)):=by
 intro vs
 induction vs generalizing W pre with
 |nil=>intro cs h hl;have:=dM.1 hl;subst this;exact h
 | cons v r B=>
  intro cs h hl
  match cs,hl with
  | c :: cs,hl=>
   have G:(W.setCell (Ad b pre.length) v).heap[b]?=some (.cells ((pre++[v])++(cs++a)).toArray t (0,0)):=by
    rw[aw h,cS,ou _ _ (aF _),jh];simp
   have:=B (pre:=pre++[v]) G (by simpa using hl);show((W.setCell (Ad b pre.length) v).setCells b (pre.length+1) r).heap[b]?=_
   simpa using this
def pW{x:Nat}(hx:x<hs.length)(i:Nat):bD (hs.set x z) i=if x=i then z else bD hs i:=mX hs x i z PE.zero hx
abbrev OE(P:Pm):List BS:=tA ((List.range P.nd.length).map fun n=>(P.ins n).map (·.1)) P.nd.length P.nd.length
def Ic(h:P.nd.length<=60)(x:Nat):bF ((OE P).getD x (0,0)):=xS _ _ _ ah x
def Ie(h:P.nd.length<=60)(hx:P.nx.length=P.nd.length)(x y:Nat)(T:y<128):bt ((OE P).getD x (0,0)) y=(decide (y<P.nd.length)&&decide (x∈(P.ins y).map (·.1))):=by
 have i:∀m f,f∈((List.range P.nd.length).map fun n=>(P.ins n).map (·.1)).getD m []->f<P.nd.length:=fun m f V=>by
  rw[cx,bG]at V;cases L:(List.range P.nd.length)[m]? with
  |none=>rw[L]at V;simp at V
  |some r=>
   rw[L]at V;obtain⟨q,A,rfl⟩:=bP.1 V;have:=mS r P.nx 0 q A;omega
 rw[Dq _ _ _ _ T i _ ah];by_cases G:y<P.nd.length
 ·rw[cx,bG,jX G]
  rfl
 simp[G]
def Ur(h:P.nd.length<=60)(hx:P.nx.length=P.nd.length)(x:Nat):∀y∈c8 ((OE P).getD x (0,0)),y<P.nd.length:=fun y T=>by
 obtain⟨G,O⟩:=(cA _ (Ic h x) y).1 T;rw[Ie h hx x y G,aS]at O
 simpa using O.1
structure KC.tH(P:Pm)(hs:List PE)(wt:BS):Prop where
  len:hs.length=P.nd.length
  hd:KC.mB P (bD hs)
  wi:bF wt
  low:∀x∈c8 wt,x<P.nd.length
structure KC.SnE{σ:Type}(P:Pm)(nx:σ->Nat->PE->PE->σ)(rz:σ->Nat->PE->PE->PE)(mu:List PE->Nat)(Inv:σ->List PE->BS->Prop)(s0:σ):Prop where
  start:Inv s0 (List.replicate P.nd.length PE.zero) (jK P.nd.length)
  skip:∀s hs wt x,Inv s hs wt->KC.tH P hs wt->x∈c8 wt->KC.e4 (KC.bL P (bD hs) x) (bD hs x)=true->Inv s hs (eH wt (cH [x]))
  step:∀s hs wt x,Inv s hs wt->KC.tH P hs wt->x∈c8 wt->KC.e4 (KC.bL P (bD hs) x) (bD hs x)=false->Inv (nx s x (bD hs x) (KC.jM (bD hs x) (KC.bL P (bD hs) x))) (hs.set x (rz s x (bD hs x) (KC.jM (bD hs x) (KC.bL P (bD hs) x)))) (eP (eH wt (cH [x])) ((OE P).getD x (0,0)))
  good:∀s hs wt x,Inv s hs wt->KC.tH P hs wt->x∈c8 wt->KC.e4 (KC.bL P (bD hs) x) (bD hs x)=false->∃v,PR P.nv (rz s x (bD hs x) (KC.jM (bD hs x) (KC.bL P (bD hs) x))) v/\ei 5 P.nv v
  less:∀s hs wt x,Inv s hs wt->KC.tH P hs wt->x∈c8 wt->KC.e4 (KC.bL P (bD hs) x) (bD hs x)=false->mu (hs.set x (rz s x (bD hs x) (KC.jM (bD hs x) (KC.bL P (bD hs) x))))<mu hs
structure KC.ChE{σ:Type}(S:Nat->Obj->Prop)(C:σ->World->Prop)(w:World)(P:Pm)(fk pb:Nat)(caps:Array Value)(nx:σ->Nat->PE->PE->σ)(rz:σ->Nat->PE->PE->PE)(Inv:σ->List PE->BS->Prop):Prop where
  low:∀k o,S k o->k<w.heap.size∨Lu o
  cel:∀s W k o,C s W->S k o->W.heap[k]?=some o->o.isCells=true
  L6:∀s W W',C s W->(∀k o,W.heap[k]?=some o->S k o->W'.heap[k]?=some o)->C s W'
  tab:∀o,¬S 0 o
  pk:∀o,¬S pb o
  pbl:pb<w.heap.size
  fn:∀xs w,(callFunc fk xs).run Tryz.prog w=.ok (.enter fk xs) w
  call:∀s hs wt W x,Inv s hs wt->KC.tH P hs wt->x∈c8 wt->KC.e4 (KC.bL P (bD hs) x) (bD hs x)=false->C s W->kB W->Ky S w W->Cl fk (#[Iv x,.agg (KC.aH (bD hs x)).toArray,.agg (KC.aH (KC.jM (bD hs x) (KC.bL P (bD hs) x))).toArray]++caps) W fun e w'=>e=.returned (.agg (KC.aH (rz s x (bD hs x) (KC.jM (bD hs x) (KC.bL P (bD hs) x)))).toArray)/\C (nx s x (bD hs x) (KC.jM (bD hs x) (KC.bL P (bD hs) x))) w'/\Ky S W w'
def KC.xc(e:PE)(h:W.heap[hb]?=some (.cells (KC.aP l).toArray 228 (0,0)))(hk:k<l.length):(W.setCells hb (k*17) (KC.aH e)).heap[hb]?=some (.cells (KC.aP (l.set k e)).toArray 228 (0,0)):=by
 have Q:l=l.take k++l[k] :: l.drop (k+1):=ak
 have z:KC.aP l=KC.aP (l.take k)++(KC.aH l[k]++KC.aP (l.drop (k+1))):=by
  conv=>lhs;rw[Q]
  rw[KC.fI];rfl
 have I:KC.aP (l.set k e)=KC.aP (l.take k)++(KC.aH e++KC.aP (l.drop (k+1))):=by
  rw[wZ,aD hk,KC.fI];rfl
 rw[z]at h;rw[I];have hl:(KC.aP (l.take k)).length=k*17:=by rw[KC.jq,dL,jW ah]
 rw[<-hl];exact vO (cs:=KC.aH l[k]) (vs:=KC.aH e) h rfl
def XS(h:p:=by
 refine⟨h.len,h.hd,jj _ _,fun y T=>h.low y ?_⟩;obtain⟨G,O⟩:=(cA _ (jj _ _) y).1 T;rw[kj _ _ _ (jE hx) G,aS]at O
 exact(cA c h.wi y).2 ⟨G,O.1⟩):p:=h
def KC.tH.skip(h:KC.tH P hs c)(x:Nat)(hx:x<128):KC.tH P hs (eH c (cH [x])):=by
 exact XS
def XT(h:p:=by
 have O:=h.skip x hx;refine⟨by rw[ke];exact h.len,fun m=>?_,gp O.wi hr,fun y T=>?_⟩
 ·rw[pW Q]
  split
  ·exact R
  exact h.hd m
 obtain⟨Y,K⟩:=(cA _ (gp O.wi hr) y).1 T;rw[gC,dO]at K;rcases K with K|K
 ·exact O.low y ((cA _ O.wi y).2 ⟨Y,K⟩)
 exact hl y ((cA _ hr y).2 ⟨Y,K⟩)):p:=h
def KC.tH.step(h:KC.tH P hs c)(x:Nat)(hx:x<128)(Q:x<hs.length)(R:∃v,PR P.nv z v/\ei 5 P.nv v)(hr:bF r)(hl:∀y∈c8 r,y<P.nd.length):KC.tH P (hs.set x z) (eP (eH c (cH [x])) r):=by
 exact XT
structure KB.tH(P:Pm)(hs:List PE)(wt:BS):Prop where
  len:hs.length=P.nd.length
  hd:KB.mB P (bD hs)
  wi:bF wt
  low:∀x∈c8 wt,x<P.nd.length
structure KB.SnE{σ:Type}(P:Pm)(nx:σ->Nat->PE->PE->σ)(rz:σ->Nat->PE->PE->PE)(mu:List PE->Nat)(Inv:σ->List PE->BS->Prop)(s0:σ):Prop where
  start:Inv s0 (List.replicate P.nd.length PE.zero) (jK P.nd.length)
  skip:∀s hs wt x,Inv s hs wt->KB.tH P hs wt->x∈c8 wt->KB.e4 (KB.bL P (bD hs) x) (bD hs x)=true->Inv s hs (eH wt (cH [x]))
  step:∀s hs wt x,Inv s hs wt->KB.tH P hs wt->x∈c8 wt->KB.e4 (KB.bL P (bD hs) x) (bD hs x)=false->Inv (nx s x (bD hs x) (KB.jM (bD hs x) (KB.bL P (bD hs) x))) (hs.set x (rz s x (bD hs x) (KB.jM (bD hs x) (KB.bL P (bD hs) x)))) (eP (eH wt (cH [x])) ((OE P).getD x (0,0)))
  good:∀s hs wt x,Inv s hs wt->KB.tH P hs wt->x∈c8 wt->KB.e4 (KB.bL P (bD hs) x) (bD hs x)=false->∃v,PR P.nv (rz s x (bD hs x) (KB.jM (bD hs x) (KB.bL P (bD hs) x))) v/\ei 6 P.nv v
  less:∀s hs wt x,Inv s hs wt->KB.tH P hs wt->x∈c8 wt->KB.e4 (KB.bL P (bD hs) x) (bD hs x)=false->mu (hs.set x (rz s x (bD hs x) (KB.jM (bD hs x) (KB.bL P (bD hs) x))))<mu hs
structure KB.ChE{σ:Type}(S:Nat->Obj->Prop)(C:σ->World->Prop)(w:World)(P:Pm)(fk pb:Nat)(caps:Array Value)(nx:σ->Nat->PE->PE->σ)(rz:σ->Nat->PE->PE->PE)(Inv:σ->List PE->BS->Prop):Prop where
  low:∀k o,S k o->k<w.heap.size∨Lu o
  cel:∀s W k o,C s W->S k o->W.heap[k]?=some o->o.isCells=true
  L6:∀s W W',C s W->(∀k o,W.heap[k]?=some o->S k o->W'.heap[k]?=some o)->C s W'
  tab:∀o,¬S 0 o
  pk:∀o,¬S pb o
  pbl:pb<w.heap.size
  fn:∀xs w,(callFunc fk xs).run Tryz.prog w=.ok (.enter fk xs) w
  call:∀s hs wt W x,Inv s hs wt->KB.tH P hs wt->x∈c8 wt->KB.e4 (KB.bL P (bD hs) x) (bD hs x)=false->C s W->kB W->Ky S w W->Cl fk (#[Iv x,.agg (KB.aH (bD hs x)).toArray,.agg (KB.aH (KB.jM (bD hs x) (KB.bL P (bD hs) x))).toArray]++caps) W fun e w'=>e=.returned (.agg (KB.aH (rz s x (bD hs x) (KB.jM (bD hs x) (KB.bL P (bD hs) x)))).toArray)/\C (nx s x (bD hs x) (KB.jM (bD hs x) (KB.bL P (bD hs) x))) w'/\Ky S W w'
def KB.xc(e:PE)(h:W.heap[hb]?=some (.cells (KB.aP l).toArray 250 (0,0)))(hk:k<l.length):(W.setCells hb (k*17) (KB.aH e)).heap[hb]?=some (.cells (KB.aP (l.set k e)).toArray 250 (0,0)):=by
 have Q:l=l.take k++l[k] :: l.drop (k+1):=ak
 have z:KB.aP l=KB.aP (l.take k)++(KB.aH l[k]++KB.aP (l.drop (k+1))):=by
  conv=>lhs;rw[Q]
  rw[KB.fI];rfl
 have I:KB.aP (l.set k e)=KB.aP (l.take k)++(KB.aH e++KB.aP (l.drop (k+1))):=by
  rw[wZ,aD hk,KB.fI];rfl
 rw[z]at h;rw[I];have hl:(KB.aP (l.take k)).length=k*17:=by rw[KB.jq,dL,jW ah]
 rw[<-hl];exact vO (cs:=KB.aH l[k]) (vs:=KB.aH e) h rfl
def KB.tH.skip(h:KB.tH P hs c)(x:Nat)(hx:x<128):KB.tH P hs (eH c (cH [x])):=by
 exact XS
def KB.tH.step(h:KB.tH P hs c)(x:Nat)(hx:x<128)(Q:x<hs.length)(R:∃v,PR P.nv z v/\ei 6 P.nv v)(hr:bF r)(hl:∀y∈c8 r,y<P.nd.length):KB.tH P (hs.set x z) (eP (eH c (cH [x])) r):=by
 exact XT
def ab9(h:p:=by
 have hm:=hO.most;have hN1:=hO.pos;refine(fX (n:=6)).1 ?_;refine callsIn_of_wp_marks zF8 rfl trivial ?_ rfl;simp only[zN9,kd,bT,eI,Nat.reduceAdd,Nat.reduceSub,rQ,rP,rO,rN,dT,dw];have O:Hd (∀W,Cl 208 #[Iv P.nd.length] W (Rb W (b! (jK P.nd.length)))):=fun W=>oF P.nd.length W ah
 have HR:Hd (∀W,Ky S w W->Cl zn4 #[cZ rb db P.nd.length] W fun e w'=>∃g,e=.returned (b? g P.nd.length)/\W.heap.size<=g/\w'.heap[g]?=some (.cells (cG (OE P)).toArray 267 (0,0))/\Bl W w'):=fun W hW=>rV rb db B P W (YM W hW) hO hx
 obtain⟨i1,hi,hy0,hy1,hy2⟩:=cY oP;have HJ:Hd (_/\_/\_/\_):=⟨hi,hy0,hy1,hy2⟩;have G:=hid (Aa YM (Aa (Aa hO (Aa hc (Aa ho hx))) (Aa hP (Aa hH (Aa hT (Aa A? (Aa VB (Aa hd (Aa hSd lu)))))))));obtain⟨N,rC⟩:=Ea P.nd.length;rw[<-rC]at O HR hm hN1⊢;have HN:=hid rC;clear hi hy0 hy1 hy2 YM hO hc ho hx hP hH hT A? VB hd hSd lu rC;simp only[b!,KC.cZ,KB.cZ]at O HR⊢;refine rL.2 ?_
 go_upto_region 1 with(fail)
 refine gnB (F:=Code.wp _ _ _ _) fun W0 HB=>?_
 obtain⟨x1,x2⟩:=ae HB.b;have lu:=HB.C
 go_upto_region 2 with(at_make;refine il _ rfl (.tmp 15) (.tmp 15) Il rfl W0.heap.size aV i1 _ 17 ZF HJ.a HJ.b HJ.c .i64 .i64 N N N rfl rfl rfl rfl (by rw[HJ.C];omega) (by unfold maxLen;omega) ak ?_;intro T h! Y;have HO:=hid (Aa h! Y);clear h! Y)
 have H:Hd (T.heap[w.heap.size+1+1]?=some (.cells (aP (List.replicate N PE.zero)).toArray aV (0,0))/\Bl W0 T):=by
  have h1:=HO.a;rw[dX _ 17 (by simp[Value.cells];rfl) N]at h1;refine⟨?_,(aM _ _).grown HO.A (aF _) (fun q e=>by cases e)⟩;rw[<-lu,(e? h1).1,<-nw];rfl
 clear HO x1 x2;refine qA (F:=Code.wp _ _ _ _) fun r ni=>?_
 go_upto_region 3 with(fail)
 refine qA (F:=Code.wp _ _ _ _) fun W3 qF=>?_
 have mC:=ni.B;have hbl:w.heap.size+1+1<T.heap.size:=blt H.a;have L2:=aq ni.a qF.a;have OX:=aq H.A L2;have f6:=qF.b;have f7:=qF.B;rw[mC]at f6 f7;have R:=hid (Aa (aq HB.a OX) (Aa (aE OX HB.b) (Aa (aE OX HB.c) (Aa (aE L2 H.a) (Aa (aE qF.a ni.b) (Aa f6 f7))))));rw[mC];clear HB H ni qF lu mC L2 OX f6 f7;generalize T.heap.size=bx at *;obtain⟨x1,x2⟩:=ae R.b
 go_upto_region 4 with((first|go_at_call 207 | go_at_call 215);refine(HR.o _ (Ky.of R.a)).mono ?_;rintro e W4 ⟨g,rfl,h1,h2,h3⟩;have I:=hid (Aa h1 (Aa h2 h3));clear h1 h2 h3 x1 x2)
 refine qA (F:=Code.wp _ _ _ _) fun W5 Gl=>?_
 have S6:=aq I.B Gl.a;obtain⟨x1,x2⟩:=ae (aE S6 R.b)
 go_upto_region 5 with(go_at_call 208;refine(O.o _).mono ?_;rintro e W6 ⟨rfl,h1⟩;have H6:=hid h1;clear h1 x1 x2)
 refine qA (F:=Code.wp _ _ _ _) fun W7 wE=>?_
 have HNd:Hd (∀W,Cl 209 (bE W6.heap.size) W fun e w'=>e=.returned (.func (.func 268) #[] (bE W.heap.size))/\w'=W.alloc (.cells (bE W6.heap.size) 379)):=fun W=>vr _ W
 go_wp2_with (go_at_call 209;refine(HNd.o _).mono ?_;rintro e W8 ⟨rfl,rfl⟩)
 refine qA (F:=Code.wp _ _ _ _) fun W8 Br=>?_
 have hzq:W6.heap.size<W7.heap.size:=by rw[wE.B];omega
 have zV:=aq S6 (aq H6.o (aq wE.a Br.a));have hab:W5.heap.size<=W6.heap.size:=H6.o.size;have hrx:=Gl.B;have DJ:=blt I.b;have hg2:=I.a;have Jp:=R.F;have f8:=Br.b;have b58:=aq H6.o (aq wE.a Br.a);have b48:=aq Gl.a b58;obtain⟨fx,TA⟩:=Ea ([(w.heap.size,.cells #[.slice (some (Ad rb 0)) N N,.func (.func xY) #[] (bE db),.func (.func xX) #[] (bE db)] ZH (0,0)),(w.heap.size+1,.cells #[.func (.func fk) #[] caps] abV (0,0)),(bx,.cells #[.slice (eD w.heap.size) N N] Il (0,0)),(bx+1,.cells #[.func (.func zn0) #[] (bE bx)] abU (0,0)),(g,.cells (cG (OE P)).toArray 267 (0,0)),(W4.heap.size,.cells (kg g N) 264 (0,0)),(W7.heap.size,.cells (bE W6.heap.size) 379 (0,0))]:List (Nat×Obj));have H8:Hd (DC S C w fx (w.heap.size+1+1) s0 (.cells (aP (List.replicate N PE.zero)).toArray aV (0,0)) W8/\W8.heap[W6.heap.size]?=some (zW (jK N) (.slice pa pl pc))/\W8.heap.size=W7.heap.size+1):=by
  refine⟨⟨Ky.of (aq R.a zV),G.d.L6 _ _ _ G.g (fun k o e _=>aE (aq R.a zV) e),G.e.below (aq R.a zV),aE zV R.d,?_⟩,aE Br.a wE.b,Br.B⟩;intro q o hq;rw[TA]at hq;simp only[cQ,fE,gM,ga]at hq;rcases hq with⟨rfl,rfl⟩|⟨rfl,rfl⟩|⟨rfl,rfl⟩|⟨rfl,rfl⟩|⟨rfl,rfl⟩|⟨rfl,rfl⟩|⟨rfl,rfl⟩
  ·exact aE zV R.b
  ·exact aE zV R.c
  ·exact aE zV R.e
  ·exact aE zV R.f
  ·exact aE b48 I.b
  ·exact aE b58 Gl.b
  ·exact f8
 have aep:=G.d.pbl;have hw8:=R.a.size;have hP8:Hd (jB W8 pb (.slice pa pl pc)):=G.f.keep fun o u h=>ax h (aq R.a zV)
 have l1:bx+1<g:=ah
 have l2:W4.heap.size<W6.heap.size:=ah
 clear Gl wE Br H6 I R S6 zV b48 b58 HNd HR O f8 hrx Jp hg2 hab;generalize W4.heap.size=Ih at *;generalize W6.heap.size=ab at *;generalize W7.heap.size=qb at *;have HFX:Hd (∀q o,(q,o)∈fx->w.heap.size<=q/\q≠w.heap.size+1+1/\q≠ab/\q<=qb/\¬Lu o):=by
  intro q o hq;rw[TA]at hq;simp only[cQ,fE,gM,ga]at hq;rcases hq with⟨rfl,rfl⟩|⟨rfl,rfl⟩|⟨rfl,rfl⟩|⟨rfl,rfl⟩|⟨rfl,rfl⟩|⟨rfl,rfl⟩|⟨rfl,rfl⟩<;>exact⟨ah,ah,ah,ah,by rintro⟨c,f,e⟩;exact absurd (eK e).2.1 aj⟩
 have HF:=hid (fun(W:World) (h:∀q o,(q,o)∈fx->W.heap[q]?=some o)=>Aa (h _ _ (by rw[TA];exact qK)) (Aa (h _ _ (by rw[TA];exact dV _ qK)) (Aa (h _ _ (by rw[TA];exact dV _ (dV _ qK))) (Aa (h _ _ (by rw[TA];exact dV _ (dV _ (dV _ qK)))) (Aa (h _ _ (by rw[TA];exact dV _ (dV _ (dV _ (dV _ qK))))) (Aa (h _ _ (by rw[TA];exact dV _ (dV _ (dV _ (dV _ (dV _ qK)))))) (h _ _ (by rw[TA];exact dV _ (dV _ (dV _ (dV _ (dV _ (dV _ qK)))))))))))));clear TA;have hhb:w.heap.size<=w.heap.size+1+1/\w.heap.size+1+1<ab/\ab<qb:=ah
 have HHB:=hid hhb;have htl:=dQ (G.e 0 aj);obtain⟨Rs,VF⟩:=Ea (fun s hs W=>DC S C w fx (w.heap.size+1+1) s (.cells (aP hs).toArray aV (0,0)) W:σ->List PE->World->Prop);have M:Hd (RsK Rs ab qb):=by
  rw[VF];exact⟨fun s hs W W' X h hk hX hV=>DC.keep h HFX.o HHB.o G.d.low G.d.L6 htl hk hX (fun k o hx e hv=>by obtain⟨c,f,rfl⟩:=hv;rcases hV k _ hx e with h2|⟨c',f',h2⟩;(· cases h2);exact absurd (eK h2).2.1 aj),fun s hs W h=>DC.tab h,fun s hs W h=>(HF.o W (DC.fix h)).2.2.2.2.2.2⟩
 have H8b:Hd (Rs s0 (List.replicate N PE.zero) W8):=by rw[VF];exact H8.a
 have WA:=hid VF;have hz8:qb<W8.heap.size:=by rw[H8.B];omega
 clear VF hhb;refine(rL (n:=6)).1 ?_
 refine KO (σ:=σ×List PE×BS) (α:=Nat) rfl ah (gf:=268) (lb:=(bE qb)) rfl trivial (fun xs w=>Tryz.call268 xs w) (N4:=fun x=>#[Iv x]) (fun _=>rfl)
  (O1 Rs ab pb Inv (tH P)) (Y8 Rs Inv (tH P)) (Y7 Rs ab pb Inv (tH P)) (ltS fun h wt=>mu h*200+(c8 wt).length) (O1.own M.o ah ah ah) (Y8.own M.o ah) (Y7.own M.o ah ah ah) (s0:=(s0,List.replicate N PE.zero,jK N)) ⟨_,H8b.o,H8.b,hP8.o,by rw[HN.o];exact G.c.start,⟨by rw[<-HN.o];simp,fun m=>by rw[show bD (List.replicate N PE.zero) m=PE.zero by unfold bD;rw[cx,mD];split<;>rfl];exact G.I,oG N ah,by rw[<-HN.o];exact Ko ah⟩⟩
  (O1.it M.o (fun _ _ h=>h.wi) 5 ah ah ah _)
  (fun x=>{tmps:=#[Value.agg #[.slice (some (Ad rb 0)) N N,.func (.func xY) #[] (bE db),.func (.func xX) #[] (bE db)],.slice pa pl pc,.func (.func fk) #[] caps,.pointer (cu w.heap.size),undef,.pointer (cM w.heap.size),.slice none 0 0,.pointer (some (Ad bx 0)),.pointer (cM bx),.pointer (some (Ad Ih 0)),.pointer (some (Ad ab 0)),Iv x,undef,.pointer (cu w.heap.size),.slice (some (Ad rb 0)) N N,Iv N,.slice (eD w.heap.size) N N,.func (.func zn0) #[] (bE bx),.agg #[.slice (some (Ad rb 0)) N N,.func (.func xY) #[] (bE db),.func (.func xX) #[] (bE db)],.slice (some (Ad g 0)) N N,.pointer (cu w.heap.size),.slice (some (Ad rb 0)) N N,Iv N,.agg #[Uv ((jK N).1:Int),Uv ((jK N).2:Int)],.slice pa pl pc,.agg #[Uv ((jK N).1:Int),Uv ((jK N).2:Int),.slice pa pl pc],.func (.func 268) #[] (bE qb),Iv x,undef,undef,undef,undef,undef,undef,undef,undef,undef,undef,undef,undef,undef,undef,undef,undef,undef,undef,undef,undef,undef,undef,undef,undef,undef,undef,undef,undef,undef,undef,undef,undef,undef,undef,undef,undef,undef],defers:=[]}) ?assign ?body ?done
 case assign=>
  intro l x W K hK
  gi_wp2
  exact hK
 case body=>
  rintro l ⟨s,hs,wt⟩ x W ⟨pv,h1,h2,h3,h4,h5,E⟩;simp only at h1 h2 h3 h4 h5 E;rw[WA.o]at h1;have hxP:=h5.low x E;have Rn:x<N:=by rw[HN.o];exact hxP
  have hxi:(x:Int)<N:=ah
  have hxl:x<hs.length:=by rw[h5.len];exact hxP
  have hhx:hs[x]?=some (bD hs x):=by unfold bD;rw[List.getD,bk hxl];rfl
  obtain⟨hO,hc,ho,F⟩:=G.b;have VA:W.heap[db]?=_:=(DC.k h1).box G.h G.i;have VC:=h5.hd.bin x;have hsi:=Cq h5.hd hO hc ho F x;have HSy:Hd (∀W',Bl W W'->Cl ZJ #[cZ rb db N,Iv x,.func (.func zn0) #[] (bE bx)] W' (Rb W' (.agg (aH (bL P (bD hs) x)).toArray))):=by
   intro W' hW;rw[HN.o];refine mM rb db B x _ P _ (bD hs) W' (G.a W' ((DC.k h1).trans (Ky.of hW))) (aE hW VA) hO hc ho F hxP h5.hd (fun xs w=>zC3 xs w) fun m hm' r hW2=>?_
   exact Af m bx N N _ hs (bD hs m) r (aE hW2 (aE hW (HF.o W (DC.fix h1)).2.2.1)) (jN (aE hW2 (aE hW (DC.held h1)))) (by unfold bD;rw[List.getD,bk (by rw[h5.len];exact hm')];rfl) (by rw[HN.o];exact hm')
  have HPa:Hd (∀W',Bl W W'->Cl xX #[.agg (aH (bL P (bD hs) x)).toArray,.agg (aH (bD hs x)).toArray,.pointer (some (Ad db 0))] W' (Rb W' (.bool (e4 (bL P (bD hs) x) (bD hs x))))):=fun W' hW=>lH _ _ db W' (aE hW VA) hsi VC
  have HJn:Hd (∀(W':World) b,Bl W W'->W'.heap[b]?=some (.cells (aP [bD hs x,bL P (bD hs) x]).toArray aV (0,0))->Cl xY #[.slice (some (Ad b 0)) 2 2,.pointer (some (Ad db 0))] W' (Rb W' (.agg (aH (jM (bD hs x) (bL P (bD hs) x))).toArray))):=by
   intro W' b hW hb;have:=qS (some (Ad b 0)) 2 db [bD hs x,bL P (bD hs) x] W' (aE hW VA) (jN hb) ak (fun e he=>by simp at he;rcases he with rfl|rfl;(· exact VC);exact hsi) (fun a b=>Iq)
   exact this
  have HCh:=hid (fun(hb:e4 (bL P (bD hs) x) (bD hs x)=false) W' (hc:C s W') (hT:kB W') (hk:Ky S w W')=>G.d.call s hs wt W' x h4 h5 E hb hc hT hk);have Ze:Hd (∀W' UD,W'.heap[ab]?=some (zW (eH wt (cH [x])) UD)->Cl 211 #[.pointer (some (Ad ab 0)),b! ((OE P).getD x (0,0))] W' fun e w'=>(∃v,e=.returned v)/\w'.heap[ab]?=some (zW (eP (eH wt (cH [x])) ((OE P).getD x (0,0))) UD)/\Kx (·=ab) W' w'):=fun W' UD h=>L4 ab _ _ UD W' h (jj _ _) (Ic hO.most x)
  have HSk:=hid (G.c.skip s hs wt x h4 h5 E);have HSt:=hid (G.c.step s hs wt x h4 h5 E);have HMu:=hid (G.c.less s hs wt x h4 h5 E);have HGd:=hid (G.c.good s hs wt x h4 h5 E);have HRd:=hid (Aa (Ic hO.most x) (Ur hO.most F x));have HX:=hid (Aa h1 (Aa h2 (Aa h3 (Aa h5 (Aa E hhx)))));have vN:=hid (HF.o W (DC.fix h1));obtain⟨x1,x2⟩:=ae vN.a;obtain⟨y1,y2⟩:=ae vN.d;clear h1 h2 h3 h4 h5 E VC hsi hO hc ho F VA hhx;simp only[b!,KC.cZ,KB.cZ]at HSy Ze
  gi_upto_region 7 with(fail)
  refine aei (l:=l) (h:=?_)
  go_wp2_with (first|((first|go_at_call 210 | go_at_call 216);refine(HSy.o _ (aM _ _)).mono ?_;rintro e T ⟨rfl,A⟩;have j?:=hid A;clear A x1 x2 y1 y2)|(refine wpList_store_mid rfl aV (.tmp 12) (.tmp 31) rfl T.heap.size 0 (aH (bL P (bD hs) x)).toArray rfl rfl (bO (n:=17) (bf _ _) rfl) au (a! _) ?_))
  refine Ju (F:=fun V=>Code.wpIn _ _ _ _ _ _ V) rfl fun U O=>?_
  simp only[Act.put];have Td:=hid (fun W' (zM:Bl U W')=>Aa (aE zM (aE O.A (aE j?.o vN.a))) (Aa (aE zM (aE O.A (aE j?.o vN.c))) (Aa (aE zM (aE O.A (aE j?.o HX.a.held))) (aE zM O.a))))
  have HRg:Hd (∀W':World,W'.heap[w.heap.size+1+1]?=some (.cells (aP hs).toArray aV (0,0))->W'.rangeAt (w.heap.size+1+1) (x*17) (aH (bD hs x))):=fun W' h=>by
   obtain⟨b,o,e,hr⟩:=jN h x _ HX.E;cases e
   rwa[ct]at hr
  gi_wp2
  refine Zu (l:=l) (fun W'=>Bl U W') 8 (hS:=(aM _ _).drew) (h:=fun aB=>?_);refine tt 0 (.pointer (some (Ad w.heap.size 2))) (h:=?_);refine tt 1 (.func (.func xX) #[] (bE db)) (y:=fun W' aU=>by have L:=(ae (Td.o _ aU).1).1;clear aB aU;go_simp) (h:=?_);refine tu 2 (.agg (aH (bL P (bD hs) x)).toArray) (y:=yieldsIf_load_mid au _ _ rfl _ _ rfl _ _ (fun W' aU=>aT (Td.o _ aU).2.2.2) fH rfl au) (h:=?_);refine tt 3 (.slice (eD w.heap.size) N N) (y:=fun W' aU=>by have L:=(ae (Td.o _ aU).2.1).1;clear aB aU;go_simp) (h:=?_);refine tt 4 (Iv x) (h:=?_);refine tt 5 (.pointer (some (Ad (w.heap.size+1+1) (x*17)))) (h:=?_);refine tu 6 (.agg (aH (bD hs x)).toArray) (y:=yieldsIf_load_mid au _ _ rfl _ _ rfl _ _ (fun W' aU=>HRg.o _ (Td.o _ aU).2.2.1) fH rfl au) (h:=?_);refine rt 7 (h:=fun K hK=>?_)
  go_simp
  refine bA (HPa.o _ (aq j?.o (aq O.A aB))) ?_;rintro e r ⟨rfl,uz⟩;have ni:Hd (Bl U r):=aq aB uz;clear uz aB;refine hK.out _ _ (fun _=>ni.o) ?_;clear hK K;refine pt ?_;refine dt (h:=?_);have pq:=hid (aq j?.o (aq O.A ni.o));cases o?:e4 (bL P (bD hs) x) (bD hs x)with
  |true=>
   gi_wp2
   refine⟨du pq.o,s,hs,(eH wt (cH [x])).1,(eH wt (cH [x])).2,?_,pv,M.o.keep _ _ _ _ (fun _=>False) (by rw[WA.o];exact HX.a) (Kx.of pq.o) (fun _ h=>h.elim) (fun _ _ h=>h.elim),aE pq.o HX.b,HX.c.keep fun o u h=>ax h pq.o,HSk.o o?,HX.d.skip x ah⟩;have:=WI HX.d.wi HX.e;show mu hs*200+(c8 (eH wt (cH [x]))).length<mu hs*200+(c8 wt).length;omega
  | false=>
   have pw:Hd (∀k o,w.heap.size<=k->¬Lu o->¬S k o):=fun k o h hv e=>by rcases G.d.low k o e with h1|h1;(· omega);exact hv h1
   have HFV:=hid (HF.o W fun q o hq=>HX.a.fix q o hq);have Z:∀{cs:Array Value} {t:Nat} {f:Nat×Nat},t≠73->¬Lu (.cells cs t f):=fun ht=>by rintro⟨c,f,e⟩;exact ht (eK e).2.1
   have hwW:=HX.a.k.size;have wC:=hid (fun W' (zM:Ky S r W')=>Aa (zM.box (aE pq.o vN.a) (pw.o _ _ ah (Z aj))) (Aa (zM.box (aE pq.o vN.b) (pw.o _ _ ah (Z aj))) (Aa (zM.box (aE pq.o HX.a.held) (pw.o _ _ ah (Z aj))) (Aa (zM.box (aE pq.o vN.c) (pw.o _ _ ah (Z aj))) (zM.box (aE ni.o O.a) (pw.o _ _ (by have:=j?.o.size;omega) (Z aj)))))));have Tj:Hd (∀W',Bl W W'->C s W'/\kB W'/\Ky S w W'):=fun W' h=>⟨G.d.L6 _ _ _ HX.a.c (fun k o e _=>aE h e),HX.a.tab.below h,HX.a.k.trans (Ky.of h)⟩
   have TP:=hid (fun W' (h:Bl W W')=>HCh.o o? W' (Tj.o W' h).1 (Tj.o W' h).2.1 (Tj.o W' h).2.2);have abM:=hid (HSt.o o?);have abN:=hid (HMu.o o?);have aeL:=hid (HGd.o o?);have hcf:=G.d.fn;clear HCh HSt HMu HGd HSk Td HPa HSy o? Tj;generalize bL P (bD hs) x=sa at *;generalize bD hs x=old at *;generalize jM old sa=qY at *;generalize rz s x old qY=z at *
   gi_wp2
   refine Zu (l:=l) (fun W'=>Ky S r W') 18 (hS:=(Ky.refl _ _).drewN 1) (h:=fun aB=>?_);refine tt 0 (.slice (eD w.heap.size) N N) (y:=fun W' aU=>by have L:=(ae (wC.o _ aU).2.2.2.1).1;clear aB aU;go_simp) (h:=?_);refine tt 1 (Iv x) (h:=?_);refine tt 2 (.func (.func fk) #[] caps) (y:=fun W' aU=>by have L:=(ae (wC.o _ aU).2.1).1;clear aB aU;go_simp) (h:=?_);refine tt 3 (Iv x) (h:=?_);refine tt 4 (.slice (eD w.heap.size) N N) (y:=fun W' aU=>by have L:=(ae (wC.o _ aU).2.2.2.1).1;clear aB aU;go_simp) (h:=?_);refine tt 5 (Iv x) (h:=?_);refine tt 6 (.pointer (some (Ad (w.heap.size+1+1) (x*17)))) (h:=?_);refine tu 7 (.agg (aH old).toArray) (y:=yieldsIf_load_mid au _ _ rfl _ _ rfl _ _ (fun W' aU=>HRg.o _ (wC.o _ aU).2.2.1) fH rfl au) (h:=?_);refine tt 8 (.pointer (some (Ad w.heap.size 1))) (h:=?_);refine tt 9 (.func (.func xY) #[] (bE db)) (y:=fun W' aU=>by have L:=(ae (wC.o _ aU).1).1;clear aB aU;go_simp) (h:=?_);refine tt 10 (.slice (eD w.heap.size) N N) (y:=fun W' aU=>by have L:=(ae (wC.o _ aU).2.2.2.1).1;clear aB aU;go_simp) (h:=?_);refine tt 11 (Iv x) (h:=?_);refine tt 12 (.pointer (some (Ad (w.heap.size+1+1) (x*17)))) (h:=?_);refine tu 13 (.agg (aH old).toArray) (y:=yieldsIf_load_mid au _ _ rfl _ _ rfl _ _ (fun W' aU=>HRg.o _ (wC.o _ aU).2.2.1) fH rfl au) (h:=?_);refine tu 14 (.agg (aH sa).toArray) (y:=yieldsIf_load_mid au _ _ rfl _ _ rfl _ _ (fun W' aU=>aT (wC.o _ aU).2.2.2.2) fH rfl au) (h:=?_);refine rt 15 (h:=fun K hK=>?_);refine Zt (w':=r.drew.alloc (.cells (aP [old,sa]).toArray aV)) (.slice (cu r.heap.size) 2 2) au au ?_;refine hK.out _ _ (fun _=>aB.trans (Ky.of (aC _ _))) ?_;clear hK K;refine pt ?_;have HQ:Hd ((r.drew.alloc (.cells (aP [old,sa]).toArray aV)).heap[r.heap.size]?=some (.cells (aP [old,sa]).toArray aV (0,0))/\Bl r (r.drew.alloc (.cells (aP [old,sa]).toArray aV))):=⟨bf r.drew _,aq (aM _ _).drew (aC r.drew _)⟩;generalize r.drew.alloc (.cells (aP [old,sa]).toArray aV)=T2 at *;refine rt 16 (h:=fun K hK=>?_)
   go_simp
   refine bA (HJn.o _ _ (aq pq.o HQ.A) HQ.a) ?_;rintro e W3 ⟨rfl,Js⟩;have qF:Hd (Bl r W3):=aq HQ.A Js;clear Js aB;refine hK.out _ _ (fun _=>Ky.of qF.o) ?_;clear hK K;refine pt ?_;refine rt 17 (h:=fun K hK=>?_)
   go_simp
   refine bA (TP.o _ (aq pq.o qF.o)) ?_;rintro e W4 ⟨rfl,hc4,Vv⟩;have I:=hid (Aa hc4 ((Ky.of (S:=S) qF.o).trans Vv));clear hc4 Vv;refine hK.out _ _ (fun _=>I.A) ?_;clear hK K;refine pt ?_;refine rt 18 (h:=fun K hK=>?_)
   go_simp
   refine hK.out _ _ (fun h=>absurd h aj) ?_;clear hK K;refine pt ?_;refine rt 19 (h:=fun K hK=>?_);have hh4:=(wC.o _ I.A).2.2.1;rw[aD au];refine wp_store_mid aV (.tmp 58) (.tmp 57) rfl (w.heap.size+1+1) (x*17) (aH z).toArray rfl rfl (kS hh4 hxl) au (a! _) ?_;refine hK.out _ _ (fun h=>absurd h aj) ?_;clear hK K;refine pt ?_;refine dt (h:=?_);have Vt:Ky S W W4:=(Ky.of pq.o).trans I.A;generalize NS:W4.setCells (w.heap.size+1+1) (x*17) (aH z)=W5;have Vu:Ky (fun k o=>S k o∨k=w.heap.size+1+1∨k=ab) W W5:=by
    rw[<-NS];refine sK (Vt.mono fun k _ h=>aJ h) ?_ _ _;exact fun _ _=>aI (aJ rfl)
   have Vr:∀q,w.heap.size<=q->q≠w.heap.size+1+1->∀o,¬Lu o->W.heap[q]?=some o->W5.heap[q]?=some o:=fun q h1 h2 o hv h=>by
    rw[<-NS,dc _ _ _ _ _ h2];exact Vt.box h (pw.o q o h1 hv)
   have H5:=hid (Aa (show W5.heap[w.heap.size+1+1]?=some (.cells (aP (hs.set x z)).toArray aV (0,0))by rw[<-NS];exact xc z (wC.o _ I.A).2.2.1 hxl) (Aa Vu (Aa (G.d.L6 _ _ W5 I.a (fun k o e hk=>by rw[<-NS,dc _ _ _ _ _ (fun ek=>by subst ek;have h2:=(wC.o _ I.A).2.2.1;rw[e]at h2;cases h2;exact pw.o _ _ ah (Z aj) hk)];exact e)) (Aa (Vr ab ah ah _ (Z aj) HX.b) (Aa (Vr Ih ah ah _ (Z aj) vN.f) (Aa (Vr g ah ah _ (Z aj) vN.e) (HX.c.keep (w':=W5) fun o u h=>by rw[<-NS];exact(dC (dc _ _ _ _ _ ah)).trans (Vt.cell h G.d.pk))))))));have Tw:(OE P).length=N:=by rw[HN.o];exact pJ _ _ _
   obtain⟨k0,L,_,_⟩:=gT H5.f (k:=x) (by rw[Tw];exact Rn);obtain⟨y1,y2⟩:=ae H5.e;generalize(OE P).getD x (0,0)=rx at *;clear NS Vu Vr Vt Tw TP HJn wC HRg j? ni qF O HQ HFV
   gi_wp2_with (refine⟨trivial,?_⟩;gi_at_call 211;refine(CallsIn.inRound l (fX.2 (Ze.o _ _ H5.d))).mono ?_;rintro e W6 ⟨⟨v,rfl⟩,ha6,FK⟩;have H6:=hid (Aa ha6 FK);clear ha6 FK)
   have FK:Ky (fun k o=>S k o∨k=w.heap.size+1+1∨k=ab) W W6:=H5.b.trans ((Ky.ofx H6.A).mono fun k _ h=>aI (aI h));refine⟨FK.others ?_,nx s x old qY,hs.set x z,(eP (eH wt (cH [x])) rx).1,(eP (eH wt (cH [x])) rx).2,?_,pv,?_,H6.a,?_,abM.o,HX.d.step x ah hxl aeL.o HRd.a HRd.A⟩
   ·rintro k o (h|h|h) hk
    ·exact G.d.cel s W k o HX.a.c h hk
    ·subst h;rw[HX.a.held]at hk;cases hk;rfl
    ·subst h;rw[HX.b]at hk;cases hk;rfl
   ·have:=nJ (eP (eH wt (cH [x])) rx)
    have h7:=abN.o;show mu (hs.set x z)*200+(c8 (eP (eH wt (cH [x])) rx)).length<mu hs*200+(c8 wt).length;omega
   ·rw[WA.o]
    refine DC.Mg HX.a HFX.o HHB.o G.d.low G.d.tab FK (G.d.L6 _ _ _ H5.c fun k o e hk=>?_) htl (H6.A.box H5.a ah);exact H6.A.box e (fun ek=>by subst ek;have h2:=H5.d;rw[e]at h2;cases h2;exact pw.o _ _ ah (Z aj) hk)
   ·exact H5.F.keep fun o u h=>H6.A.cell h ah
 case done=>
  rintro D ⟨s,hs,wt⟩ W hD ⟨h1,h2,h3⟩ hK;simp only at h1 h2 h3;rw[WA.o]at h1;obtain⟨x1,x2⟩:=ae (HF.o W (DC.fix h1)).2.2.1
  go_wp2_with fail
  refine⟨ak,.inl ⟨_,_,rfl,run_takeDeferred hK,?_⟩⟩;have hg:=grownBy_putObj' W D (.deferred none);have hx:Kx (fun k=>k=D) W (W.putObj D (.deferred none)):=⟨hg.os,hg.tape,hg.output,hg.size,fun k hk J=>hg.block k hk fun e=>J (by cases e;rfl)⟩;have h1':=DC.keep h1 HFX.o HHB.o G.d.low G.d.L6 htl hx (fun k e=>by subst e;right;omega) (fun k o e ho=>by subst e;rw[hK]at ho;cases ho;rintro⟨c,f,h⟩;cases h)
  exact⟨.slice (eD w.heap.size) N N,by simp[results,results138,results144,go_sem],s,hs,rfl,h1'.held,h1'.c,h1'.k,h2,h3⟩):p:=h
open KC in
theorem KC.tW(S:Nat->Obj->Prop)(C:σ->World->Prop)(rb db B fk pb:Nat)(P:Pm)(caps:Array Value)(pa:Option Addr)(pl pc:Nat)(w:World)(nx:σ->Nat->PE->PE->σ)(rz:σ->Nat->PE->PE->PE)(mu:List PE->Nat)(Inv:σ->List PE->BS->Prop)(s0:σ)
 (YM:∀W,Ky S w W->KC.l? W B rb P) (hd:w.heap[db]?=some (.cells #[.iface 328 (.agg #[])] 381 (0,0))) (hSd:¬S db (.cells #[.iface 328 (.agg #[])] 381 (0,0))) (hO:cE P) (hc:mA P) (ho:j9 P) (hx:P.nx.length=P.nd.length) (hP:KC.SnE P nx rz mu Inv s0) (hH:KC.ChE S C w P fk pb caps nx rz Inv) (lu:∃v,PR P.nv PE.zero v/\ei 5 P.nv v) (hT:kB w) (A?:jB w pb (.slice pa pl pc)) (VB:C s0 w):
 Cl 138 #[KC.cZ rb db P.nd.length,.slice pa pl pc,.func (.func fk) #[] caps] w fun e w'=>∃s hs,e=.returned (.slice (eD w.heap.size) P.nd.length P.nd.length)/\w'.heap[w.heap.size+1+1]?=some (.cells (KC.aP hs).toArray 228 (0,0))/\C s w'/\Ky S w w'/\Inv s hs (0,0)/\KC.tH P hs (0,0):=by exact ab9
open KB in
theorem KB.tW(S:Nat->Obj->Prop)(C:σ->World->Prop)(rb db B fk pb:Nat)(P:Pm)(caps:Array Value)(pa:Option Addr)(pl pc:Nat)(w:World)(nx:σ->Nat->PE->PE->σ)(rz:σ->Nat->PE->PE->PE)(mu:List PE->Nat)(Inv:σ->List PE->BS->Prop)(s0:σ)
 (YM:∀W,Ky S w W->KB.l? W B rb P) (hd:w.heap[db]?=some (.cells #[.iface 331 (.agg #[])] 386 (0,0))) (hSd:¬S db (.cells #[.iface 331 (.agg #[])] 386 (0,0))) (hO:cE P) (hc:mA P) (ho:j9 P) (hx:P.nx.length=P.nd.length) (hP:KB.SnE P nx rz mu Inv s0) (hH:KB.ChE S C w P fk pb caps nx rz Inv) (lu:∃v,PR P.nv PE.zero v/\ei 6 P.nv v) (hT:kB w) (A?:jB w pb (.slice pa pl pc)) (VB:C s0 w):
 Cl 144 #[KB.cZ rb db P.nd.length,.slice pa pl pc,.func (.func fk) #[] caps] w fun e w'=>∃s hs,e=.returned (.slice (eD w.heap.size) P.nd.length P.nd.length)/\w'.heap[w.heap.size+1+1]?=some (.cells (KB.aP hs).toArray 250 (0,0))/\C s w'/\Ky S w w'/\Inv s hs (0,0)/\KB.tH P hs (0,0):=by exact ab9
end
section
open Go.RowKit Go.Shelf Go.Proofs Go.Maps Tryz
attribute [local go_sem] Oper.semAt_some
def Yc(s:Nat×List (List Int))(x:Nat)(old next:BS):Nat×List (List Int):=(s.1+1,s.2.set x (og (s.2.getD x []) (c8 (eH next old)) (s.1:Int)))
structure CkR(cb xb rb N:Nat)(s:Nat×List (List Int))(W:World):Prop where
  c:W.heap[cb]?=some (fY s.1)
  x:W.heap[xb]?=some (.cells (kg rb N) 263 (0,0))
  r:W.heap[rb]?=some (.cells (si s.2).toArray 272 (0,0))
  len:s.2.length=N
  each:∀r∈s.2,r.length=68
def P4{α:Type}{l:List α}{i:Nat}{x:α}(h:l[i]?=some x):l.set i x=l:=by
 obtain⟨hi,rfl⟩:=bn.1 h;exact List.set_getElem_self hi
def Jv(cb xb rb N x:Nat)(s:Nat×List (List Int))(old next:BS)(w:World)(Y:CkR cb xb rb N s w)(J:kB w)(hx:x<N)(hN:N<=60)(g:bF old)(hn:bF next)(hf:∀f∈c8 next,f<68)(hs:s.1<=100000)(h1:cb≠xb)(h2:cb≠rb)(h3:xb≠rb)(m:0<rb):
  Cl 152 #[Iv x,b! old,b! next,.pointer (some (Ad cb 0)),.pointer (some (Ad xb 0))] w fun e I=>e=.returned (b! next)/\CkR cb xb rb N (Yc s x old next) I/\Kx (fun k=>k=cb∨k=xb∨k=rb) w I:=by
 refine(fX (n:=6)).1 ?_;refine callsIn_of_wp_marks func152 rfl trivial ?_ rfl;simp only[b!,ntmps152,kd,bT,eI,Nat.reduceAdd,Nat.reduceSub,rQ,rP,rO,rN,dT,dw];have HWo:Hd (∀X,Cl 153 #[b! next,b! old] X (Rb X (b! (eH next old)))):=fun X=>jJ next old X hn g
 have HAl:Hd (∀X,Cl 154 #[b! (eH next old)] X fun e I=>e=.returned (.func (.func 227) #[] (bE X.heap.size))/\I=X.alloc (.cells #[Uv ((eH next old).1:Int),Uv ((eH next old).2:Int)] 267)):=fun X=>tr (eH next old) X
 have HF:Hd (∀f∈c8 (eH next old),f<68):=fun f h=>by
  obtain⟨a,b⟩:=(cA _ (jj _ _) f).1 h;rw[kj _ _ _ g a,aS]at b;exact hf f ((cA _ hn f).2 ⟨a,b.1⟩)
 have HI:=hid (jj next old);have G:=hid (Aa Y J);have hcl:=blt Y.c;have hxl:=blt Y.x;have Tw:=blt Y.r;have hgl:=dQ (J 0 aj);have HD:Hd (Yc s x old next=(s.1+1,s.2.set x (og (s.2.getD x []) (c8 (eH next old)) (s.1:Int)))):=rfl;generalize eH next old=d at *;simp only[b!]at HWo HAl;clear Y J g hn hf;refine rL.2 ?_
 go_upto_region 1 with(fail)
 refine gnD (F:=Code.wp _ _ _ _) fun W0 R=>?_
 obtain⟨B,y2⟩:=ae R.c;obtain⟨z1,z⟩:=ae R.d
 go_wp2_with (first|(go_at_call 153;refine(HWo.o _).mono ?_;rintro e W1 ⟨rfl,A⟩;have j?:=hid A;clear A B y2 z1 z)|(go_at_call 154;refine(HAl.o _).mono ?_;rintro e W2 ⟨rfl,rfl⟩))
 refine qA (F:=Code.wp _ _ _ _) fun W2 C=>?_
 have b2:=aq j?.o C.a;have t:=aq R.a b2;have lu:=R.E;have O:=j?.o.size;have mC:=C.B;obtain⟨hr,hhr⟩:=La (l:=s.2) (i:=x) (by rw[G.a.len];exact hx);have adA:=G.a.each hr (aL hhr);have U:=HD.o;rw[cx,hhr,xa]at U;have HE:=hid (Aa U hhr);clear HD U hhr HWo HAl;refine(rL (n:=6)).1 ?_
 refine wpIn_rangeFunc_ownF rfl ah (gf:=227) (lb:=(bE W1.heap.size)) rfl trivial (fun M w=>Tryz.call227 M w)
  (k! 5 ah d W1.heap.size (0+1) W2 HI.o (by rw[(ae C.b).1];rfl) (by rw[(ae C.b).1];rfl) (G.A.below t) ah ah) belowK_t (belowK_b ah) (aM _ _) (fun _=>rfl)
  (fun pre W=>(W.heap[rb]?=some (.cells (si (s.2.set x (og hr (pX pre) (s.1:Int)))).toArray 272 (0,0)))/\Kx (fun k=>k=rb) W2 W)
  (fun _ _ _=>False)
  (OwnFrom.and (kY (fun pre=>.cells (si (s.2.set x (og hr (pX pre) (s.1:Int)))).toArray 272 (0,0)) ah) (II (aF _)))
  (fun _ _ _ _ _ hs _ _=>hs)
  ⟨by rw[show og hr (pX ([]:List (j! d))) (s.1:Int)=hr from rfl,P4 HE.A];exact aE t G.a.r,Kx.refl _ _⟩
  (fun f=>{tmps:=#[Iv x,.agg #[Uv old.1,Uv old.2],.agg #[Uv next.1,Uv next.2],.pointer (some (Ad cb 0)),.pointer (some (Ad xb 0)),.pointer (cu w.heap.size),.pointer (cM w.heap.size),.pointer (eD w.heap.size),.pointer (uO w.heap.size),Iv f.1,.agg #[Uv next.1,Uv next.2],.agg #[Uv old.1,Uv old.2],.agg #[Uv d.1,Uv d.2],.func (.func 227) #[] (bE W1.heap.size),Iv f.1,undef,undef,undef,undef,undef,undef,undef,undef,undef],defers:=[]}) ?assign ?body ?done ?stop
 case assign=>
  intro l f W K hK
  gi_wp2
  exact hK
 case body=>
  rintro l pre ⟨f,hf⟩ W ⟨hW,hk⟩ _;have u:=HF.o f hf;have hfi:(f:Int)<68:=ah
  have hxi:(x:Int)<N:=ah
  have HS:=hid (fun W' (h:Kx (fun k=>k=rb) W W')=>Aa (h.box (hk.box (aE t G.a.x) h3) h3) (Aa (h.box (hk.box (aE b2 R.b) ah) ah) (h.box (hk.box (aE t G.a.c) h2) h2)));have HX:=hid (Aa hW hk);clear hW hk
  gi_wp2
  refine Zu (l:=l) (fun W'=>Kx (fun k=>k=rb) W W') 7 (hQ:=by rintro⟨_,_,h⟩;exact h) (hS:=(Kx.refl _ _).drewN 1) (h:=fun aB=>?_);refine tt 0 (b? rb N) (y:=fun W' aU=>by have L:=(ae (HS.o _ aU).1).1;clear aB aU;go_simp) (h:=?_);refine tt 1 (Iv x) (y:=fun W' aU=>by have L:=(ae (HS.o _ aU).2.1).1;clear aB aU;go_simp) (h:=?_);refine tt 2 (Iv f) (h:=?_);refine tt 3 (Iv s.1) (y:=fun W' aU=>by have L:=(ae (HS.o _ aU).2.2).1;clear aB aU;go_simp) (h:=?_);refine tt 4 (.pointer (some (Ad rb (x*68)))) (h:=?_);refine tt 5 (.pointer (some (Ad rb (x*68+f)))) (h:=?_);refine rt 6 (h:=fun K hK=>?_)
  have hl:∀q∈s.2.set x (og hr (pX pre) (s.1:Int)),q.length=68:=fun q hq=>by
   rcases gN hq with hq|rfl
   ·exact G.a.each q hq
   rw[r!];exact adA
  have m:(s.2.set x (og hr (pX pre) (s.1:Int)))[x]?=some (og hr (pX pre) (s.1:Int)):=by rw[eQ,aD rfl,aD (by rw[G.a.len];exact hx)]
  have H:W.cell? (Ad rb (x*68+f))=some (Iv ((og hr (pX pre) (s.1:Int)).getD f 0)):=by rw[(ae HX.a).1,de,B8 _ x f _ hl m u]
  have L:=(ae HX.a).2 (x*68+f)
  go_simp
  have NI:Kx (fun k=>k=rb) W (W.drew.setCell (Ad rb (x*68+f)) (Iv s.1)):=oX ((Kx.refl _ _).drewN 1) _ _;refine hK.out _ _ (fun _=>NI) ?_;clear hK K aB;refine pt ?_;refine dt (h:=?_);have Vq:(W.drew.setCell (Ad rb (x*68+f)) (Iv s.1)).heap[rb]?=some (.cells (si (s.2.set x (og hr (pX (pre++[(⟨f,hf⟩:j! d)])) (s.1:Int)))).toArray 272 (0,0)):=by
   rw[aw (show W.drew.heap[rb]?=_ from HX.a),cS,En _ x f _ _ hl m u,w!,mY,Mt]
  gi_wp2
  exact⟨NI.others (fun k o e h=>by subst e;rw[HX.a]at h;cases h;rfl),NI.below (by have:=HX.A.size;omega) (fun k e=>ah),Vq,HX.A.trans NI⟩
 case done=>
  rintro D ys W U hS ⟨hW,hk⟩ hK;have hS2:pX ys=c8 d:=hS;rw[hS2]at hW;have Z:=hk.box (aE t G.a.c) h2;have hxx:=hk.box (aE t G.a.x) h3;have F:=hk.box (aE b2 R.d) (show ¬w.heap.size+1+1=rb by omega);have Yt:=hk.box (aE b2 R.e) (show ¬w.heap.size+1+1+1=rb by omega);obtain⟨u1,u2⟩:=ae Z;obtain⟨v1,v2⟩:=ae F;obtain⟨t1,E⟩:=ae Yt;have n1:w.heap.size+1+1≠cb:=ah
  have n2:w.heap.size+1+1+1≠cb:=ah
  have n3:=n1.symm;have n4:=n2.symm;have HX:=hid (Aa hW (Aa hk (Aa Z (Aa hxx (Aa F (Aa Yt hK))))));have hDl:w.heap.size+1+1+1<D:=ah
  clear hW hk Z hxx F Yt hK hS hS2
  go_wp2_with fail
  obtain⟨X,T⟩:=Ea (((W.setCell (Ad cb 0) (Iv ((s.1:Int)+1))).setCell (Ad (w.heap.size+1+1+1) 0) (Uv next.1)).setCell (Ad (w.heap.size+1+1+1) 1) (Uv next.2));rw[<-T];have hXh:∀k,k≠cb->k≠w.heap.size+1+1+1->X.heap[k]?=W.heap[k]?:=fun k a b=>by rw[T,aZ _ _ _ _ b,aZ _ _ _ _ b,aZ _ _ _ _ a]
  have hXc:X.heap[cb]?=some (.cells #[Iv ((s.1+1:Nat):Int)] 3 (0,0)):=by
   rw[T,aZ _ _ _ _ n4,aZ _ _ _ _ n4,aw HX.c];rfl
  have hXr:X.heap[w.heap.size+1+1+1]?=some (.cells #[Uv next.1,Uv next.2] 267 (0,0)):=by
   rw[T,aw (aw ((aZ _ _ _ _ n2).trans HX.f) _) _];rfl
  have hXz:X.heap.size=W.heap.size:=by rw[T];simp[World.setCell]
  have hKD:X.heap[D]?=some (.deferred (some [])):=(hXh D ah ah).trans HX.F;refine⟨ak,.inl ⟨_,_,rfl,run_takeDeferred hKD,?_⟩⟩;have hY:∀k,k≠D->(X.putObj D (.deferred none)).heap[k]?=X.heap[k]?:=fun k hk=>World.putObj_heap_other hk
  have r0:=ae ((hY _ ah).trans hXr);refine⟨b! next,by simp[results,results152,go_sem,b!,r0.1],rfl,⟨?_,?_,?_,?_,?_⟩,?_⟩
  ·rw[HE.a];exact(hY _ ah).trans hXc
  ·exact(hY _ ah).trans ((hXh _ h1.symm ah).trans HX.d)
  ·rw[HE.a];exact(hY _ ah).trans ((hXh _ h2.symm ah).trans HX.a)
  ·rw[HE.a];simp;exact G.a.len
  ·rw[HE.a]
   intro q hq;rcases gN hq with hq|rfl
   ·exact G.a.each q hq
   rw[r!];exact adA
  have m:=grownBy_putObj' X D (.deferred none);have hk:=(Kx.of (S:=fun k=>k=cb∨k=xb∨k=rb) t).trans (HX.b.mono fun k _ h=>aI (aI h));refine⟨m.os.trans (by rw[T];exact hk.os),m.tape.trans (by rw[T];exact hk.tape),m.output.trans (by rw[T];exact hk.output),bw hk.size (by rw[<-hXz];exact m.size),fun k Tz hn=>?_⟩;rw[hY k ah,hXh k (fun e=>hn (aJ e)) ah];exact hk.keep k Tz hn
 rintro D c pre W _ _ h _;exact h.elim
end
section
variable {W W':World} {X:Nat->Prop} {B e size n nb B':Nat} {v:Value} {M:List Value} {cs:Array Value}
structure NE where
  fa:Option Addr
  fc:Nat
  fs:List Nat
  ra:Option Addr
  rc:Nat
  rs:List Int
abbrev NE.fv(e:NE):Value:=.slice e.fa e.fs.length e.fc
abbrev NE.rv(e:NE):Value:=.slice e.ra e.rs.length e.rc
def K8:NE:=⟨none,0,[],none,0,[]⟩
def K7(e:NE):List Value:=[e.fv,e.rv,.bool false,Iv 0,.slice none 0 0]
def jd(l:List NE):List Value:=l.flatMap K7
def sF:∀(l:List NE) (k:Nat) (e:NE) (j:Nat),l[k]?=some e->j<5->(jd l)[k*5+j]?=(K7 e)[j]?
 |[],k,e,j,h,_=>by simp at h
 |a :: q,0,e,j,h,hj=>by
  simp at h;subst h;simp only[jd,bY,gU,ct];rw[mE (by simp[K7];omega)]
 |a :: q,k+1,e,j,h,hj=>by
  have B:=sF q k e j (by simpa using h) hj;simp only[jd,bY]at B⊢;rw[fC (by simp[K7];omega),<-B]
  congr 1
  simp[K7];omega
def uq:∀(l:List NE) (k:Nat) (e f:NE) (j:Nat) (v:Value),l[k]?=some e->j<5->K7 f=(K7 e).set j v->(jd l).set (k*5+j) v=jd (l.set k f)
 |[],k,e,f,j,v,h,_,_=>by simp at h
 |a :: q,0,e,f,j,v,h,U,he=>by
  simp at h;subst h;simp only[jd,dm,bY,gU,ct];rw[DL _ _ (by simp[K7];omega),he]
 |a :: q,k+1,e,f,j,v,h,U,he=>by
  have B:=uq q k e f j v (by simpa using h) U he;simp only[jd,cU,bY]at B⊢;rw[ou _ _ (by simp[K7];omega),<-B]
  congr 2
  simp[K7];omega
def C0:(Tryz.prog.info? 96).map (fun i=>(i.zero,i.size,i.bytes))=some (some (.agg lf),5,88):=au
def Vf:(Tryz.prog.info? 272).map (fun i=>(i.zero,i.size,i.bytes))=some (some (.agg (Array.replicate 68 (Iv 0))),68,544):=au
def VM(n:Nat):(List.replicate n [Value.slice none 0 0,.slice none 0 0,.bool false,Iv 0,.slice none 0 0]).flatten=jd (List.replicate n K8):=by
 induction n with
 |zero=>rfl
 |succ n B=>rw[dN,l6,B,dN];rfl
def R3(n:Nat):(List.replicate n (Array.replicate 68 (Iv 0)).toList).flatten=si (List.replicate n (List.replicate 68 0)):=by
 induction n with
 |zero=>rfl
 |succ n B=>
  rw[dN,l6,B,dN];simp only[si,bY]
  congr 1
structure zd(W:World)(B:Nat)(e:NE):Prop where
  f:W.ownsRow B 3 1 e.fv e.fs.length (e.fs.map OI)
  r:W.ownsRow B 3 1 e.rv e.rs.length (e.rs.map Iv)
def QA{t:Nat}(h:W.ownsRow B e size v n M)(hk:Kx X W W')(T:∀k,X k->k=nb∨W.heap.size<=k)(hb:W.heap[nb]?=some (cJ cs t))(he:e≠t):W'.ownsRow B e size v n M:=by
 refine⟨h.1,?_⟩;rcases h.2 with a|⟨g,C,A,G,O,Y,K⟩
 ·exact aJ a
 refine aI ⟨g,C,A,G,O,hk.box Y (fun E=>?_),K⟩;rcases T g E with Q|Q
 ·subst Q;rw[Y]at hb;simp at hb;exact he hb.2
 have:=blt Y;omega
def zd.kx{e:NE}(h:zd W B e)(hk:Kx X W W')(T:∀k,X k->k=nb∨W.heap.size<=k)(hb:W.heap[nb]?=some (.cells cs 96 (0,0))):zd W' B e:=
 ⟨QA h.f hk T hb aj,QA h.r hk T hb aj⟩
def tC(e:NE):Nd:=⟨e.fs.map Int.ofNat,e.rs,false,0,[]⟩
def A4{c:Nat}{a:Option Addr}{M:List Int}(h:W.ownsRow B 3 1 (.slice a n c) n (M.map Iv)):cz W a M/\(a=none->c=0):=by
 rcases h.2 with⟨t,o⟩|⟨g,C,A,t,_⟩
 ·simp at t
  have G:=h.1;refine⟨fun j x U=>?_,fun _=>t.2.2⟩;rw[o]at G;simp at G;subst G;simp at U
 simp at t;obtain⟨rfl,rfl⟩:=t;refine⟨fun j x U=>⟨g,0,rfl,?_⟩,fun e=>by cases e⟩;have:=h.cells (g:=g) rfl j (Iv x) (by rw[bG,U];rfl)
 rwa[gw]at this
def M7{l:List NE}(hb:W.heap[nb]?=some (.cells (jd l).toArray 96 (0,0)))(g:∀e∈l,zd W B e):cj W (some (Ad nb 0)) (l.map tC):=by
 intro j n U;rw[bG]at U;cases H:l[j]? with
 |none=>rw[H]at U;cases U
 |some e=>
  rw[H]at U;simp at U;subst U;have G:=g e (aL H);have Z:∀k,k<5->W.cell? (Ad nb (0+j*5+k))=(K7 e)[k]?:=fun k X=>by rw[(ae hb).1,de,ct,sF l j e k H X]
  have V:e.fs.map OI=(e.fs.map Int.ofNat).map Iv:=by rw[kJ];rfl
  have O:=A4 (by have:=G.f;rw[V]at this;exact this);have Y:=A4 G.r;refine⟨nb,0,e.fa,e.ra,none,e.fc,e.rc,0,rfl,?_,Z 1 ah,Z 2 ah,Z 3 ah,Z 4 ah,⟨O.1,Y.1,fun j v h=>by simp[tC]at h,O.2,Y.2,fun _=>rfl⟩⟩;have:=Z 0 ah
  simpa[K7,tC]using this
def fU(B:Nat)(w:World)(nb:Nat)(ns:List Nd):Prop:=∀W:World,(∀k,B<=k->k<w.heap.size->W.heap[k]?=w.heap[k]?)->cj W (some (Ad nb 0)) ns
def QC(h:W.ownsRow B e size v n M)(f:B'<=B)(hk:∀k,B'<=k->k<W.heap.size->W'.heap[k]?=W.heap[k]?):W'.ownsRow B e size v n M:=
 ⟨h.1,h.2.imp id fun⟨g,C,A,G,O,Y,K⟩=>⟨g,C,A,G,O,(hk g ah (blt Y)).trans Y,K⟩⟩
def M8{l:List NE}(hb:W.heap[nb]?=some (.cells (jd l).toArray 96 (0,0)))(g:∀e∈l,zd W B e)(f:B'<=B)(hn:B'<=nb):fU B' W nb (l.map tC):=fun _ X=>
 M7 ((X nb hn (blt hb)).trans hb) fun e H=>⟨QC (g e H).f f X,QC (g e H).r f X⟩
def fU.at{w:World}{a:List Nd}(h:fU B w nb a):cj w (some (Ad nb 0)) a:=h w fun _ _ _=>rfl
end
section
open Go.RowKit Go.Shelf Go.Proofs Go.Maps Tryz
attribute [local go_sem] Oper.semAt_some
def zi(v:Vl):List Value:=[Iv v.kind,Iv v.lo,Iv v.hi,.bool v.early,Iv v.first,Iv v.rank]
def dR(vs:List Vl):List Value:=vs.flatMap zi
def xn{vs:List Vl}{k:Nat}{v:Vl}(h:vs[k]?=some v):dR (vs.take (k+1))=dR (vs.take k)++zi v:=by
 have hl:=(bn.1 h).1;rw[dS hl,(bn.1 h).2];simp[dR]
def RX(v:VV):Vl:=if v.any then⟨2,0,0,false,0,0⟩ else⟨1,v.lo,0,false,0,0⟩
def OU(e:PE)(n:Nat):List Vl:=(List.range n).map fun i=>RX (e.at i)
def RY(e:PE){n i:Nat}(h:i<n):(OU e n)[i]?=some (RX (e.at i)):=by simp[OU,h]
def wm(e:PE)(n:Nat):(OU e n).length=n:=by simp[OU]
def QD{W:World}{B B' e size n:Nat}{v:Value}{M:List Value}(h:W.ownsRow B e size v n M)(hb:B'<=B):W.ownsRow B' e size v n M:=
 ⟨h.1,h.2.imp id fun⟨g,C,A,G,O,Y⟩=>⟨g,C,A,G,bw hb O,Y⟩⟩
theorem XR{p:Prop}(h:p:=by
 go_roundw
 case rel=>
  refine⟨j+1,z,f,J,by go_num,rfl,?_,?_⟩
  ·rw[W.o,t];exact i.o.1
  exact((aq M.o.2 Z.o.1).alloc (aq M.o.2 Z.o.1).size _).grown i.o.2 (by have:=(aq M.o.2 Z.o.1).size;simp;omega) (fun q e=>((bp M.o.1 Z.o.1).lt q e).1)
 simp[intOf];omega):p:=h
def zN(e:PE)(n:Nat)(w:World)(hn:n<=8):
  Cl 142 #[.agg (KC.aH e).toArray,Iv n] w fun r I=>∃a c,r=.returned (.slice a n c)/\I.ownsRow w.heap.size 73 6 (.slice a n c) n (dR (OU e n))/\Bl w I:=by
 obtain⟨L,hi,D,O,K⟩:=cY yH;have b:Hd (_/\_/\_/\_):=⟨hi,D,O,K⟩;clear hi D O K;have h:(n:Int)<=8:=ah
 go_enter func142,ntmps142
 go_upto_region 1 with fail
 refine qA (F:=Code.wp _ _ _ _) fun H R=>?_
 have m:=R.B;have v:=hid m;clear m
 go_wp2_with fail
 go_loopw[5,12] (fun g p wr=>∃(j:Nat) (a:Option Addr) (c:Nat),j<=n/\p=Iv j/\g=.slice a j c/\Hd (wr.ownsRow H.heap.size 73 6 (.slice a j c) j (dR ((OU e n).take j))/\Bl H wr)) (fun _ p _=>n-(intOf p).toNat)
 case atStart=>exact⟨0,none,0,bB _,rfl,rfl,dF _ _ _ _,aM _ _⟩
 obtain⟨j,a,c,U,rfl,rfl,M⟩:=hrel;by_cases J:j<n;rotate_left
 ·have s:¬(j:Int)<n:=ah
  obtain rfl:j=n:=ah
  go_wp2_with fail
  refine aG (v:=.slice a j c) (by simp[results,results142,go_sem]) rfl ⟨a,c,rfl,?_,aq R.a M.A⟩;have G:=M.a;rw[cP (by rw[wm];exact aF _)]at G;exact QD G (by rw[v.o];omega)
 have s:(j:Int)<n:=ah
 have l:=ae (aE M.A R.b);obtain⟨S,Q⟩:=KC.iJ e (i:=j) ah;have o:wr.cell? (Ad w.heap.size (1+j*2))=some (.bool (e.at j).any):=by rw[l.1];exact(de ..).trans S
 have C:wr.cell? (Ad w.heap.size (1+j*2+1))=some (Iv (e.at j).lo):=by rw[l.1];exact(de ..).trans Q
 have W:=hid (xn (RY e J));clear l S Q
 go_upto_region 5 with fail
 refine qA (F:=Code.wp _ _ _ _) fun T Z=>?_
 clear o C;obtain⟨F,y⟩:=ae Z.b;have Y:=hid Z.B;cases k:(e.at j).any with
 |true=>
  rw[k]at F;have t:RX (e.at j)=⟨2,0,0,false,0,0⟩:=by simp[RX,k]
  go_wp2_with (at_builtin;refine nj _ rfl _ _ 71 rfl H.heap.size 73 L (.agg iB) 6 48 underlying71 b.a b.b b.c b.C rfl aj (.slice a j c) j (dR ((OU e n).take j)) rfl ((bp M.a Z.a).alloc _) (Ad T.heap.size 0) 1 1 (zi ⟨2,0,0,false,0,0⟩) rfl rfl (E6 (bf T _)) (by intro u E;simp only[zi,cQ,gM,ga]at E;rcases E with rfl|rfl|rfl|rfl|rfl|rfl<;>rfl) (by simp only[maxLen];omega) ah (by have:=(aq M.A Z.a).size;simp;omega) ?_;intro A B d x _;obtain⟨z,f,rfl⟩:=bS d;have i:=hid (Aa d x);clear d x)
  exact XR
 |false=>
  rw[k]at F;have t:RX (e.at j)=⟨1,(e.at j).lo,0,false,0,0⟩:=by simp[RX,k]
  go_wp2_with (at_builtin;refine nj _ rfl _ _ 71 rfl H.heap.size 73 L (.agg iB) 6 48 underlying71 b.a b.b b.c b.C rfl aj (.slice a j c) j (dR ((OU e n).take j)) rfl ((bp M.a Z.a).alloc _) (Ad T.heap.size 0) 1 1 (zi ⟨1,(e.at j).lo,0,false,0,0⟩) rfl rfl (E6 (bf T _)) (by intro u E;simp only[zi,cQ,gM,ga]at E;rcases E with rfl|rfl|rfl|rfl|rfl|rfl<;>rfl) (by simp only[maxLen];omega) ah (by have:=(aq M.A Z.a).size;simp;omega) ?_;intro A B d x _;obtain⟨z,f,rfl⟩:=bS d;have i:=hid (Aa d x);clear d x)
  exact XR
end
section
variable {j g k:Nat} {W:World} {l:List Vl} {tl:List Value}
open Go.RowKit Go.Shelf Go.Proofs Go.Maps Tryz
attribute [local go_sem] Oper.semAt_some
def IV(old next:PE)(r:Int)(i:Nat)(v:Vl):Vl:=if (next.at i).any&&!(old.at i).any then⟨2,0,0,true,(old.at i).lo,r⟩ else v
def IW(old next:PE)(r:Int)(vs:List Vl)(j:Nat):List Vl:=vs.mapIdx fun i v=>if i<j then IV old next r i v else v
def Gu(old next:PE)(r:Int)(vs:List Vl):List Vl:=vs.mapIdx fun i v=>IV old next r i v
def QO(old next:PE)(r:Int)(vs:List Vl):IW old next r vs 0=vs:=by
 refine dW fun i=>?_
 simp[IW]
def CJ(old next:PE)(r:Int)(vs:List Vl)(j:Nat):(IW old next r vs j).length=vs.length:=by simp[IW]
def UM(old next:PE)(r:Int)(vs:List Vl):IW old next r vs vs.length=Gu old next r vs:=by
 refine dW fun i=>?_
 simp only[IW,Gu,List.getElem?_mapIdx];cases h:vs[i]? with
 |none=>rfl
 |some v=>have:=(bn.1 h).1;simp[this]
def QP(old next:PE)(r:Int)(vs:List Vl){v:Vl}(h:vs[j]?=some v):IW old next r vs (j+1)=(IW old next r vs j).set j (IV old next r j v):=by
 refine dW fun i=>?_
 rw[eQ,CJ];by_cases hi:j=i
 ·subst hi
  have:=(bn.1 h).1;rw[aD rfl,aD this];simp only[IW,List.getElem?_mapIdx,h,kI,aD (Nat.lt_succ_self j)]
 have:(i<j+1)=(i<j):=by simp;omega
 simp[IW,hi,this]
def E2(old next:PE)(r:Int)(vs:List Vl)(h:((next.at j).any&&!(old.at j).any)=false):IW old next r vs (j+1)=IW old next r vs j:=by
 refine dW fun i=>?_
 by_cases hi:i=j
 ·subst hi
  have t:∀v,IV old next r i v=v:=fun v=>by unfold IV;rw[h];rfl
  simp[IW,t]
 have:(i<j+1)=(i<j):=by simp;omega
 simp[IW,this]
def pC(l:List Vl):(dR l).length=l.length*6:=by
 induction l with
 |nil=>rfl
 |cons a l B=>simp only[dR,bY,bu,bT]at B⊢;rw[B];simp[zi];omega
def tZ(a b:List Vl):dR (a++b)=dR a++dR b:=by simp[dR]
def T6(v:Vl):∀u∈zi v,u.oneCell'=true:=by
 intro u E;simp only[zi,cQ,gM,ga]at E;rcases E with rfl|rfl|rfl|rfl|rfl|rfl<;>rfl
abbrev J0(W:World)(g:Nat)(l:List Vl)(tl:List Value):Prop:=W.heap[g]?=some (.cells (dR l++tl).toArray 73 (0,0))
def J0.set(v:Vl)(h:J0 W g l tl)(hk:k<l.length):J0 (W.setCells g (k*6) (zi v)) g (l.set k v) tl:=by
 have Q:l=l.take k++l[k] :: l.drop (k+1):=ak
 have z:dR l++tl=dR (l.take k)++(zi l[k]++(dR (l.drop (k+1))++tl)):=by
  conv=>lhs;rw[Q]
  rw[tZ,dj];exact dv _ (dj _ _ _)
 have I:dR (l.set k v)++tl=dR (l.take k)++(zi v++(dR (l.drop (k+1))++tl)):=by
  rw[wZ,aD hk,tZ,dj];exact dv _ (dj _ _ _)
 unfold J0 at h⊢;rw[z]at h;rw[I];have hl:(dR (l.take k)).length=k*6:=by rw[pC,dL,jW ah]
 rw[<-hl];exact vO (cs:=zi l[k]) (vs:=zi v) h rfl
def J0.there(h:J0 W g l tl)(hk:k<l.length):W.there g (k*6) 6:=fun j U=>by
 obtain⟨F,y⟩:=ae h;have hl:k*6+j<(dR l++tl).length:=by rw[bu,pC];omega
 refine⟨?_,y _⟩;rw[F,de,bk hl];rfl
def sL{S:Nat->Prop}{w:World}{b:Nat}(hb:S b∨w.heap.size<=b):∀{I:World},Kx S w I->∀(o:Nat) (vs:List Value),Kx S w (I.setCells b o vs)
 |_,h,_,[]=>h
 |_,h,o,v :: r=>sL hb (h.set hb o v) (o+1) r
def XQ{p:Prop}(h:p:=by
 go_wp2_with fail
 go_roundw
 case rel=>exact⟨j+1,J,h',by rw[b.o];exact M.a,M.A⟩
 simp[intOf];omega):p:=h
def CK(va:Option Addr)(vc g:Nat)(tl:List Value)(vs:List Vl)(old next:PE)(r:Int)(w:World)(hn:vs.length<=8)(hr:eX r)(h:vs≠[]->va=some (Ad g 0)/\J0 w g vs tl):
  Cl 141 #[.slice va vs.length vc,.agg (KC.aH old).toArray,.agg (KC.aH next).toArray,Iv r] w fun e I=>(∃v,e=.returned v)/\(vs≠[]->J0 I g (Gu old next r vs) tl)/\Kx (fun k=>k=g/\vs≠[]) w I:=by
 have l:=hid h;obtain⟨n,z⟩:=Ea vs.length;rw[<-z]at hn⊢;have m:=hid z;clear z h;go_enter func141,ntmps141
 go_upto_region 1 with fail
 refine gnB (F:=Code.wp _ _ _ _) fun H R=>?_
 have q:=hid R.C
 go_wp2_with fail
 go_loopw[11] (fun p wr=>∃(j:Nat),j<=n/\p=Iv j/\Hd ((vs≠[]->J0 wr g (IW old next r vs j) tl)/\Kx (fun k=>k=g/\vs≠[]) H wr)) (fun p _=>n-(intOf p).toNat)
 case atStart=>exact⟨0,bB _,rfl,fun t=>by rw[QO];exact aE R.a (l.o t).2,Kx.refl _ _⟩
 obtain⟨j,y,rfl,M⟩:=hrel;by_cases J:j<n;rotate_left
 ·have s:¬(j:Int)<n:=ah
  obtain rfl:j=n:=ah
  go_wp2_with fail
  go_end0
  refine⟨⟨_,rfl⟩,fun t=>?_,(Kx.of R.a).trans M.A⟩;have G:=M.a t;rw[m.o,UM]at G;exact G
 have s:(j:Int)<n:=ah
 have a:(j:Int)<8:=ah
 obtain⟨v,t⟩:=La (l:=vs) (i:=j) (by rw[<-m.o];exact J);have P:vs≠[]:=by rintro rfl;simp at t
 obtain⟨rfl,c⟩:=l.o P;have i:=blt c;have u:=M.A.box R.b (by rintro⟨h,_⟩;omega);have x:=M.A.box R.c (by rintro⟨h,_⟩;omega);obtain⟨d,C⟩:=KC.Qo u (i:=j) ah;obtain⟨S,Q⟩:=KC.Qo x (i:=j) ah;have o:=hid t;have Z:=hid (M.a P);have N:=(M.a P).there (k:=j) (by rw[CJ,<-m.o];exact J);clear u x t c;cases E:(next.at j).any with
 |false=>
  rw[E]at S;have b:=hid (E2 old next r vs (j:=j) (by simp[E]));exact XQ
 | true=>
  rw[E]at S;cases T:(old.at j).any with
  |true=>
   rw[T]at d;have b:=hid (E2 old next r vs (j:=j) (by simp[E,T]));exact XQ
  |false=>
   rw[T]at d;have b:=hid (QP old next r vs o.o);have f:IV old next r j v=⟨2,0,0,true,(old.at j).lo,r⟩:=by simp[IV,E,T]
   go_upto_region 5 with fail
   go_upto_region 6 with(refine wpList_store_mid rfl 73 (.tmp 36) (.tmp 35) rfl g (j*6) (zi ⟨2,0,0,true,(old.at j).lo,r⟩).toArray rfl rfl N au (all_oneCell_toArray (T6 _)) ?_)
   have O:=hid (Aa (Z.o.set ⟨2,0,0,true,(old.at j).lo,r⟩ (k:=j) (by rw[CJ,<-m.o];exact J)) (sL (.inl ⟨rfl,P⟩) M.A (j*6) (zi ⟨2,0,0,true,(old.at j).lo,r⟩)));generalize wr.setCells g (j*6) (zi ⟨2,0,0,true,(old.at j).lo,r⟩)=U at O⊢;clear d C S Q N Z;simp only[Act.put]
   go_wp2_with fail
   go_roundw
   case rel=>exact⟨j+1,J,h',fun _=>by rw[b.o,f];exact O.a,O.A⟩
   simp[intOf];omega
end
section
variable {hs:List BS} {f n x:Nat} {R:RS} {P:Pm} {p:Int}
def jZ(rs:List (List Int))(i f:Nat):Int:=(rs.getD i []).getD f 0
structure Tc(P:Pm)(p:Int)(R:RS)(s:Nat×List (List Int))(hs:List BS)(wt:BS):Prop where
  rl:s.2.length=P.nd.length
  rows:∀r∈s.2,r.length=68
  low:∀i f,f<128->bt (cn hs i) f=true->f<P.facts p
  snd:∀i,i<P.nd.length->bt wt i=false->zS (eH (jU R (cn hs) i) (cn hs i))=true
  rk:∀i f,i<P.nd.length->f<128->bt (cn hs i) f=true->0<=jZ s.2 i f/\jZ s.2 i f<s.1/\P.rule p f i (fun m=>bt (cn hs m) f&&decide (jZ s.2 m f<jZ s.2 i f))=true
  ik:s.1+muS hs<=P.nd.length*128
def Lx(N i:Nat):cn (List.replicate N (0,0)) i=(0,0):=by
 unfold cn;rw[cx,mD];split<;>rfl
def adO:c8 (0,0)=[]:=by rw[uC];rw[G?];intro f _;rw[iW];simp
def UX(N:Nat):muS (List.replicate N (0,0))=N*128:=by
 unfold muS;rw[w8,adO]
 induction N with
 |zero=>rfl
 |succ n B=>rw[dN,tU,B];simp;omega
def JN{m:Nat}(h:bt (cn hs m) f=true):m<hs.length:=by
 rcases iw m hs.length with G|G
 ·exact G
 rw[show cn hs m=(0,0)by unfold cn;rw[cx,bU G];rfl,iW]at h;cases h
def Mw{held a:Nat->BS}(h:∀r,R[n]?=some r->∀e∈r.2,held e.1=a e.1):jU R held n=jU R a n:=by
 unfold jU;cases L:R[n]? with
 |none=>rfl
 |some r=>
  simp only[XW]
  congr 2
  refine eM fun e H=>?_
  rw[h r L e H]
def vQ(h:zb P p R)(hl:∀i f,f<128->bt (cn hs i) f=true->f<P.facts p)(hn:n<P.nd.length)(hf:f<128):bt (jU R (cn hs) n) f=(decide (f<P.facts p)&&P.rule p f n fun m=>bt (cn hs m) f):=
 vP h (fun m f G O=>by
  cases D:bt (cn hs m) f with
  |false=>rfl
  |true=>have:=hl m f O D;omega) hn hf
def pV{z:BS}(hx:x<hs.length)(i:Nat):cn (hs.set x z) i=if x=i then z else cn hs i:=mX hs x i z (0,0) hx
def Ep{rs:List (List Int)}{r:List Int}(hx:x<rs.length)(i f:Nat):jZ (rs.set x r) i f=if x=i then r.getD f 0 else jZ rs i f:=by
 unfold jZ;rw[mX rs x i r [] hx];split<;>rfl
def snS(h:zb P p R):SnS R P.nd.length (Qi R P.nd.length) Yc (Tc P p R) (0,List.replicate P.nd.length (List.replicate 68 0)):=by
 have C:=h.ins.most;refine⟨?_,?_,?_⟩
 ·refine⟨ak,fun r L=>by rw[ji L];simp,fun i f _ D=>?_,fun i hi D=>?_,fun i f _ _ D=>?_,?_⟩
  ·rw[Lx,iW]at D;cases D
  ·rw[vm _ _ ah ah]at D;simp at D;omega
  ·rw[Lx,iW]at D;cases D
  rw[UX];simp
 ·intro s z c x N l E D
  have k:=l.low x E;refine⟨N.rl,N.rows,N.low,fun i hi M=>?_,N.rk,N.ik⟩;by_cases e:i=x
  ·subst e;exact D
  refine N.snd i hi ?_;rw[kj _ _ _ (jE ah) ah,rH ah ah]at M
  simpa[e]using M
 intro s z c x N l E D;have k:=l.low x E;have Q:x<z.length:=by rw[l.len];exact k
 have w:x<s.2.length:=by rw[N.rl];exact k
 have q:=eW l.each x;have t:=xE h.ins (eW l.each) x
 have j:∀f,f<128->bt (jU R (cn z) x) f=true->f<P.facts p:=fun f V D=>by
  rw[vQ h N.low k V,aS]at D
  simpa using D.1
 have y:=Le Q q D
 have d:∀f,f<128->(f∈c8 (eH (eP (cn z x) (jU R (cn z) x)) (cn z x))↔bt (jU R (cn z) x) f=true/\bt (cn z x) f=false):=fun f V=>by
  rw[cA _ (jj _ _),kj _ _ _ q V,gC];cases bt (cn z x) f<;>cases bt (jU R (cn z) x) f<;>simp[V]
 have u:∀f,f<P.facts p->f<(s.2.getD x []).length:=fun f V=>by
  have G:=N.rows (s.2.getD x []) (by rw[cx,bk w];exact eL w);have O:=h.few;omega
 have hold:∀i f,f<128->bt (cn z i) f=true->jZ (Yc s x (cn z x) (eP (cn z x) (jU R (cn z) x))).2 i f=jZ s.2 i f:=fun i f V a=>by
  show jZ (s.2.set x _) i f=_;rw[Ep w];split
  ·rename_i e
   subst e;rw[xD _ _ _ _ (u f (N.low _ f V a)),aA (fun J=>by rw[((d f V).1 J).2]at a;cases a)];rfl
  rfl
 have n:∀i f,bt (cn z i) f=true->bt (cn (z.set x (eP (cn z x) (jU R (cn z) x))) i) f=true:=fun i f a=>by
  rw[pV Q];split
  ·rename_i e;subst e;rw[gC,a];rfl
  exact a
 refine⟨by simp[Yc];exact N.rl,fun r L=>?_,fun i f V a=>?_,fun i hi M=>?_,fun i f hi V a=>?_,?_⟩
 ·rcases gN L with L|rfl
  ·exact N.rows r L
  rw[r!];exact N.rows _ (by rw[cx,bk w];exact eL w)
 ·rw[pV Q]at a
  split at a
  ·rw[gC,dO]at a
   rcases a with a|a
   ·exact N.low x f V a
   exact j f V a
  exact N.low i f V a
 ·have L:=Ck (R:=R) C x
  rw[gC,BP,kj _ _ _ (jE ah) ah,rH ah ah,Dq _ _ _ _ ah (fun m f V=>?_) _ ah]at M;rotate_left
  ·rw[cx,bG]at V
   cases L:R[m]? with
   |none=>rw[L]at V;simp at V
   |some r=>
    rw[L]at V;simp at V;obtain⟨b,D⟩:=V;exact((h.ins.each r (aL L)).2.2 _ D).2
  have o:jU R (cn (z.set x (eP (cn z x) (jU R (cn z) x)))) i=jU R (cn z) i:=by
   refine Mw fun r L e H=>?_
   rw[pV Q,aA];intro A;have O:=M.2;rw[show decide (i<P.nd.length)=true by simpa using hi,fj]at O;have:x∈(R.map fun r=>r.2.map (·.1)).getD i []:=by
    rw[cx,bG,L];exact bP.2 ⟨e,H,A.symm⟩
   simp at O;exact O (by simpa using this)
  rw[o];by_cases e:x=i
  ·subst e
   rw[pV Q,aD rfl];exact(mP (gp q t)).2 fun f _ a=>by rw[gC,a];simp
  rw[pV Q,aA e];refine N.snd i hi ?_;have G:=M.1
  simpa[show ¬i=x from fun B=>e B.symm]using G
 ·have v:∀r:Int,∀m,(bt (cn z m) f&&decide (jZ s.2 m f<r))=true->(bt (cn (z.set x (eP (cn z x) (jU R (cn z) x))) m) f&&decide (jZ (Yc s x (cn z x) (eP (cn z x) (jU R (cn z) x))).2 m f<r))=true:=fun r m T=>by
   rw[aS]at T⊢;rw[hold m f V T.1];exact⟨n m f T.1,T.2⟩
  cases g:bt (cn z i) f with
  |true=>
   obtain⟨G,O,Y⟩:=N.rk i f hi V g;rw[hold i f V g];exact⟨G,by show _<((s.1+1:Nat):Int);omega,pF (v _) Y⟩
  | false=>
   rw[pV Q]at a;split at a;rotate_left
   ·rw[g]at a;cases a
   rename_i e
   subst e;rw[gC,g,jg]at a;have L:jZ (Yc s x (cn z x) (eP (cn z x) (jU R (cn z) x))).2 x f=s.1:=by
    show jZ (s.2.set x _) x f=_;rw[Ep w,aD rfl,xD _ _ _ _ (u f (j f V a)),aD ((d f V).2 ⟨a,g⟩)]
   rw[L];refine⟨ah,by show _<((s.1+1:Nat):Int);omega,pF (th:=fun m=>bt (cn z m) f) (fun m T=>v s.1 m ?_) ?_⟩
   ·rw[aS,T]
    exact⟨rfl,by simpa using(N.rk m f (by have:=JN T;rw[l.len]at this;exact this) V T).2.1⟩
   rw[vQ h N.low k V,aS]at a;exact a.2
 show s.1+1+_<=_;have:=N.ik;omega
end
section
variable {X W9 W:World} {B e size n i:Nat} {v:Value} {M:List Value} {row:Option Nat} {l r:List NE} {x:NE}
structure JF(N nb i:Nat)(U:World)(l:List NE)(cur:NE)(W:World):Prop where
  fB:W.heap[nb]?=some (.cells (jd (l++cur :: List.replicate (N-(i+1)) K8)).toArray 96 (0,0))
  own:zd W U.heap.size cur
  OV:cur.fv.ownBlock=none∨cur.fv.ownBlock≠cur.rv.ownBlock
  kx:Kx (fun k=>k=nb) U W
def sy(h:X.ownsRow B e size v n M)(g:X.grownBy W9 row)(hd:v.ownBlock=none∨v.ownBlock≠row):W9.ownsRow B e size v n M:=by
 refine⟨h.1,?_⟩;rcases h.2 with a|⟨q,C,cur,G,O,Y,K⟩
 ·exact aJ a
 refine aI ⟨q,C,cur,G,O,(g.block q (blt Y) (fun e=>?_)).trans Y,K⟩;rw[G]at hd;rcases hd with hd|hd
 ·simp[Value.ownBlock]at hd
 exact hd (by rw[<-e];rfl)
def nB{b o t:Nat}{u:Value}{cs:Array Value}(h:W.ownsRow B e size v n M)(hb:W.heap[b]?=some (cJ cs t))(he:e≠t):(W.setCell (Ad b o) u).ownsRow B e size v n M:=by
 have c:=lI h hb he;refine⟨h.1,?_⟩;rcases h.2 with a|⟨q,C,cur,G,O,Y,K⟩
 ·exact aJ a
 refine aI ⟨q,C,cur,G,O,?_,K⟩;rw[aZ _ _ _ _ (by rintro rfl;exact c (by rw[G];rfl))];exact Y
def FQ{W:World}{v':Value}(h:X.ownsRow B e size v n M)(hd:v.ownBlock=none∨v.ownBlock≠row)(hn:v'.ownBlock=row∨v'.ownBlock=some X.heap.size):v.ownBlock=none∨v.ownBlock≠v'.ownBlock:=by
 rcases hn with hn|hn
 ·rw[hn];exact hd
 rcases hd with hd|hd
 ·exact aJ hd
 refine aI fun e=>?_
 rw[hn]at e;have:=(h.lt _ e).2;omega
def I2{a b:Option Nat}(h:a=none∨a≠b):b=none∨b≠a:=by
 rcases h with rfl|h
 ·cases b with
  |none=>exact aJ rfl
  |some k=>exact aI ak
 exact aI fun e=>h e.symm
def at_len(h:l.length=i):(l++x :: r)[i]?=some x:=by subst h;simp
def KA{y:NE}(h:l.length=i):(l++x :: r).set i y=l++y :: r:=by subst h;simp
def Lp{U T:World}{nb:Nat}(h:Kx (fun k=>k=nb) U W)(hb:Bl W T)(g:T.grownBy W9 row)(hl:∀q,q<U.heap.size->some q≠row):Kx (fun k=>k=nb) U W9:=
 ⟨(g.os.trans hb.os).trans h.os,(g.tape.trans hb.tape).trans h.tape,(g.output.trans hb.output).trans h.output,bw h.size (bw hb.size g.size),fun k X J=>((g.block k (fD X (bw h.size hb.size)) (hl k X)).trans (hb.block k (fD X h.size))).trans (h.keep k X J)⟩
section
variable {N nb i:Nat} {U W T W9:World} {l:List NE} {cur:NE} {a9:Option Addr} {c9:Nat}
def JF.low(h:JF N nb i U l cur W){q:Nat}(g:T.ownsRow U.heap.size 3 1 v n M)(hq:q<U.heap.size):some q≠v.ownBlock:=fun e=>by have:=(g.lt q e.symm).1;omega
def JF.facts(h:JF N nb i U l cur W)(hl:l.length=i)(hb:Bl W T)(f:Nat)(x:T.grownBy W9 cur.fv.ownBlock)(d:W9.ownsRow U.heap.size 3 1 (dH a9 cur.fs.length c9) (cur.fs.length+1) (cur.fs.map OI++[OI f]))(hn:(Value.slice a9 (cur.fs.length+1) c9).ownBlock=cur.fv.ownBlock∨(Value.slice a9 (cur.fs.length+1) c9).ownBlock=some T.heap.size)(L:nb<U.heap.size):
  JF N nb i U l ⟨a9,c9,cur.fs++[f],cur.ra,cur.rc,cur.rs⟩ (W9.setCell (Ad nb (i*5)) (dH a9 cur.fs.length c9)):=by
 have of:=bp h.own.f hb;have a:=bp h.own.r hb;have p:W9.heap[nb]?=_:=(x.block nb (blt (aE hb h.fB)) (h.low of L)).trans (aE hb h.fB);have b:=sy a x (I2 h.OV);refine⟨?_,⟨?_,nB b p aj⟩,?_,?_⟩
 ·rw[aw p,cS]
  congr 3
  have:=uq (l++cur :: List.replicate (N-(i+1)) K8) i cur ⟨a9,c9,cur.fs++[f],cur.ra,cur.rc,cur.rs⟩ 0 (dH a9 cur.fs.length c9) (at_len hl) ah (by simp[K7]);rw[KA hl]at this;exact this
 ·have:=nB (o:=i*5) (u:=.slice a9 (cur.fs.length+1) c9) d p aj
  simpa[NE.fv]using this
 ·have:=I2 (FQ (W:=W) a (I2 h.OV) hn)
  simpa[NE.fv,NE.rv]using this
 exact oX (Lp h.kx hb x fun q A=>h.low of A) _ _
def JF.aO(h:JF N nb i U l cur W)(hl:l.length=i)(hb:Bl W T)(r:Int)(x:T.grownBy W9 cur.rv.ownBlock)(d:W9.ownsRow U.heap.size 3 1 (dH a9 cur.rs.length c9) (cur.rs.length+1) (cur.rs.map Iv++[Iv r]))(hn:(Value.slice a9 (cur.rs.length+1) c9).ownBlock=cur.rv.ownBlock∨(Value.slice a9 (cur.rs.length+1) c9).ownBlock=some T.heap.size)(L:nb<U.heap.size):
  JF N nb i U l ⟨cur.fa,cur.fc,cur.fs,a9,c9,cur.rs++[r]⟩ (W9.setCell (Ad nb (i*5+1)) (dH a9 cur.rs.length c9)):=by
 have of:=bp h.own.f hb;have a:=bp h.own.r hb;have p:W9.heap[nb]?=_:=(x.block nb (blt (aE hb h.fB)) (h.low a L)).trans (aE hb h.fB);have b:=sy of x h.OV;refine⟨?_,⟨nB b p aj,?_⟩,?_,?_⟩
 ·rw[aw p,cS]
  congr 3
  have:=uq (l++cur :: List.replicate (N-(i+1)) K8) i cur ⟨cur.fa,cur.fc,cur.fs,a9,c9,cur.rs++[r]⟩ 1 (dH a9 cur.rs.length c9) (at_len hl) ah (by simp[K7]);rw[KA hl]at this;exact this
 ·have:=nB (o:=i*5+1) (u:=.slice a9 (cur.rs.length+1) c9) d p aj
  simpa[NE.rv]using this
 ·have:=FQ (W:=W) of h.OV hn
  simpa[NE.fv,NE.rv]using this
 exact oX (Lp h.kx hb x fun q A=>h.low a A) _ _
def JF.QB{p:List NE->NE->Prop}{β:Type}{q:β->NE->Prop}:OwnFrom U.heap.size fun(s:β) W=>∃cur,JF N nb i U l cur W/\q s cur:=by
 rintro s A B row ⟨cur,h,a⟩ m L
 have hd:∀{v:Value} {n:Nat} {M:List Value},A.ownsRow U.heap.size 3 1 v n M->v.ownBlock=none∨v.ownBlock≠row:=fun {v n M} g=>by
  cases t:v.ownBlock with
  |none=>exact aJ rfl
  |some k=>
   refine aI fun e=>?_
   obtain⟨_,o,G,O⟩:=L k e.symm;obtain⟨c,f,Y⟩:=fg g k t;rw[Y]at G;cases G;cases O
 have E:Kx (fun k=>row=some k) A B:=⟨m.os,m.tape,m.output,m.size,fun k X J=>m.block k X fun e=>J e.symm⟩;refine⟨cur,⟨E.box h.fB (fun e=>?_),⟨sy h.own.f m (hd h.own.f),sy h.own.r m (hd h.own.r)⟩,h.OV,?_⟩,a⟩
 ·obtain⟨_,o,G,O⟩:=L nb e
  rw[h.fB]at G;cases G;cases O
 exact⟨m.os.trans h.kx.os,m.tape.trans h.kx.tape,m.output.trans h.kx.output,bw h.kx.size m.size,fun k X J=>(m.block k (fD X h.kx.size) fun e=>by have:=(L k e.symm).1;omega).trans (h.kx.keep k X J)⟩
end
end
section
variable {W W':World} {nb k B N x n c:Nat} {zo vs:List Vl} {a:Option Addr}
structure VN where
  rd:Bool
  rk:Int
  va:Option Addr
  vc:Nat
  g:Nat
  tl:List Value
  vs:List Vl
def vn0:VN:=⟨false,0,none,0,0,[],[]⟩
def r7(e:VN):List Value:=[.slice none 0 0,.slice none 0 0,.bool e.rd,Iv e.rk,.slice e.va e.vs.length e.vc]
def eu(l:List VN):List Value:=l.flatMap r7
def Ki(e:VN):Nd:=⟨[],[],e.rd,e.rk,e.vs⟩
def pB(a b:List VN):eu (a++b)=eu a++eu b:=by simp[eu]
def Ak(l:List VN):(eu l).length=l.length*5:=by
 induction l with
 |nil=>rfl
 |cons a l B=>simp only[eu,bY,bu,bT]at B⊢;rw[B];simp[r7];omega
def xm:∀(l:List VN) (k:Nat) (e:VN) (j:Nat),l[k]?=some e->j<5->(eu l)[k*5+j]?=(r7 e)[j]?
 |[],k,e,j,h,_=>by simp at h
 |a :: q,0,e,j,h,hj=>by
  simp at h;subst h;simp only[eu,bY,gU,ct];rw[mE (by simp[r7];omega)]
 |a :: q,k+1,e,j,h,hj=>by
  have B:=xm q k e j (by simpa using h) hj;simp only[eu,bY]at B⊢;rw[fC (by simp[r7];omega),<-B]
  congr 1
  simp[r7];omega
def T4(e:VN):∀u∈r7 e,u.oneCell'=true:=by
 intro u E;simp only[r7,cQ,gM,ga]at E;rcases E with rfl|rfl|rfl|rfl|rfl<;>rfl
def LN(n:Nat):(List.replicate n [Value.slice none 0 0,.slice none 0 0,.bool false,Iv 0,.slice none 0 0]).flatten=eu (List.replicate n vn0):=by
 induction n with
 |zero=>rfl
 |succ n B=>rw[dN,l6,B,dN];rfl
def Me{l:List VN}(e:VN)(h:W.heap[nb]?=some (.cells (eu l).toArray 96 (0,0)))(hk:k<l.length):(W.setCells nb (k*5) (r7 e)).heap[nb]?=some (.cells (eu (l.set k e)).toArray 96 (0,0)):=by
 have Q:l=l.take k++l[k] :: l.drop (k+1):=ak
 have z:eu l=eu (l.take k)++(r7 l[k]++eu (l.drop (k+1))):=by
  conv=>lhs;rw[Q]
  rw[pB];rfl
 have I:eu (l.set k e)=eu (l.take k)++(r7 e++eu (l.drop (k+1))):=by
  rw[wZ,aD hk,pB];rfl
 rw[z]at h;rw[I];have hl:(eu (l.take k)).length=k*5:=by rw[Ak,dL,jW ah]
 rw[<-hl];exact vO (cs:=r7 l[k]) (vs:=r7 e) h rfl
def uR{l:List VN}(h:W.heap[nb]?=some (.cells (eu l).toArray 96 (0,0)))(hk:k<l.length):W.there nb (k*5) 5:=fun j U=>by
 obtain⟨F,y⟩:=ae h;have hl:k*5+j<(eu l).length:=by rw[Ak];omega
 refine⟨?_,y _⟩;rw[F,de,bk hl];rfl
structure vt(W:World)(B:Nat)(e:VN):Prop where
  row:e.vs≠[]->e.va=some (Ad e.g 0)/\B<=e.g/\J0 W e.g e.vs e.tl
  non:e.va=none->e.vc=0
structure zm(nb B N:Nat)(l:List VN)(W:World):Prop where
  fB:W.heap[nb]?=some (.cells (eu l).toArray 96 (0,0))
  len:l.length=N
  own:∀e∈l,vt W B e
  OV:∀(i j:Nat) (e f:VN),l[i]?=some e->l[j]?=some f->i≠j->e.vs≠[]->f.vs≠[]->e.g≠f.g
def vt.keep{e:VN}(h:vt W B e)(hk:∀k o,W.heap[k]?=some o->Lu o/\B<=k->k=e.g->W'.heap[k]?=some o):vt W' B e:=
 ⟨fun t=>⟨(h.row t).1,(h.row t).2.1,hk _ _ (h.row t).2.2 ⟨⟨_,_,rfl⟩,(h.row t).2.1⟩ rfl⟩,h.non⟩
def zm.keep{l:List VN}(h:zm nb B N l W)(hk:∀k o,W.heap[k]?=some o->k=nb∨Lu o/\B<=k->W'.heap[k]?=some o):zm nb B N l W':=
 ⟨hk _ _ h.fB (aJ rfl),h.len,fun e H=>(h.own e H).keep fun k o a b _=>hk k o a (aI b),h.OV⟩
def zm.below{l:List VN}(h:zm nb B N l W)(hb:Bl W W'):zm nb B N l W':=h.keep fun _ _ e _=>aE hb e
def zm.low{l:List VN}(h:zm nb B N l W){i:Nat}{e:VN}(he:l[i]?=some e)(hv:e.vs≠[]):e.g<W.heap.size:=blt ((h.own e (aL he)).row hv).2.2
def Hf{l:List VN}{e:VN}(he:l[x]?=some e)(hl:zo.length=e.vs.length):eu (l.set x {e with vs:=zo})=eu l:=by
 have E:=(bn.1 he).1;have Q:l=l.take x++e :: l.drop (x+1):=by
  have:=(bn.1 he).2;rw[<-this];simp
 rw[wZ,aD E,pB]
 conv=>rhs;rw[Q,pB]
 congr 1
 simp[eu,r7,hl]
def zm.note{l:List VN}{e:VN}(h:zm nb B N l W)(he:l[x]?=some e)(hl:zo.length=e.vs.length)(hr:e.vs≠[]->J0 W' e.g zo e.tl)(hk:Kx (fun k=>k=e.g/\e.vs≠[]) W W'):zm nb B N (l.set x {e with vs:=zo}) W':=by
 have E:=(bn.1 he).1;have P:zo≠[]↔e.vs≠[]:=by rw[<-O6,<-O6,hl]
 have c:=h.own e (aL he)
 have u:∀i f,(l.set x {e with vs:=zo})[i]?=some f->(i=x/\f={e with vs:=zo})∨(i≠x/\l[i]?=some f):=fun i f V=>by
  rw[eQ]at V;by_cases hi:x=i
  ·rw[aD hi,aD E]at V;exact aJ ⟨hi.symm,(dK V).symm⟩
  rw[aA hi]at V;exact aI ⟨fun e=>hi e.symm,V⟩
 refine⟨?_,by rw[ke];exact h.len,fun f V=>?_,fun i j a b y D I S L=>?_⟩
 ·rw[Hf he hl]
  refine hk.box h.fB fun⟨Q,t⟩=>?_
  have:=(c.row t).2.2;rw[<-Q]at this;unfold J0 at this;rw[h.fB]at this;exact absurd (eK (dK this)).2.1 aj
 ·obtain⟨i,hi⟩:=i!.1 V
  rcases u i f hi with⟨_,rfl⟩|⟨G,O⟩
  ·exact⟨fun t=>⟨(c.row (P.1 t)).1,(c.row (P.1 t)).2.1,hr (P.1 t)⟩,c.non⟩
  refine⟨fun t=>?_,(h.own f (aL O)).non⟩;have Y:=(h.own f (aL O)).row t;exact⟨Y.1,Y.2.1,hk.box Y.2.2 fun⟨K,H⟩=>h.OV i x f e O he G t H K⟩
 rcases u i a y with⟨rfl,rfl⟩|⟨G,O⟩<;>rcases u j b D with⟨rfl,rfl⟩|⟨Y,K⟩
 ·exact absurd rfl I
 ·exact h.OV _ _ e b he K I (P.1 S) L
 ·exact h.OV _ _ a e O he I S (P.1 L)
 exact h.OV i j a b O K I S L
def Md(h:W.ownsRow B 73 6 (.slice a n c) n (dR vs))(hn:vs.length=n)(rk:Int)(rd:Bool):∃e:VN,e.va=a/\e.vc=c/\e.vs=vs/\e.rd=rd/\e.rk=rk/\vt W B e:=by
 rcases h.2 with⟨t,o⟩|⟨g,C,A,t,G,O,Y,K,H,E⟩
 ·simp at t
  subst o;have:=dM.1 hn;subst this;exact⟨⟨rd,rk,a,c,0,[],[]⟩,rfl,rfl,rfl,rfl,rfl,⟨fun h=>absurd rfl h,fun _=>by simpa using t.2⟩⟩
 simp at t;obtain⟨rfl,rfl⟩:=t;by_cases R:vs=[]
 ·exact⟨⟨rd,rk,some (Ad g 0),c,g,[],vs⟩,rfl,rfl,rfl,rfl,rfl,⟨fun h=>absurd R h,fun h=>by cases h⟩⟩
 refine⟨⟨rd,rk,some (Ad g 0),c,g,A.toList.drop (n*6),vs⟩,rfl,rfl,rfl,rfl,rfl,⟨fun _=>⟨rfl,G,?_⟩,fun h=>by cases h⟩⟩;unfold J0;show W.heap[g]?=some (.cells (dR vs++A.toList.drop (n*6)).toArray 73 (0,0));rw[O,<-E,wY]
def zm.first{l:List VN}{rk:Int}{rd:Bool}(h:zm nb B N l W)(hx:x<N)(g:W'.ownsRow W.heap.size 73 6 (.slice a n c) n (dR vs))(hn:vs.length=n)(hb:Below W.heap.size W W')(q:B<=W.heap.size):
  ∃e:VN,r7 e=[.slice none 0 0,.slice none 0 0,.bool rd,Iv rk,.slice a n c]/\Ki e=⟨[],[],rd,rk,vs⟩/\zm nb B N (l.set x e) (W'.setCells nb (x*5) (r7 e)):=by
 obtain⟨e,rfl,rfl,rfl,rfl,rfl,O⟩:=Md g hn rk rd;have p:=h.below hb;have Q:x<l.length:=by rw[h.len];exact hx
 have u:∀i f,(l.set x e)[i]?=some f->(i=x/\f=e)∨(i≠x/\l[i]?=some f):=fun i f V=>by
  rw[eQ]at V;by_cases hi:x=i
  ·rw[aD hi,aD Q]at V;exact aJ ⟨hi.symm,(dK V).symm⟩
  rw[aA hi]at V;exact aI ⟨fun e=>hi e.symm,V⟩
 have P:∀f:VN,vt W' B f->vt (W'.setCells nb (x*5) (r7 e)) B f:=fun f V=>V.keep fun k o g X _=>by
  rw[dc _ _ _ _ _ fun m=>?_]
  ·exact g
  subst m;rw[p.fB]at g;obtain⟨⟨c,f,t⟩,_⟩:=X;rw[t]at g;exact absurd (eK (dK g)).2.1 aj
 have v:vt W' B e:=⟨fun t=>⟨(O.row t).1,bw q (O.row t).2.1,(O.row t).2.2⟩,O.non⟩;refine⟨e,by simp[r7,hn],by simp[Ki],Me e p.fB Q,by rw[ke];exact h.len,fun f V=>?_,fun i j a b y d I S L=>?_⟩
 ·obtain⟨i,hi⟩:=i!.1 V
  rcases u i f hi with⟨_,rfl⟩|⟨_,K⟩
  ·exact P _ v
  exact P f (p.own f (aL K))
 rcases u i a y with⟨rfl,rfl⟩|⟨Y,K⟩<;>rcases u j b d with⟨rfl,rfl⟩|⟨H,E⟩
 ·exact absurd rfl I
 ·have:=h.low E L;have:=(O.row S).2.1;omega
 ·have:=h.low K S;have:=(O.row L).2.1;omega
 exact h.OV i j a b K E I S L
def T7{g:Nat}{l:List Vl}{tl:List Value}(h:J0 W g l tl):jA W (some (Ad g 0)) l:=by
 intro j v U;have f:=(bn.1 U).1
 have Q:∀k,k<6->W.cell? (Ad g (0+j*6+k))=(zi v)[k]?:=fun k X=>by
  rw[(ae h).1,de,ct,mE (by rw[pC];omega)];have z:l=l.take j++v :: l.drop (j+1):=by
   have:=(bn.1 U).2;rw[<-this];simp
  have I:(dR (l.take j)).length=j*6:=by rw[pC,dL,jW ah]
  rw[z,tZ,fC ah,I,G9];show(zi v++dR _)[k]?=_;rw[mE (by simp[zi];omega)]
 exact⟨g,0,rfl,Q 0 ah,Q 1 ah,Q 2 ah,Q 3 ah,Q 4 ah,Q 5 ah⟩
def zm.nodes{l:List VN}(h:zm nb B N l W):cj W (some (Ad nb 0)) (l.map Ki):=by
 intro j n U;rw[bG]at U;cases H:l[j]? with
 |none=>rw[H]at U;cases U
 |some e=>
  rw[H]at U;simp at U;subst U;have G:=h.own e (aL H);have Z:∀k,k<5->W.cell? (Ad nb (0+j*5+k))=(r7 e)[k]?:=fun k X=>by rw[(ae h.fB).1,de,ct,xm l j e k H X]
  refine⟨nb,0,none,none,e.va,0,0,e.vc,rfl,Z 0 ah,Z 1 ah,Z 2 ah,Z 3 ah,Z 4 ah,⟨fun j v h=>by simp[Ki]at h,fun j v h=>by simp[Ki]at h,fun j v U=>?_,fun _=>rfl,fun _=>rfl,G.non⟩⟩;have P:e.vs≠[]:=by rintro o;simp[Ki,o]at U
  obtain⟨O,_,Y⟩:=G.row P;rw[O];exact T7 Y j v U
def zm.fr{B':Nat}{l:List VN}(h:zm nb B N l W)(f:B'<=B)(hn:B'<=nb):fU B' W nb (l.map Ki):=fun _ X=>
 (h.keep fun k o e z=>by rcases z with rfl|z;(· exact(X _ hn (blt e)).trans e);exact(X k ah (blt e)).trans e).nodes
def fU.set{w:World}{b o:Nat}{a:List Nd}{vs:List Value}(h:fU B w nb a)(hb:b<B):cj (w.setCells b o vs) (some (Ad nb 0)) a:=h _ fun _ G _=>dc _ _ _ _ _ ah
end
section
open Go.RowKit Go.Shelf Go.Proofs Go.Maps Tryz
attribute [local go_sem] Oper.semAt_some
structure Zh(xb cb gb nb B N nv:Nat)(pv:Value)(s:Nat×List Nd)(W:World):Prop where
  c:W.heap[cb]?=some (fY s.1)
  x:W.heap[xb]?=some (.cells (kg nb N) 46 (0,0))
  p:W.heap[gb]?=some (.cells #[pv,Iv nv] 86 (0,0))
  l:∃l,zm nb B N l W/\l.map Ki=s.2
abbrev TJ(xb cb gb nb B:Nat)(k:Nat)(o:Obj):Prop:=k=cb∨k=xb∨k=nb∨k=gb∨Lu o/\B<=k
def Zh.keep{xb cb j nb B N nv:Nat}{Q:Value}{s:Nat×List Nd}{W W':World}(h:Zh xb cb j nb B N nv Q s W)(hk:∀k o,W.heap[k]?=some o->TJ xb cb j nb B k o->W'.heap[k]?=some o):Zh xb cb j nb B N nv Q s W':=
 ⟨hk _ _ h.c (aJ rfl),hk _ _ h.x (aI (aJ rfl)),hk _ _ h.p (aI (aI (aI (aJ rfl)))),by obtain⟨l,G,O⟩:=h.l;exact⟨l,G.keep fun k o e z=>hk k o e (by rcases z with z|z;(· exact aI (aI (aJ z)));exact aI (aI (aI (aI z)))),O⟩⟩
def qi:Nd:=⟨[],[],false,0,[]⟩
def M6(nv:Nat)(s:Nat×List Nd)(x:Nat)(old next:PE):Nat×List Nd:=
 (s.1+1,s.2.set x (if old.r then⟨[],[],(s.2.getD x qi).reached,(s.2.getD x qi).rank,Gu old next (s.1:Int) (s.2.getD x qi).vals⟩ else⟨[],[],true,(s.1:Int),OU next nv⟩))
def gn3{F:World->Prop}{w:World}{a b c:Obj}(h:∀V,Hd (Bl w V/\V.heap[w.heap.size]?=some a/\V.heap[w.heap.size+1]?=some b/\V.heap[w.heap.size+1+1]?=some c/\V.heap.size=w.heap.size+1+1+1)->F V):F (((w.alloc a).alloc b).alloc c):=
 h _ ⟨aq (aX w a b) (aC _ _),aE (aC _ _) (aN w a b).1,aE (aC _ _) (aN w a b).2,by have:=bf ((w.alloc a).alloc b) c;simpa using this,ak⟩
def fcs{p:Prop}(h:p:=by
 obtain⟨d,i⟩:=ae zf.b
 go_upto_region 5 with fail
 have hz:=HZ.o;have Q:=blt H0.a.x;have y:=blt H0.a.p;have n:Hd ((U.setCell (Ad cb 0) (Iv ((s.1:Int)+1))).heap[cb]?=some (.cells #[Iv ((s.1+1:Nat):Int)] 3 (0,0))/\(∀k,k≠cb->(U.setCell (Ad cb 0) (Iv ((s.1:Int)+1))).heap[k]?=U.heap[k]?)/\Ky (TJ xb cb gb nb B) w (U.setCell (Ad cb 0) (Iv ((s.1:Int)+1)))):=⟨by rw[aw zf.b];rfl,fun k hk=>aZ _ _ _ _ hk,HK2.o.set (fun _ _=>aJ rfl) _ _⟩;generalize U.setCell (Ad cb 0) (Iv ((s.1:Int)+1))=C at n⊢;have F:=(n.b _ ah).trans zf.e;have D:=(n.b _ ah).trans (zf.F.trans HV.d);have hr:=aT F;have E:=bO (n:=17) D rfl;clear d i
 go_wp2_with (first|(refine wpList_load_mid rfl KC.aV (.tmp 8) rfl (w.heap.size+1) 0 rfl (KC.aH next) _ hr KC.fH rfl au ?_)|(refine wpList_store_mid rfl KC.aV (.tmp 9) (.tmp 32) rfl (w.heap.size+1+1) 0 (KC.aH next).toArray rfl rfl E au (KC.a! _) ?_))
 have A:=bX (cs:=KC.pK) D (vs:=KC.aH next) rfl;have hL:=run_loadVar_mid (P:=Tryz.prog) (C.setCells (w.heap.size+1+1) 0 (KC.aH next)) (w.heap.size+1+1) 0 KC.aV (KC.aH next) _ (aT A) KC.fH rfl au;have ho:∀k,k≠cb->k≠w.heap.size+1+1->(C.setCells (w.heap.size+1+1) 0 (KC.aH next)).heap[k]?=U.heap[k]?:=fun k a b=>(dc _ _ _ _ _ b).trans (n.b k a)
 refine aG (v:=.agg (KC.aH next).toArray) (by simp[results,results140,hL,Act.put,asAddr]) rfl ⟨rfl,⟨(dc _ _ _ _ _ ah).trans n.a,(ho _ (fun h=>hN1 h.symm) ah).trans zf.a,(ho _ (fun h=>hN2 h.symm) ah).trans zf.c,l2,HL2.o.keep (fun k o h1 h2=>?_),Tg.o⟩,sK n.B (fun o h=>absurd (blt h) ah) _ _⟩;rcases h2 with rfl|⟨⟨c1,m,h2⟩,_⟩
 ·exact(ho _ (fun h=>hN0 h.symm) ah).trans h1
 ·refine(ho k (fun h=>?_) fun h=>?_).trans h1
  ·rw[h,zf.b,h2]at h1
   exact absurd (eK (dK h1)).2.1 aj
  ·rw[h,zf.F,HV.d,h2]at h1
   exact absurd (eK (dK h1)).2.1 aj):p:=h
def Jz(xb cb gb nb B N nv:Nat)(pv:Value)(s:Nat×List Nd)(x:Nat)(old next:PE)(w:World)(Y:Zh xb cb gb nb B N nv pv s w)(hx:x<N)(hN:N<=60)(hv:nv<=8)(F:(s.2.getD x qi).vals.length<=8)(hs:s.1<100000)(hB:B<=w.heap.size):
  Cl 140 #[Iv x,.agg (KC.aH old).toArray,.agg (KC.aH next).toArray,.pointer (some (Ad xb 0)),.pointer (some (Ad cb 0)),.pointer (some (Ad gb 0))] w fun e I=>e=.returned (.agg (KC.aH next).toArray)/\Zh xb cb gb nb B N nv pv (M6 nv s x old next) I/\Ky (TJ xb cb gb nb B) w I:=by
 obtain⟨l,hL,A⟩:=Y.l;obtain⟨e,H⟩:=La (l:=l) (i:=x) (by rw[hL.len];exact hx);have hse:s.2[x]?=some (Ki e):=by rw[<-A,bG,H];rfl
 have T:s.2.getD x qi=Ki e:=by rw[cx,hse];rfl
 rw[T]at F;have H0:=hid (Aa Y (Aa hL (Aa A (Aa H T))));have hN0:cb≠nb:=fun h=>by have h1:=Y.c;have h2:=hL.fB;rw[<-h,h1]at h2;exact absurd (eK (dK h2)).2.1 aj
 have hN1:cb≠xb:=fun h=>by have h1:=Y.c;have h2:=Y.x;rw[<-h,h1]at h2;exact absurd (eK (dK h2)).2.1 aj
 have hN2:cb≠gb:=fun h=>by have h1:=Y.c;have h2:=Y.p;rw[<-h,h1]at h2;exact absurd (eK (dK h2)).2.1 aj
 have hN3:nb≠xb:=fun h=>by have h1:=hL.fB;have h2:=Y.x;rw[<-h,h1]at h2;exact absurd (eK (dK h2)).2.1 aj
 have hN4:nb≠gb:=fun h=>by have h1:=hL.fB;have h2:=Y.p;rw[<-h,h1]at h2;exact absurd (eK (dK h2)).2.1 aj
 have G:=blt Y.c;have hnl:=blt hL.fB;have D:(x:Int)<N:=ah
 have Z:(s.1:Int)<100000:=ah
 have HFv:Hd (∀W,Cl 142 #[.agg (KC.aH next).toArray,Iv nv] W fun r I=>∃a c,r=.returned (.slice a nv c)/\I.ownsRow W.heap.size 73 6 (.slice a nv c) nv (dR (OU next nv))/\Bl W I):=fun W=>zN next nv W hv
 have HNl:Hd (∀W,zm nb B N l W->Cl 141 #[.slice e.va e.vs.length e.vc,.agg (KC.aH old).toArray,.agg (KC.aH next).toArray,Iv s.1] W fun r I=>(∃v,r=.returned v)/\(e.vs≠[]->J0 I e.g (Gu old next (s.1:Int) e.vs) e.tl)/\Kx (fun k=>k=e.g/\e.vs≠[]) W I):=fun W hW=>CK e.va e.vc e.g e.tl e.vs old next (s.1:Int) W F ⟨ah,ah⟩ (fun hv=>⟨((hW.own e (aL H)).row hv).1,((hW.own e (aL H)).row hv).2.2⟩)
 clear Y hL A hse F T;go_enter func140,ntmps140
 go_upto_region 1 with fail
 refine gn3 (F:=Code.wp _ _ _ _) fun V HV=>?_
 have HZ:=hid HV.D;have c0:V.cell? (Ad w.heap.size 0)=some (.bool old.r):=by rw[(ae HV.b).1];rfl
 have f:Hd (∀W',Kx (fun k=>k=e.g/\e.vs≠[]) V W'->W'.heap[xb]?=some (.cells (kg nb N) 46 (0,0))/\W'.heap[cb]?=some (fY s.1)/\W'.heap[gb]?=some (.cells #[pv,Iv nv] 86 (0,0))/\W'.heap[w.heap.size]?=some (.cells (KC.aH old).toArray 228 (0,0))/\W'.heap[w.heap.size+1]?=some (.cells (KC.aH next).toArray 228 (0,0))/\W'.heap[nb]?=some (.cells (eu l).toArray 96 (0,0))/\W'.heap[w.heap.size+1+1]?=V.heap[w.heap.size+1+1]?):=fun W' h=>by
  have m:∀{k:Nat} {cs:Array Value} {t:Nat},V.heap[k]?=some (cJ cs t)->t≠73->¬(k=e.g/\e.vs≠[]):=fun {k cs t} h1 h2 ⟨h3,h4⟩=>by
   have h5:=aE HV.a ((H0.b.own e (aL H0.d)).row h4).2.2;rw[<-h3,h1]at h5;exact h2 (eK (dK h5)).2.1
  have g:=fun {k:Nat} {cs:Array Value} {t:Nat} (h1:V.heap[k]?=some (cJ cs t)) (h2:t≠73)=>h.box h1 (m h1 h2)
  exact⟨g (aE HV.a H0.a.x) aj,g (aE HV.a H0.a.c) aj,g (aE HV.a H0.a.p) aj,g HV.b aj,g HV.c aj,g (aE HV.a H0.b.fB) aj,(g HV.d aj).trans HV.d.symm⟩
 have X:Hd (∀W',Kx (fun k=>k=e.g/\e.vs≠[]) V W'->W'.cell? (Ad nb (x*5+4))=some (bH e.va e.vs.length e.vc)):=fun W' h=>by rw[(ae (f.o W' h).2.2.2.2.2.1).1,de,xm l x e 4 H0.d ah];rfl
 cases ho:old.r with
 | true=>
  rw[ho]at c0
  go_upto_region 2 with fail
  refine st (fun W'=>Kx (fun k=>k=e.g/\e.vs≠[]) V W') 9 (hS:=(Kx.refl _ _).drewN 1) (h:=fun aB=>?_);refine tt 0 (b? nb N) (y:=fun W' aU=>by have L:=(ae (f.o _ aU).1).1;clear aB aU;go_simp) (h:=?_);refine tt 1 (Iv x) (h:=?_);refine tt 2 (Ai nb x) (h:=?_);refine tt 3 (.pointer (some (Ad nb (x*5+4)))) (h:=?_);refine tt 4 (bH e.va e.vs.length e.vc) (y:=fun W' aU=>by have L:=X.o _ aU;clear aB aU;go_simp) (h:=?_);refine tu 5 (.agg (KC.aH old).toArray) (y:=yieldsIf_load_mid au _ _ rfl _ _ rfl _ _ (fun W' aU=>aT (f.o _ aU).2.2.2.1) KC.fH rfl au) (h:=?_);refine tu 6 (.agg (KC.aH next).toArray) (y:=yieldsIf_load_mid au _ _ rfl _ _ rfl _ _ (fun W' aU=>aT (f.o _ aU).2.2.2.2.1) KC.fH rfl au) (h:=?_);refine tt 7 (Iv s.1) (y:=fun W' aU=>by have L:=(ae (f.o _ aU).2.1).1;clear aB aU;go_simp) (h:=?_);refine rt 8 (h:=fun K hK=>?_)
  go_simp
  refine bA (HNl.o _ ((H0.b.below HV.a).keep fun k o e _=>e)) ?_;rintro _ U ⟨⟨v,rfl⟩,hr,hk⟩;have O:=hid (Aa hr (show Kx (fun k=>k=e.g/\e.vs≠[]) V U from aB.trans hk));clear hr hk aB;refine hK.out _ _ (fun _=>O.A) ?_;clear hK K;refine pt ?_;refine dt (h:=?_);have zf:=hid (f.o U O.A);have HL2:=hid ((H0.b.below HV.a).note (zo:=Gu old next (s.1:Int) e.vs) H0.d (by simp[Gu]) O.a O.A);have Tg:Hd ((l.set x {e with vs:=Gu old next (s.1:Int) e.vs}).map Ki=(M6 nv s x old next).2):=by
   rw[tT,H0.c];simp only[M6,ho,dx,H0.D];rfl
  have HK2:Hd (Ky (TJ xb cb gb nb B) w U):=(Ky.of HV.a).trans ⟨O.A.os,O.A.tape,O.A.output,O.A.size,fun k o h1 J=>O.A.box h1 fun⟨h2,h3⟩=>J (by
   have h5:=(H0.b.own e (aL H0.d)).row h3;have E:=aE HV.a h5.2.2;rw[<-h2,h1]at E
   exact aI (aI (aI (aI ⟨⟨_,_,dK E⟩,by rw[h2];exact h5.2.1⟩))))⟩
  generalize l.set x {e with vs:=Gu old next (s.1:Int) e.vs}=l2 at HL2 Tg;clear f X HNl HFv c0;exact fcs
 | false=>
  rw[ho]at c0;have C:=hid (fun W' (h:Bl V W')=>Aa (aE h (aE HV.a H0.a.x)) (Aa (aE h (aE HV.a H0.a.c)) (Aa (aE h (aE HV.a H0.a.p)) (aE h HV.c))));clear f X HNl
  go_upto_region 3 with fail
  refine st (fun W'=>Bl V W') 9 (hS:=(aM _ _).drew) (h:=fun aB=>?_);refine tt 0 (b? nb N) (y:=fun W' aU=>by have L:=(ae (C.o _ aU).1).1;clear aB aU;go_simp) (h:=?_);refine tt 1 (Iv x) (h:=?_);refine tt 2 (Iv s.1) (y:=fun W' aU=>by have L:=(ae (C.o _ aU).2.1).1;clear aB aU;go_simp) (h:=?_);refine tu 3 (.agg (KC.aH next).toArray) (y:=yieldsIf_load_mid au _ _ rfl _ _ rfl _ _ (fun W' aU=>aT (C.o _ aU).2.2.2) KC.fH rfl au) (h:=?_);refine tt 4 (.pointer (some (Ad gb 1))) (h:=?_);refine tt 5 (Iv nv) (y:=fun W' aU=>by have L:=(ae (C.o _ aU).2.2.1).1;clear aB aU;go_simp) (h:=?_);refine rt 6 (h:=fun K hK=>?_)
  go_simp
  refine bA (HFv.o _) ?_;clear c0;rintro _ M ⟨a0,c0,rfl,hr,hk⟩;have O:=hid (Aa hr (show Bl V M from aq aB hk));clear hr hk aB;refine hK.out _ _ (fun _=>O.A) ?_;clear hK K;refine pt ?_;have aB:=O.A;refine tt 7 (.agg #[.slice none 0 0,.slice none 0 0,.bool true,Iv s.1,.slice a0 nv c0]) (h:=?_);refine tt 8 (Ai nb x) (h:=?_);clear aB;obtain⟨z,R,hn2,A⟩:=(H0.b.below HV.a).first (x:=x) (rk:=(s.1:Int)) (rd:=true) hx O.a (wm _ _) O.A (by have:=HV.a.size;omega)
  refine rt 9 (h:=fun K hK=>?_);rw[aD au];refine wp_store_mid 96 (.tmp 29) (.tmp 28) rfl nb (x*5) #[.slice none 0 0,.slice none 0 0,.bool true,Iv s.1,.slice a0 nv c0] rfl rfl (uR ((H0.b.below HV.a).below O.A).fB (by rw[H0.b.len];exact hx)) au (by rw[show #[Value.slice none 0 0,.slice none 0 0,.bool true,Iv s.1,.slice a0 nv c0]=(r7 z).toArray by rw[R]];exact all_oneCell_toArray (T4 _)) ?_;refine hK.out _ _ (fun h=>absurd h aj) ?_;clear hK K;refine pt ?_;refine dt (h:=?_);have u:∀k,k≠nb->(M.setCells nb (x*5) (r7 z)).heap[k]?=M.heap[k]?:=fun k hk=>dc _ _ _ _ _ hk
  have zf:Hd ((M.setCells nb (x*5) (r7 z)).heap[xb]?=some (.cells (kg nb N) 46 (0,0))/\(M.setCells nb (x*5) (r7 z)).heap[cb]?=some (fY s.1)/\(M.setCells nb (x*5) (r7 z)).heap[gb]?=some (.cells #[pv,Iv nv] 86 (0,0))/\True/\(M.setCells nb (x*5) (r7 z)).heap[w.heap.size+1]?=some (.cells (KC.aH next).toArray 228 (0,0))/\True/\(M.setCells nb (x*5) (r7 z)).heap[w.heap.size+1+1]?=V.heap[w.heap.size+1+1]?):=by
   have h1:=C.o _ O.A;exact⟨(u _ hN3.symm).trans h1.1,(u _ hN0).trans h1.2.1,(u _ hN4.symm).trans h1.2.2.1,trivial,(u _ ah).trans h1.2.2.2,trivial,(u _ ah).trans ((aE O.A HV.d).trans HV.d.symm)⟩
  have HK2:Hd (Ky (TJ xb cb gb nb B) w (M.setCells nb (x*5) (r7 z))):=sK (Ky.of (aq HV.a O.A)) (fun _ _=>aI (aI (aJ rfl))) _ _;have HL2:=hid A;have Tg:Hd ((l.set x z).map Ki=(M6 nv s x old next).2):=by
   rw[tT,H0.c];simp only[M6,ho,hn2];rfl
  show Exit.then _ _ _ _ (M.setCells nb (x*5) [.slice none 0 0,.slice none 0 0,.bool true,Iv s.1,.slice a0 nv c0])
  rw[<-R];generalize M.setCells nb (x*5) (r7 z)=U at *;generalize l.set x z=l2 at HL2 Tg;clear HFv C R hn2 A u;exact fcs
end
section
variable {W W':World} {B rb:Nat} {P:Pm}
abbrev KtC(W W':World)(ts:List Nat):Prop:=∀(k:Nat) (cs:Array Value) (t:Nat),W.heap[k]?=some (cJ cs t)->t∈ts->W'.heap[k]?=some (cJ cs t)
def Zs{m d c:Nat}{rl:List RR}{D:List Nat}(h:Sys W B rb m d c rl)(hk:KtC W W' D)(h1:d∈D)(h2:c∈D):Sys W' B rb m d c rl:=by
 refine⟨hk _ _ _ h.fB h1,h.low,h.len,fun r L=>?_,h.vH⟩;have o:=h.row r L;refine⟨o.1,?_⟩;rcases o.2 with a|⟨g,C,A,h1,Y,K,H⟩
 ·exact aJ a
 exact aI ⟨g,C,A,h1,Y,hk _ _ _ K h2,H⟩
abbrev KC.MJ:List Nat:=[375,378,381,152,4,376]
abbrev KB.MJ:List Nat:=[337,340,386,152,4,338]
def PL{p:Prop}(h:p:=by
 obtain⟨ql,h⟩:=h;refine⟨ql,Zs h.sys hk aj aj,h.len,h.st,fun k r L=>(h.es k r L).mono fun _ _ _ hd=>?_⟩;obtain⟨bj,wa,ea,wl,wc,el,ec,nb,v,a,d,b,G,O,Y,K,H⟩:=hd
 exact⟨bj,wa,ea,wl,wc,el,ec,nb,v,a,d,b,hk _ _ _ G aj,hk _ _ _ O aj,hk _ _ _ Y aj,hk _ _ _ K aj,H⟩):p:=h
def KC.l?.ty(h:KC.l? W B rb P)(hk:KtC W W' KC.MJ):KC.l? W' B rb P:=by
 exact PL
def KB.l?.ty(h:KB.l? W B rb P)(hk:KtC W W' KB.MJ):KB.l? W' B rb P:=by
 exact PL
end
section
variable {R a:Int} {v:VV} {nv:Nat} {x:Nd} {z:PE} {vs:List VV}
def Wi(x:Int):Prop:=-9223372036854775808<=x/\x<=9223372036854775807
def bd0:Wi 0:=⟨aj,aj⟩
structure VlC(R rk:Int)(v:Vl):Prop where
  hi:v.hi=0
  lo:Wi v.lo
  first:Wi v.first
  form:(v.kind=1/\v.early=false/\v.first=0/\v.rank=0)∨(v.kind=2/\v.early=true/\rk<v.rank/\v.rank<R/\v.lo=0)∨(v.kind=2/\v.early=false/\v.lo=0/\v.first=0/\v.rank=0)
structure GH(R:Int)(nv:Nat)(x:Nd):Prop where
  fr:x.facts=[]/\x.aO=[]
  out:x.reached=false->x.rank=0/\x.vals=[]
  vC:x.reached=true->x.vals.length=nv/\0<=x.rank/\x.rank<R
  each:∀v∈x.vals,VlC R x.rank v
def VlC.up{rk:Int}{v:Vl}(h:VlC R rk v)(hr:R<=a):VlC a rk v:=
 ⟨h.hi,h.lo,h.first,by rcases h.form with k|k|k;(· exact aJ k);(· exact aI (aJ ⟨k.1,k.2.1,k.2.2.1,ah,k.2.2.2.2⟩));exact aI (aI k)⟩
def GH.up(h:GH R nv x)(hr:R<=a):GH a nv x:=⟨h.fr,h.out,fun k=>⟨(h.vC k).1,(h.vC k).2.1,by have:=(h.vC k).2.2;omega⟩,fun v t=>(h.each v t).up hr⟩
def K?(R:Int)(nv:Nat):GH R nv qi:=⟨⟨rfl,rfl⟩,fun _=>⟨rfl,rfl⟩,fun h=>by simp[qi]at h,fun v t=>by simp[qi]at t⟩
def sY{B:List Nd}(h:∀x∈B,GH R nv x):z8 ⟨5,1,B⟩ nv:=
 ⟨rfl,fun x E L=>⟨((h x E).vC L).1,((h x E).vC L).2.1,fun v t=>by rcases((h x E).each v t).form with k|k|k;(· exact aJ ⟨k.1,k.2.1⟩);(· exact aI (aJ ⟨k.1,k.2.1,k.2.2.1,k.2.2.2.2⟩));exact aI (aI ⟨k.1,k.2.1,k.2.2.1⟩)⟩,fun x E v t=>⟨((h x E).each v t).lo,((h x E).each v t).first⟩,fun x E v t=>((h x E).each v t).hi,fun x E=>⟨(h x E).fr.1,fun L=>((h x E).out L).2⟩⟩
def mJ(v:Vl):fN (-1) v=if v.kind=3 then⟨false,v.lo,v.hi⟩ else if v.kind=1 then VV.one v.lo else VV.fA:=by
 unfold fN;simp
def UR(h:GH R nv x)(h0:0<=R):mQ x R=mQ x (-1):=by
 unfold mQ;cases L:x.reached with
 |false=>simp
 | true=>
  have G:=h.vC L;rw[aA (by simp;omega),aA ak]
  congr 1
  refine eM fun v t=>?_
  rw[mJ];unfold fN;rcases(h.each v t).form with k|k|k
  ·simp[k.1]
  ·have:¬R<=v.rank:=ah
   simp[k.1,this]
  simp[k.1,k.2.1]
def UL(h:okV 5 v):(v.any=true/\v=VV.fA)∨(v.any=false/\v=VV.one v.lo):=by
 have:=h.form;rw[aD rfl]at this;rcases this with e|e
 ·exact aJ ⟨by rw[e];rfl,e⟩
 exact aI ⟨by rw[e];rfl,e⟩
def RW(h:okV 5 v)(r:Int):fN r (RX v)=v:=by
 rcases UL h with⟨G,O⟩|⟨G,O⟩
 ·rw[O];rfl
 unfold RX;rw[G];show fN r ⟨1,v.lo,0,false,0,0⟩=v;rw[O];rfl
def aaP(h:okV 5 v)(R rk:Int):VlC R rk (RX v):=by
 have D:=h.bd.lo;unfold RX;split
 ·exact⟨rfl,bd0,bd0,aI (aI ⟨rfl,rfl,rfl,rfl,rfl⟩)⟩
 exact⟨rfl,D,bd0,aJ ⟨rfl,rfl,rfl,rfl⟩⟩
def VJ(h:PR nv z (some vs))(g:ei 5 nv (some vs))(r:Int):(OU z nv).map (fN r)=vs:=by
 refine dW fun i=>?_
 rw[bG];rcases iw i nv with hi|hi
 ·rw[RY z hi,h.2.2,cx]
  have hl:i<vs.length:=by rw[h.2.1];exact hi
  rw[bk hl];exact dv some (RW ((g vs rfl).2 _ (eL hl)) r)
 rw[bU (by rw[wm];exact hi),bU (by rw[h.2.1];exact hi)];rfl
structure aeN(R:Int)(nv:Nat)(vs:List VV)(y:Nd):Prop where
  ok:GH (R+1) nv y
  last:∀r,r=-1∨r=R+1->mQ y r=some vs
  hist:∀r,0<=r->r<=R->mQ y r=none
  rch:y.reached=true/\y.rank=R
  early:∀v∈y.vals,v.early=false
def aaQ(h:PR nv z (some vs))(g:ei 5 nv (some vs))(h0:0<=R):aeN R nv vs ⟨[],[],true,R,OU z nv⟩:=by
 refine⟨⟨⟨rfl,rfl⟩,fun h=>(by cases h),fun _=>⟨wm _ _,h0,by show R<R+1;omega⟩,fun v t=>?_⟩,fun r L=>?_,fun r G O=>?_,⟨rfl,rfl⟩,fun v t=>?_⟩
 ·obtain⟨i,hi,rfl⟩:=bP.1 t
  have hi:=bZ.1 hi;rw[h.2.2,cx,bk (by rw[h.2.1];exact hi)];exact aaP ((g vs rfl).2 _ (eL _)) _ _
 ·unfold mQ
  rw[aA (by simp;omega)];exact dv some (VJ h g r)
 ·unfold mQ
  exact aD (aI ⟨G,O⟩)
 obtain⟨i,hi,rfl⟩:=bP.1 t;unfold RX;split<;>rfl
structure NtN(R:Int)(nv:Nat)(vs:List VV)(x y:Nd):Prop where
  ok:GH (R+1) nv y
  last:mQ y (-1)=some vs
  hist:∀r,0<=r->r<=R->mQ y r=mQ x r
  rch:y.reached=true/\y.rank=x.rank
  len:y.vals.length=x.vals.length
  early:∀(j:Nat) (v:Vl),y.vals[j]?=some v->v.early=true->x.vals[j]?=some v∨(v.rank=R/\(vs.getD j VV.z).any=true)
def adi{old next:PE}{l:List VV}(hx:GH R nv x)(h0:0<=R)(hr:x.reached=true)(E:mQ x (-1)=some l)(g:PR nv old (some l))(hn:PR nv next (some vs))(m:ei 5 nv (some l))(o:ei 5 nv (some vs))(W:jP 5 (some l) (some vs)):NtN R nv vs x ⟨[],[],x.reached,x.rank,Gu old next R x.vals⟩:=by
 have b:l=x.vals.map (fN (-1)):=by
  unfold mQ at E;rw[aA (by simp[hr])]at E;exact(dK E).symm
 have key:∀(j:Nat) (v:Vl),x.vals[j]?=some v->∃u w,l[j]?=some u/\vs[j]?=some w/\u=fN (-1) v/\VlC R x.rank v/\VlC (R+1) x.rank (IV old next R j v)/\fN (-1) (IV old next R j v)=w/\(∀r,0<=r->r<=R->fN r (IV old next R j v)=fN r v)/\(IV old next R j v=v∨((IV old next R j v).rank=R/\w.any=true)):=by
  intro j v U;have t:=hx.each v (aL U);have G:l[j]?=some (fN (-1) v):=by rw[b,bG,U];rfl
  have f:=(bn.1 G).1;have c:j<vs.length:=by rw[hn.2.1,<-g.2.1];exact f
  have O:vs[j]?=some vs[j]:=bk c;have s:old.at j=fN (-1) v:=by rw[g.2.2,cx,G];rfl
  have a:next.at j=vs[j]:=by rw[hn.2.2,cx,O];rfl
  have n:=(o vs rfl).2 _ (eL c);have i:=(m l rfl).2 _ (aL G);have hl:=W j _ _ G O;refine⟨_,_,G,O,rfl,t,?_⟩;unfold IV;rw[s,a];by_cases Z:(vs[j].any&&!(fN (-1) v).any)=true;rotate_left
  ·rw[aA Z]
   refine⟨t.up ah,?_,fun _ _ _=>rfl,aJ rfl⟩;rcases Yj hl with e|e
   ·exact e
   rw[e]at Z⊢;simp[VV.fA]at Z;rcases UL i with k|k
   ·exact k.2
   rw[Z]at k;cases k.1
  rw[aD Z];rw[aS,iu]at Z;have p:vs[j]=VV.fA:=by rcases UL n with k|k;(· exact k.2);rw[Z.1]at k;cases k.1
  have y:v.kind=1:=by
   rcases t.form with k|k|k
   ·exact k.1
   ·rw[mJ,aA ah,aA ah]at Z;cases Z.2
   rw[mJ,aA ah,aA ah]at Z;cases Z.2
  have q:fN (-1) v=VV.one v.lo:=by rw[mJ,aA ah,aD y]
  rw[q];have A:=(hx.vC hr).2;refine⟨⟨rfl,bd0,t.lo,aI (aJ ⟨rfl,rfl,A.2,by show R<R+1;omega,rfl⟩)⟩,p.symm,fun r G O=>?_,aI ⟨rfl,Z.1⟩⟩;unfold fN;rw[aA ak,aA ak,aD (by simp[G,O]),aA ah,aD y];rfl
 have T:∀j,(Gu old next R x.vals)[j]?=(x.vals[j]?).map (IV old next R j):=fun j=>by simp[Gu]
 have d:(Gu old next R x.vals).length=x.vals.length:=by simp[Gu]
 refine⟨⟨⟨rfl,rfl⟩,fun h=>(by rw[show _=x.reached from rfl,hr]at h;cases h),fun _=>⟨d.trans (hx.vC hr).1,(hx.vC hr).2.1,by have:=(hx.vC hr).2.2;show x.rank<R+1;omega⟩,fun v t=>?_⟩,?_,fun r G O=>?_,⟨hr,rfl⟩,d,fun j v U H=>?_⟩
 ·obtain⟨j,U⟩:=i!.1 t
  rw[T]at U;cases t:x.vals[j]? with
  |none=>rw[t]at U;cases U
  |some B=>
   rw[t]at U;obtain⟨_,_,_,_,_,_,k,_⟩:=key j B t;cases U;exact k
 ·unfold mQ
  rw[aA (by simp[hr])]
  congr 1
  refine dW fun j=>?_
  rw[bG,T];cases t:x.vals[j]? with
  |none=>
   have:vs.length<=j:=by rw[hn.2.1,<-(hx.vC hr).1];exact qL.1 t
   rw[bU this];rfl
  |some B=>
   obtain⟨_,w,_,O,_,_,_,k,_⟩:=key j B t;rw[O];exact dv some k
 ·unfold mQ
  show(if x.reached=false∨(0<=r/\r<=x.rank) then none else some ((Gu old next R x.vals).map (fN r)))=_;split
  ·rfl
  congr 1
  refine dW fun j=>?_
  rw[bG,T,bG];cases t:x.vals[j]? with
  |none=>rfl
  |some B=>
   obtain⟨_,_,_,_,_,_,_,_,k,_⟩:=key j B t;exact dv some (k r G O)
 have U:(Gu old next R x.vals)[j]?=some v:=U;rw[T]at U;cases t:x.vals[j]? with
 |none=>rw[t]at U;cases U
 |some B=>
  rw[t]at U;obtain⟨_,w,_,O,_,_,_,_,_,k⟩:=key j B t;have e:IV old next R j B=v:=by simpa using U
  rw[e]at k;rcases k with k|k
  ·exact aJ (by rw[k])
  exact aI ⟨k.1,by rw[cx,O];exact k.2⟩
end
section
variable {P:Pm} {n nv:Nat} {B:List Nd} {R:Int} {vs:List VV}
def xt{α:Type}{f:α->Nat}(d:α):∀(l:List α) (i:Nat) (s:α),i<l.length->f s<f (l.getD i d)->((l.set i s).map f).sum<(l.map f).sum
 |[],i,s,h,_=>by simp at h
 |a :: l,0,s,_,h=>by simp at h⊢;exact h
 |a :: l,i+1,s,h,h2=>by
  have:=xt d l i s (by simpa using h) (by simpa using h2);rw[cU,kL,kL,tU,tU];omega
def hP(nv:Nat)(e:PE):Nat:=if e.r then((List.range nv).filter fun i=>!(e.at i).any).length else 9
def Z8(nv:Nat)(hs:List PE):Nat:=(hs.map (hP nv)).sum
def UY(nv N:Nat):Z8 nv (List.replicate N PE.zero)=N*9:=by
 unfold Z8;rw[w8]
 induction N with
 |zero=>rfl
 |succ n B=>rw[dN,tU,B];show 9+_=_;omega
def Mv{p:Int}{a b:Nat->EV}(h:∀q∈P.ins n,a q.1=b q.1):P.say p n a=P.say p n b:=by
 unfold Pm.say;generalize P.Tp n=e;revert e;generalize P.ins n=l at h
 induction l with
 |nil=>intro e;rfl
 |cons q l B=>
  intro e;rw[gx,gx,h q ak];exact B (fun q A=>h q (by simp[A])) _
abbrev gu(ns:List Nd):Ct:=⟨5,1,ns⟩
structure lz(P:Pm)(s:Nat×List Nd)(hs:List PE)(wt:BS):Prop where
  len:s.2.length=P.nd.length
  Gv:∀x∈s.2,GH (s.1:Int) P.nv x
  pr:∀n,PR P.nv (bD hs n) (e7 (gu s.2) (-1) n)
  up:∀n,jP 5 (e7 (gu s.2) (-1) n) (P.say 5 n (e7 (gu s.2) (-1)))
  lst:oV P (gu s.2)=true
  snd:∀i,i<P.nd.length->bt wt i=false->jP 5 (P.say 5 i (e7 (gu s.2) (-1))) (e7 (gu s.2) (-1) i)
  ik:s.1+Z8 P.nv hs<=P.nd.length*9
def Fe:Nf P (gu B) n=true↔(((gu B).at n).reached=true->Oi 5 (mQ ((gu B).at n) (((gu B).at n).rank+1)) (P.say 5 n (e7 (gu B) ((gu B).at n).rank))=true/\∀(j:Nat) (v:Vl),((gu B).at n).vals[j]?=some v->v.early=true->Db (P.say 5 n (e7 (gu B) v.rank)) j=true):=by
 unfold Nf;cases L:((gu B).at n).reached with
 |false=>simp
 | true=>
  simp only[wX,jg,aS,bM,bZ,forall_const,true_implies];refine and_congr Iff.rfl ⟨fun h j v U H=>?_,fun h j U=>?_⟩
  ·have:=h j (bn.1 U).1
   rw[U]at this
   simpa[H]using this
  rw[bk U];cases H:(((gu B).at n).vals[j]).early with
  |false=>simp[H]
  |true=>simpa[H]using h j _ (bk U) H
def aa7{x:Nat}{y:Nd}(hx:x<B.length):(gu (B.set x y)).at n=if x=n then y else(gu B).at n:=mX B x n y q? hx
def Dt(h:∀x∈B,GH R nv x)(n:Nat):GH R nv ((gu B).at n):=by
 rcases y9 (gu B) n with G|G
 ·exact h _ G
 rw[G];exact K? R nv
def Sv(h:∀x∈B,GH R nv x)(h0:0<=R):e7 (gu B) R=e7 (gu B) (-1):=funext fun n=>UR (Dt h n) h0
def K9{x:Nd}:mQ x (-1)=none↔x.reached=false:=by
 unfold mQ;cases x.reached<;>simp
structure StC(R:Int)(nv:Nat)(vs:List VV)(x y:Nd):Prop where
  ok:GH (R+1) nv y
  last:mQ y (-1)=some vs
  hist:∀r,0<=r->r<=R->mQ y r=mQ x r
  rch:y.reached=true
  rise:(x.reached=false/\y.rank=R/\mQ y (R+1)=some vs)∨(x.reached=true/\y.rank=x.rank)
  early:∀(j:Nat) (v:Vl),y.vals[j]?=some v->v.early=true->x.vals[j]?=some v∨(v.rank=R/\(vs.getD j VV.z).any=true)
section
variable {P:Pm} {s:Nat×List Nd} {hs:List PE} {wt:BS} {x:Nat}
structure OpC(P:Pm)(s:Nat×List Nd)(hs:List PE)(x:Nat)(vs:List VV):Prop where
  say:P.say 5 x (e7 (gu s.2) (-1))=some vs
  ok:ei 5 P.nv (some vs)
  pr:PR P.nv (KC.jM (bD hs x) (KC.bL P (bD hs) x)) (some vs)
  nb:Oi 5 (some vs) (e7 (gu s.2) (-1) x)=false
  le:jP 5 (e7 (gu s.2) (-1) x) (some vs)
  eok:∀r n,ei 5 P.nv (e7 (gu s.2) r n)
def lz.open(N:lz P s hs wt)(b:cE P)(Z:mA P)(g:j9 P)(F:P.nx.length=P.nd.length)(hb:KC.e4 (KC.bL P (bD hs) x) (bD hs x)=false):∃vs,OpC P s hs x vs:=by
 have X:∀r n,ei 5 P.nv (e7 (gu s.2) r n):=fun r n=>da (sY N.Gv) r n
 have o:=KC.fO b Z g F (fun m=>⟨N.pr m,X (-1) m⟩) x;have Y:=fun i=>(KC.cF o.1 o.2 i).1
 have c:=fun i=>(KC.cF (N.pr x) (X (-1) x) i).1
 rw[Cx b.nv o.1 (N.pr x) Y c]at hb;have U:=Qu b.nv (N.pr x) o.1 c Y;have e:CY 5 (e7 (gu s.2) (-1) x) (P.say 5 x (e7 (gu s.2) (-1)))=P.say 5 x (e7 (gu s.2) (-1)):=A2 (rh (X _ _) o.2) o.2 (Lt (X _ _) o.2 (N.up x) (iN 5 _)) (Rj (X _ _) o.2);rw[e]at U;cases t:P.say 5 x (e7 (gu s.2) (-1))with
 |none=>rw[t]at hb;simp[Oi]at hb
 |some vs=>
  have E:=N.up x;rw[t]at hb U o E;exact⟨vs,t,o.2,U,hb,E,X⟩
def lz.node(N:lz P s hs wt)(h:OpC P s hs x vs):∃y,(M6 P.nv s x (bD hs x) (KC.jM (bD hs x) (KC.bL P (bD hs) x))).2=s.2.set x y/\StC (s.1:Int) P.nv vs ((gu s.2).at x) y:=by
 have K:=N.pr x;have a:=Dt N.Gv x;cases H:e7 (gu s.2) (-1) x with
 |none=>
  rw[H]at K;have L:(bD hs x).r=false:=by rw[show bD hs x=PE.zero from K];rfl
  have E:((gu s.2).at x).reached=false:=K9.1 H;have f:=aaQ (R:=(s.1:Int)) h.pr h.ok ah;refine⟨_,by simp only[M6,L];rfl,⟨f.ok,f.last _ (aJ rfl),fun r G O=>(f.hist r G O).trans ?_,f.rch.1,aJ ⟨E,f.rch.2,f.last _ (aI rfl)⟩,fun j v U t=>?_⟩⟩
  ·unfold mQ;rw[aD (aJ E)]
  rw[f.early v (aL U)]at t;cases t
 | some l=>
  rw[H]at K;have E:((gu s.2).at x).reached=true:=by
   cases T:((gu s.2).at x).reached with
   |true=>rfl
   |false=>rw[show e7 (gu s.2) (-1) x=none from K9.2 T]at H;cases H
  have hl:=h.le;have X:=h.eok (-1) x;rw[H]at hl X;have f:=adi a ah E H K h.pr X h.ok hl;refine⟨_,by simp only[M6,K.1,dx];rfl,⟨f.ok,f.last,f.hist,f.rch.1,aI ⟨E,f.rch.2⟩,f.early⟩⟩
def OpC.less(h:OpC P s hs x vs)(N:lz P s hs wt)(hx:x<hs.length)(Z:P.nv<=8):Z8 P.nv (hs.set x (KC.jM (bD hs x) (KC.bL P (bD hs) x)))<Z8 P.nv hs:=by
 refine xt PE.zero hs x _ hx ?_;show hP P.nv _<hP P.nv (bD hs x);have K:=N.pr x;cases H:e7 (gu s.2) (-1) x with
 |none=>
  rw[H]at K;unfold hP;rw[aD h.pr.1,show bD hs x=PE.zero from K];have:=List.length_filter_le (fun i=>!((KC.jM PE.zero (KC.bL P (bD hs) x)).at i).any) (List.range P.nv);rw[tS]at this;show _<9;omega
 | some l=>
  have hl:=h.le;have X:=h.eok (-1) x;have D:=h.nb;rw[H]at K hl X D;unfold hP;rw[aD h.pr.1,aD K.1]
  have f:∀i,i<P.nv->∃u v,l[i]?=some u/\vs[i]?=some v/\(bD hs x).at i=u/\(KC.jM (bD hs x) (KC.bL P (bD hs) x)).at i=v/\okV 5 u/\okV 5 v/\gS 5 u v:=fun i hi=>by
   have G:i<l.length:=by rw[K.2.1];exact hi
   have O:i<vs.length:=by rw[h.pr.2.1];exact hi
   have Q:=bk G;have z:=bk O;exact⟨l[i],vs[i],Q,z,by rw[K.2.2,cx,Q];rfl,by rw[h.pr.2.2,cx,z];rfl,(X l rfl).2 _ (eL G),(h.ok vs rfl).2 _ (eL O),hl i _ _ Q z⟩
  refine wy _ (fun i hi J=>?_) ?_
  ·obtain⟨u,v,_,_,Q,z,_,_,I⟩:=f i (bZ.1 hi)
   rw[z]at J;rw[Q];rcases Yj I with e|e
   ·rw[e];exact J
   rw[e]at J;cases J
  refine Classical.byContradiction fun g=>?_
  have:Oi 5 (some vs) (some l)=true:=(jF h.ok X).2 fun j a b y d=>by
   have U:j<P.nv:=by rw[<-h.pr.2.1];exact(bn.1 y).1
   obtain⟨u,v,S,c,Q,z,m,o,I⟩:=f j U;rw[c]at y;rw[S]at d;cases y;cases d;rcases Yj I with e|e
   ·rw[e];exact iM 5 _
   cases E:b.any with
   |true=>rcases UL m with k|k;(· rw[k.2,e];exact iM 5 _);rw[E]at k;cases k.1
   |false=>exact absurd ⟨j,bZ.2 U,by rw[z,e];rfl,by rw[Q,E];rfl⟩ g
  rw[this]at D;cases D
end
end
section
variable {P:Pm} {s:Nat×List Nd} {hs:List PE} {c:BS} {x:Nat}
abbrev s0C(N:Nat):Nat×List Nd:=(0,List.replicate N qi)
def Ss(N n:Nat):(gu (List.replicate N qi)).at n=qi:=by
 unfold Ct.at;rw[cx,mD];split<;>rfl
def LS(N:Nat)(r:Int)(n:Nat):e7 (gu (List.replicate N qi)) r n=none:=by
 unfold e7;rw[Ss];unfold mQ;exact aD (aJ rfl)
def Vz(N n:Nat):bD (List.replicate N PE.zero) n=PE.zero:=by
 unfold bD;rw[cx,mD];split<;>rfl
def Je(hm:P.nd.length<=60):lz P (s0C P.nd.length) (List.replicate P.nd.length PE.zero) (jK P.nd.length):=by
 refine⟨ak,fun x E=>by rw[ji E];exact K? _ _,fun n=>by rw[LS,Vz];rfl,fun n=>by rw[LS];trivial,?_,fun i hi D=>?_,by rw[UY];simp⟩
 ·unfold oV
  simp only[bM,bZ];intro n _;rw[Fe,Ss];intro h;cases h
 rw[vm _ _ ah ah]at D;simp at D;omega
def lz.skip(N:lz P s hs c)(b:cE P)(Z:mA P)(g:j9 P)(F:P.nx.length=P.nd.length)(hx:x<P.nd.length)(hb:KC.e4 (KC.bL P (bD hs) x) (bD hs x)=true):lz P s hs (eH c (cH [x])):=by
 have C:=b.most;refine⟨N.len,N.Gv,N.pr,N.up,N.lst,fun i hi M=>?_,N.ik⟩;by_cases e:i=x
 ·subst e
  have X:∀r n,ei 5 P.nv (e7 (gu s.2) r n):=fun r n=>da (sY N.Gv) r n
  have o:=KC.fO b Z g F (fun m=>⟨N.pr m,X (-1) m⟩) i;rw[Cx b.nv o.1 (N.pr i) (fun j=>(KC.cF o.1 o.2 j).1) (fun j=>(KC.cF (N.pr i) (X (-1) i) j).1)]at hb;exact(jF o.2 (X _ _)).1 hb
 refine N.snd i hi ?_;rw[kj _ _ _ (jE ah) ah,rH ah ah]at M
 simpa[e]using M
def lz.step(N:lz P s hs c)(hO:cE P)(Z:mA P)(g:j9 P)(F:P.nx.length=P.nd.length)(hx:x<P.nd.length)(hl:hs.length=P.nd.length)(hb:KC.e4 (KC.bL P (bD hs) x) (bD hs x)=false):
  lz P (M6 P.nv s x (bD hs x) (KC.jM (bD hs x) (KC.bL P (bD hs) x))) (hs.set x (KC.jM (bD hs x) (KC.bL P (bD hs) x))) (eP (eH c (cH [x])) ((OE P).getD x (0,0))):=by
 have hm:=hO.most;obtain⟨vs,h⟩:=N.open hO Z g F hb;obtain⟨y,T,l⟩:=N.node h;have aeS:=h.less N (by rw[hl];exact hx) hO.nv;have D:x<s.2.length:=by rw[N.len];exact hx
 have G:(M6 P.nv s x (bD hs x) (KC.jM (bD hs x) (KC.bL P (bD hs) x))).1=s.1+1:=rfl;have B:=h.pr;have hxl:x<hs.length:=by rw[hl];exact hx
 generalize M6 P.nv s x (bD hs x) (KC.jM (bD hs x) (KC.bL P (bD hs) x))=C at *;generalize KC.jM (bD hs x) (KC.bL P (bD hs) x)=z at *;have u:∀n,(gu C.2).at n=if x=n then y else(gu s.2).at n:=fun n=>by rw[T];exact aa7 D
 have I:∀r n,e7 (gu C.2) r n=if x=n then mQ y r else e7 (gu s.2) r n:=fun r n=>by unfold e7;rw[u];split<;>rfl
 have Y:∀q∈C.2,GH (C.1:Int) P.nv q:=fun q A=>by
  rw[G];rw[T]at A;rcases gN A with A|rfl
  ·exact(N.Gv q A).up ah
  have:=l.ok
  simpa using this
 have aeq:∀r n,ei 5 P.nv (e7 (gu C.2) r n):=fun r n=>da (sY Y) r n
 have f:∀r:Int,0<=r->r<=s.1->e7 (gu C.2) r=e7 (gu s.2) r:=fun r a b=>funext fun n=>by
  rw[I];split
  ·rename_i e
   subst e;exact l.hist r a b
  rfl
 have E:e7 (gu s.2) (s.1:Int)=e7 (gu s.2) (-1):=Sv N.Gv ah
 have W:∀n,jP 5 (e7 (gu s.2) (-1) n) (e7 (gu C.2) (-1) n):=fun n=>by
  rw[I];split
  ·rename_i e
   subst e;rw[l.last];exact h.le
  exact iN 5 _
 have V:∀n,jP 5 (P.say 5 n (e7 (gu s.2) (-1))) (P.say 5 n (e7 (gu C.2) (-1))):=fun n=>B6 (aJ rfl) Z n (h.eok (-1)) (aeq (-1)) W
 refine⟨by rw[T,ke];exact N.len,Y,fun n=>?_,fun n=>?_,?_,fun i hi M=>?_,by rw[G];have:=N.ik;omega⟩
 ·rw[I,pW hxl]
  split
  ·rw[l.last];exact B
  exact N.pr n
 ·rw[I]
  split
  ·rename_i e
   subst e;rw[l.last,<-h.say];exact V x
  exact fh (jm (aJ rfl) Z n (h.eok (-1))) (h.eok _ _) (N.up n) (V n)
 ·unfold oV
  simp only[bM,bZ];intro n J;have hold:Nf P (gu s.2) n=true:=by
   have:=N.lst;unfold oV at this;simp only[bM,bZ]at this;exact this n J
  rw[Fe]at hold⊢;have hb:∀m:Nat,GH (s.1:Int) P.nv ((gu s.2).at m):=Dt N.Gv;rw[u];by_cases e:x=n;rotate_left
  ·rw[aA e]
   intro hr;obtain⟨o1,o2⟩:=hold hr;have hi:=(hb n).vC hr;refine⟨?_,fun j v U H=>?_⟩
   ·rw[f _ hi.2.1 ah]
    exact o1
   have t:=((hb n).each v (aL U)).form;rw[H]at t;have p:((gu s.2).at n).rank<v.rank/\v.rank<(s.1:Int):=by rcases t with q|q|q;(· cases q.2.1);(· exact⟨q.2.2.1,q.2.2.2.1⟩);cases q.2.1
   rw[f _ ah ah];exact o2 j v U H
  subst e;rw[aD rfl];intro _;rcases l.rise with⟨r1,X,r3⟩|⟨r1,X⟩
  ·refine⟨?_,fun j v U H=>?_⟩
   ·rw[X,r3,f _ ah (dU _),E,h.say]
    exact(jF h.ok h.ok).2 (iN 5 _)
   rcases l.early j v U H with k|⟨L,R⟩
   ·rw[((hb x).out r1).2]at k;simp at k
   rw[L,f _ ah (dU _),E,h.say];exact R
  obtain⟨o1,o2⟩:=hold r1;have hi:=(hb x).vC r1;refine⟨?_,fun j v U H=>?_⟩
  ·rw[X,l.hist _ ah ah,f _ hi.2.1 ah]
   exact o1
  rcases l.early j v U H with k|⟨L,R⟩
  ·have t:=((hb x).each v (aL k)).form
   rw[H]at t;have p:((gu s.2).at x).rank<v.rank/\v.rank<(s.1:Int):=by rcases t with q|q|q;(· cases q.2.1);(· exact⟨q.2.2.1,q.2.2.2.1⟩);cases q.2.1
   rw[f _ ah ah];exact o2 j v k H
  rw[L,f _ ah (dU _),E,h.say];exact R
 rw[gC,BP,kj _ _ _ (jE ah) ah,rH ah ah,Ie hm F x i ah]at M;have o:P.say 5 i (e7 (gu C.2) (-1))=P.say 5 i (e7 (gu s.2) (-1)):=by
  refine Mv fun q A=>?_
  rw[I,aA];intro e;have O:=M.2;rw[show decide (i<P.nd.length)=true by simpa using hi,fj]at O;exact l5 O (bP.2 ⟨q,A,e.symm⟩)
 rw[o,I];by_cases e:x=i
 ·subst e
  rw[aD rfl,l.last,h.say];exact iN 5 _
 rw[aA e];refine N.snd i hi ?_;have G:=M.1
 simpa[show ¬i=x from fun e2=>e e2.symm]using G
def snC(b:cE P)(Z:mA P)(g:j9 P)(F:P.nx.length=P.nd.length):KC.SnE P (M6 P.nv) (fun _ _ _ next=>next) (Z8 P.nv) (lz P) (s0C P.nd.length):=by
 refine⟨Je b.most,fun s z c x N l E D=>N.skip b Z g F (l.low x E) D,fun s z c x N l E D=>N.step b Z g F (l.low x E) l.len D,fun s z c x N l E D=>?_,fun s z c x N l E D=>?_⟩
 ·obtain⟨vs,h⟩:=N.open b Z g F D
  exact⟨_,h.pr,h.ok⟩
 obtain⟨vs,h⟩:=N.open b Z g F D;exact h.less N (by rw[l.len];exact l.low x E) b.nv
def lz.room(N:lz P s hs c)(b:cE P)(x:Nat):(s.2.getD x qi).vals.length<=8/\s.1<100000:=by
 have G:=Dt N.Gv x;have C:=b.most;have Z:=N.ik;refine⟨?_,ah⟩;show((gu s.2).at x).vals.length<=8;cases L:((gu s.2).at x).reached with
 |true=>rw[(G.vC L).1];exact b.nv
 |false=>rw[(G.out L).2];simp
end
def abT{w:World}{sb B n:Nat}{v:Value}{M:List Value}{cs:Array Value}(h:w.ownsRow B 2 1 v n M)(hb:w.heap[sb]?=some (.cells cs 182 (0,0))):v.ownBlock=none∨v.ownBlock≠some sb:=by
 cases t:v.ownBlock with
 |none=>exact aJ rfl
 |some k=>
  refine aI (fun e=>?_);obtain⟨Y,m,G⟩:=fg h k t;cases e;rw[G]at hb;simp at hb
open Go.RowKit Go.Proofs Go.Maps Tryz
def Hx(m nb s N nc:Nat)(Z:Option Addr)(B:List Nd)(x:Nd)(r:Int)(w:World)(t:w.heap[nb]?=some (.cells #[.slice Z N nc] 46 (0,0)))(n:w.heap[s]?=some (fY r))(h:cj w Z B)(hm:B[m]?=some x)(J:m<N)(hv:x.vals.length<=8):
  Cl 237 #[Iv m,.pointer (some (Ad nb 0)),.pointer (some (Ad s 0))] w (Rb w (.agg (KC.aH (kt r x)).toArray)):=by
 have O:(m:Int)<N:=ah
 obtain⟨b,o,fa,ra,va,fc,rc,vc,rfl,G,F,C,X,k,u⟩:=h m x hm;have f:Hd (∀W,Bl w W->Cl 162 #[.agg #[.slice fa x.facts.length fc,.slice ra x.aO.length rc,.bool x.reached,Iv x.rank,.slice va x.vals.length vc],Iv r] W (Rb W (.agg (KC.aH (kt (_:Int) x)).toArray))):=fun W U=>mx fa ra va _ fc _ rc vc x.reached x.rank r x.vals W (u.vals.below U) hv
 have R:=hid (Aa t (Aa n (Aa G (Aa F (Aa C (Aa X k))))));clear t n h hm hv G F C X k u;generalize kt r x=z at f⊢;generalize x.facts.length=T at f R;generalize x.aO.length=rl at f R;generalize x.reached=rd at f R;generalize x.rank=g at f R;generalize x.vals.length=j at f R;go_enter func237,ntmps237
 go_upto_region 1 with fail
 refine uA (F:=Code.wp _ _ _ _) fun V H=>?_
 refine wp_region_held_drew (S:=fun W'=>Bl w W') au H.b.drew (fun aB=>?_);refine tq 0 (.slice (some (Ad b o)) N nc) (y:=fun W' aU=>by have L:=(ae (aE aU R.a)).1;clear aB aU;go_simp) (h:=?_);refine tq 1 (Iv m) (h:=?_);refine tq 2 (.pointer (some (Ad b (o+m*5)))) (h:=?_);refine tq 3 (.agg #[.slice fa T fc,.slice ra rl rc,.bool rd,Iv g,.slice va j vc]) (y:=fun W' aU=>by have k0:=ax R.c aU;have L:=ax R.d aU;have k2:=ax R.e aU;have M:=ax R.f aU;have k4:=ax R.F aU;clear aB;go_simp) (h:=?_);refine tq 4 (Iv r) (y:=fun W' aU=>by have L:=(ae (aE aU R.b)).1;clear aB aU;go_simp) (h:=?_);refine r1 5 (h:=fun K A=>?_)
 go_simp
 refine(f.o _ H.b.drew).mono ?_;rintro e Y ⟨rfl,D⟩;have l:Hd (Bl V Y):=aq (aM _ _).drew D;clear D;refine A.out _ _ (aq H.b l.o) (fun aB=>?_);clear A K;refine pt ?_;refine r1 6 (h:=fun K A=>?_);rw[aD au];refine wp_store_mid 228 (.tmp 4) (.tmp 10) rfl w.heap.size 0 (KC.aH z).toArray rfl rfl (bO (n:=17) (aE l.o H.a) rfl) au (KC.a! _) ?_;refine A.out _ _ (aY _ (aF _) _ _ _ (aq H.b l.o)) (fun aB=>?_);clear A K;refine pt ?_;refine wpAnyH_done au ?_ _;have hq:=bX (cs:=[.bool false,.bool false,Iv 0,.bool false,Iv 0,.bool false,Iv 0,.bool false,Iv 0,.bool false,Iv 0,.bool false,Iv 0,.bool false,Iv 0,.bool false,Iv 0]) (aE l.o H.a) (vs:=KC.aH z) rfl;have E:=run_loadVar_mid (P:=Tryz.prog) (Y.setCells w.heap.size 0 (KC.aH z)) w.heap.size 0 228 (KC.aH z) _ (aT hq) underlying228 rfl au
 go_wp2_with fail
 refine aG (v:=.agg (KC.aH z).toArray) (by simp[results,results237,E,Act.put,asAddr]) rfl ⟨rfl,aB⟩
def MD(rb db B i sb d nb nc:Nat)(k:Option Addr)(P:Pm)(c:Ct)(r:Int)(w:World)(p:KC.l? w B rb P)(hd:w.heap[db]?=some (.cells #[.iface 328 (.agg #[])] 381 (0,0)))(b:cE P)(n:mA P)(g:j9 P)(hx:P.nx.length=P.nd.length)(hi:i<P.nd.length)(hl:c.nodes.length=P.nd.length)(Z:OZ c P.nv)(hr:0<=r)
  (hs:w.heap[sb]?=some (.cells #[.slice (some (Ad rb 0)) P.nd.length P.nd.length,.func (.func 270) #[] (bE db),.func (.func 272) #[] (bE db)] 233 (0,0))) (a:w.heap[d]?=some (fY i)) (L:w.heap[nb]?=some (.cells #[.slice k P.nd.length nc] 46 (0,0))) (h:cj w k c.nodes):
  Cl 236 #[Iv r,.pointer (some (Ad sb 0)),.pointer (some (Ad d 0)),.pointer (some (Ad nb 0))] w (Rb w (.agg (KC.aH (KC.bL P (fun m=>kt r (c.at m)) i)).toArray)):=by
 have j:Hd (∀(W:World) (s:Nat),Bl w W->W.heap[s]?=some (fY r)->Cl 210 #[KC.cZ rb db P.nd.length,Iv i,.func (.func 237) #[] (nk nb s)] W (Rb W (.agg (KC.aH (KC.bL P (fun m=>kt r (c.at m)) i)).toArray))):=by
  intro W s U f;refine KC.mM rb db B i _ P _ (fun m=>kt r (c.at m)) W (p.below U) (aE U hd) b n g hx hi (fun m=>⟨e7 c r m,Z.rk b.nv hr m,da Z.env _ _⟩) (fun M w=>Tryz.call237 M w) fun m C u T=>?_
  have S:c.nodes[m]?=some (c.at m):=by unfold Ct.at;rw[List.getD,bk ah];rfl
  have t:(c.at m).vals.length<=8:=by
   cases hr:(c.at m).reached
   ·rw[(Z.at m).2.2.2.2 hr];simp
   rw[(Z.at m).1 hr];exact b.nv
  exact Hx m nb s P.nd.length nc k c.nodes (c.at m) r u (aE T (aE U L)) (aE T f) ((h.below U).below T) S C t
 have R:=hid (Aa hs a);clear p hd b n g hx hi hl Z hr hs a L h;generalize KC.bL P (fun m=>kt r (c.at m)) i=z at j⊢;generalize P.nd.length=N at j R;simp only[KC.cZ]at j;go_enter func236,ntmps236
 go_upto_region 1 with fail
 refine yJ (F:=Code.wp _ _ _ _) fun V H=>?_
 obtain⟨F,y⟩:=ae (aE H.b R.a);obtain⟨v,o⟩:=ae (aE H.b R.A)
 go_wp2_with (first|(go_at_call 210;refine(j.o _ w.heap.size H.b H.a.1).mono ?_;rintro e Y ⟨rfl,D⟩;have l:=hid D;clear D F y v o;have q:=bO (n:=17) (aE l.o H.a.2) rfl)|(refine wpList_store_mid rfl 228 (.tmp 5) (.tmp 9) rfl (w.heap.size+1) 0 (KC.aH z).toArray rfl rfl q au (KC.a! _) ?_))
 have A:=bX (cs:=[.bool false,.bool false,Iv 0,.bool false,Iv 0,.bool false,Iv 0,.bool false,Iv 0,.bool false,Iv 0,.bool false,Iv 0,.bool false,Iv 0,.bool false,Iv 0]) (aE l.o H.a.2) (vs:=KC.aH z) rfl;have E:=run_loadVar_mid (P:=Tryz.prog) (Y.setCells (w.heap.size+1) 0 (KC.aH z)) (w.heap.size+1) 0 228 (KC.aH z) _ (aT A) underlying228 rfl au;refine aG (v:=.agg (KC.aH z).toArray) (by simp[results,results236,E,Act.put,asAddr]) rfl ⟨rfl,aY _ ah _ _ _ (aq H.b l.o)⟩
open Go.RowKit Go.Proofs Go.Maps Tryz
def ti(rb db B nc:Nat)(Z:Option Addr)(P:Pm)(c:Ct)(w:World)(hE:KC.l? w B rb P)(hd:w.heap[db]?=some (.cells #[.iface 328 (.agg #[])] 381 (0,0)))(hO:cE P)(hC:mA P)(ho:j9 P)(hx:P.nx.length=P.nd.length)(hl:c.nodes.length=P.nd.length)(hc:OZ c P.nv)(h:cj w Z c.nodes):
  Cl 164 #[KC.cZ rb db P.nd.length,.slice Z P.nd.length nc] w (Rb w (.bool ((List.range P.nd.length).all (Hy P c)))):=by
 have hN:=hO.most;have l:=hid (Aa hE (Aa hd (Aa hO (Aa hC (Aa ho (Aa hx (Aa hl (Aa hc h))))))));clear hE hd hO hC ho hx hl hc h;obtain⟨N,rC⟩:=Ea P.nd.length;rw[<-rC]at hN⊢;have HN:=hid rC;clear rC;simp only[KC.cZ];go_enter func164,ntmps164
 go_upto_region 1 with fail
 refine yJ (F:=Code.wp _ _ _ _) fun W0 R=>?_
 obtain⟨F,x2⟩:=ae R.a.2
 go_wp2_with fail
 clear F x2;generalize Value.agg #[.slice (some (Ad rb 0)) N N,.func (.func 270) #[] (bE db),.func (.func 272) #[] (bE db)]=sv0
 go_loopw[11] (fun iv wr=>∃k:Nat,k<=N/\iv=Iv k/\Hd ((List.range k).all (Hy P c)=true/\Bl W0 wr)) (fun iv _=>N-(intOf iv).toNat)
 case atStart=>exact⟨0,bB _,rfl,rfl,aM _ _⟩
 obtain⟨k,hk,rfl,M⟩:=hrel;have HW:Hd (Bl w wr):=aq R.b M.A;by_cases J:k<N;rotate_left
 ·have s:¬(k:Int)<N:=ah
  obtain rfl:N=k:=ah
  go_wp2_with fail
  go_ret
  exact⟨by rw[M.a];rfl,HW.o⟩
 have s:(k:Int)<N:=ah
 have hx:c.nodes[k]?=some (c.at k):=by unfold Ct.at;rw[List.getD,bk (by have:=l.g;have:=HN.o;omega)];rfl
 obtain⟨b,o,fa,ra,va,fc,rc,vc,rfl,c0,c1,c2,X,c4,c5⟩:=l.H.below HW.o k _ hx;obtain⟨a1,a2,a3,a4,a5⟩:=l.h.at k;have Ro:(c.at k).vals.length<=8:=by
  cases hr:(c.at k).reached
  ·rw[a5 hr];simp
  rw[a1 hr];exact l.c.nv
 have hs:∀r:Int,0<=r->PR P.nv (KC.bL P (fun m=>kt r (c.at m)) k) (P.say 5 k (e7 c r))/\ei 5 P.nv (P.say 5 k (e7 c r)):=fun r hr=>KC.fO l.c l.d l.e l.f (held:=fun m=>kt r (c.at m)) (at_:=e7 c r) (fun m=>⟨l.h.rk l.c.nv hr m,da l.h.env _ _⟩) k
 have hf:=l.h.rk l.c.nv (r:=(c.at k).rank+1) ah k;obtain⟨ok,u⟩:=Ea (KC.e4 (kt ((c.at k).rank+1) (c.at k)) (KC.bL P (fun m=>kt (c.at k).rank (c.at m)) k));obtain⟨H,zL⟩:=Ea ((List.range (c.at k).vals.length).all (YS (c.at k).vals fun r=>KC.bL P (fun m=>kt r (c.at m)) k));have Ny:Hy P c k=(ok&&H):=by rw[u,zL];rfl
 have HF:Hd ((ok&&H)=false->(List.range N).all (Hy P c)=false):=fun h=>fS (k:=k) (Ny.trans h) J
 have HT:Hd ((ok&&H)=true->(List.range (k+1)).all (Hy P c)=true):=fun h=>by rw[d!,M.a,Ny,h];rfl
 have HF1:Hd (∀W,Bl wr W->Cl 162 #[.agg #[.slice fa (c.at k).facts.length fc,.slice ra (c.at k).aO.length rc,.bool (c.at k).reached,Iv (c.at k).rank,.slice va (c.at k).vals.length vc],Iv ((c.at k).rank+1)] W (Rb W (.agg (KC.aH (kt ((c.at k).rank+1) (c.at k))).toArray))):=fun W hW=>mx fa ra va _ fc _ rc vc _ _ _ _ W (c5.vals.below hW) Ro
 have j:Hd (∀(W:World) (ib:Nat) (r:Int),0<=r->Bl wr W->W.heap[ib]?=some (fY k)->Cl 236 #[Iv r,.pointer (cu w.heap.size),.pointer (some (Ad ib 0)),.pointer (cM w.heap.size)] W (Rb W (.agg (KC.aH (KC.bL P (fun m=>kt r (c.at m)) k)).toArray))):=by
  intro W ib r hr hW sR;have G:=aq HW.o hW;have A8:=aE hW (aE M.A R.a.1);have f:=aE hW (aE M.A R.a.2);rw[HN.o]at A8 f;exact MD rb db B k w.heap.size ib (w.heap.size+1) nc _ P c r W (l.a.below G) (aE G l.b) l.c l.d l.e l.f (by rw[<-HN.o];exact J) l.g l.h hr A8 sR f (l.H.below G)
 have HP:Hd (∀W,Bl wr W->Cl 272 #[.agg (KC.aH (kt ((c.at k).rank+1) (c.at k))).toArray,.agg (KC.aH (KC.bL P (fun m=>kt (c.at k).rank (c.at m)) k)).toArray,.pointer (some (Ad db 0))] W (Rb W (.bool ok))):=by
  rw[u];exact fun W hW=>KC.lH _ _ db W (aE (aq HW.o hW) l.b) (fun i=>(KC.cF hf (da l.h.env _ _) i).2) (fun i=>(KC.cF (hs _ a3).1 (hs _ a3).2 i).2)
 have n:Hd (∀(W:World) (ib:Nat),Bl wr W->W.heap[ib]?=some (fY k)->Cl 238 #[.slice va (c.at k).vals.length vc,.func (.func 236) #[] #[.pointer (cu w.heap.size),.pointer (some (Ad ib 0)),.pointer (cM w.heap.size)]] W (Rb W (.bool H))):=by
  intro W ib hW sR;rw[zL];exact zO va vc _ _ _ (fun r=>KC.bL P (fun m=>kt r (c.at m)) k) W (c5.vals.below hW) Ro (fun xs w=>Tryz.call236 xs w) fun v t _ W2 T=>j.o W2 ib v.rank (a2 v t).2.1 (aq hW T) (aE T sR)
 have HS1:Hd (∀(W:World) (ib:Nat),Bl wr W->W.heap[ib]?=some (fY k)->Cl 236 #[Iv (c.at k).rank,.pointer (cu w.heap.size),.pointer (some (Ad ib 0)),.pointer (cM w.heap.size)] W (Rb W (.agg (KC.aH (KC.bL P (fun m=>kt (c.at k).rank (c.at m)) k)).toArray))):=fun W ib hW sR=>j.o W ib _ a3 hW sR
 clear j u zL Ny hf hs a1 a2 a5 c5 Ro hx;generalize KC.bL P (fun m=>kt (c.at k).rank (c.at m)) k=z2 at HS1 HP;generalize kt ((c.at k).rank+1) (c.at k)=x at HF1 HP;generalize(c.at k).facts.length=fl at HF1 c0;generalize(c.at k).aO.length=rl at HF1 c1;generalize(c.at k).reached=rd at HF1 c2;generalize(c.at k).rank=g at HF1 X a3 a4 HS1;generalize(c.at k).vals.length=vl at HF1 c4 n
 go_upto_region 4 with fail
 clear c0 c1 c2 X c4;refine yJ (F:=Code.wp _ _ _ _) fun V HV=>?_
 have HV2:Hd ((_/\_)/\Bl wr V/\_):=⟨HV.a,HV.b,aE HV.b (aE M.A R.a.1)⟩;clear HV;obtain⟨F,x2⟩:=ae HV2.a.2
 go_upto_region 6 with(first|(go_at_call 162;refine(HF1.o _ HV2.b).mono ?_;rintro e Y ⟨rfl,D⟩;have HY:=hid D;clear D F x2)|(refine wpList_store_mid rfl 228 (.tmp 8) (.tmp 21) rfl Y.heap.size 0 (KC.aH x).toArray rfl rfl (bO (n:=17) (bf _ _) rfl) au (KC.a! _) ?_))
 refine Ju (F:=Code.wp _ _ _ _) rfl fun U O=>?_
 have Oy:Hd (Bl wr U/\(_/\_)/\_/\_):=⟨aq HV2.b (aq HY.o O.A),⟨aE O.A (aE HY.o HV2.a.1),aE O.A (aE HY.o HV2.a.2)⟩,aE O.A (aE HY.o HV2.B),O.a⟩;clear O HY HV2;generalize Y.heap.size=eb at Oy⊢;simp only[Act.put];refine wp_region_held_drew (S:=fun W'=>Bl U W') au (aM _ _).drew (fun aB=>?_);refine tq 0 (.pointer (some (Ad w.heap.size 2))) (h:=?_);refine tq 1 (.func (.func 272) #[] (bE db)) (y:=fun W' aU=>by have L:=(ae (aE aU Oy.c)).1;clear aB aU;go_simp) (h:=?_);refine tz 2 (.agg (KC.aH x).toArray) (y:=yieldsIf_load_mid au _ _ rfl _ _ rfl _ _ (fun W' aU=>aT (aE aU Oy.C)) underlying228 rfl au) (h:=?_);refine tq 3 (.func (.func 236) #[] #[.pointer (cu w.heap.size),.pointer (cu wr.heap.size),.pointer (cM w.heap.size)]) (h:=?_);refine tq 4 (.pointer (some (Ad (wr.heap.size+1) 3))) (h:=?_);refine tq 5 (Iv g) (y:=fun W' aU=>by have L:=(ae (aE aU Oy.b.2)).1;clear aB aU;go_simp) (h:=?_);refine r1 6 (h:=fun K A=>?_)
 go_simp
 refine(HS1.o _ _ Oy.a.drew Oy.b.1).mono ?_;rintro e Y1 ⟨rfl,D⟩;have E:Hd (Bl U Y1):=aq (aM _ _).drew D;clear D;refine A.out _ _ E.o (fun aB=>?_);clear A K;refine pt ?_;refine r1 7 (h:=fun K A=>?_)
 go_simp
 refine(HP.o _ (aq Oy.a E.o)).mono ?_;rintro e Y2 ⟨rfl,D⟩;have C:Hd (Bl U Y2):=aq E.o D;clear D;refine A.out _ _ C.o (fun aB=>?_);clear A K;refine pt ?_;cases ok
 ·refine tq 8 (.bool true) (h:=?_)
  refine tq 9 (.bool true) (h:=?_);refine tn 10 (h:=?_);refine tn 11 (h:=?_);refine tn 12 (h:=?_);refine tn 13 (h:=?_);refine tn 14 (h:=?_);refine tq 15 (.bool true) (h:=?_);refine wpAnyH_done au ?_ _
  go_wp2_with fail
  go_ret
  exact⟨by rw[HF.o (by cases H<;>rfl)];rfl,aq HW.o (aq Oy.a C.o)⟩
 refine tq 8 (.bool false) (h:=?_);refine tq 9 (.bool false) (h:=?_);refine tq 10 (.pointer (some (Ad (wr.heap.size+1) 4))) (h:=?_);refine tq 11 (.slice va vl vc) (y:=fun W' aU=>by have L:=(ae (aE aU Oy.b.2)).1;clear aB aU;go_simp) (h:=?_);refine tq 12 (.func (.func 236) #[] #[.pointer (cu w.heap.size),.pointer (cu wr.heap.size),.pointer (cM w.heap.size)]) (h:=?_);refine r1 13 (h:=fun K A=>?_)
 go_simp
 refine(n.o _ _ (aq Oy.a C.o) (aE C.o Oy.b.1)).mono ?_;rintro e Y3 ⟨rfl,D⟩;have H3:Hd (Bl U Y3):=aq C.o D;clear D;refine A.out _ _ H3.o (fun aB=>?_);clear A K;refine pt ?_;refine tq 14 (.bool (!H)) (h:=?_);refine tq 15 (.bool (!H)) (h:=?_);refine wpAnyH_done au ?_ _;clear aB;cases H
 ·go_wp2_with fail
  go_ret
  exact⟨by rw[HF.o (by trivial)];rfl,aq HW.o (aq Oy.a H3.o)⟩
 go_wp2_with fail
 go_roundw
 case rel=>exact⟨k+1,J,h',HT.o (by trivial),aq M.A (aq Oy.a H3.o)⟩
 simp[intOf];omega
open Go.RowKit Go.Proofs Go.Maps Tryz
def vK(g C nc:Nat)(na:Option Addr)(S:List NC)(P:Pm)(c:Ct)(w:World)(hP:PM w g C S P)(hO:cE P)(hC:mA P)(ho:j9 P)(hx:P.nx.length=P.nd.length)(h:cj w na c.nodes)(d:∀x∈c.nodes,gD x)(u:kq c=true)(hl:c.nodes.length=P.nd.length)(hp:c.problem=6):
  Cl 94 #[eV g P.nd.length C P.nv,.agg #[Iv c.problem,Iv c.bK,.slice na P.nd.length nc]] w (Rb w (Iv (fK P c))):=by
 have hN:=hO.most;have RC:=C7 u ah hl;have hck:fK P c=if c.nodes.all (zI (P.nv:Int)) then(if kN P c then 0 else 7) else 6:=by
  unfold fK;rw[RC,hp,aA (show ¬(6:Int)<=4 by decide)];have hg:c.bK≠1:=by
   intro hg;unfold kq known at u;rw[hp,hg]at u;simp at u
  cases c.nodes.all (zI (P.nv:Int))<;>cases kN P c<;>simp[hg]
 have l:=hid (Aa hP (Aa hO (Aa hC (Aa ho (Aa hx (Aa h (Aa d (Aa u (Aa hl hp)))))))));have H:Hd (∀W,Bl w W->Cl 161 #[.slice na P.nd.length nc,Iv P.nv] W (Rb W (.bool (c.nodes.all (zI (P.nv:Int)))))):=by
  intro W U;have:=o! na nc P.nv c.nodes W (h.below U) ah;rw[hl]at this;exact this
 clear hP hO hC ho hx h d u RC hp;obtain⟨i1,hi,lu,O,K⟩:=cY KB.oP;have HI:Hd (_/\_/\_/\_):=⟨hi,lu,O,K⟩;clear hi lu O K;have J2:=hid hck;clear hck;generalize fK P c=ck at J2⊢;generalize hpr:c.problem=pr;generalize hgr:c.bK=gr;obtain⟨t,hhv⟩:=Ea (c.nodes.all (zI (P.nv:Int)));rw[<-hhv]at J2 H;have HHV:=hid hhv;have HL:=hid hl;clear hhv hl;obtain⟨N,Q⟩:=Ea P.nd.length;rw[<-Q]at hN H⊢;have HN:=hid Q;clear Q;simp only[eV];go_enter func94,ntmps94
 go_upto_region 1 with fail
 refine yJ (F:=Code.wp _ _ _ _) fun W0 R=>?_
 obtain⟨F,y⟩:=ae R.a.1;obtain⟨y1,y2⟩:=ae R.a.2;cases t
 ·go_wp2_with (go_at_call 161;refine(H.o _ R.b).mono ?_;rintro e T ⟨rfl,D⟩;have E:=hid D;clear D F y y1 y2)
  go_ret
  exact⟨by rw[J2.o];rfl,aq R.b E.o⟩
 go_upto_region 3 with(go_at_call 161;refine(H.o _ R.b).mono ?_;rintro e T ⟨rfl,D⟩;have E:=hid D;clear D F y y1 y2)
 have DK:=hid (Qg l.h l.I l.g HHV.o.symm);have j:Hd (Bl w T/\_/\_):=⟨aq R.b E.o,aE E.o R.a.1,aE E.o R.a.2⟩;clear R E H;have hw1:=blt j.B;obtain⟨y1,y2⟩:=ae j.B
 go_upto_region 4 with(at_make;refine il _ rfl (.tmp 16) (.tmp 16) 244 rfl T.heap.size 250 i1 _ 17 underlying244 HI.a HI.b HI.c .i64 .i64 N N N rfl rfl rfl rfl (by rw[HI.C];omega) (by unfold maxLen;omega) (aF _) ?_;intro W2 n iP;have HO:=hid (Aa n iP);clear n iP y1 y2)
 have H2:Hd (d' W2 T.heap.size (KB.aP (List.replicate N PE.zero)).toArray 250/\Below T.heap.size T W2):=by
  have G:=HO.a;rw[jx _ 17 rfl N]at G;exact⟨by rw[<-KB.nw];exact(KB.xV G).1,(aM _ _).grown HO.A (aF _) (fun q e=>by cases e)⟩
 clear HO;have a:Hd (Bl w W2/\_/\_/\_):=⟨aq j.a H2.A,aE H2.A j.b,aE H2.A j.B,H2.a⟩;clear H2 j;generalize T.heap.size=D at a hw1⊢;obtain⟨y1,y2⟩:=ae a.c
 go_wp2_with fail
 clear y1 y2
 go_loopw[21] (fun p wr=>∃i:Nat,i<=N/\p=Iv i/\Hd (wr.heap[D]?=some (.cells (KB.aP ((c.nodes.take i).map AA++List.replicate (N-i) PE.zero)).toArray 250 (0,0))/\Below D W2 wr)) (fun p _=>N-(intOf p).toNat)
 case atStart=>exact⟨0,bB _,rfl,by rw[tI,wQ];exact a.C,aM _ _⟩
 obtain⟨i,hi,rfl,M⟩:=hrel;have hsr:=M.A.size;have hhb:=blt a.C;have wD:Hd (Bl w wr):=a.a.trans (M.A.mono ah);by_cases J:i<N;rotate_left
 ·have s:¬(i:Int)<N:=ah
  obtain rfl:N=i:=ah
  have HF:Hd (d' wr D (KB.aP (c.nodes.map AA)).toArray 250):=by
   have G:=M.a;rw[jh,w?,gi,cP (by rw[HL.o,<-HN.o];exact aF _)]at G;exact G
  have hHd:KB.mB P (bD (c.nodes.map AA)):=fun m=>⟨e7 c (-1) m,by rw[wb rfl c m];exact DK.o.pr l.b.nv m,DK.o.ok m⟩
  have FG:=Mq l.b l.c l.e DK.o;have HR:Hd (∀W,Bl w W->Cl 143 #[.agg (cN g N C P.nv)] W fun e I=>∃rb v,e=.returned (KB.cZ rb v N)/\KB.l? I W.heap.size rb P/\d' I v #[.iface 331 (.agg #[])] 386/\Bl W I):=by
   intro W U;have:=zc g C P.nv S P W (l.a.below U) l.b;rw[<-HN.o]at this;exact this
  have HS:Hd (∀(W:World) (B rb v:Nat),Bl wr W->KB.l? W B rb P->d' W v #[.iface 331 (.agg #[])] 386->Cl 166 #[KB.cZ rb v N,.slice (some (Ad D 0)) N N] W (Rb W (.bool (kN P c)))):=by
   intro W B rb v U hE hd;have:=KB.qR rb v B N (some (Ad D 0)) P (c.nodes.map AA) W hE hd l.b l.c l.d l.e (by rw[br];exact HL.o) (KB.jN (aE U HF.o)) hHd;rw[FG,<-HN.o]at this;exact this
  obtain⟨z,Yr⟩:=Ea (kN P c);rw[<-Yr]at HS J2;clear Yr FG hHd;simp only[KB.cZ]at HR HS;obtain⟨F,y⟩:=ae (zT M.A a.b ah);cases z
  all_goals
   go_wp2_with (first|(go_at_call 143;refine(HR.o _ wD.o).mono ?_;rintro e Y ⟨rb,v,rfl,hE,hd,A⟩;have HY:=hid (Aa hE (Aa hd A));clear hE hd A F y)|(go_at_call 166;refine(HS.o _ _ _ _ HY.B HY.a HY.b).mono ?_;rintro e Z ⟨rfl,A⟩;have HZ:=hid A;clear A))
   go_ret
   exact⟨by rw[J2.o];rfl,aq (aq wD.o HY.B) HZ.o⟩
 have s:(i:Int)<N:=ah
 obtain⟨x,hx⟩:=La (l:=c.nodes) (i:=i) (by rw[HL.o,<-HN.o];exact J);obtain⟨b,o,fa,ra,va,fc,rc,vc,rfl,c0,c1,c2,c3,k,c5⟩:=l.f.below wD.o i x hx;have Ro:x.vals.length<=8:=by
  have hm:=aL hx;cases L:x.reached
  ·rw[DK.o.bare x hm L];simp
  rw[DK.o.len x hm L];exact l.b.nv
 have f:Hd (∀W,Bl wr W->Cl 165 #[.agg #[.slice fa x.facts.length fc,.slice ra x.aO.length rc,.bool x.reached,Iv x.rank,.slice va x.vals.length vc]] W (Rb W (.agg (KB.aH (AA x)).toArray))):=fun W U=>Ik fa ra va _ fc _ rc vc x.reached x.rank x.vals W (c5.vals.below U) Ro
 have HX:=hid hx;clear hx c5 Ro;generalize x.facts.length=fl at f c0;generalize x.aO.length=rl at f c1;generalize x.reached=rd at f c2;generalize x.rank=rk0 at f c3;generalize x.vals.length=vl at f k
 go_upto_region 7 with fail
 clear c0 c1 c2 c3 k;refine uA (F:=Code.wp _ _ _ _) fun V H=>?_
 have X:=hid (Aa H.b (aE H.b M.a));obtain⟨F,y⟩:=ae H.a;obtain⟨m,hm⟩:∃m,N-i=m+1:=⟨N-i-1,ah⟩;have Jn:((c.nodes.take i).map AA).length=i:=by rw[br,dL,HL.o,<-HN.o,jW hi]
 go_upto_region 8 with(first|(go_at_call 165;refine(f.o _ X.a).mono ?_;rintro e Y ⟨rfl,OS⟩;have HY:=hid OS;clear OS F y;have ht:=KB.kS (aE HY.o X.A) (show i<_ by rw[bu,Jn,GN];omega))|(refine wpList_store_mid rfl 250 (.tmp 30) (.tmp 29) rfl D (i*17) (KB.aH (AA x)).toArray rfl rfl ht au (KB.a! _) ?_))
 have Tg:Hd (d' (Y.setCells D (i*17) (KB.aH (AA x))) D (KB.aP ((c.nodes.take (i+1)).map AA++List.replicate (N-(i+1)) PE.zero)).toArray 250/\Below D W2 (Y.setCells D (i*17) (KB.aH (AA x)))):=by
  have G:=aE HY.o X.A;rw[hm]at G;have h2:=KB.x6 (AA x) G Jn;have e1:N-(i+1)=m:=ah
  have e2:(c.nodes.take (i+1)).map AA=(c.nodes.take i).map AA++[AA x]:=by
   rw[dS (bn.1 HX.o).1,(bn.1 HX.o).2,iq];rfl
  rw[e1,e2];exact⟨h2,aY _ (aF _) _ _ _ (M.A.trans ((aq X.a HY.o).mono ah))⟩
 clear ht hm Jn;generalize Y.setCells D (i*17) (KB.aH (AA x))=Z at Tg⊢;simp only[Act.put]
 go_wp2_with fail
 go_roundw
 case rel=>exact⟨i+1,J,h',Tg.o⟩
 simp[intOf];omega
end Go.Proofs.YtmipbiligijcpaaGreatDoor
