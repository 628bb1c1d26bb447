import Derived.Test.YtmipbiligijcpaaGreatDoorA15
import Derived.Test.YtmipbiligijcpaaGreatDoorA13
namespace Go.Proofs.YtmipbiligijcpaaGreatDoor
set_option linter.all false
set_option maxHeartbeats 4000000
set_option maxRecDepth 100000
open Go.RowKit Go.Proofs Go.Maps Go.Shelf
section
variable {a b:VV} {p:Prop} {nv:Nat} {e:PE} {v u:EV}
def JV(e:PE){i:Nat}(h:8<=i):e.at i=VV.z:=by
 unfold PE.at
 repeat rw[aA ah]
structure ze(v:VV):Prop where
  hi:v.hi=v.lo
  any:v.any=true->v.lo=0
def zh(v:VV):Prop:=v.any=false
def aat(ha:ze a)(hb:ze b):KC.vw a b=oq 5 a b:=by
 have G:=ha.hi;have O:=hb.hi;unfold KC.vw oq VV.wz;rw[aD rfl,G,O]
 congr 1
 rw[eq_iff_iff];simp
def S1(ha:ze a)(hb:ze b):KC.Ir a b=VV.wz (oq 5 a b) b:=by
 obtain⟨a1,a2,a3⟩:=a;obtain⟨u,x,S⟩:=b;have G:=ha.hi;have O:=hb.hi;have Y:=ha.any;have K:=hb.any;simp only at G O Y K;subst G O;unfold KC.Ir oq;rw[aD rfl];by_cases Z:VV.wz ⟨a1,a3,a3⟩ ⟨u,S,S⟩=true
 ·rw[aD Z,Z]
  unfold VV.wz at Z;simp at Z;simp[Z]
 rw[aA Z];unfold VV.wz at Z;cases u
 ·simp[VV.wz,VV.fA]at Z⊢
  intro h;exact Z h
 simp[VV.wz,VV.fA,K rfl]
def aau(_:zh a)(_:zh b):KB.vw a b=oq 6 a b:=by
 unfold KB.vw oq;rw[aA aj]
 congr 1
 ·split<;>omega
 split<;>omega
def S2(ha:zh a)(hb:zh b):KB.Ir a b=VV.wz (oq 6 a b) b:=by
 obtain⟨a1,a2,a3⟩:=a;obtain⟨u,x,S⟩:=b;have G:a1=false:=ha;have O:u=false:=hb;subst G O;unfold KB.Ir oq VV.wz;rw[aA aj,cR];simp;omega
def CW(a e:PE):∀(k:Nat),k<=8->∀j,j<k->(KC.lq a e k).at j=KC.vw (a.at j) (e.at j)
 |0,_,j,hj=>ah
 |k+1,X,j,hj=>by
  rw[KC.fQ,PE.jy _ ah];by_cases h:j=k
  ·rw[aD h,h]
  rw[aA h,CW a e k ah j ah]
def Xd(h:p:=by
 have G:vs[i]?=some vs[i]:=bk ah;have O:l[i]?=some l[i]:=bk ah
 simp[List.getD,List.getElem?_zipWith,G,O]):p:=h
def Qu(hn:nv<=8){a:PE}(ha:PR nv a v)(he:PR nv e u)(c:∀i,ze (a.at i))(b:∀i,ze (e.at i)):PR nv (KC.jM a e) (CY 5 v u):=by
 cases v with
 |none=>
  have o:a=PE.zero:=ha;subst o;exact he
 | some vs=>
  cases u with
  |none=>
   have o:e=PE.zero:=he;subst o;unfold KC.jM;rw[aD ha.1];exact ha
  | some l=>
   obtain⟨a1,a2,a3⟩:=ha;obtain⟨Q,z,I⟩:=he;unfold KC.jM;rw[aD a1,aD Q];refine⟨by rw[KC.x4];exact a1,by simp[a2,z],fun i=>?_⟩;by_cases hi:i<nv
   ·rw[CW a e 8 (aF _) i ah,aat (c i) (b i),a3,I]
    exact Xd
   have R:(List.zipWith (oq 5) vs l).getD i VV.z=VV.z:=by rw[List.getD,bU (by simp;omega)];rfl
   rw[R];by_cases A:i<8
   ·rw[CW a e 8 (aF _) i A,a3,I,List.getD,List.getD,bU ah,bU ah]
    rfl
   exact JV _ ah
theorem Xe(h:p:=by
 by_cases d:i<nv
 ·have G:vs[i]?=some vs[i]:=bk ah
  have O:l[i]?=some l[i]:=bk ah;rw[List.getD,List.getD,G,O];exact z (vs[i],l[i]) (i!.2 ⟨i,by rw[tQ];exact⟨G,O⟩⟩)
 rw[List.getD,List.getD,bU ah,bU ah]
 rfl):p:=h
theorem Cx(hn:nv<=8){a:PE}(ha:PR nv a v)(he:PR nv e u)(c:∀i,ze (a.at i))(b:∀i,ze (e.at i)):KC.e4 a e=Oi 5 v u:=by
 cases v with
 |none=>
  have o:a=PE.zero:=ha;subst o;rfl
 | some vs=>
  cases u with
  |none=>
   have o:e=PE.zero:=he;subst o;unfold KC.e4;rw[ha.1];rfl
  | some l=>
   obtain⟨a1,a2,a3⟩:=ha;obtain⟨Q,f,I⟩:=he;unfold KC.e4;rw[a1,Q,aD (show(true&&true)=true by decide)];show(List.range 8).all (fun i=>KC.Ir (a.at i) (e.at i))=(List.zip vs l).all (fun x=>VV.wz (oq 5 x.1 x.2) x.2);rw[cR,bM,bM];constructor
   ·intro z x E
    obtain⟨i,hi⟩:=i!.1 E;rw[tQ]at hi;have R:=(bn.1 hi.1).1;have:=z i (bZ.2 ah);rw[S1 (c i) (b i),a3,I,List.getD,List.getD,hi.1,hi.2]at this;exact this
   intro z i hi;rw[bZ]at hi;rw[S1 (c i) (b i),a3,I];exact Xe
def CX(a e:PE):∀(k:Nat),k<=8->∀j,j<k->(KB.lq a e k).at j=KB.vw (a.at j) (e.at j)
 |0,_,j,hj=>ah
 |k+1,X,j,hj=>by
  rw[KB.fQ,PE.jy _ ah];by_cases h:j=k
  ·rw[aD h,h]
  rw[aA h,CX a e k ah j ah]
def Qv(hn:nv<=8){a:PE}(ha:PR nv a v)(he:PR nv e u)(c:∀i,zh (a.at i))(b:∀i,zh (e.at i)):PR nv (KB.jM a e) (CY 6 v u):=by
 cases v with
 |none=>
  have o:a=PE.zero:=ha;subst o;exact he
 | some vs=>
  cases u with
  |none=>
   have o:e=PE.zero:=he;subst o;unfold KB.jM;rw[aD ha.1];exact ha
  | some l=>
   obtain⟨a1,a2,a3⟩:=ha;obtain⟨Q,z,I⟩:=he;unfold KB.jM;rw[aD a1,aD Q];refine⟨by rw[KB.x4];exact a1,by simp[a2,z],fun i=>?_⟩;by_cases hi:i<nv
   ·rw[CX a e 8 (aF _) i ah,aau (c i) (b i),a3,I]
    exact Xd
   have R:(List.zipWith (oq 6) vs l).getD i VV.z=VV.z:=by rw[List.getD,bU (by simp;omega)];rfl
   rw[R];by_cases A:i<8
   ·rw[CX a e 8 (aF _) i A,a3,I,List.getD,List.getD,bU ah,bU ah]
    rfl
   exact JV _ ah
theorem Cy(hn:nv<=8){a:PE}(ha:PR nv a v)(he:PR nv e u)(c:∀i,zh (a.at i))(b:∀i,zh (e.at i)):KB.e4 a e=Oi 6 v u:=by
 cases v with
 |none=>
  have o:a=PE.zero:=ha;subst o;rfl
 | some vs=>
  cases u with
  |none=>
   have o:e=PE.zero:=he;subst o;unfold KB.e4;rw[ha.1];rfl
  | some l=>
   obtain⟨a1,a2,a3⟩:=ha;obtain⟨Q,f,I⟩:=he;unfold KB.e4;rw[a1,Q,aD (show(true&&true)=true by decide)];show(List.range 8).all (fun i=>KB.Ir (a.at i) (e.at i))=(List.zip vs l).all (fun x=>VV.wz (oq 6 x.1 x.2) x.2);rw[cR,bM,bM];constructor
   ·intro z x E
    obtain⟨i,hi⟩:=i!.1 E;rw[tQ]at hi;have R:=(bn.1 hi.1).1;have:=z i (bZ.2 ah);rw[S2 (c i) (b i),a3,I,List.getD,List.getD,hi.1,hi.2]at this;exact this
   intro z i hi;rw[bZ]at hi;rw[S2 (c i) (b i),a3,I];exact Xe
end
section
variable {v:Vl} {r:Int} {nv:Nat} {x:Nd}
def J8(b:Bool)(i:Nat):(PE.at ⟨b,VV.z,VV.z,VV.z,VV.z,VV.z,VV.z,VV.z,VV.z⟩ i)=VV.z:=by
 unfold PE.at;simp
def Xc{p:Prop}(h:p:=by
 by_cases h:j=k
 ·rw[aD h,aD ah,h]
 rw[aA h];by_cases O:j<k
 ·rw[aD O,aD ah]
 rw[aA O,aA ah]):p:=h
def Ja(vs:List Vl)(r:Int):∀k,k<=8->∀j,(Gz vs r k).at j=if j<k then Rg (vs.getD j ⟨0,0,0,false,0,0⟩) r else VV.z
 |0,_,j=>by
  rw[aA ah];exact J8 true j
 |k+1,X,j=>by
  rw[yD,PE.jy _ ah,Ja vs r k ah j];exact Xc
def Rh(vs:List Vl)(r:Int):∀k,(Gz vs r k).r=true
 |0=>rfl
 |k+1=>by rw[yD];exact Rh vs r k
def Qh(rd:Bool)(vs:List Vl):∀k,k<=8->∀j,(B9 rd vs k).at j=if j<k then⟨false,(vs.getD j ⟨0,0,0,false,0,0⟩).lo,(vs.getD j ⟨0,0,0,false,0,0⟩).hi⟩ else VV.z
 |0,_,j=>by
  rw[aA ah];exact J8 rd j
 |k+1,X,j=>by
  rw[xO,PE.jy _ ah,Qh rd vs k ah j];exact Xc
def XY(rd:Bool)(vs:List Vl):∀k,(B9 rd vs k).r=rd
 |0=>rfl
 |k+1=>by rw[xO];exact XY rd vs k
def aas(h3:v.kind≠3)(hr:0<=r):Rg v r=fN r v:=by
 unfold Rg fN;rw[aA h3];by_cases G:v.kind=1
 ·rw[aD G,aD G]
 rw[aA G,aA G];simp[hr]
def Rf(h3:v.kind≠3)(hr:v.rank<=100000):Rg v 100001=fN (-1) v:=by
 unfold Rg fN;rw[aA h3];by_cases G:v.kind=1
 ·rw[aD G,aD G]
 rw[aA G,aA G];have:decide ((100001:Int)<=v.rank)=false:=by simp;omega
 simp[this]
def Cu(hn:nv<=8){vs:List Vl}(hl:vs.length=nv){f:Vl->VV}{e:PE}(hr:e.r=true)(h:∀j,e.at j=if j<nv then f (vs.getD j ⟨0,0,0,false,0,0⟩) else VV.z):PR nv e (some (vs.map f)):=by
 refine⟨hr,by rw[br,hl],fun j=>?_⟩;rw[h j];by_cases U:j<nv
 ·have G:vs[j]?=some vs[j]:=bk ah
  rw[aD U,List.getD,List.getD,bG,G];rfl
 rw[aA U,List.getD,bU (by simp;omega)];rfl
def ZP(hn:nv<=8)(hl:x.reached=true->x.vals.length=nv)(h3:∀v∈x.vals,v.kind≠3)(hr:0<=r):PR nv (Tt x.reached x.rank x.vals r) (mQ x r):=by
 unfold Tt mQ;cases E:x.reached
 ·rw[aD (aJ rfl)]
  rfl
 by_cases Z:x.rank<r;rotate_left
 ·have Q:¬(true&&decide (x.rank<r))=true:=by simp;omega
  have z:true=false∨(0<=r/\r<=x.rank):=aI ⟨hr,ah⟩;rw[aA Q,aD z];rfl
 have Q:(true&&decide (x.rank<r))=true:=by simp[Z]
 have z:¬(true=false∨(0<=r/\r<=x.rank)):=by simp;omega
 rw[aD Q,aA z];have A:=hl E;refine Cu hn A (Rh _ _ _) fun j=>?_
 rw[A,Ja _ _ _ hn];by_cases U:j<nv
 ·have G:x.vals[j]?=some x.vals[j]:=bk ah
  rw[aD U,aD U,List.getD,G];exact aas (h3 _ (aL G)) hr
 rw[aA U,aA U]
def MS(hn:nv<=8)(hl:x.reached=true->x.vals.length=nv)(h3:∀v∈x.vals,v.kind≠3/\v.rank<=100000)(hk:x.rank<=100000):PR nv (Tt x.reached x.rank x.vals 100001) (mQ x (-1)):=by
 unfold Tt mQ;cases E:x.reached
 ·rw[aD (aJ rfl)]
  rfl
 have Q:(true&&decide (x.rank<100001))=true:=by simp;omega
 have z:¬(true=false∨((0:Int)<=-1/\-1<=x.rank)):=ak
 rw[aD Q,aA z];have A:=hl E;refine Cu hn A (Rh _ _ _) fun j=>?_
 rw[A,Ja _ _ _ hn];by_cases U:j<nv
 ·have G:x.vals[j]?=some x.vals[j]:=bk ah
  rw[aD U,aD U,List.getD,G];have:=h3 _ (aL G);exact Rf this.1 this.2
 rw[aA U,aA U]
def ZO(hn:nv<=8)(hl:x.reached=true->x.vals.length=nv)(h0:x.reached=false->x.vals=[])(h3:∀v∈x.vals,v.kind=3):PR nv (B9 x.reached x.vals x.vals.length) (mQ x (-1)):=by
 unfold mQ;cases E:x.reached
 ·rw[aD (aJ rfl),h0 E]
  rfl
 rw[aA ak];have A:=hl E;refine Cu hn A (XY _ _ _) fun j=>?_
 rw[A,Qh _ _ _ hn];by_cases U:j<nv
 ·have G:x.vals[j]?=some x.vals[j]:=bk ah
  rw[aD U,aD U,List.getD,G];have:=h3 _ (aL G);unfold fN;exact(aD (by exact this)).symm
 rw[aA U,aA U]
end
section
variable {p:Int} {x y z:VV} {n:Nat} {a b c:EV}
def gS(p:Int)(x y:VV):Prop:=if p=5 then x=y∨y=VV.fA else x.any=y.any/\y.lo<=x.lo/\x.hi<=y.hi
structure okV(p:Int)(x:VV):Prop where
  bd:VIn x
  form:if p=5 then x=VV.fA∨x=VV.one x.lo else x.any=false/\x.lo<=x.hi
def okV.ad8(h:okV p x)(H:p≠5):x.any=false:=by have:=h.form;rw[aA H]at this;exact this.1
def iM(p:Int)(x:VV):gS p x x:=by unfold gS;split;exact aJ rfl;exact⟨rfl,dU _,dU _⟩
def Nl(h:gS p x y)(k:gS p y z):gS p x z:=by
 unfold gS at *;split at h
 ·rename_i K
  rw[aD K]at k⊢;rcases h with rfl|rfl
  ·exact k
  rcases k with rfl|rfl<;>exact aI rfl
 rename_i K
 rw[aA K]at k⊢;exact⟨h.1.trans k.1,Int.le_trans k.2.1 h.2.1,Int.le_trans h.2.2 k.2.2⟩
def Ri(hx:okV p x)(T:okV p y):VV.wz (oq p x y) y=true↔gS p x y:=by
 rw[VV.nK];unfold oq gS;split
 ·by_cases e:VV.wz x y=true
  ·rw[aD e]
   have:=(VV.nK x y).1 e;exact⟨fun _=>aJ this,fun _=>this⟩
  rw[aA e];exact⟨fun h=>aI h.symm,fun h=>h.elim (fun h=>absurd ((VV.nK x y).2 h) e) (fun h=>h.symm)⟩
 obtain⟨l,b,a⟩:=x;obtain⟨d,c,f⟩:=y;simp only[VV.mk.injEq];constructor
 ·rintro⟨G,O,Y⟩
  refine⟨G,?_,?_⟩
  ·split at O<;>omega
  split at Y<;>omega
 rintro⟨G,O,Y⟩;refine⟨G,?_,?_⟩
 ·split<;>omega
 split<;>omega
def aav(hx:okV p x)(T:okV p y):okV p (oq p x y):=by
 unfold oq;split
 ·split
  ·exact hx
  rename_i a _;exact⟨⟨aj,aj⟩,by rw[aD a];exact aJ rfl⟩
 rename_i a
 have H:=hx.form;have E:=T.form;rw[aA a]at H E;have q:=hx.bd;have N:=T.bd;have a1:=q.lo;have a2:=q.hi;have a3:=N.lo;have a4:=N.hi;refine⟨⟨?_,?_⟩,?_⟩
 ·simp only;split<;>omega
 ·simp only;split<;>omega
 rw[aA a];refine⟨H.1,?_⟩;simp only;split<;>split<;>omega
def adt(hx:okV p x)(T:okV p y):gS p x (oq p x y):=by
 unfold oq gS;split
 ·split
  ·exact aJ rfl
  exact aI rfl
 refine⟨rfl,?_,?_⟩<;>(simp only;split<;>omega)
def ads(hx:okV p x)(T:okV p y):gS p y (oq p x y):=by
 unfold oq gS;split
 ·split
  ·rename_i e;exact aJ ((VV.nK x y).1 e).symm
  exact aI rfl
 rename_i H
 refine⟨by rw[hx.ad8 H,T.ad8 H],?_,?_⟩<;>(simp only;split<;>omega)
def Ve(h:gS p x z)(k:gS p y z):gS p (oq p x y) z:=by
 unfold oq gS at *;split;rotate_left
 ·rename_i H
  rw[aA H]at h k;refine⟨h.1,?_,?_⟩<;>(simp only;split<;>omega)
 rename_i H
 rw[aD H]at h k;split
 ·exact h
 rename_i e
 rcases h with rfl|rfl
 ·rcases k with rfl|rfl
  ·exact absurd ((VV.nK y y).2 rfl) e
  exact aJ rfl
 exact aJ rfl
def jP(p:Int):EV->EV->Prop
 |none,_=>True
 |some _,none=>False
 |some a,some b=>∀(j:Nat) (x y:VV),a[j]?=some x->b[j]?=some y->gS p x y
def ei(p:Int)(n:Nat)(e:EV):Prop:=∀vs,e=some vs->vs.length=n/\∀v∈vs,okV p v
def fJ(p:Int)(n:Nat):ei p n none:=fun _ h=>by cases h
def iN(p:Int):∀e:EV,jP p e e
 |none=>trivial
 |some a=>fun j x y h k=>by rw[h]at k;cases k;exact iM p x
def fh(hb:ei p n b)(ha:ei p n a)(h:jP p a b)(k:jP p b c):jP p a c:=by
 match a,b,c,h,k with
 |none,_,_,_,_=>trivial
 |some a,some b,some c,h,k=>
  intro j x z E R;have hl:=(ha a rfl).1;have A:=(hb b rfl).1;have U:=(bn.1 E).1;have T:b[j]?=some b[j]:=bk ah;exact Nl (h j x _ E T) (k j _ z T R)
def jF(ha:ei p n a)(hb:ei p n b):Oi p a b=true↔jP p a b:=by
 match a,b with
 |none,_=>simp[Oi,jP]
 |some a,none=>simp[Oi,jP]
 | some a,some b=>
  have G:=ha a rfl;have O:=hb b rfl;simp only[Oi,jP,bM];constructor
  ·intro h j x y E T
   have:=h (x,y) (aL (by rw[tQ];exact⟨E,T⟩:(List.zip a b)[j]?=some (x,y)));exact(Ri (G.2 x (aL E)) (O.2 y (aL T))).1 this
  rintro h ⟨x,y⟩ C;obtain⟨j,U⟩:=i!.1 C;rw[tQ]at U;exact(Ri (G.2 x (aL U.1)) (O.2 y (aL U.2))).2 (h j x y U.1 U.2)
def J6{α β γ:Type}{f:α->β->γ}{a:List α}{b:List β}{j:Nat}{z:γ}(h:(List.zipWith f a b)[j]?=some z):∃x y,a[j]?=some x/\b[j]?=some y/\z=f x y:=by
 rw[List.getElem?_zipWith]at h;cases E:a[j]? with
 |none=>rw[E]at h;simp at h
 |some x=>
  cases T:b[j]? with
  |none=>rw[E,T]at h;simp at h
  |some y=>rw[E,T]at h;simp at h;exact⟨x,y,rfl,rfl,h.symm⟩
def rh(ha:ei p n a)(hb:ei p n b):ei p n (CY p a b):=by
 match a,b with
 |none,_=>exact hb
 |some a,none=>exact ha
 |some a,some b=>
  intro vs h;have G:=ha a rfl;have O:=hb b rfl;simp only[CY,dG]at h;subst h;refine⟨by simp[G.1,O.1],fun v t=>?_⟩;obtain⟨j,U⟩:=i!.1 t;obtain⟨x,y,E,T,rfl⟩:=J6 U;exact aav (G.2 x (aL E)) (O.2 y (aL T))
def Yn(ha:ei p n a)(hb:ei p n b):jP p a (CY p a b):=by
 match a,b with
 |none,_=>trivial
 |some a,none=>exact iN p _
 |some a,some b=>
  intro j x z E R;obtain⟨d,y,c,T,rfl⟩:=J6 R;rw[E]at c;cases c;exact adt ((ha a rfl).2 x (aL E)) ((hb b rfl).2 y (aL T))
def Rj(ha:ei p n a)(hb:ei p n b):jP p b (CY p a b):=by
 match a,b with
 |none,b=>exact iN p _
 |some a,none=>trivial
 |some a,some b=>
  intro j y z T R;obtain⟨x,c,E,d,rfl⟩:=J6 R;rw[T]at d;cases d;exact ads ((ha a rfl).2 x (aL E)) ((hb b rfl).2 y (aL T))
def Lt(ha:ei p n a)(hb:ei p n b)(h:jP p a c)(k:jP p b c):jP p (CY p a b) c:=by
 match a,b,c with
 |none,_,_=>exact k
 |some a,none,_=>exact h
 |some a,some b,none=>exact h
 |some a,some b,some c=>
  intro j z w R M;obtain⟨x,y,E,T,rfl⟩:=J6 R;exact Ve (h j x w E M) (k j y w T M)
end
section
variable {k n m:Nat} {p c l h d:Int} {a b:List VV} {x y:VV}
def CS{α:Type}{l:List α}{j:Nat}{v x:α}(h:(l.set k v)[j]?=some x):(k=j/\x=v/\j<l.length)∨(k≠j/\l[j]?=some x):=by
 rw[eQ]at h;split at h
 ·split at h
  ·cases h;rename_i e l;exact aJ ⟨e,rfl,ah⟩
  cases h
 rename_i e;exact aI ⟨e,h⟩
def kr{n:Nat}(k:Nat)(h:jP p (some a) (some b))(hv:gS p x y):jP p (some (a.set k x)) (some (b.set k y)):=by
 intro j u w E M;rcases CS E with⟨e,rfl,_⟩|⟨e,E⟩
 ·rcases CS M with⟨_,rfl,_⟩|⟨z,_⟩
  ·exact hv
  exact absurd e z
 rcases CS M with⟨z,_,_⟩|⟨_,M⟩
 ·exact absurd z e
 exact h j u w E M
def ko(k:Nat)(h:ei p n (some a))(hv:okV p x):ei p n (some (a.set k x)):=by
 intro vs e;cases e;have G:=h a rfl;refine⟨by simp[G.1],fun v C=>?_⟩;rcases gN C with C|rfl
 ·exact G.2 v C
 exact hv
def sB(p:Int)(Z:-9223372036854775808<=c/\c<=9223372036854775807):okV p (VV.one c):=⟨⟨Z,Z⟩,by split;exact aI rfl;exact⟨rfl,dU _⟩⟩
def yh(p:Int):okV p ⟨false,0,0⟩:=sB p aj
def CG:okV 5 VV.fA:=⟨⟨aj,aj⟩,ak⟩
def Dm(o:ot):Prop:=-9223372036854775808<=o.const/\o.const<=9223372036854775807
def pA(x:Int):-9223372036854775808<=wrap64 x/\wrap64 x<=9223372036854775807:=by unfold wrap64;omega
def QG(o a b:Int):-9223372036854775808<=qz o a b/\qz o a b<=9223372036854775807:=by
 unfold qz;split
 ·exact pA _
 split
 ·exact pA _
 split
 ·exact pA _
 split
 ·decide
 exact pA _
def LG(ha:a.length=n)(hb:b.length=n)(h:jP p (some a) (some b))(k:Nat):gS p (a.getD k ⟨false,0,0⟩) (b.getD k ⟨false,0,0⟩):=by
 by_cases X:k<n
 ·have G:a[k]?=some a[k]:=bk ah
  have O:b[k]?=some b[k]:=bk ah;rw[List.getD,List.getD,G,O];exact h k _ _ G O
 rw[List.getD,List.getD,bU ah,bU ah];exact iM _ _
def VI(h:∀v∈a,okV p v)(k:Nat):okV p (a.getD k ⟨false,0,0⟩):=by
 cases e:a[k]? with
 |none=>rw[List.getD,e];exact yh p
 |some x=>rw[List.getD,e];exact h x (aL e)
def CF(ha:a.length=n)(hb:b.length=n)(h:jP p (some a) (some b))(o:ot):gS p (fM a o) (fM b o):=by
 unfold fM;split
 ·exact LG ha hb h _
 exact iM _ _
def ju(h:∀v∈a,okV p v)(o:ot)(g:Dm o):okV p (fM a o):=by
 unfold fM;split
 ·exact VI h _
 exact sB _ g
def Yj(h:gS 5 x y):x=y∨y=VV.fA:=by simpa[gS]using h
def I7(h:x=y∨y=VV.fA):gS 5 x y:=by simpa[gS]using h
def ok5(h:okV 5 x):x=VV.fA∨x=VV.one x.lo:=by simpa using h.form
def aad{n:SN}{vs:List VV}(Z:Dm n.a/\Dm n.b)(h:ei 5 m (some vs)):ei 5 m (Yg n k vs):=by
 have G:=(h vs rfl).2;unfold Yg;split
 ·exact ko _ h CG
 split
 ·exact ko _ h (ju G _ Z.1)
 split
 ·split
  ·exact h
  exact fJ _ _
 split
 ·split
  ·exact fJ _ _
  split
  ·exact ko _ h CG
  exact ko _ h (sB _ (QG _ _ _))
 exact h
def aae{n:SN}(ha:ei 5 m (some a))(hb:ei 5 m (some b))(h:jP 5 (some a) (some b)):jP 5 (Yg n k a) (Yg n k b):=by
 have L:=(ha a rfl);have f:=(hb b rfl);have G:=Yj (CF L.1 f.1 h n.a);have O:=Yj (CF L.1 f.1 h n.b);have c:∀(x:VV) (t:Nat),jP 5 (some (a.set t x)) (some (b.set t VV.fA)):=fun x t=>kr (n:=m) t h (I7 (aI rfl))
 unfold Yg;split
 ·exact kr (n:=m) _ h (iM _ _)
 split
 ·exact kr (n:=m) _ h (I7 G)
 split
 ·generalize fM a n.a=F at G⊢
  generalize fM a n.b=y at O⊢;generalize fM b n.a=B at G⊢;generalize fM b n.b=o at O⊢;rcases G with rfl|rfl
  ·rcases O with rfl|rfl
   ·split
    ·exact h
    trivial
   rw[aD (c:=(F.any||VV.fA.any||xq n.test F.lo VV.fA.lo==decide (k=0))=true) (by simp[VV.fA])];split
   ·exact h
   trivial
  rw[aD (c:=(VV.fA.any||o.any||xq n.test VV.fA.lo o.lo==decide (k=0))=true) (by simp[VV.fA])];split
  ·exact h
  trivial
 split;rotate_left
 ·exact h
 generalize fM a n.a=F at G⊢;generalize fM a n.b=y at O⊢;generalize fM b n.a=B at G⊢;generalize fM b n.b=o at O⊢;split
 ·trivial
 rename_i hd
 have v:¬(n.op=3/\o.any=false/\o.lo=0):=by
  rcases O with rfl|rfl
  ·exact hd
  simp[VV.fA]
 rw[aA v];by_cases T:(B.any||o.any)=true
 ·rw[aD T]
  split
  ·exact c _ _
  exact c _ _
 have Q:F=B:=G.resolve_right (by rintro rfl;simp[VV.fA]at T);have z:y=o:=O.resolve_right (by rintro rfl;simp[VV.fA]at T);subst Q;subst z;rw[aA T,aA T];exact kr (n:=m) _ h (iM _ _)
def Lm(h:gS 6 x y):x.any=y.any/\y.lo<=x.lo/\x.hi<=y.hi:=by simpa[gS]using h
def yt(h:x.any=y.any/\y.lo<=x.lo/\x.hi<=y.hi):gS 6 x y:=by simpa[gS]using h
def K2(h:okV 6 x):x.any=false/\x.lo<=x.hi:=by simpa using h.form
def qX(h:x.any=false)(hl:x.lo<=x.hi)(hb:VIn x):okV 6 x:=⟨hb,by rw[aA aj];exact⟨h,hl⟩⟩
def Ld{x y:Int}(h1:l<=x)(h2:x<=h):(l*y<=x*y/\x*y<=h*y)∨(h*y<=x*y/\x*y<=l*y):=by
 by_cases T:0<=y
 ·exact aJ ⟨Int.mul_le_mul_of_nonneg_right h1 T,Int.mul_le_mul_of_nonneg_right h2 T⟩
 exact aI ⟨Int.mul_le_mul_of_nonpos_right h2 ah,Int.mul_le_mul_of_nonpos_right h1 ah⟩
def Fa{x y:Int}(h1:l<=x)(h2:x<=h):(y*l<=y*x/\y*x<=y*h)∨(y*h<=y*x/\y*x<=y*l):=by
 rw[DP y l,DP y x,DP y h];exact Ld h1 h2
def vA(z a b c d:Int):Prop:=(a<=z∨b<=z∨c<=z∨d<=z)/\(z<=a∨z<=b∨z<=c∨z<=d)
def CN{P h1 U h2 x y:Int}(a1:P<=x)(a2:x<=h1)(u:U<=y)(a:y<=h2):vA (x*y) (P*U) (P*h2) (h1*U) (h1*h2):=by
 have H:=Ld (y:=y) a1 a2;have L:=Fa (y:=P) u a;have R:=Fa (y:=h1) u a;unfold vA;omega
def CZ(a:VV)(c:Int):∃lo hi,oq 6 a (VV.one c)=⟨a.any,lo,hi⟩/\lo<=a.lo/\lo<=c/\(lo=a.lo∨lo=c)/\a.hi<=hi/\c<=hi/\(hi=a.hi∨hi=c):=by
 have e:oq 6 a (VV.one c)=⟨a.any,if c<a.lo then c else a.lo,if c>a.hi then c else a.hi⟩:=by unfold oq;rw[aA aj];rfl
 rw[e];by_cases G:c<a.lo
 ·by_cases O:c>a.hi
  ·rw[aD G,aD O];exact⟨_,_,rfl,ah⟩
  rw[aD G,aA O];exact⟨_,_,rfl,ah⟩
 by_cases O:c>a.hi
 ·rw[aA G,aD O];exact⟨_,_,rfl,ah⟩
 rw[aA G,aA O];exact⟨_,_,rfl,ah⟩
def sH{z a b L H:Int}(h:vA z a b c d)(h1:L<=a/\L<=b/\L<=c/\L<=d)(h2:a<=H/\b<=H/\c<=H/\d<=H):L<=z/\z<=H:=by
 obtain⟨e,R⟩:=h;constructor
 ·rcases e with k|k|k|k<;>omega
 rcases R with k|k|k|k<;>omega
def Dz(a b c d:Int):∃lo hi,oq 6 (oq 6 (oq 6 (VV.one a) (VV.one b)) (VV.one c)) (VV.one d)=⟨false,lo,hi⟩/\(lo<=a/\lo<=b/\lo<=c/\lo<=d)/\(a<=hi/\b<=hi/\c<=hi/\d<=hi)/\(lo=a∨lo=b∨lo=c∨lo=d)/\(hi=a∨hi=b∨hi=c∨hi=d):=by
 obtain⟨P,G,Q,F⟩:=CZ (VV.one a) b;rw[Q];obtain⟨U,O,z,y⟩:=CZ ⟨(VV.one a).any,P,G⟩ c;rw[z];obtain⟨T,Y,I,C⟩:=CZ ⟨(⟨(VV.one a).any,P,G⟩:VV).any,U,O⟩ d;rw[I];simp only[VV.one]at F y C;exact⟨T,Y,rfl,ah,ah,ah,ah⟩
def S7(a b c d:Int)(f:Bool):(Ol a b c d f).any=false:=by
 obtain⟨lo,hi,e,_⟩:=Dz a b c d;unfold Ol;split
 ·rw[e]
 rfl
def wu(x:Int):aQ x=true↔-9223372036854775808<=x/\x<=9223372036854775807:=by simp[aQ]
def S8{a b n m F j:Int}{f E:Bool}(hf:f=true↔aQ a=true/\aQ b=true/\aQ c=true/\aQ d=true)(y:E=true↔aQ n=true/\aQ m=true/\aQ F=true/\aQ j=true)(ha:vA a n m F j)(hb:vA b n m F j)(Z:vA c n m F j)(hd:vA d n m F j):gS 6 (Ol a b c d f) (Ol n m F j E):=by
 obtain⟨lo,hi,e,G,O,Y,K⟩:=Dz a b c d;obtain⟨p,x,r,i,v,l,k⟩:=Dz n m F j;simp only[wu]at hf y;refine yt ⟨by rw[S7,S7],?_⟩;have h:=sH ha i v;have s:=sH hb i v;have g:=sH Z i v;have o:=sH hd i v;unfold Ol;rw[e,r];cases E with
 | false=>
  cases f with
  |false=>exact⟨dU _,dU _⟩
  |true=>
   obtain⟨u,q,S,D⟩:=hf.1 rfl;simp only[dx,VV.all,bN,bR];clear h s g o ha hb Z hd i v l k hf y;omega
 |true=>
  obtain⟨u,q,S,D⟩:=y.1 rfl;have B:∀{z:Int},vA z n m F j->-9223372036854775808<=z/\z<=9223372036854775807:=fun R=>sH R ⟨u.1,q.1,S.1,D.1⟩ ⟨u.2,q.2,S.2,D.2⟩
  have:f=true:=hf.2 ⟨B ha,B hb,B Z,B hd⟩;rw[this];simp only[dx];clear B ha hb Z hd hf y i v l k;omega
end
section
variable {p o l h t av bv:Int} {a b c d x v y:VV} {yes:Bool} {q:VV×VV} {m k:Nat} {n:SN} {P:Pm} {at_:Nat->EV}
def LO(x y:Bool):(x&&y)=true↔x=true/\y=true/\x=true/\y=true:=by cases x<;>cases y<;>simp
def R4(x y z u:Bool):(x&&y&&z&&u)=true↔x=true/\y=true/\z=true/\u=true:=by cases x<;>cases y<;>cases z<;>cases u<;>simp
def XE{p:Prop}(h:p:=by
 have h:=Lm h;have k:=Lm k;have ha:=(K2 ha).2;have hb:=(K2 hb).2
 exact S8 (LO _ _) (LO _ _) (by unfold vA;omega) (by unfold vA;omega) (by unfold vA;omega) (by unfold vA;omega)):p:=h
def Wq(ha:okV 6 a)(hb:okV 6 b)(h:gS 6 a c)(k:gS 6 b d):gS 6 (DA a b) (DA c d):=by
 exact XE
def Ku(ha:okV 6 a)(hb:okV 6 b)(h:gS 6 a c)(k:gS 6 b d):gS 6 (r9 a b) (r9 c d):=by
 exact XE
def UW(ha:okV 6 a)(hb:okV 6 b)(h:gS 6 a c)(k:gS 6 b d):gS 6 (CO a b) (CO c d):=by
 have h:=Lm h;have k:=Lm k;have ha:=(K2 ha).2;have hb:=(K2 hb).2;exact S8 (R4 _ _ _ _) (R4 _ _ _ _) (CN ah ah ah ah) (CN ah ah ah ah) (CN ah ah ah ah) (CN ah ah ah ah)
def JX:okV 6 VV.all:=qX rfl aj ⟨aj,aj⟩
def Dy{a b c d:Int}{f:Bool}(hf:f=true->aQ a=true/\aQ b=true/\aQ c=true/\aQ d=true):okV 6 (Ol a b c d f):=by
 obtain⟨lo,hi,e,G,O,Y,K⟩:=Dz a b c d;unfold Ol;rw[e];cases f with
 |false=>exact JX
 |true=>
  have hf:=hf rfl;simp only[wu]at hf;obtain⟨u,q,S,D⟩:=hf;rw[aD rfl];exact qX rfl (by simp only;omega) ⟨by simp only;omega,by simp only;omega⟩
def Wp(a b:VV):okV 6 (DA a b):=Dy (LO _ _).1
def Kt(a b:VV):okV 6 (r9 a b):=Dy (LO _ _).1
def UU(a b:VV):okV 6 (CO a b):=Dy (R4 _ _ _ _).1
def oH{a b c:Int}(Z:c<0)(h:a<=b):b.tdiv c<=a.tdiv c:=by
 have G:b.tdiv (-c)=-(b.tdiv c):=Int.tdiv_neg ..;have O:a.tdiv (-c)=-(a.tdiv c):=Int.tdiv_neg ..;have Y:a.tdiv (-c)<=b.tdiv (-c):=BH ah h;omega
def Cp{x c:Int}(hx:-9223372036854775808<=x/\x<=9223372036854775807)(h0:c≠0)(h1:c≠-1):-9223372036854775808<=x.tdiv c/\x.tdiv c<=9223372036854775807:=(wu _).1 (Co ((wu _).2 hx) h0 h1)
def LP(ha:okV 6 a)(h:jS a b=some v):okV 6 v:=by
 unfold jS at h;have G:=(K2 ha).2;have D:=ha.bd;split at h
 ·cases h;exact JX
 split at h
 ·cases h
 rename_i j
 split at h
 ·cases h;exact Kt _ _
 rename_i y
 split at h
 ·rename_i K
  cases h;exact qX rfl (BH K G) ⟨Cp D.lo j y,Cp D.hi j y⟩
 cases h;exact qX rfl (oH ah G) ⟨Cp D.hi j y,Cp D.lo j y⟩
def U8(h:okV 6 v):gS 6 v VV.all:=by
 have G:=h.bd.lo;have O:=h.bd.hi;exact yt ⟨(K2 h).1,by simp only[VV.all];omega,by simp only[VV.all];omega⟩
def leO(p:Int):Option VV->Option VV->Prop
 |none,_=>True
 |some _,none=>False
 |some x,some y=>gS p x y
def V5(ha:okV 6 a)(hb:okV 6 b)(h:gS 6 a c)(k:gS 6 b d):leO 6 (jS a b) (jS c d):=by
 have T:=Lm h;have j:=Lm k;have H:=(K2 ha).2;have A:=(K2 hb).2;by_cases hd:d.lo=d.hi;rotate_left
 ·have e:jS c d=some VV.all:=by unfold jS;rw[aD hd]
  rw[e];cases E:jS a b with
  |none=>trivial
  |some v=>exact U8 (LP ha E)
 have Q:b.lo=d.lo:=ah
 have z:b.hi=d.hi:=ah
 unfold jS;rw[aA (c:=b.lo≠b.hi) ah,aA (c:=d.lo≠d.hi) ah,Q];split
 ·trivial
 split
 ·exact Ku (yh 6) ha (iM _ _) h
 split
 ·rename_i K
  exact yt ⟨rfl,BH K T.2.1,BH K T.2.2⟩
 exact yt ⟨rfl,oH ah T.2.2,oH ah T.2.1⟩
def abh(ha:okV 6 a)(hb:okV 6 b)(h:gS 6 a c)(k:gS 6 b d):leO 6 (Sx o a b) (Sx o c d):=by
 unfold Sx;split
 ·exact Wq ha hb h k
 split
 ·exact Ku ha hb h k
 split
 ·exact UW ha hb h k
 exact V5 ha hb h k
def abg(ha:okV 6 a)(h:Sx o a b=some v):okV 6 v:=by
 unfold Sx at h;split at h
 ·cases h;exact Wp _ _
 split at h
 ·cases h;exact Kt _ _
 split at h
 ·cases h;exact UU _ _
 exact LP ha h
def Dl(a:VV)(l h:Int):∃lo hi,cI a l h=⟨a.any,lo,hi⟩/\a.lo<=lo/\l<=lo/\(lo=a.lo∨lo=l)/\hi<=a.hi/\hi<=h/\(hi=a.hi∨hi=h):=by
 unfold cI;by_cases G:l>a.lo
 ·by_cases O:h<a.hi
  ·rw[aD G,aD O];exact⟨_,_,rfl,ah⟩
  rw[aD G,aA O];exact⟨_,_,rfl,ah⟩
 by_cases O:h<a.hi
 ·rw[aA G,aD O];exact⟨_,_,rfl,ah⟩
 rw[aA G,aA O];exact⟨_,_,rfl,ah⟩
def iT{c:Int}(k:gS 6 a b)(hl:c<=l)(T:h<=p):gS 6 (cI a l h) (cI b c p):=by
 have k:=Lm k;obtain⟨F,y,Q,x⟩:=Dl a l h;obtain⟨B,o,z,d⟩:=Dl b c p;rw[Q,z];exact yt ⟨k.1,by simp only;omega,by simp only;omega⟩
def iU(ha:VIn a)(hl:-9223372036854775808<=l/\l<=9223372036854775807)(T:-9223372036854775808<=h/\h<=9223372036854775807):VIn (cI a l h):=by
 obtain⟨F,y,Q,x⟩:=Dl a l h;have:=ha.lo;have:=ha.hi;rw[Q];exact⟨by simp only;omega,by simp only;omega⟩
def leP:Option (VV×VV)->Option (VV×VV)->Prop
 |none,_=>True
 |some _,none=>False
 |some x,some y=>gS 6 x.1 y.1/\gS 6 x.2 y.2
def ZZ{x y:VV×VV}(h1:gS 6 x.1 y.1)(h2:gS 6 x.2 y.2):leP (yi x) (yi y):=by
 have L:=Lm h1;have R:=Lm h2;unfold yi;by_cases E:x.1.hi<x.1.lo∨x.2.hi<x.2.lo
 ·rw[aD E];trivial
 rw[aA E,aA ah];exact⟨h1,h2⟩
def abD(ha:okV 6 a)(hb:okV 6 b)(Z:okV 6 c)(hd:okV 6 d)(h:gS 6 a c)(k:gS 6 b d):leP (zl t yes a b) (zl t yes c d):=by
 have T:=Lm h;have j:=Lm k;have H:=(K2 ha).2;have A:=(K2 hb).2;have N:=hb.bd.hi;have Y:=hb.bd.lo;have i:=ha.bd.lo;have f:=ha.bd.hi;have Q:=Z.bd.lo;have g:=Z.bd.hi;have v:=hd.bd.lo;have W:=hd.bd.hi;unfold zl;split
 ·by_cases J:b.hi=-9223372036854775808∨a.lo=9223372036854775807
  ·rw[aD J];trivial
  rw[aA J,aA (c:=d.hi=-9223372036854775808∨c.lo=9223372036854775807) ah];exact⟨iT h (dU _) ah,iT k ah (dU _)⟩
 split
 ·exact⟨iT h (dU _) ah,iT k ah (dU _)⟩
 split
 ·exact⟨iT h ah (dU _),iT k (dU _) ah⟩
 split
 ·by_cases J:a.hi=-9223372036854775808∨b.lo=9223372036854775807
  ·rw[aD J];trivial
  rw[aA J,aA (c:=c.hi=-9223372036854775808∨d.lo=9223372036854775807) ah];exact⟨iT h ah (dU _),iT k (dU _) ah⟩
 split
 ·exact⟨iT h ah ah,iT h ah ah⟩
 by_cases J:a.lo=a.hi/\VV.wz a b=true
 ·rw[aD J];trivial
 rw[aA J];by_cases C:c.lo=c.hi/\VV.wz c d=true;rotate_left
 ·rw[aA C];exact⟨h,k⟩
 exfalso
 have e:=(VV.nK c d).1 C.2;apply J;subst e;refine⟨ah,(VV.nK a b).2 ?_⟩;obtain⟨a1,a2,a3⟩:=a;obtain⟨u,x,S⟩:=b;simp only at *;obtain⟨l,m,p⟩:=T;obtain⟨n,q,o⟩:=j;rw[l,n];have:a2=x:=ah
 have:a3=S:=ah
 simp_all
def abA(ha:okV 6 a)(hb:okV 6 b)(Z:okV 6 c)(hd:okV 6 d)(h:gS 6 a c)(k:gS 6 b d):leP (qm t yes a b) (qm t yes c d):=by
 have:=abD (t:=t) (yes:=yes) ha hb Z hd h k;unfold qm;cases E:zl t yes a b with
 |none=>trivial
 |some x=>
  cases T:zl t yes c d with
  |none=>rw[E,T]at this;exact this.elim
  |some y=>rw[E,T]at this;exact ZZ this.1 this.2
def abE(ha:okV 6 a)(hb:okV 6 b)(h:zl t yes a b=some q):VIn q.1/\VIn q.2/\q.1.any=false/\q.2.any=false:=by
 have H:=(K2 ha).1;have A:=(K2 hb).1;have N:=hb.bd.hi;have Y:=hb.bd.lo;have i:=ha.bd.lo;have f:=ha.bd.hi;have M:-9223372036854775808<=(-9223372036854775808:Int)/\(-9223372036854775808:Int)<=9223372036854775807:=aj
 have X:-9223372036854775808<=(9223372036854775807:Int)/\(9223372036854775807:Int)<=9223372036854775807:=aj
 unfold zl at h;split at h
 ·split at h
  ·cases h
  cases h;exact⟨iU ha.bd M ah,iU hb.bd ah X,H,A⟩
 split at h
 ·cases h;exact⟨iU ha.bd M ah,iU hb.bd ah X,H,A⟩
 split at h
 ·cases h;exact⟨iU ha.bd ah X,iU hb.bd M ah,H,A⟩
 split at h
 ·split at h
  ·cases h
  cases h;exact⟨iU ha.bd ah X,iU hb.bd M ah,H,A⟩
 split at h
 ·cases h;exact⟨iU ha.bd ah ah,iU ha.bd ah ah,H,H⟩
 split at h
 ·cases h
 cases h;exact⟨ha.bd,hb.bd,H,A⟩
def abz(ha:okV 6 a)(hb:okV 6 b)(h:qm t yes a b=some q):okV 6 q.1/\okV 6 q.2:=by
 unfold qm at h;cases E:zl t yes a b with
 |none=>rw[E]at h;cases h
 |some r=>
  rw[E]at h;simp only[yi]at h;split at h
  ·cases h
  cases h;obtain⟨G,O,Y,K⟩:=abE ha hb E;exact⟨qX Y ah G,qX K ah O⟩
def abl{a b:List VV}(h:jP 6 (some a) (some b))(hx:gS 6 x d)(T:gS 6 y c):jP 6 (chR av bv a x y) (chR av bv b d c):=by
 have H:=Lm hx;have E:=Lm T;have G:jP 6 (some (if 0<=av then a.set av.toNat x else a)) (some (if 0<=av then b.set av.toNat d else b)):=by
  split
  ·exact kr (n:=0) _ h hx
  exact h
 have O:gS 6 (if bv=av then cI x y.lo y.hi else y) (if bv=av then cI d c.lo c.hi else c):=by
  split
  ·exact iT hx E.2.1 E.2.2
  exact T
 have Y:=Lm O;unfold chR;split;rotate_left
 ·exact G
 generalize(if bv=av then cI x y.lo y.hi else y)=z at *;generalize(if bv=av then cI d c.lo c.hi else c)=e at *;by_cases R:z.hi<z.lo
 ·rw[aD R];trivial
 rw[aA R,aA (c:=e.hi<e.lo) ah];exact kr (n:=0) _ G O
def abk{a:List VV}(h:ei 6 m (some a))(hx:okV 6 x)(T:okV 6 y):ei 6 m (chR av bv a x y):=by
 have G:ei 6 m (some (if 0<=av then a.set av.toNat x else a)):=by
  split
  ·exact ko _ h hx
  exact h
 unfold chR;split;rotate_left
 ·exact G
 have O:VIn (if bv=av then cI x y.lo y.hi else y)/\(if bv=av then cI x y.lo y.hi else y).any=false:=by
  split
  ·exact⟨iU hx.bd T.bd.lo T.bd.hi,(K2 hx).1⟩
  exact⟨T.bd,(K2 T).1⟩
 generalize(if bv=av then cI x y.lo y.hi else y)=z at *;split
 ·exact fJ _ _
 exact ko _ G (qX O.2 ah O.1)
def Z?{vs:List VV}(Z:Dm n.a/\Dm n.b)(h:ei 6 m (some vs)):ei 6 m (Yf n k vs):=by
 have G:=(h vs rfl).2;unfold Yf;split
 ·exact ko _ h JX
 split
 ·exact ko _ h (ju G _ Z.1)
 split
 ·cases E:qm n.test (decide (k=0)) (fM vs n.a) (fM vs n.b)with
  |none=>exact fJ _ _
  |some q=>
   have:=abz (ju G _ Z.1) (ju G _ Z.2) E;exact abk h this.1 this.2
 split
 ·cases E:Sx n.op (fM vs n.a) (fM vs n.b)with
  |none=>exact fJ _ _
  |some v=>exact ko _ h (abg (ju G _ Z.1) E)
 exact h
def Z!{a b:List VV}(Z:Dm n.a/\Dm n.b)(ha:ei 6 m (some a))(hb:ei 6 m (some b))(h:jP 6 (some a) (some b)):jP 6 (Yf n k a) (Yf n k b):=by
 have L:=(ha a rfl);have f:=(hb b rfl);have G:=CF L.1 f.1 h n.a;have O:=CF L.1 f.1 h n.b;have a1:=ju L.2 _ Z.1;have a2:=ju L.2 _ Z.2;have c:=ju f.2 _ Z.1;have x:=ju f.2 _ Z.2;unfold Yf;split
 ·exact kr (n:=m) _ h (iM _ _)
 split
 ·exact kr (n:=m) _ h G
 split
 ·have:=abA (t:=n.test) (yes:=decide (k=0)) a1 a2 c x G O
  cases E:qm n.test (decide (k=0)) (fM a n.a) (fM a n.b)with
  |none=>trivial
  | some q=>
   cases T:qm n.test (decide (k=0)) (fM b n.a) (fM b n.b)with
   |none=>rw[E,T]at this;exact this.elim
   |some r=>
    rw[E,T]at this;exact abl h this.1 this.2
 split;rotate_left
 ·exact h
 have:=abh (o:=n.op) a1 a2 G O;cases E:Sx n.op (fM a n.a) (fM a n.b)with
 |none=>trivial
 |some v=>
  cases T:Sx n.op (fM b n.a) (fM b n.b)with
  |none=>rw[E,T]at this;exact this.elim
  |some u=>rw[E,T]at this;exact kr (n:=m) _ h this
def q!(hp:p=5∨p=6){e:EV}(Z:Dm n.a/\Dm n.b)(h:ei p m e):ei p m (Fb p n k e):=by
 cases e with
 |none=>exact fJ _ _
 |some vs=>
  unfold Fb;rcases hp with rfl|rfl
  ·exact aad Z h
  exact Z? Z h
def aac(hp:p=5∨p=6){a b:EV}(Z:Dm n.a/\Dm n.b)(ha:ei p m a)(hb:ei p m b)(h:jP p a b):jP p (Fb p n k a) (Fb p n k b):=by
 match a,b,h with
 |none,_,_=>trivial
 |some a,some b,h=>
  unfold Fb;rcases hp with rfl|rfl
  ·exact aae ha hb h
  exact Z! Z ha hb h
def mA(P:Pm):Prop:=∀i,Dm (P.at i).a/\Dm (P.at i).b
def xv(p:Int)(P:Pm)(n:Nat):ei p P.nv (P.Tp n):=by
 unfold Pm.Tp;split
 ·intro vs h
  cases h;exact⟨ak,fun v t=>by rw[ji t];exact yh p⟩
 exact fJ _ _
def LL{p:Int}(hp:p=5∨p=6){P:Pm}(Z:mA P){at_:Nat->EV}(ha:∀m,ei p P.nv (at_ m)):∀(l:List (Nat×Nat)) (e:EV),ei p P.nv e->ei p P.nv (l.foldl (fun out q=>CY p out (Fb p (P.at q.1) q.2 (at_ q.1))) e)
 |[],e,h=>h
 |q :: l,e,h=>LL hp Z ha l _ (rh h (q! hp (Z q.1) (ha q.1)))
def jm(hp:p=5∨p=6)(Z:mA P)(n:Nat)(ha:∀m,ei p P.nv (at_ m)):ei p P.nv (P.say p n at_):=LL hp Z ha _ _ (xv p P n)
def LM{p:Int}(hp:p=5∨p=6){P:Pm}(Z:mA P){at_ a:Nat->EV}(ha:∀m,ei p P.nv (at_ m))(hb:∀m,ei p P.nv (a m))(h:∀m,jP p (at_ m) (a m)):∀(l:List (Nat×Nat)) (e d:EV),ei p P.nv e->ei p P.nv d->jP p e d->jP p (l.foldl (fun out q=>CY p out (Fb p (P.at q.1) q.2 (at_ q.1))) e) (l.foldl (fun out q=>CY p out (Fb p (P.at q.1) q.2 (a q.1))) d)
 |[],e,d,_,_,k=>k
 |q :: l,e,d,H,hd,k=>by
  have A:=q! (k:=q.2) hp (Z q.1) (ha q.1);have M:=q! (k:=q.2) hp (Z q.1) (hb q.1);have D:=aac (k:=q.2) hp (Z q.1) (ha q.1) (hb q.1) (h q.1);refine LM hp Z ha hb h l _ _ (rh H A) (rh hd M) (Lt H A ?_ ?_)
  ·exact fh hd H k (Yn hd M)
  exact fh M A D (Rj hd M)
def B6(hp:p=5∨p=6)(Z:mA P){a:Nat->EV}(n:Nat)(ha:∀m,ei p P.nv (at_ m))(hb:∀m,ei p P.nv (a m))(h:∀m,jP p (at_ m) (a m)):jP p (P.say p n at_) (P.say p n a):=
 LM hp Z ha hb h _ _ _ (xv p P n) (xv p P n) (iN p _)
end
section
variable {nv:Nat} {e:PE} {v:EV}
def KC.cF(h:PR nv e v)(g:ei 5 nv v):∀i,ze (e.at i)/\dq (bQ (e.at i)):=by
 have R:ze VV.z/\dq (bQ VV.z):=⟨⟨rfl,fun _=>rfl⟩,aj,aj⟩;intro i;cases v with
 |none=>
  have o:e=PE.zero:=h;rw[o,KC.qPE.rW];exact R
 | some vs=>
  rw[h.2.2];by_cases hi:i<vs.length;rotate_left
  ·rw[List.getD,bU ah]
   exact R
  have G:vs[i]?=some vs[i]:=bk hi;rw[List.getD,G];have t:=(g vs rfl).2 _ (aL G);have V:=t.form;rw[aD rfl]at V;show ze vs[i]/\dq (bQ vs[i]);refine⟨?_,f64.2 t.bd.lo,f64.2 t.bd.hi⟩;rcases V with V|V
  ·rw[V];exact⟨rfl,fun _=>rfl⟩
  rw[V];exact⟨rfl,fun h=>by cases h⟩
def EK{nv:Nat}(hn:nv<=8):∀(l:List (PE×EV)) (e:PE) (v:EV),PR nv e v->ei 5 nv v->(∀q∈l,PR nv q.1 q.2/\ei 5 nv q.2)->PR nv ((l.map Prod.fst).foldl KC.jM e) ((l.map Prod.snd).foldl (CY 5) v)/\ei 5 nv ((l.map Prod.snd).foldl (CY 5) v)
 |[],e,v,h,g,_=>⟨h,g⟩
 |q :: l,e,v,h,g,hl=>by
  have A:=hl q ak;exact EK hn l _ _ (Qu hn h A.1 (fun i=>(KC.cF h g i).1) (fun i=>(KC.cF A.1 A.2 i).1)) (rh g A.2) (fun x E=>hl x (by simp[E]))
def KB.cF(h:PR nv e v)(g:ei 6 nv v):∀i,zh (e.at i)/\dq (bQ (e.at i)):=by
 have R:zh VV.z/\dq (bQ VV.z):=⟨rfl,aj,aj⟩;intro i;cases v with
 |none=>
  have o:e=PE.zero:=h;rw[o,KC.qPE.rW];exact R
 | some vs=>
  rw[h.2.2];by_cases hi:i<vs.length;rotate_left
  ·rw[List.getD,bU ah]
   exact R
  have G:vs[i]?=some vs[i]:=bk hi;rw[List.getD,G];have t:=(g vs rfl).2 _ (aL G);have V:=t.form;rw[aA aj]at V;show zh vs[i]/\dq (bQ vs[i]);refine⟨?_,f64.2 t.bd.lo,f64.2 t.bd.hi⟩;exact V.1
def EL{nv:Nat}(hn:nv<=8):∀(l:List (PE×EV)) (e:PE) (v:EV),PR nv e v->ei 6 nv v->(∀q∈l,PR nv q.1 q.2/\ei 6 nv q.2)->PR nv ((l.map Prod.fst).foldl KB.jM e) ((l.map Prod.snd).foldl (CY 6) v)/\ei 6 nv ((l.map Prod.snd).foldl (CY 6) v)
 |[],e,v,h,g,_=>⟨h,g⟩
 |q :: l,e,v,h,g,hl=>by
  have A:=hl q ak;exact EL hn l _ _ (Qv hn h A.1 (fun i=>(KB.cF h g i).1) (fun i=>(KB.cF A.1 A.2 i).1)) (rh g A.2) (fun x E=>hl x (by simp[E]))
end
section
variable {P:Pm} {held:Nat->PE} {at_:Nat->EV}
def PZ(n i:Nat):(qu n).at i=VV.z:=J8 _ i
def X8(P:Pm)(n:Nat):PR P.nv (qu n) (P.Tp n):=by
 unfold Pm.Tp;cases n with
 |zero=>
  rw[aD rfl];refine⟨rfl,ak,fun i=>?_⟩;rw[PZ,List.getD,mD];split<;>rfl
 |succ n=>
  rw[aA ah];exact Ee n
def j9(P:Pm):Prop:=∀n∈P.nd,n.kind=1->0<=n.op/\n.op<=3
def KC.bL(P:Pm)(held:Nat->PE)(n:Nat):PE:=((P.ins n).map fun x=>KC.eU (held x.1) (P.at x.1) (decide (x.2=0))).foldl KC.jM (qu n)
def KB.bL(P:Pm)(held:Nat->PE)(n:Nat):PE:=((P.ins n).map fun x=>KB.eU (held x.1) (P.at x.1) (decide (x.2=0))).foldl KB.jM (qu n)
def Du{i:Nat}(h:i<P.nd.length):P.at i∈P.nd:=by
 unfold Pm.at;rw[List.getD,bk h];exact eL h
def rg_of{v:VV}(h:okV 6 v):TK v:=by
 have V:=h.form;rw[aA aj]at V;exact⟨V.1,V.2,h.bd.lo.1,h.bd.hi.2⟩
def Jf(hx:P.nx.length=P.nd.length){n:Nat}{x:Nat×Nat}(h:x∈P.ins n):P.at x.1∈P.nd:=Du (by have:=mS n P.nx 0 x h;omega)
def KC.fO(b:cE P)(Z:mA P)(g:j9 P)(hx:P.nx.length=P.nd.length)(T:∀m,PR P.nv (held m) (at_ m)/\ei 5 P.nv (at_ m))(n:Nat):
  PR P.nv (KC.bL P held n) (P.say 5 n at_)/\ei 5 P.nv (P.say 5 n at_):=by
 have G:=EK b.nv ((P.ins n).map fun x=>(KC.eU (held x.1) (P.at x.1) (decide (x.2=0)),Fb 5 (P.at x.1) x.2 (at_ x.1))) (qu n) (P.Tp n) (X8 P n) (xv 5 P n) (fun q A=>by
  obtain⟨x,H,rfl⟩:=bP.1 A;have C:=Jf hx H
  exact⟨Qs (T x.1).1 b.nv (P.at x.1) x.2 (b.var _ C) (b.kind _ C).1 (g _ C) (b.a _ C) (b.b _ C),q! (aJ rfl) (Z x.1) (T x.1).2⟩)
 rw[kJ,kJ]at G;have z:P.say 5 n at_=((P.ins n).map (Prod.snd∘fun x=>(KC.eU (held x.1) (P.at x.1) (decide (x.2=0)),Fb 5 (P.at x.1) x.2 (at_ x.1)))).foldl (CY 5) (P.Tp n):=by
  rw[List.foldl_map];rfl
 rw[z];exact G
def KB.fO(b:cE P)(Z:mA P)(hx:P.nx.length=P.nd.length)(T:∀m,PR P.nv (held m) (at_ m)/\ei 6 P.nv (at_ m))(n:Nat):
  PR P.nv (KB.bL P held n) (P.say 6 n at_)/\ei 6 P.nv (P.say 6 n at_):=by
 have G:=EL b.nv ((P.ins n).map fun x=>(KB.eU (held x.1) (P.at x.1) (decide (x.2=0)),Fb 6 (P.at x.1) x.2 (at_ x.1))) (qu n) (P.Tp n) (X8 P n) (xv 6 P n) (fun q A=>by
  obtain⟨x,H,rfl⟩:=bP.1 A;have C:=Jf hx H
  exact⟨Qt (T x.1).1 b.nv (P.at x.1) x.2 (fun vs t _=>rg_of (ju ((T x.1).2 vs t).2 _ (Z x.1).1)) (fun vs t _=>rg_of (ju ((T x.1).2 vs t).2 _ (Z x.1).2)) (b.var _ C) (b.kind _ C).1 (b.a _ C) (b.b _ C),q! (aI rfl) (Z x.1) (T x.1).2⟩)
 rw[kJ,kJ]at G;have z:P.say 6 n at_=((P.ins n).map (Prod.snd∘fun x=>(KB.eU (held x.1) (P.at x.1) (decide (x.2=0)),Fb 6 (P.at x.1) x.2 (at_ x.1)))).foldl (CY 6) (P.Tp n):=by
  rw[List.foldl_map];rfl
 rw[z];exact G
end
section
variable {K:Type}
def C?[DecidableEq K]{u:List K}(h:u.Nodup)(o:Option K):(ft u o).Nodup:=by
 unfold ft;split
 ·exact h
 split
 ·exact h
 rw[Ac];exact⟨h,ak,by rintro a y b D rfl;simp at D;subst D;contradiction⟩
def sX{K:Type}[DecidableEq K]:∀(f:List (Option K)) (u:List K),u.Nodup->(f.foldl ft u).Nodup
 |[],u,h=>h
 |k :: f,u,h=>sX f _ (C? h k)
def JA[DecidableEq K](u:List K)(o:Option K):u <+: ft u o:=by
 unfold ft;split
 ·exact O8
 split
 ·exact O8
 exact List.prefix_append _ _
def yO{K:Type}[DecidableEq K]:∀(f:List (Option K)) (u:List K),u <+: f.foldl ft u
 |[],u=>O8
 |k :: f,u=>(JA u k).trans (yO f _)
def yP{K:Type}[DecidableEq K]:∀(f:List (Option K)) (u:List K) (x:K),some x∈f->x∈f.foldl ft u
 |[],u,x,h=>by cases h
 | k :: f,u,x,h=>by
  rw[gx];rcases cQ.1 h with rfl|h
  ·refine(yO f _).subset ?_
   show x∈(if x∈u then u else u++[x]);split
   ·assumption
   simp
  exact yP f _ x h
def vi{K:Type}[DecidableEq K]:∀(f:List (Option K)) (u:List K) (x:K),x∈f.foldl ft u->x∈u∨some x∈f
 |[],u,x,h=>aJ h
 |k :: f,u,x,h=>by
  rw[gx]at h;rcases vi f _ x h with h|h;rotate_left
  ·exact aI (by simp[h])
  unfold ft at h;split at h
  ·exact aJ h
  split at h
  ·exact aJ h
  rcases jH.1 h with h|h
  ·exact aJ h
  simp at h;subst h;exact aI ak
def JB[DecidableEq K](u:List K)(o:Option K):(ft u o).length<=u.length+1:=by
 unfold ft;split
 ·omega
 split
 ·omega
 simp
def yQ{K:Type}[DecidableEq K]:∀(f:List (Option K)) (u:List K),(f.foldl ft u).length<=u.length+f.length
 |[],u=>ak
 |k :: f,u=>by
  have G:=JB u k;have O:=yQ f (ft u k);rw[gx,bT];omega
def VT[DecidableEq K](ks:List (Option K)):(Be ks).length<=ks.length:=by
 have:=yQ ks [];simpa[Be]using this
def N2[DecidableEq K](ks:List (Option K)):(Be ks).Nodup:=sX ks [] J5
def VS[DecidableEq K](ks:List (Option K))(x:K):x∈Be ks↔some x∈ks:=
 ⟨fun h=>by rcases vi ks [] x h with h|h;(· cases h);exact h,fun h=>yP ks [] x h⟩
end
section
variable {w:World} {P:Pm} {k:Nat}
open Go.RowKit Go.Proofs Go.Maps Tryz
def aay:(Tryz.prog.info? 430).map (fun i=>(i.zero,i.size,i.bytes))=some (some (.agg DR),7,56):=au
def lL(ks:List Key):List Value:=ks.flatMap fun k=>(tD k).toList
def yw:∀(f:List Key) (j:Nat) (k:Key),f[j]?=some k->∀i v,(tD k)[i]?=some v->(lL f)[j*7+i]?=some v
 |[],j,k,h,i,v,hv=>by simp at h
 |a :: r,0,k,h,i,v,hv=>by
  simp at h;subst h;have hi:=(bq.1 hv).1;simp only[lL,bY,gU,ct];rw[mE (by simpa using hi)]
  simpa using hv
 |a :: r,j+1,k,h,i,v,hv=>by
  have:=yw r j k (by simpa using h) i v hv;simp only[lL,bY]at this⊢;rw[fC (by simp[tD];omega),<-this]
  congr 1
  simp[tD];omega
def yv{B n c:Nat}{a:Option Addr}{ks:List Key}(h:w.ownsRow B 430 7 (.slice a n c) n (lL ks)):Gk w a ks:=by
 intro j k U;have O:=yw ks j k U 0 _ rfl;rcases h.2 with⟨t,_⟩|⟨g,C,A,t,_⟩
 ·exfalso
  have G:=h.1;simp at t;have:=(bn.1 O).1
  simp_all
 simp at t;obtain⟨rfl,rfl⟩:=t;refine⟨g,0,rfl,fun i v t=>?_⟩;have:=h.cells (g:=g) rfl _ _ (yw ks j k U i v t)
 rwa[gw,<-lA]at this
def F1{n:SN}(h:P.nd[k]?=some n):Be ((P.nd.take (k+1)).map Bf)=ft (Be ((P.nd.take k).map Bf)) (Bf n):=by
 have hl:=(bn.1 h).1;rw[dS hl,(bn.1 h).2,iq];simp[Be]
def Se(k:Nat)(P:Pm):(Be ((P.nd.take k).map Bf)).length<=k:=by
 have:=VT ((P.nd.take k).map Bf);rw[br,dL]at this;omega
def C! : ∀(k:Nat) (P:Pm),(∀n∈P.nd,nh (i6 n))->∀x∈Be ((P.nd.take k).map Bf),nh x
 |0,P,_,x,hx=>by simp[Be]at hx
 | k+1,P,h,x,hx=>by
  have B:=C! k P h;by_cases X:k<P.nd.length;rotate_left
  ·rw[cP ah]at hx
   rw[cP ah]at B;exact B x hx
  rw[F1 (bk X),Da]at hx;split at hx;rotate_left
  ·exact B x hx
  unfold ft at hx;simp only at hx;split at hx
  ·exact B x hx
  rcases jH.1 hx with hx|hx
  ·exact B x hx
  rw[ja.1 hx];exact h _ (eL X)
def adj{X:World}{q:Nat}{a b c d e f h:Value}{t:TypeId}(T:X.heap[q]?=some (.cells #[a,b,c,d,e,f,h] t (0,0))):∀(j:Nat) (u:Value),[a,b,c,d,e,f,h][j]?=some u->X.cell? (((Ad q 0):Addr).add j)=some u:=by
 intro j u U;rw[gw,ct,(ae T).1]
 simpa using U
def mV{g C:Nat}{S:List NC}{c:NC}(h:PM w g C S P)(Z:S[k]?=some c)(j:Nat)(hj:j<14):w.cell? (Ad g (k*14+j))=(aK c.bj c.wv c.n c.ev)[j]?:=h.row.cells k c Z j hj
def Bd(g C nv:Nat)(S:List NC)(P:Pm)(w:World)(hP:PM w g C S P)(B:P.nd.length<=60)(o:∀n∈P.nd,nh (i6 n)):
  Cl 286 #[eV g P.nd.length C nv] w fun e I=>∃a c,e=.returned (bH a P.ex.length c)/\I.ownsRow w.heap.size 430 7 (bH a P.ex.length c) P.ex.length (lL P.ex)/\Bl w I:=by
 obtain⟨i0,hi,lu,O,K⟩:=cY aay;have b:Hd (_/\_/\_/\_):=⟨hi,lu,O,K⟩;clear hi lu O K;have HH:=hid (Aa hP o);obtain⟨N,Q⟩:=Ea P.nd.length;rw[<-Q]at B⊢;have m:=hid Q;clear hP o Q;simp only[eV];go_enter func286,ntmps286
 go_wp2_with fail
 have R:Hd (Bl w (w.alloc (.cells (cN g N C nv) 86))):=aC _ _;generalize w.alloc (.cells (cN g N C nv) 86)=W0 at R⊢
 go_loopw[3,11] (fun lv p wr=>∃(i:Nat) (a:Option Addr) (c:Nat),i<=N/\p=Iv i/\lv=.slice a (Be ((P.nd.take i).map Bf)).length c/\Hd (wr.ownsRow w.heap.size 430 7 (.slice a (Be ((P.nd.take i).map Bf)).length c) (Be ((P.nd.take i).map Bf)).length (lL (Be ((P.nd.take i).map Bf)))/\Bl w wr)) (fun _ p _=>N-(intOf p).toNat)
 case atStart=>exact⟨0,none,0,bB _,rfl,rfl,dF _ _ _ _,R.o⟩
 obtain⟨i,a,c,hi,rfl,rfl,M⟩:=hrel;by_cases J:i<N;rotate_left
 ·have s:¬(i:Int)<N:=ah
  have he:Be ((P.nd.take i).map Bf)=P.ex:=by rw[cP (by rw[<-m.o];omega)];rfl
  rw[he]at M⊢
  go_wp2_with fail
  go_ret
  exact⟨a,c,rfl,M.a,M.A⟩
 have s:(i:Int)<N:=ah
 obtain⟨nc,ts,Z,x,_,_,_,_⟩:=HH.a.nodes (by rw[<-m.o];exact J);have L:=fun j (hj:j<14)=>(mV (HH.a.below M.A) Z j hj)
 obtain⟨nd,v⟩:=Ea nc.n;rw[<-v]at L x;have hex:=F1 x;have hle:=Se i P;have d:=C! i P HH.A;have X:=HH.A nd (aL x);obtain⟨ks,r⟩:=Ea (Be ((P.nd.take i).map Bf));rw[<-r]at M hex hle d⊢;rw[Da]at hex;simp only[NC.wv,NC.ev]at L;generalize nc.bj=bj at L;generalize nc.wa=wa at L;generalize nc.wl=wl at L;generalize nc.wc=wc at L;generalize nc.ea=ea at L;generalize nc.el=el at L;generalize nc.ec=ec at L;have HEO:Hd (∀W,Cl 330 #[.agg (aK bj (.slice wa wl wc) nd (.slice ea el ec))] W (Rb W (.tuple #[.agg (tD (i6 nd)),.bool (JC nd)]))):=fun W=>F0 bj (.slice wa wl wc) (.slice ea el ec) nd W
 obtain⟨ok,o?⟩:=Ea (JC nd);rw[<-o?]at HEO hex;obtain⟨ky,hky⟩:=Ea (i6 nd);rw[<-hky]at hex X;obtain⟨kind,var,op,test,⟨ai,av,ac⟩,⟨D,bv,bc⟩,goal⟩:=nd;have HKY:Hd (tD ky=#[.bool ai,Iv av,Iv ac,Iv op,.bool D,Iv bv,Iv bc]):=by rw[hky];rfl
 have G:=hid hex;rw[<-hky,HKY.o]at HEO;obtain⟨d0,d1,d2,d3,d4,d5,d6,d7,d8,d9,d10,d11,d12,d13⟩:=Mr L;simp only[aK]at HEO;clear L hex o? hky v x r;have HCT:Hd (∀W,Bl wr W->Cl 331 #[.slice a ks.length c,.agg #[.bool ai,Iv av,Iv ac,Iv op,.bool D,Iv bv,Iv bc]] W (Rb W (.bool (decide (ky∈ks))))):=by
  intro W hW;rw[<-HKY.o];exact N3 a c ks ky W (yv (bp M.a hW)) X d ah
 have aeT:ks.length<=60:=ah
 clear d X hle
 go_upto_region 5 with(fail)
 generalize hV:wr.alloc (.cells #[.string bj,.slice wa wl wc,Iv kind,Iv var,Iv op,Iv test,.bool ai,Iv av,Iv ac,.bool D,Iv bv,Iv bc,.slice ea el ec,.string goal] 152)=V;have H:Hd (Bl wr V/\d' V wr.heap.size #[.string bj,.slice wa wl wc,Iv kind,Iv var,Iv op,Iv test,.bool ai,Iv av,Iv ac,.bool D,Iv bv,Iv bc,.slice ea el ec,.string goal] 152):=by subst hV;exact⟨aC _ _,bf _ _⟩
 clear hV d0 d1 d2 d3 d4 d5 d6 d7 d8 d9 d10 d11 d12 d13;obtain⟨F,y⟩:=ae H.A
 go_upto_region 6 with(go_at_call 330;refine(HEO.o _).mono ?_;rintro e T ⟨rfl,A⟩;have j?:=hid (aq H.a A);clear A F y)
 generalize l:T.alloc (.cells #[.bool ai,Iv av,Iv ac,Iv op,.bool D,Iv bv,Iv bc] 430)=U;have k:Hd (Bl wr U/\d' U T.heap.size #[.bool ai,Iv av,Iv ac,Iv op,.bool D,Iv bv,Iv bc] 430):=by subst l;exact⟨aq j?.o (aC _ _),bf _ _⟩
 clear l;generalize T.heap.size=q5 at k⊢;obtain⟨F,y⟩:=ae k.A;cases ok
 ·rw[aA ak]at G
  have f:Hd (Be ((P.nd.take (i+1)).map Bf)=ks):=G.o
  go_wp2_with fail
  go_roundw
  case rel=>
   refine⟨i+1,a,c,J,h',by rw[f.o],?_⟩;rw[f.o];exact⟨bp M.a k.a,aq M.A k.a⟩
  simp[intOf];omega
 rw[aD rfl]at G;by_cases hm:ky∈ks
 ·rw[eT hm]at HCT
  have f:Hd (Be ((P.nd.take (i+1)).map Bf)=ks):=by show _=_;rw[G.o];unfold ft;simp[hm]
  go_wp2_with (go_at_call 331;refine(HCT.o _ k.a).mono ?_;rintro e h ⟨rfl,Y⟩;have t:=hid (aq k.a Y);clear Y F y)
  go_roundw
  case rel=>
   refine⟨i+1,a,c,J,h',by rw[f.o],?_⟩;rw[f.o];exact⟨bp M.a t.o,aq M.A t.o⟩
  simp[intOf];omega
 rw[eS hm]at HCT;have f:Hd (Be ((P.nd.take (i+1)).map Bf)=ks++[ky]):=by show _=_;rw[G.o];unfold ft;simp[hm]
 go_wp2_with (first|(go_at_call 331;refine(HCT.o _ k.a).mono ?_;rintro e h ⟨rfl,Y⟩;have t:=hid (Aa (aq k.a Y) (aE Y k.A));clear Y F y;obtain⟨F,y⟩:=ae t.A)|(at_builtin;refine nj _ rfl _ _ 400 rfl w.heap.size 430 i0 (.agg DR) 7 56 underlying400 b.a b.b b.c b.C rfl aj (bH a ks.length c) ks.length (lL ks) rfl ((bp M.a t.a).alloc _) (Ad h.heap.size 0) 1 1 [.bool ai,Iv av,Iv ac,Iv op,.bool D,Iv bv,Iv bc] rfl rfl (adj (bf h _)) (by intro u E;simp at E;rcases E with rfl|rfl|rfl|rfl|rfl|rfl|rfl<;>rfl) (by simp only[maxLen];omega) ah (by have:=(aq M.A t.a).size;simp;omega) ?_;intro v9 W9 o9 g9 _;obtain⟨z,c9,rfl⟩:=bS o9;have H9:=hid (Aa o9 g9);clear o9 g9 F y))
 go_roundw
 case rel=>
  refine⟨i+1,z,c9,J,h',by rw[f.o,bu];rfl,?_⟩;rw[f.o];refine⟨?_,?_⟩
  ·rw[bu,gL,show lL (ks++[ky])=lL ks++[.bool ai,Iv av,Iv ac,Iv op,.bool D,Iv bv,Iv bc] by simp[lL,HKY.o]]
   exact H9.a
  exact((aq M.A t.a).alloc (aq M.A t.a).size _).grown H9.A (by have:=(aq M.A t.a).size;simp;omega) (fun q e=>((bp M.a t.a).lt q e).1)
 simp[intOf];omega
end
section
variable {P:Pm} {f n nv:Nat} {a b:EV} {c d:Ct}
def pF{p:Int}{th a:Nat->Bool}(h:∀m,th m=true->a m=true)(hr:P.rule p f n th=true):P.rule p f n a=true:=by
 unfold Pm.rule at *;rw[dO]at *;rcases hr with hr|hr
 ·exact aJ hr
 refine aI (G8.2 ?_);obtain⟨m,C,E⟩:=G8.1 hr;refine⟨m,C,?_⟩;rw[dO,aS]at *;exact E.elim aJ fun E=>aI ⟨E.1,h m E.2⟩
def Uf(P:Pm)(p:Int)(th:Nat->Nat->Bool):Prop:=∀f n,f<P.facts p->n<P.nd.length->P.rule p f n (th f)=true->th f n=true
def Eg(P:Pm)(c:Ct):xy P c=true↔Uf P c.problem fun f=>qt c f (-1):=by
 unfold xy Uf;simp only[bM,bZ,dO,iu];constructor
 ·intro h f n V J L
  rcases h f V n J with h|h
  ·rw[L]at h;cases h
  exact h
 intro h f V n J;cases L:P.rule c.problem f n (qt c f (-1))with
 |false=>exact aJ rfl
 |true=>exact aI (h f n V J L)
def Fc(P:Pm)(c:Ct):ur P c=true↔∀f n,f<P.facts c.problem->n<P.nd.length->qt c f (-1) n=true->P.rule c.problem f n (qt c f ((c.at n).qP f))=true:=by
 unfold ur;simp only[bM,bZ,dO,iu];constructor
 ·intro h f n V J L
  rcases h f V n J with h|h
  ·rw[L]at h;cases h
  exact h
 intro h f V n J;cases L:qt c f (-1) n with
 |false=>exact aJ rfl
 |true=>exact aI (h f n V J L)
def jT(hn:n<c.nodes.length):c.at n∈c.nodes:=by
 unfold Ct.at;rw[List.getD,bk hn];exact eL hn
def nN(hn:¬n<c.nodes.length):c.at n=q?:=by
 unfold Ct.at;rw[List.getD,bU ah];rfl
structure zY(c:Ct):Prop where
  p:c.problem<=4
  cw:∀x∈c.nodes,cw 0 x.facts=true
  bare:∀x∈c.nodes,x.reached=false/\x.vals=[]
  aO:c.bK=1->∀x∈c.nodes,x.aO.length=x.facts.length/\∀r∈x.aO,0<=r/\r<=100000
def B4(h:kq c=true)(hp:c.problem<=4):zY c:=by
 unfold kq at h;simp only[aS,bM]at h;have k:∀x∈c.nodes,eO c.bK x=true:=fun x E=>by have:=h.2 x E;unfold cy at this;rw[aD hp]at this;exact this
 unfold eO at k;simp only[aS,iu,jI,bm]at k;refine⟨hp,fun x E=>(k x E).1.2,fun x E=>⟨(k x E).1.1.1.1,(k x E).1.1.2⟩,fun m x E=>?_⟩;have:=(k x E).2;unfold ey at this;rw[aD m]at this;simp only[aS,bm,bM]at this;refine⟨this.1,fun r L=>?_⟩;have:=this.2 r L;unfold rk at this
 simpa using this
def vT(h:zY c)(m:c.bK=1):0<=(c.at n).qP f:=by
 unfold Nd.qP;cases e:(c.at n).aO[(c.at n).facts.idxOf (f:Int)]? with
 |none=>rw[List.getD,e];exact dU 0
 |some r=>
  rw[List.getD,e];by_cases J:n<c.nodes.length
  ·exact((h.aO m _ (jT J)).2 r (aL e)).1
  rw[nN J]at e;simp[q?]at e
def mR{P:Pm}{c:Ct}(Z:zY c)(a:c.bK=1)(hl:ur P c=true)(B:c.nodes.length=P.nd.length){th:Nat->Nat->Bool}(hs:Uf P c.problem th):∀(k:Nat) (f n:Nat),f<P.facts c.problem->qt c f (-1) n=true->(c.at n).qP f<k->th f n=true
 |0,f,n,_,_,h=>by have:=vT (n:=n) (f:=f) Z a;omega
 | k+1,f,n,V,N,hk=>by
  have J:n<P.nd.length:=by
   rw[<-B];by_cases J:n<c.nodes.length
   ·exact J
   unfold qt at N;rw[nN J]at N;simp[Nd.kZ,q?]at N
  have L:=(Fc P c).1 hl f n V J N;refine hs f n V J (pF (fun m C=>?_) L);have o:=vT (n:=n) (f:=f) Z a;unfold qt at C;simp only[aS,dO,bm]at C;refine mR Z a hl B hs k f m V ?_ ah;unfold qt;simp[C.1]
def kP:∀(l:List Int) (U:Int),cw U l=true->∀x∈l,U<=x
 |[],_,_,x,h=>by cases h
 |a :: l,U,h,x,hx=>by
  simp only[cw,aS,bm]at h;rcases cQ.1 hx with rfl|hx
  ·exact h.1.1
  have:=kP l (a+1) h.2 x hx;omega
def Az:∀(l c:List Int) (U d:Int),cw U l=true->cw d c=true->(∀x,x∈l↔x∈c)->l=c
 |[],[],_,_,_,_,_=>rfl
 |[],b :: c,_,_,_,_,h=>by have:=(h b).2 ak;cases this
 |a :: l,[],_,_,_,_,h=>by have:=(h a).1 ak;cases this
 | a :: l,b :: c,U,d,G,O,h=>by
  simp only[cw,aS,bm]at G O;have L:=kP l (a+1) G.2;have R:=kP c (b+1) O.2;have e:a=b:=by
   rcases cQ.1 ((h a).1 ak)with e|e
   ·exact e
   rcases cQ.1 ((h b).2 ak)with f|f
   ·exact f.symm
   have:=R a e;have:=L b f;omega
  subst e
  congr 1
  refine Az l c _ _ G.2 O.2 fun x=>?_
  constructor
  ·intro E
   rcases cQ.1 ((h x).1 (dV _ E))with e|e
   ·have:=L x E;omega
   exact e
  intro E;rcases cQ.1 ((h x).2 (dV _ E))with e|e
  ·have:=R x E;omega
  exact e
def uD(h:kz P c=true)(hp:c.problem<=4):c.nodes.length=P.nd.length/\∀x∈c.nodes,∀f∈x.facts,f<(P.facts c.problem:Int):=by
 unfold kz at h;simp only[aS,bM,bm]at h;refine⟨h.1,fun x E f V=>?_⟩;have:=(h.2 x E).1 f V;rw[aD hp]at this;exact this
def yK(h:kz P c=true):c.nodes.length=P.nd.length/\∀x∈c.nodes,x.reached=true->x.vals.length=P.nv:=by
 unfold kz at h;simp only[aS,bM,bm,dO,iu]at h;refine⟨h.1,fun x E L=>?_⟩;rcases(h.2 x E).2 with e|e
 ·rw[L]at e;cases e
 exact e
def Kr(c:Ct)(f n:Nat):qt c f (-1) n=true↔(f:Int)∈(c.at n).facts:=by simp[qt,Nd.kZ]
theorem CQ(Z:zY c)(hf:kz P c=true){x:Int}(hx:x∈(c.at n).facts):∃f:Nat,x=f/\f<P.facts c.problem/\qt c f (-1) n=true:=by
 have J:n<c.nodes.length:=by
  by_cases J:n<c.nodes.length
  ·exact J
  rw[nN J]at hx;cases hx
 have o:=kP _ _ (Z.cw _ (jT J)) x hx;have G:=(uD hf Z.p).2 _ (jT J) x hx;refine⟨x.toNat,by omega,by omega,?_⟩;rw[Kr,show((x.toNat:Nat):Int)=x by omega];exact hx
def vB(hp:c.problem=d.problem)(Z:zY c)(hd:zY d)(e:c.bK=1)(i:d.bK=1)(fc:kz P c=true)(b:kz P d=true)(g:xy P c=true)(a:xy P d=true)(A:ur P c=true)(h:ur P d=true):c.nodes.map qW=d.nodes.map qW:=by
 have G:=uD fc Z.p;have O:=uD b hd.p;have key:∀{c d:Ct},c.problem=d.problem->zY c->zY d->c.bK=1->kz P c=true->xy P d=true->ur P c=true->c.nodes.length=P.nd.length->∀(n:Nat) (x:Int),x∈(c.at n).facts->x∈(d.at n).facts:=by
  intro c d hp Z hd e fc a A B n x E;obtain⟨f,rfl,V,N⟩:=CQ Z fc E;have z:=(Eg P d).1 a;rw[<-hp]at z;exact(Kr d f n).1 (mR Z e A B z ((c.at n).qP f+1).toNat f n V N (by have:=vT (n:=n) (f:=f) Z e;omega))
 refine tP (by simp[G.1,O.1]) fun n J W=>?_
 simp only[br]at J W;have Q:c.at n=c.nodes[n]:=by unfold Ct.at;rw[List.getD,bk J];rfl
 have j:d.at n=d.nodes[n]:=by unfold Ct.at;rw[List.getD,bk W];rfl
 have S:(c.at n).facts=(d.at n).facts:=Az _ _ 0 0 (Z.cw _ (jT J)) (hd.cw _ (jT W)) fun x=>⟨key hp Z hd e fc a A G.1 n x,key hp.symm hd Z i b g h O.1 n x⟩
 have u:=Z.bare _ (jT J);have k:=hd.bare _ (jT W);simp only[tO,<-Q,<-j,qW,S,u,k]
structure z8(c:Ct)(nv:Nat):Prop where
  p:c.problem=5
  ok:∀x∈c.nodes,x.reached=true->x.vals.length=nv/\0<=x.rank/\∀v∈x.vals,(v.kind=1/\v.early=false)∨(v.kind=2/\v.early=true/\x.rank<v.rank/\v.lo=0)∨(v.kind=2/\v.early=false/\v.lo=0)
  bd:∀x∈c.nodes,∀v∈x.vals,(-9223372036854775808<=v.lo/\v.lo<=9223372036854775807)/\(-9223372036854775808<=v.first/\v.first<=9223372036854775807)
  hi:∀x∈c.nodes,∀v∈x.vals,v.hi=0
  bare:∀x∈c.nodes,x.facts=[]/\(x.reached=false->x.vals=[])
def T5{v:Vl}{r:Int}(h:(-9223372036854775808<=v.lo/\v.lo<=9223372036854775807)/\(-9223372036854775808<=v.first/\v.first<=9223372036854775807))(h3:v.kind≠3):okV 5 (fN r v):=by
 unfold fN;rw[aA h3];split
 ·exact sB _ h.1
 split
 ·exact sB _ h.2
 exact CG
def da(h:z8 c nv)(r:Int)(n:Nat):ei 5 nv (e7 c r n):=by
 unfold e7 mQ;split
 ·exact fJ _ _
 rename_i J
 intro vs e;cases e;by_cases hl:n<c.nodes.length
 ·have G:=jT hl
  have L:(c.at n).reached=true:=by cases T:(c.at n).reached;(· exact absurd (aJ T) J);rfl
  have O:=h.ok _ G L;refine⟨by simp[O.1],fun v t=>?_⟩;obtain⟨u,E,rfl⟩:=bP.1 t;exact T5 (h.bd _ G u E) (by rcases O.2.2 u E with k|k|k<;>omega)
 rw[nN hl]at J;exact absurd (aJ rfl) J
def xx(Y:mA P)(h:z8 c P.nv):kN P c=true↔∀n,n<P.nd.length->jP 5 (P.say 5 n (e7 c (-1))) (e7 c (-1) n):=by
 unfold kN;simp only[bM,bZ,h.p];exact⟨fun k n J=>(jF (jm (aJ rfl) Y n (da h _)) (da h _ _)).1 (k n J),fun k n J=>(jF (jm (aJ rfl) Y n (da h _)) (da h _ _)).2 (k n J)⟩
def VW{j:Nat}(ha:ei 5 n a)(hb:ei 5 n b)(h:jP 5 a b)(he:Db a j=true):Db b j=true:=by
 match a,b,h with
 |some a,some b,h=>
  unfold Db at *;have G:=LG (ha a rfl).1 (hb b rfl).1 h j;rcases Yj G with e|e
  ·simp only[e]at he⊢;exact he
  simp only[e];rfl
 |none,_,_=>simp[Db]at he
def gH{P:Pm}{c:Ct}(Y:mA P)(Z:z8 c P.nv)(hl:oV P c=true)(i:c.nodes.length=P.nd.length){S:Nat->EV}(hS:∀n,ei 5 P.nv (S n))(hs:∀n,n<P.nd.length->jP 5 (P.say 5 n S) (S n)):∀(k:Nat) (n:Nat) (r:Int),0<=r->r<=k->jP 5 (e7 c r n) (S n)
 | k, n,r,o,hk=>by
  by_cases B:(c.at n).reached=false∨(0<=r/\r<=(c.at n).rank)
  ·unfold e7 mQ;rw[aD B];trivial
  have a:(c.at n).reached=true:=by cases T:(c.at n).reached;(· exact absurd (aJ T) B);rfl
  have J:n<c.nodes.length:=by
   by_cases J:n<c.nodes.length
   ·exact J
   rw[nN J]at a;cases a
  have A:(c.at n).rank<r:=ah
  have G:=Z.ok _ (jT J) a;have C:=hl;unfold oV at C;simp only[bM,bZ]at C;have E:=C n ah;unfold Nf at E;rw[a,Z.p]at E;simp only[wX,jg,aS,bM,bZ]at E;have F:jP 5 (mQ (c.at n) ((c.at n).rank+1)) (S n):=by
   have Q:=(jF (n:=P.nv) (by have:=da Z ((c.at n).rank+1) n;exact this) (jm (aJ rfl) Y n (da Z _))).1 E.1;have z:jP 5 (P.say 5 n (e7 c (c.at n).rank)) (P.say 5 n S):=B6 (aJ rfl) Y n (da Z _) hS fun m=>gH Y Z hl i hS hs (k-1) m _ G.2.1 ah
   exact fh (jm (aJ rfl) Y n (da Z _)) (da Z ((c.at n).rank+1) n) Q (fh (jm (aJ rfl) Y n hS) (jm (aJ rfl) Y n (da Z _)) z (hs n ah))
  unfold e7;unfold mQ at F⊢;rw[aA B];rw[aA (by rw[a];simp;omega)]at F;cases b:S n with
  |none=>rw[b]at F;exact F.elim
  | some h=>
   rw[b]at F;intro j x y d f;rw[bG]at d;cases t:(c.at n).vals[j]? with
   |none=>rw[t]at d;cases d
   | some v=>
    rw[t]at d;cases d;have D:=F j (fN ((c.at n).rank+1) v) y (by rw[bG,t];rfl) f;by_cases M:v.early=true/\v.rank<r;rotate_left
    ·have:fN r v=fN ((c.at n).rank+1) v:=by
      unfold fN;rcases G.2.2 v (aL t)with q|q|q
      ·rw[q.1];rfl
      ·rw[q.2.1]at M⊢
       have a1:decide (0<=r)=true:=by simpa using o
       have a2:decide (r<=v.rank)=true:=by simp at M⊢;omega
       have a3:decide (0<=(c.at n).rank+1)=true:=by simp;omega
       have a4:decide ((c.at n).rank+1<=v.rank)=true:=by simp;omega
       rw[a1,a2,a3,a4]
      rw[q.2.1];rfl
     rw[this];exact D
    -- it is any,justly
    have U:=E.2 j (bn.1 t).1;rw[t]at U;simp only[M.1,wX,jg]at U;rcases G.2.2 v (aL t)with q|q|q
    ·rw[q.2]at M;cases M.1
    ·have z:jP 5 (P.say 5 n (e7 c v.rank)) (P.say 5 n S):=B6 (aJ rfl) Y n (da Z _) hS fun m=>gH Y Z hl i hS hs (k-1) m _ ah ah
     have I:=fh (jm (aJ rfl) Y n hS) (jm (aJ rfl) Y n (da Z _)) z (hs n ah);have N:=VW (jm (aJ rfl) Y n (da Z _)) (hS n) I U;rw[b]at N;unfold Db at N;simp only[List.getD,f,xa]at N;have g:=ok5 ((hS n h b).2 y (aL f));refine I7 (aI ?_);rcases g with e|e
     ·exact e
     rw[e]at N;simp[VV.one]at N
    rw[q.2.1]at M;cases M.1
def Nn{x y:VV}(h:gS 5 x y)(k:gS 5 y x):x=y:=by
 rcases Yj h with e|e
 ·exact e
 rcases Yj k with f|f
 ·exact f.symm
 rw[e,f]
def A2(ha:ei 5 n a)(hb:ei 5 n b)(h:jP 5 a b)(k:jP 5 b a):a=b:=by
 match a,b,h,k with
 |none,none,_,_=>rfl
 |some a,some b,h,k=>
  have G:=(ha a rfl).1;have O:=(hb b rfl).1
  congr 1
  refine tP ah fun j U B=>?_
  have Q:a[j]?=some a[j]:=bk U;have z:b[j]?=some b[j]:=bk B;exact Nn (h j _ _ Q z) (k j _ _ z Q)
def LR(h:z8 c nv){R:Int}(h0:0<=R)(M:∀x∈c.nodes,x.rank<R/\∀v∈x.vals,v.rank<R)(n:Nat):e7 c R n=e7 c (-1) n:=by
 unfold e7 mQ;by_cases hl:n<c.nodes.length;rotate_left
 ·rw[nN hl];simp[q?]
 have G:=jT hl;have O:=M _ G;cases L:(c.at n).reached with
 |false=>simp
 |true=>
  rw[aA (by simp;omega),aA ak]
  congr 1
  refine eM fun v t=>?_
  have Y:=O.2 v t;unfold fN;have a1:decide (R<=v.rank)=false:=by simp;omega
  have a2:decide (0<=(-1:Int))=false:=aj
  rw[a1,a2];simp
def JE(Z:z8 c nv)(hd:z8 d nv)(hl:c.nodes.length=d.nodes.length)(h:∀n,e7 c (-1) n=e7 d (-1) n):c.nodes.map qW=d.nodes.map qW:=by
 refine tP (by simp[hl]) fun n J W=>?_
 simp only[br]at J W;have g:c.at n=c.nodes[n]:=by unfold Ct.at;rw[List.getD,bk J];rfl
 have z:d.at n=d.nodes[n]:=by unfold Ct.at;rw[List.getD,bk W];rfl
 have E:=h n;have G:=jT J;have O:=jT W;unfold e7 mQ at E;simp only[tO,<-g,<-z,qW];have e:=Z.bare _ G;have x:=hd.bare _ O;cases r1:(c.at n).reached with
 |false=>
  cases X:(d.at n).reached with
  |false=>rw[e.1,x.1,e.2 r1,x.2 X]
  |true=>rw[r1,X]at E;simp at E
 | true=>
  cases X:(d.at n).reached with
  |false=>rw[r1,X]at E;simp at E
  |true=>
   rw[r1,X]at E;simp only[Bool.true_eq_false,false_or]at E;rw[aA ah,aA ah]at E;rw[e.1,x.1]
   congr 1
   have L:=Z.ok _ G r1;have f:=hd.ok _ O X;refine tP (by simp[L.1,f.1]) fun j U B=>?_
   simp only[br]at U B;have R:=dv (fun l=>l[j]?) (dK E);simp only[bG,bk U,bk B,kI,dG]at R;simp only[tO,plV];have A:=eL U;have M:=eL B;have V:=Z.hi _ G _ A;have p:=hd.hi _ O _ M;generalize(c.at n).vals[j]=v at *;generalize(d.at n).vals[j]=u at *;unfold fN at R;have a2:decide (0<=(-1:Int))=false:=aj
   rw[a2]at R;simp only[BG,wT,bN,bR]at R;rcases L.2.2 v A with q|q|q<;>rcases f.2.2 u M with b|b|b
   all_goals(rw[q.1,b.1]at R;simp[VV.one,VV.fA]at R)
   all_goals(rw[V,p,q.1,b.1])
   ·rw[R]
   ·rw[q.2.2.2,b.2.2.2]
   ·rw[q.2.2.2,b.2.2]
   ·rw[q.2.2,b.2.2.2]
   rw[q.2.2,b.2.2]
def yr(Y:mA P)(Z:z8 c P.nv)(hd:z8 d P.nv)(fc:kz P c=true)(b:kz P d=true)(g:kN P c=true)(a:kN P d=true)(A:oV P c=true)(h:oV P d=true){R:Nat}(rc:∀x∈c.nodes,x.rank<R/\∀v∈x.vals,v.rank<R)(rd:∀x∈d.nodes,x.rank<R/\∀v∈x.vals,v.rank<R):c.nodes.map qW=d.nodes.map qW:=by
 have p:=(yK fc).1;have V:=(yK b).1;refine JE Z hd ah fun n=>?_
 refine A2 (da Z _ n) (da hd _ n) ?_ ?_
 ·rw[<-LR Z ah rc n]
  exact gH Y Z A p (da hd _) ((xx Y hd).1 a) R n R ah ah
 rw[<-LR hd ah rd n];exact gH Y hd h V (da Z _) ((xx Y Z).1 g) R n R ah ah
end
section
variable {c:Ct} {nv:Nat} {P:Pm}
def bD(hs:List PE)(n:Nat):PE:=hs.getD n PE.zero
def KC.nY(P:Pm)(hs:List PE)(k:Nat):Bool:=(List.range k).all fun n=>KC.e4 (KC.bL P (bD hs) n) (bD hs n)
def KB.nY(P:Pm)(hs:List PE)(k:Nat):Bool:=(List.range k).all fun n=>KB.e4 (KB.bL P (bD hs) n) (bD hs n)
def kt(r:Int)(x:Nd):PE:=Tt x.reached x.rank x.vals r
def AA(x:Nd):PE:=B9 x.reached x.vals x.vals.length
def wb{f:Nd->PE}(h0:f q?=PE.zero)(c:Ct)(n:Nat):bD (c.nodes.map f) n=f (c.at n):=by
 unfold bD Ct.at;rw[List.getD,List.getD,bG];cases c.nodes[n]? with
 |none=>exact h0.symm
 |some x=>rfl
structure OZ(c:Ct)(nv:Nat):Prop where
  env:z8 c nv
  rank:∀x∈c.nodes,0<=x.rank/\x.rank<=100000
  vals:∀x∈c.nodes,∀v∈x.vals,v.kind≠3/\0<=v.rank/\v.rank<=100000
def Yl(u:kq c=true)(hp:c.problem=5)(d:∀x∈c.nodes,gD x)(hv:c.nodes.all (zI (nv:Int))=true):OZ c nv:=by
 have J:∀x∈c.nodes,cy 5 c.bK x=true:=by
  have:=u;unfold kq at this;rw[aS,bM,hp]at this;exact this.2
 have D:∀x∈c.nodes,x.reached=false->x.vals=[]/\x.facts=[]/\x.rank=0:=by
  intro x E L;have:=J x E;unfold cy j5 at this;simp[L]at this;exact⟨this.2,this.1.1.2,this.1.1.1⟩
 have H:∀x∈c.nodes,x.reached=true->x.facts=[]/\(0<=x.rank/\x.rank<=100000)/\∀v∈x.vals,ew 5 c.bK x.rank v=true:=by
  intro x E L;have:=J x E;unfold cy eF rk at this;simp[L]at this;exact⟨this.1.1.1.1.1,this.1.1.2,this.2⟩
 have r:∀x∈c.nodes,x.reached=true->∀v∈x.vals,((v.kind=1/\v.early=false/\v.rank=0)∨(v.kind=2/\v.early=true/\x.rank<v.rank/\v.lo=0/\v.rank<=100000)∨(v.kind=2/\v.early=false/\v.lo=0/\v.rank=0))/\v.hi=0:=by
  intro x E L v hv;have G:=(H x E L).2.2 v hv;unfold ew nF at G;cases i:v.early
  ·simp[i]at G
   rcases G with G|G
   ·exact⟨aJ ⟨G.1.1.1,rfl,G.2⟩,G.1.1.2⟩
   exact⟨aI (aI ⟨G.1.1.1.1,rfl,G.1.1.1.2,G.2⟩),G.1.1.2⟩
  simp[i]at G;exact⟨aI (aJ ⟨G.1.1.2,rfl,G.1.1.1.1.2,G.1.2,G.1.1.1.2⟩),G.2⟩
 have q:∀x∈c.nodes,∀v∈x.vals,x.reached=true:=by
  intro x E v hv;cases L:x.reached
  ·rw[(D x E L).1]at hv
   simp at hv
  rfl
 refine⟨⟨hp,fun x E L=>⟨?_,(H x E L).2.1.1,fun v hv=>?_⟩,fun x E v hv=>?_,fun x E v hv=>(r x E (q x E v hv) v hv).2,fun x E=>⟨?_,fun L=>(D x E L).1⟩⟩,fun x E=>?_,fun x E v hv=>?_⟩
 ·rw[bM]at hv
  have:=hv x E;unfold zI at this;simp[L]at this;omega
 ·rcases(r x E L v hv).1 with h|h|h
  ·exact aJ ⟨h.1,h.2.1⟩
  ·exact aI (aJ ⟨h.1,h.2.1,h.2.2.1,h.2.2.2.1⟩)
  exact aI (aI ⟨h.1,h.2.1,h.2.2.1⟩)
 ·exact⟨((d x E).vals v hv).lo,((d x E).vals v hv).first⟩
 ·cases L:x.reached
  ·exact(D x E L).2.1
  exact(H x E L).1
 ·cases L:x.reached
  ·rw[(D x E L).2.2];omega
  exact(H x E L).2.1
 have o:=(H x E (q x E v hv)).2.1;rcases(r x E (q x E v hv) v hv).1 with h|h|h<;>omega
def y9(c:Ct)(n:Nat):c.at n∈c.nodes∨c.at n=q?:=by
 unfold Ct.at;rw[List.getD];cases e:c.nodes[n]? with
 |none=>exact aI rfl
 |some x=>exact aJ (aL e)
def OZ.at{c:Ct}{nv:Nat}(h:OZ c nv)(n:Nat):((c.at n).reached=true->(c.at n).vals.length=nv)/\(∀v∈(c.at n).vals,v.kind≠3/\0<=v.rank/\v.rank<=100000)/\0<=(c.at n).rank/\(c.at n).rank<=100000/\((c.at n).reached=false->(c.at n).vals=[]):=by
 rcases y9 c n with G|G
 ·exact⟨fun L=>(h.env.ok _ G L).1,h.vals _ G,(h.rank _ G).1,(h.rank _ G).2,(h.env.bare _ G).2⟩
 rw[G];exact⟨fun L=>by simp[q?]at L,fun v t=>by simp[q?]at t,by simp[q?],by simp[q?],fun _=>rfl⟩
def OZ.last(h:OZ c nv)(hn:nv<=8)(n:Nat):PR nv (kt 100001 (c.at n)) (e7 c (-1) n):=
 MS hn (h.at n).1 (fun v t=>⟨((h.at n).2.1 v t).1,((h.at n).2.1 v t).2.2⟩) (h.at n).2.2.2.1
def OZ.rk(h:OZ c nv)(hn:nv<=8){r:Int}(hr:0<=r)(n:Nat):PR nv (kt r (c.at n)) (e7 c r n):=
 ZP hn (h.at n).1 (fun v t=>((h.at n).2.1 v t).1) hr
def Mp(b:cE P)(Z:mA P)(g:j9 P)(hx:P.nx.length=P.nd.length)(h:OZ c P.nv):KC.nY P (c.nodes.map (kt 100001)) P.nd.length=kN P c:=by
 unfold KC.nY kN
 congr 1
 funext n
 have e:bD (c.nodes.map (kt 100001))=fun m=>kt 100001 (c.at m):=funext fun m=>wb rfl c m
 rw[e,h.env.p];have G:=KC.fO b Z g hx (held:=fun m=>kt 100001 (c.at m)) (at_:=e7 c (-1)) (fun m=>⟨h.last b.nv m,da h.env _ _⟩) n;exact Cx b.nv G.1 (h.last b.nv n) (fun i=>(KC.cF G.1 G.2 i).1) (fun i=>(KC.cF (h.last b.nv n) (da h.env _ _) i).1)
def ZQ{e:PE}{v:EV}(h:PR nv e v)(j:Nat):(e.at j).any=Db v j:=by
 cases v with
 |none=>
  have o:e=PE.zero:=h;rw[o,KC.qPE.rW];rfl
 |some vs=>rw[h.2.2 j];rfl
def Hy(P:Pm)(c:Ct)(n:Nat):Bool:=KC.e4 (kt ((c.at n).rank+1) (c.at n)) (KC.bL P (fun m=>kt (c.at n).rank (c.at m)) n)&&(List.range (c.at n).vals.length).all (YS (c.at n).vals fun r=>KC.bL P (fun m=>kt r (c.at m)) n)
def Qf(b:cE P)(Z:mA P)(g:j9 P)(hx:P.nx.length=P.nd.length)(h:OZ c P.nv):(List.range P.nd.length).all (Hy P c)=oV P c:=by
 unfold oV
 congr 1
 funext n
 obtain⟨a1,a2,a3,a4,a5⟩:=h.at n;have z:∀r:Int,0<=r->PR P.nv (KC.bL P (fun m=>kt r (c.at m)) n) (P.say 5 n (e7 c r))/\ei 5 P.nv (P.say 5 n (e7 c r)):=fun r L=>KC.fO b Z g hx (held:=fun m=>kt r (c.at m)) (at_:=e7 c r) (fun m=>⟨h.rk b.nv L m,da h.env _ _⟩) n
 unfold Hy Nf;rw[h.env.p];cases L:(c.at n).reached
 ·have Q:kt ((c.at n).rank+1) (c.at n)=PE.zero:=by unfold kt Tt;rw[L];rfl
  rw[Q,a5 L];rfl
 have a:=h.rk b.nv (r:=(c.at n).rank+1) ah n;have G:=z (c.at n).rank a3;have I:=Cx b.nv a G.1 (fun i=>(KC.cF a (da h.env _ _) i).1) (fun i=>(KC.cF G.1 G.2 i).1);rw[I];show(_&&_)=(false||(_&&_));rw[jg]
 congr 1
 rw[cR,bM,bM];have N:∀j,YS (c.at n).vals (fun r=>KC.bL P (fun m=>kt r (c.at m)) n) j=(match (c.at n).vals[j]? with|some v=>!v.early||Db (P.say 5 n (e7 c v.rank)) j|none=>true):=by
  intro j;unfold YS;cases t:(c.at n).vals[j]? with
  |none=>rfl
  |some v=>
   show(!v.early||_)=(!v.early||_);rw[ZQ (z v.rank (a2 v (aL t)).2.1).1]
 constructor
 ·intro k j U
  exact(N j).symm.trans (k j U)
 intro k j U;exact(N j).trans (k j U)
structure Y6(c:Ct)(nv:Nat):Prop where
  p:c.problem=6
  len:∀x∈c.nodes,x.reached=true->x.vals.length=nv
  bare:∀x∈c.nodes,x.reached=false->x.vals=[]
  vals:∀x∈c.nodes,∀v∈x.vals,v.kind=3/\v.lo<=v.hi/\eX v.lo/\eX v.hi
def Qg(u:kq c=true)(hp:c.problem=6)(d:∀x∈c.nodes,gD x)(hv:c.nodes.all (zI (nv:Int))=true):Y6 c nv:=by
 have J:∀x∈c.nodes,cy 6 c.bK x=true:=by
  have:=u;unfold kq at this;rw[aS,bM,hp]at this;exact this.2
 have D:∀x∈c.nodes,x.reached=false->x.vals=[]:=by
  intro x E L;have:=J x E;unfold cy j5 at this;simp[L]at this;exact this.2
 refine⟨hp,fun x E L=>?_,D,fun x E v hv=>?_⟩
 ·rw[bM]at hv
  have:=hv x E;unfold zI at this;simp[L]at this;omega
 have L:x.reached=true:=by
  cases L:x.reached
  ·rw[D x E L]at hv
   simp at hv
  rfl
 have:=J x E;unfold cy eF at this;simp[L]at this;have G:=this.2 v hv;unfold ew at G;simp at G;exact⟨G.1.1.1.1,G.2,((d x E).vals v hv).lo,((d x E).vals v hv).hi⟩
def Y6.at{c:Ct}{nv:Nat}(h:Y6 c nv)(n:Nat):((c.at n).reached=true->(c.at n).vals.length=nv)/\((c.at n).reached=false->(c.at n).vals=[])/\∀v∈(c.at n).vals,v.kind=3/\v.lo<=v.hi/\eX v.lo/\eX v.hi:=by
 rcases y9 c n with G|G
 ·exact⟨h.len _ G,h.bare _ G,h.vals _ G⟩
 rw[G];exact⟨fun L=>by simp[q?]at L,fun _=>rfl,fun v t=>by simp[q?]at t⟩
def Y6.pr(h:Y6 c nv)(hn:nv<=8)(n:Nat):PR nv (AA (c.at n)) (e7 c (-1) n):=
 ZO hn (h.at n).1 (h.at n).2.1 (fun v t=>((h.at n).2.2 v t).1)
def Y6.ok(h:Y6 c nv)(n:Nat):ei 6 nv (e7 c (-1) n):=by
 unfold e7 mQ;split
 ·exact fJ _ _
 rename_i J
 intro vs e;cases e;have a:(c.at n).reached=true:=by cases T:(c.at n).reached;(· exact absurd (aJ T) J);rfl
 refine⟨by simp[(h.at n).1 a],fun v t=>?_⟩;obtain⟨u,E,rfl⟩:=bP.1 t;obtain⟨L,R,M,U⟩:=(h.at n).2.2 u E;unfold fN;rw[aD L];exact⟨⟨M,U⟩,by rw[aA aj];exact⟨rfl,R⟩⟩
def Mq(b:cE P)(Z:mA P)(hx:P.nx.length=P.nd.length)(h:Y6 c P.nv):KB.nY P (c.nodes.map AA) P.nd.length=kN P c:=by
 unfold KB.nY kN
 congr 1
 funext n
 have e:bD (c.nodes.map AA)=fun m=>AA (c.at m):=funext fun m=>wb rfl c m
 rw[e,h.p];have G:=KB.fO b Z hx (held:=fun m=>AA (c.at m)) (at_:=e7 c (-1)) (fun m=>⟨h.pr b.nv m,h.ok m⟩) n;exact Cy b.nv G.1 (h.pr b.nv n) (fun i=>(KB.cF G.1 G.2 i).1) (fun i=>(KB.cF (h.pr b.nv n) (h.ok n) i).1)
def C7(u:kq c=true)(hp:5<=c.problem)(hl:c.nodes.length=P.nd.length):kz P c=c.nodes.all (zI (P.nv:Int)):=by
 have J:∀x∈c.nodes,x.facts=[]:=by
  intro x E;have G:=u;unfold kq at G;rw[aS,bM]at G;have O:=G.2 x E;unfold cy eF j5 at O;rw[aA ah]at O;cases L:x.reached
  ·simp[L]at O
   exact O.1.1.2
  simp[L]at O;exact O.1.1.1.1.1
 unfold kz;rw[eT hl,fj,cR,bM,bM];constructor
 ·intro h x E
  have:=h x E;rw[aS]at this;have O:=this.2;unfold zI;simp at O⊢;rcases O with O|O
  ·exact aJ O
  exact aI ah
 intro h x E;have:=h x E;rw[J x E];unfold zI at this;simp at this⊢;rcases this with O|O
 ·exact aJ O
 exact aI ah
end
section
open Go.RowKit Go.Proofs Go.Maps Tryz
def acs{p:Prop}(h:p:=by
 obtain⟨b,o,rfl,f⟩:=h m e he;have O:(m:Int)<N:=ah
 clear h he;go_enter acW,acG
 go_upto_region 1 with fail
 have H:Hd (d' (w.alloc (.cells dE aV)) w.heap.size dE aV/\Bl w (w.alloc (.cells dE aV))/\d' (w.alloc (.cells dE aV)) hb #[.slice (some (Ad b o)) N c] Il/\(w.alloc (.cells dE aV)).rangeAt b (o+m*17) (aH e)):=⟨bf _ _,aC _ _,aE (aC _ _) hh,fe f (aC _ _)⟩;clear hh f;generalize w.alloc (.cells dE aV)=V at H⊢;obtain⟨x,z⟩:=ae H.c;have L:=H.C;have a:=bO (n:=17) H.a rfl
 go_wp2_with (first|(refine wpList_load_mid rfl aV (.tmp 6) rfl b (o+m*17) rfl (aH e) _ L fH rfl au ?_)|(refine wpList_store_mid rfl aV (.tmp 3) (.tmp 7) rfl w.heap.size 0 (aH e).toArray rfl rfl a au (a! _) ?_))
 have A:=bX (cs:=pK) H.a (vs:=aH e) rfl;have E:=run_loadVar_mid (P:=Tryz.prog) (V.setCells w.heap.size 0 (aH e)) w.heap.size 0 aV (aH e) _ (aT A) fH rfl au
 refine aG (v:=.agg (aH e).toArray) (by simp[results,results235,results239,E,Act.put,asAddr]) rfl ⟨rfl,aY _ (aF _) _ _ _ H.b⟩):p:=h
open KC in
def KC.AU(m hb N c:Nat)(Z:Option Addr)(es:List PE)(e:PE)(w:World)(hh:w.heap[hb]?=some (.cells #[.slice Z N c] 222 (0,0)))(h:KC.gn w Z es)(he:es[m]?=some e)(hm:m<N):
 Cl 235 (xg m hb) w (Rb w (.agg (KC.aH e).toArray)):=by exact acs
open KB in
def KB.AU(m hb N c:Nat)(Z:Option Addr)(es:List PE)(e:PE)(w:World)(hh:w.heap[hb]?=some (.cells #[.slice Z N c] 244 (0,0)))(h:KB.gn w Z es)(he:es[m]?=some e)(hm:m<N):
 Cl 239 (xg m hb) w (Rb w (.agg (KB.aH e).toArray)):=by exact acs
end
def si(rs:List (List Int)):List Value:=rs.flatMap (·.map Iv)
def og(r:List Int)(fs:List Nat)(v:Int):List Int:=fs.foldl (fun r f=>r.set f v) r
def Mt(r:List Int)(fs:List Nat)(f:Nat)(v:Int):og r (fs++[f]) v=(og r fs v).set f v:=by simp[og]
def r!(v:Int):∀(fs:List Nat) (r:List Int),(og r fs v).length=r.length
 |[],_=>rfl
 |f :: fs,r=>by show(og (r.set f v) fs v).length=_;rw[r! v fs,ke]
def xD(v:Int)(g:Nat):∀(fs:List Nat) (r:List Int),g<r.length->(og r fs v).getD g 0=if g∈fs then v else r.getD g 0
 |[],_,_=>by simp[og]
 | f :: fs,r,h=>by
  show(og (r.set f v) fs v).getD g 0=_;rw[xD v g fs _ (by simpa using h)];by_cases G:g∈fs
  ·simp[G]
  by_cases O:g=f
  ·subst O
   simp[G,cx,h]
  have:f≠g:=fun e=>O e.symm
  simp[G,O,cx,eQ,this]
def B8:∀(rs:List (List Int)) (k f:Nat) (r:List Int),(∀r∈rs,r.length=68)->rs[k]?=some r->f<68->(si rs)[k*68+f]?=some (Iv (r.getD f 0))
 |[],k,f,r,_,h,_=>by simp at h
 |a :: q,0,f,r,C,h,hf=>by
  simp at h;subst h;have o:=C a ak;simp only[si,bY,gU,ct];rw[mE (by simp;omega),bG,cx,bk ah];rfl
 |a :: q,k+1,f,r,C,h,hf=>by
  have o:=C a ak;have B:=B8 q k f r (fun x E=>C x (by simp[E])) (by simpa using h) hf;simp only[si,bY]at B⊢;rw[fC (by simp;omega),<-B]
  congr 1
  simp;omega
def En:∀(rs:List (List Int)) (k f:Nat) (r:List Int) (v:Int),(∀r∈rs,r.length=68)->rs[k]?=some r->f<68->(si rs).set (k*68+f) (Iv v)=si (rs.set k (r.set f v))
 |[],k,f,r,v,_,h,_=>by simp at h
 |a :: q,0,f,r,v,C,h,hf=>by
  simp at h;subst h;have o:=C a ak;simp only[si,dm,bY,gU,ct];rw[DL _ _ (by simp;omega),tT]
 |a :: q,k+1,f,r,v,C,h,hf=>by
  have o:=C a ak;have B:=En q k f r v (fun x E=>C x (by simp[E])) (by simpa using h) hf;simp only[si,cU,bY]at B⊢;rw[ou _ _ (by simp;omega),<-B]
  congr 2
  simp;omega
def II{β:Type}{S:Nat->Prop}{B:Nat}{w:World}(f:w.heap.size<=B):OwnFrom B (fun(_:β) W=>Kx S w W):=fun _ W i row z m L=>
 ⟨m.os.trans z.os,m.tape.trans z.tape,m.output.trans z.output,bw z.size m.size,fun k X J=>(m.block k (fD X z.size) fun e=>by have:=(L k e.symm).1;omega).trans (z.keep k X J)⟩
section
variable {P:Pm} {R:RS} {f:Nat} {c:Ct} {x:Nd}
structure zb(P:Pm)(p:Int)(R:RS):Prop where
  ins:DB R P.nd.length
  few:P.facts p<=68
  st:∀(n:Nat) (r:BS×List (Nat×Ef)),R[n]?=some r->∀f,f<128->bt r.1 f=(decide (f<P.facts p)&&P.st p n f)
  Ya:∀(n:Nat) (r:BS×List (Nat×Ef)),R[n]?=some r->r.2.map Prod.fst=P.Ya p n
  ad:∀(n:Nat) (r:BS×List (Nat×Ef)),R[n]?=some r->∀e∈r.2,∀f,f<128->bt e.2.add f=(decide (f<P.facts p)&&P.ad p e.1 f)
  ps:∀(n:Nat) (r:BS×List (Nat×Ef)),R[n]?=some r->∀e∈r.2,∀f,f<P.facts p->bt e.2.drop f=!P.ps p n e.1 f
def YW(e:Ef)(s:BS)(f:Nat)(he:DF e)(hf:f<128):bt (Gt e s) f=((bt s f&&!bt e.drop f)||bt e.add f):=by
 unfold Gt;rw[gC,kj _ _ _ he.drop hf]
def any_congr{α:Type}{l:List α}{f g:α->Bool}(h:∀x∈l,f x=g x):l.any f=l.any g:=by
 induction l with
 |nil=>rfl
 |cons a l B=>rw[wS,wS,h a ak,B fun x E=>h x (by simp[E])]
def vP{p:Int}(h:zb P p R){held:Nat->BS}(T:∀m f,P.facts p<=f->f<128->bt (held m) f=false){n:Nat}(hn:n<P.nd.length)(hf:f<128):bt (jU R held n) f=(decide (f<P.facts p)&&P.rule p f n fun m=>bt (held m) f):=by
 obtain⟨r,L⟩:=La (l:=R) (i:=n) (by rw[h.ins.len];exact hn);have H:=(h.ins.each r (aL L)).2.2;have Q:jU R held n=XW r.1 r.2 held:=by unfold jU;rw[L]
 rw[Q];unfold XW;rw[ad5,wS,List.any_map,h.st n r L f hf];by_cases hF:f<P.facts p
 ·simp only[hF,BF,fj]
  unfold Pm.rule
  congr 1
  rw[<-h.Ya n r L,List.any_map];refine any_congr fun e C=>?_
  have G:=h.ad n r L e C f hf;have O:=h.ps n r L e C f hF;rw[show decide (f<P.facts p)=true by simpa using hF,fj]at G;simp only[Function.comp];rw[YW _ _ _ (H e C).1 hf,G,O];simp only[wR];cases P.ad p e.1 f<;>cases P.ps p n e.1 f<;>cases bt (held e.1) f<;>rfl
 simp only[hF,decide_false,wT,jg];rw[List.any_eq_false];intro e C;have G:=h.ad n r L e C f hf;rw[show decide (f<P.facts p)=false by simpa using hF,wT]at G;simp only[Function.comp];rw[YW _ _ _ (H e C).1 hf,G,T e.1 f ah hf];simp
structure Zg(P:Pm)(c:Ct):Prop where
  few:P.facts c.problem<=68
  len:c.nodes.length=P.nd.length
  facts:∀x∈c.nodes,∀f∈x.facts,0<=f/\f<P.facts c.problem
def RZ(h:Zg P c)(hx:x∈c.nodes):∀g∈LK x,g<P.facts c.problem:=by
 intro g m;obtain⟨f,V,rfl⟩:=bP.1 m;have:=h.facts x hx f V;omega
theorem B3(h:Zg P c)(hx:x∈c.nodes)(hf:f<128):bt (qM x) f=x.kZ f:=by
 unfold qM Nd.kZ;rw[k? _ _ hf fun g m=>by have:=RZ h hx g m;have:=h.few;omega]
 congr 1
 rw[eq_iff_iff];constructor
 ·intro C
  obtain⟨g,m,e⟩:=bP.1 C;have:=h.facts x hx g m;rw[show(f:Int)=g by omega];exact m
 intro C;exact bP.2 ⟨f,C,by simp⟩
def B1(h:Zg P c):∀s∈c.nodes.map qM,bF s:=by
 intro s z;obtain⟨x,E,rfl⟩:=bP.1 z;exact gQ _ fun g m=>by have:=RZ h E g m;have:=h.few;omega
def sS(h:Zg P c)(m:Nat)(hf:f<128):bt (cn (c.nodes.map qM) m) f=qt c f (-1) m:=by
 unfold qt;simp only[Int.reduceNeg,Int.reduceLT,BF,Bool.true_or,w7];by_cases C:m<c.nodes.length
 ·have e:cn (c.nodes.map qM) m=qM (c.at m):=by
   unfold cn Ct.at;rw[List.getD,List.getD,bG,bk C];rfl
  rw[e,B3 h (jT C) hf]
 have e:cn (c.nodes.map qM) m=(0,0):=by
  unfold cn;rw[List.getD,bU (by simp;omega)];rfl
 rw[e,nN C,iW];simp[Nd.kZ,q?]
def Kq(h:Zg P c){m:Nat}{r:Int}(hf:P.facts c.problem<=f):qt c f r m=false:=by
 unfold qt;have:(c.at m).kZ f=false:=by
  unfold Nd.kZ;rw[gK];intro C;by_cases hl:m<c.nodes.length
  ·have:=h.facts _ (jT hl) _ C;omega
  rw[nN hl]at C;cases C
 rw[this];rfl
def P1(h:Zg P c)(M:zb P c.problem R):Eh R (c.nodes.map qM) P.nd.length=xy P c:=by
 have t:∀m f,P.facts c.problem<=f->f<128->bt (cn (c.nodes.map qM) m) f=false:=fun m f G O=>by rw[sS h m O];exact Kq h G
 rw[cR,Eg];unfold Eh Uf;simp only[bM,bZ];constructor
 ·intro z f n V J L
  have:=(mP (eW (B1 h) n)).1 (z n J) f (by have:=h.few;omega);rw[vP M t J (by have:=h.few;omega),sS h n (by have:=h.few;omega)]at this;refine this ?_;simp only[V,BF,fj];rw[<-L]
  congr 1
  funext m
  exact sS h m (by have:=h.few;omega)
 intro z n J;refine(mP (eW (B1 h) n)).2 fun f V D=>?_
 rw[vP M t J V,aS]at D;rw[sS h n V];refine z f n (by simpa using D.1) J ?_;rw[<-D.2]
 congr 1
 funext m
 exact(sS h m V).symm
def Qc:∀(ps:List (Int×Int)) (l:List Int) (f:Nat),l.length=68->f<68->(∀p∈ps,0<=p.1)->(∀p∈ps,p.1≠f)->(ps.foldl (fun l p=>OD l p.1 p.2) l)[f]?=l[f]?
 |[],l,f,_,_,_,_=>rfl
 |p :: ps,l,f,hl,V,o,hn=>by
  rw[gx,Qc ps _ f (by simp[OD,hl]) V (fun q A=>o q (by simp[A])) (fun q A=>hn q (by simp[A]))];unfold OD;rw[eQ,aA];have:=hn p ak;have:=o p ak;omega
def uU:∀(l:List Int) (U:Int),cw U l=true->l.Nodup
 |[],_,_=>J5
 |a :: l,U,h=>by
  simp only[cw,aS,bm]at h;refine tN.2 ⟨fun C=>?_,uU l _ h.2⟩;have:=kP l (a+1) h.2 a C;omega
def KH:∀(fs rs:List Int) (l:List Int) (f:Nat),l.length=68->f<68->fs.Nodup->(∀g∈fs,0<=g/\g<68)->rs.length=fs.length->(f:Int)∈fs->((fs.zip rs).foldl (fun l p=>OD l p.1 p.2) l)[f]?=rs[fs.idxOf (f:Int)]?
 |[],_,_,_,_,_,_,_,_,h=>by cases h
 |a :: fs,[],_,_,_,_,_,_,hl,_=>by simp at hl
 | a :: fs,r :: rs,l,f,hl,V,v,D,d,hm=>by
  rw[List.zip_cons_cons,gx];have b:=tN.1 v;by_cases e:a=(f:Int)
  ·rw[Qc _ _ f (by simp[OD,hl]) V (fun p K=>(D p.1 (by simp[(List.of_mem_zip K).1])).1) (fun p K c=>b.1 (by rw[e,<-c];exact(List.of_mem_zip K).1))]
   subst e;unfold OD;rw[eQ,aD ak,aD (by simp;omega)];simp
  have S:(f:Int)∈fs:=by rcases cQ.1 hm with h|h;(· exact absurd h.symm e);exact h
  rw[KH fs rs _ f (by simp[OD,hl]) V b.2 (fun g m=>D g (by simp[m])) (by simpa using d) S];have E:(a :: fs).idxOf (f:Int)=fs.idxOf (f:Int)+1:=by rw[List.idxOf_cons,show(a==(f:Int))=false by simpa using e];rfl
  rw[E];rfl
structure CtG(P:Pm)(c:Ct):Prop where
  s:Zg P c
  g:c.bK=1
  c:zY c
def KG(h:CtG P c)(hx:x∈c.nodes)(hf:x.kZ f=true):(nX x).2.getD f 0=x.qP f:=by
 have C:(f:Int)∈x.facts:=by simpa[Nd.kZ]using hf
 have D:=h.s.facts x hx;have k:=h.s.few;have L:=h.c.aO h.g x hx;have Z:f<68:=by have:=D _ C;omega
 unfold nX Hu Nd.qP;simp only;rw[cP (by simp[L.1]),List.getD,List.getD,KH x.facts x.aO _ f ak Z (uU _ _ (h.c.cw x hx)) (fun g m=>by have:=D g m;omega) L.1 C]
def aah(r:RK)(rank:Int):∀(fs:List Nat) (f:Nat),(∀g∈fs,g<128)->f<128->bt (qj r rank fs) f=(decide (f∈fs)&&decide (r.2.getD f 0<rank)):=by
 intro fs;refine As (P:=fun fs=>∀f:Nat,(∀g∈fs,g<128)->f<128->bt (qj r rank fs) f=(decide (f∈fs)&&decide (r.2.getD f 0<rank))) ?_ ?_ fs
 ·intro f _ _;simp[qj,iW]
 intro l g B f h V;have G:=B f (fun x E=>h x (by simp[E])) V;rw[uv];split
 ·rename_i L
  rw[gC,G,k? [g] f V (fun x E=>by rw[ja.1 E];exact h g ak)];by_cases e:f=g
  ·subst e
   rw[show decide (r.2.getD f 0<rank)=true from eT L];simp
  simp[e]
 rename_i L
 rw[G];by_cases e:f=g
 ·subst e
  rw[show decide (r.2.getD f 0<rank)=false from eS L];simp
 simp[e]
def UZ(h:CtG P c)(hx:x∈c.nodes)(rank:Int)(hf:f<128):bt (uu (nX x) rank) f=(x.kZ f&&decide (x.qP f<rank)):=by
 have d:bF (nX x).1:=B1 h.s _ (BE hx);unfold uu;rw[aah _ _ _ f (fun g m=>((cA _ d g).1 m).1) hf];have e:(f∈c8 (nX x).1)↔x.kZ f=true:=by
  rw[cA _ d];have:bt (nX x).1 f=x.kZ f:=B3 h.s hx hf;rw[this];exact⟨fun h=>h.2,fun h=>⟨hf,h⟩⟩
 cases T:x.kZ f with
 |false=>
  have:decide (f∈c8 (nX x).1)=false:=by rw[gK,e,T];simp
  rw[this];rfl
 |true=>
  have:decide (f∈c8 (nX x).1)=true:=by rw[tM,e,T]
  rw[this,KG h hx T]
end
section
open Go.RowKit Go.Shelf Go.Proofs Go.Maps Tryz
attribute [local go_sem] Oper.semAt_some
def Ty(ns:List Nd)(rank:Int)(m:Nat):BS:=uu (nX (ns.getD m q?)) rank
def JM{w w':World}{k o:Nat}(h:w'.heap[k]?=w.heap[k]?):w'.cell? (Ad k o)=w.cell? (Ad k o):=by simp[World.cell?,h]
def NF(q q2 m g N:Nat)(B:List Nd)(rank:Int)(w:World)(hq:w.heap[q]?=some (.cells (kg g N) 351 (0,0)))(Y:w.heap[q2]?=some (fY rank))(hb:w.heap[g]?=some (.cells (gy (B.map nX)).toArray 354 (0,0)))(hl:B.length=N)(hN:N<=60)(hm:m<N)(tF:∀x∈B,bF (qM x)/\∀f∈c8 (qM x),f<68)(J:kB w):
  Cl 243 #[Iv m,.pointer (some (Ad q 0)),.pointer (some (Ad q2 0))] w (Rb w (b! (Ty B rank m))):=by
 obtain⟨x,E⟩:=La (l:=B) (i:=m) ah;have D:=tF x (aL E);have e:Ty B rank m=uu (nX x) rank:=by unfold Ty;rw[List.getD,E];rfl
 rw[e];have o?:∀r∈B.map nX,r.2.length=68:=fun r hr=>by obtain⟨y,_,rfl⟩:=bP.1 hr;exact iH _ _
 have u:(B.map nX)[m]?=some (nX x):=by rw[bG,E];rfl
 have O:(m:Int)<N:=ah
 have C:∀W,Bl w W->W.rangeAt g (m*70) (vU (nX x)):=fun W U j v t=>by
  rw[(sh o? (aE U hb) u (j:=j) (by have:=(bn.1 t).1;rwa[iI (iH _ _)]at this)).1];exact t
 have HC:Hd (∀W,kB W->Cl 244 #[.agg (vU (nX x)).toArray,Iv rank] W (Rb W (b! (uu (nX x) rank)))):=fun W U=>Qa (nX x) rank W D.1 (iH _ _) D.2 U
 obtain⟨z,hz⟩:=Ea (uu (nX x) rank);rw[<-hz]at HC⊢;clear hz e u o? tF D E;obtain⟨F,x2⟩:=ae hq;obtain⟨y1,y2⟩:=ae Y;have l1:=blt hq;have l2:=blt Y;have lg:=blt hb;have n1:q≠w.heap.size:=ah
 have n2:q2≠w.heap.size:=ah
 have Z:=hid J;obtain⟨cs,b⟩:=Ea (vU (nX x));have G:cs.length=70:=by rw[b];exact iI (iH _ _)
 have c:∀W,Bl w W->W.rangeAt g (m*70) cs:=by rw[b];exact C
 rw[<-b]at HC;clear C b hq Y J hb;simp only[b!]at HC;go_enter func243,ntmps243
 go_wp2_with fail
 generalize hV:w.alloc eE=V;have H:Hd (Bl w V/\V.heap[w.heap.size]?=some jc):=by subst hV;exact⟨aC _ _,bf _ _⟩
 clear hV;have s1:=ax (F 0) H.a;have s2:=ax (y1 0) H.a;have s3:=c V H.a;have n:=hid (Aa s1 (Aa s2 s3));clear F x2 y1 y2;refine wp_region_held_drew (S:=fun I=>I.cell? (Ad q 0)=some (b? g N)/\I.cell? (Ad q2 0)=some (Iv rank)/\I.rangeAt g (m*70) cs) au ⟨s1,s2,s3⟩ (fun l=>?_);clear s1 s2 s3;refine wpAnyH_take (i:=0) (v:=.slice (some (Ad g 0)) N N) rfl au au au (fun _ _ _ h=>h) (aJ ⟨by rfl,fun w s=>by obtain⟨k1,k2,M⟩:=s;clear M n HC Z H c;go_simp⟩) (i') ?_;simp only[Act.put,cS,dm,cU];refine wpAnyH_take (i:=1) (v:=Iv m) rfl au au au (fun _ _ _ h=>h) (aJ ⟨by rfl,fun w s=>by obtain⟨k1,k2,M⟩:=s;clear M n HC Z H c;go_simp⟩) (i') ?_;simp only[Act.put,cS,dm,cU];refine wpAnyH_take (i:=2) (v:=.pointer (some (Ad g (m*70)))) rfl au au au (fun _ _ _ h=>h) (aJ ⟨by rfl,fun w s=>by obtain⟨k1,k2,M⟩:=s;clear M n HC Z H c;go_simp⟩) (i') ?_;simp only[Act.put,cS,dm,cU];refine wpAnyH_take (i:=3) (v:=.agg cs.toArray) rfl au au au (fun _ _ _ h=>h) (yieldsIf_load_mid (by rfl) _ _ rfl _ _ rfl _ _ (fun w s=>s.2.2) underlying354 rfl (by rw[G];kernel_rfl)) (i') ?_;simp only[Act.put,cS,dm,cU];refine wpAnyH_take (i:=4) (v:=Iv rank) rfl au au au (fun _ _ _ h=>h) (aJ ⟨by rfl,fun w s=>by obtain⟨k1,k2,M⟩:=s;clear M n HC Z H c;go_simp⟩) (i') ?_;simp only[Act.put,cS,dm,cU];refine r1 5 (h:=fun K A=>?_)
 go_simp
 refine(HC.o _ (Z.o.below (aq H.a (aM _ _).drew))).mono ?_;rintro e T ⟨rfl,OQ⟩;have L:Bl V T:=aq (aM _ _).drew OQ;have R:=hid L;clear OQ L;refine A.out _ _ ⟨ax n.a R.o,ax n.b R.o,fun j v t=>ax (n.B j v t) R.o⟩ (fun l=>?_);clear A K;refine pt ?_;obtain⟨z1,z2⟩:=ae (aE R.o H.A);refine r1 6 (h:=fun K A=>?_)
 go_simp
 have cs1:∀(k o:Nat) (v:Value),k<w.heap.size->T.cell? (Ad k o)=some v->((T.setCell (Ad w.heap.size 0) (Uv z.1)).setCell (Ad w.heap.size 1) (Uv z.2)).cell? (Ad k o)=some v:=fun k o v X h=>(JM ((aZ _ _ _ _ (by show k≠w.heap.size;omega)).trans (aZ _ _ _ _ (by show k≠w.heap.size;omega)))).trans h
 refine A.out _ _ ⟨cs1 _ _ _ l1 l.1,cs1 _ _ _ l2 l.2.1,fun j v t=>cs1 _ _ _ lg (l.2.2 j v t)⟩ (fun _=>?_);refine wpAnyH_done au ?_ _;clear cs1 A l
 go_wp2_with fail
 have nI:=aE R.o H.A;have r0:(T.setCell (Ad w.heap.size 0) (Uv z.1)).cell? (Ad w.heap.size 0)=some (Uv z.1):=by rw[(ae (aw nI _)).1];rfl
 have r1:((T.setCell (Ad w.heap.size 0) (Uv z.1)).setCell (Ad w.heap.size 1) (Uv z.2)).cell? (Ad w.heap.size 1)=some (Uv z.2):=by rw[(ae (aw (aw nI _) _)).1];rfl
 refine aG (v:=b! z) (by simp[results,results243,go_sem,b!,r0,r1]) rfl ⟨rfl,?_⟩;exact((aq H.a R.o).setCell (aF _) _).setCell (aF _) _
end
open Go.RowKit Go.Proofs Go.Maps Tryz
def yR(ks:List Key)(n:SN):BS:=if JC n then cH [ks.idxOf (i6 n)] else(0,0)
def qB(bj:ByteArray)(wa:Option Addr)(wl wc:Nat)(ea:Option Addr)(el ec:Nat)(n:SN)(a:Option Addr)(c:Nat)(ks:List Key)(w:World)(h:Gk w a ks)(r:∀x∈ks,nh x)(hl:ks.length<=60)(hk:JC n=true->nh (i6 n)/\i6 n∈ks):
  Cl 287 #[.agg (aK bj (.slice wa wl wc) n (.slice ea el ec)),.slice a ks.length c] w (Rb w (b! (yR ks n))):=by
 have j:Hd (∀W,Cl 330 #[.agg (aK bj (.slice wa wl wc) n (.slice ea el ec))] W (Rb W (.tuple #[.agg (tD (i6 n)),.bool (JC n)]))):=fun W=>F0 bj _ _ n W
 have G:Hd (JC n=true->∀W,Bl w W->Cl 332 #[.slice a ks.length c,.agg (tD (i6 n))] W (Rb W (Iv ((ks.idxOf (i6 n):Nat):Int)))):=by
  intro H W N;have:=Bg a c ks (i6 n) W (h.below N) (hk H).1 r ah;unfold zH at this;rw[aD (hk H).2]at this;exact this
 have p:Hd (JC n=true->ks.idxOf (i6 n)<128):=fun H=>by have:=w6 (hk H).2;omega
 obtain⟨m,C⟩:=Ea (ks.idxOf (i6 n));obtain⟨ok,u⟩:=Ea (JC n);have L:Hd (yR ks n=if ok then cH [m] else(0,0)):=by show _=_;rw[u,C];rfl
 rw[<-C,<-u]at G p;rw[<-u]at j;clear C u h r hk;obtain⟨kind,var,op,test,⟨g,av,ac⟩,⟨D,bv,bc⟩,goal⟩:=n;simp only[aK,tD,i6,Ns]at j G⊢;generalize yR ks _=z at L⊢;go_enter func287,ntmps287
 go_upto_region 1 with(fail)
 have R:Hd (Bl w ((w.alloc (.cells #[.string bj,.slice wa wl wc,Iv kind,Iv var,Iv op,Iv test,.bool g,Iv av,Iv ac,.bool D,Iv bv,Iv bc,.slice ea el ec,.string goal] 152)).alloc eE)/\((w.alloc (.cells #[.string bj,.slice wa wl wc,Iv kind,Iv var,Iv op,Iv test,.bool g,Iv av,Iv ac,.bool D,Iv bv,Iv bc,.slice ea el ec,.string goal] 152)).alloc eE).heap[w.heap.size]?=some (.cells #[.string bj,.slice wa wl wc,Iv kind,Iv var,Iv op,Iv test,.bool g,Iv av,Iv ac,.bool D,Iv bv,Iv bc,.slice ea el ec,.string goal] 152 (0,0))/\((w.alloc (.cells #[.string bj,.slice wa wl wc,Iv kind,Iv var,Iv op,Iv test,.bool g,Iv av,Iv ac,.bool D,Iv bv,Iv bc,.slice ea el ec,.string goal] 152)).alloc eE).heap[w.heap.size+1]?=some jc):=⟨aX _ _ _,(aN _ _ _).1,(aN _ _ _).2⟩;generalize(w.alloc (.cells #[.string bj,.slice wa wl wc,Iv kind,Iv var,Iv op,Iv test,.bool g,Iv av,Iv ac,.bool D,Iv bv,Iv bc,.slice ea el ec,.string goal] 152)).alloc eE=O at R⊢;obtain⟨F,y⟩:=ae R.b
 go_upto_region 2 with(go_at_call 330;refine(j.o _).mono ?_;rintro e T ⟨rfl,A⟩;have q:=hid (Aa (aq R.a A) (aE A R.B));clear A F y)
 have k:Hd (Bl w (T.alloc (.cells #[.bool g,Iv av,Iv ac,Iv op,.bool D,Iv bv,Iv bc] 430))/\(T.alloc (.cells #[.bool g,Iv av,Iv ac,Iv op,.bool D,Iv bv,Iv bc] 430)).heap[T.heap.size]?=some (.cells #[.bool g,Iv av,Iv ac,Iv op,.bool D,Iv bv,Iv bc] 430 (0,0))/\(T.alloc (.cells #[.bool g,Iv av,Iv ac,Iv op,.bool D,Iv bv,Iv bc] 430)).heap[w.heap.size+1]?=some jc):=⟨aq q.a (aC _ _),bf _ _,aE (aC _ _) q.A⟩;generalize T.alloc (.cells #[.bool g,Iv av,Iv ac,Iv op,.bool D,Iv bv,Iv bc] 430)=U at k⊢;generalize T.heap.size=E at k⊢;obtain⟨F,y⟩:=ae k.b;obtain⟨B,o⟩:=ae k.B;cases ok
 ·rw[aA ak]at L
  go_wp2_with fail
  have v:=k.B;have s:(U.setCell (Ad (w.heap.size+1) 0) (Uv 0)).cell? (Ad (w.heap.size+1) 0)=some (Uv 0):=by rw[(ae (aw v _)).1];rfl
  have r1:((U.setCell (Ad (w.heap.size+1) 0) (Uv 0)).setCell (Ad (w.heap.size+1) 1) (Uv 0)).cell? (Ad (w.heap.size+1) 1)=some (Uv 0):=by rw[(ae (aw (aw v _) _)).1];rfl
  refine aG (v:=b! (0,0)) (by simp[results,results287,go_sem,b!,s,r1]) rfl ⟨by rw[L.o],?_⟩;exact(k.a.setCell (by show _<=w.heap.size+1;omega) _).setCell (by show _<=w.heap.size+1;omega) _
 rw[aD rfl]at L;have J:=p.o rfl;have f:Hd (∀X b,X.cell? (Ad b 0)=some (Iv m)->Cl 241 (mH b) X (Rb X (b! (cH [m])))):=fun X b Z=>j6 X b m J Z
 rw[<-L.o]at f;simp only[b!]at f
 go_wp2_with (first|(go_at_call 332;refine(G.o rfl _ k.a).mono ?_;rintro e V ⟨rfl,Y⟩;have t:=hid (Aa (aq k.a Y) (aE Y k.B));clear Y F y B o)|(go_at_call 241;refine(f.o _ _ ak).mono ?_;rintro e M ⟨rfl,v⟩;have l:=hid (Aa (aq t.a (aq (aC _ _) v)) (aE v (aE (aC _ _) t.A)));clear v;obtain⟨B,o⟩:=ae l.A))
 have v:=l.A;have s:(M.setCell (Ad (w.heap.size+1) 0) (Uv z.1)).cell? (Ad (w.heap.size+1) 0)=some (Uv z.1):=by rw[(ae (aw v _)).1];rfl
 have r1:((M.setCell (Ad (w.heap.size+1) 0) (Uv z.1)).setCell (Ad (w.heap.size+1) 1) (Uv z.2)).cell? (Ad (w.heap.size+1) 1)=some (Uv z.2):=by rw[(ae (aw (aw v _) _)).1];rfl
 refine aG (v:=b! z) (by simp[results,results287,go_sem,b!,s,r1]) rfl ⟨rfl,?_⟩;exact(l.a.setCell (by show _<=w.heap.size+1;omega) _).setCell (by show _<=w.heap.size+1;omega) _
open Go.RowKit Go.Proofs Go.Maps Tryz
def kx0:Key:=((false,0,0),0,(false,0,0))
def Gy(ks:List Key)(v:Int)(m:Nat):BS:=(List.range m).foldl (fun s i=>if sO (ks.getD i kx0) v then eP s (cH [i]) else s) (0,0)
def DH(ks:List Key)(n:SN):BS:=if jf n then Gy ks n.var ks.length else(0,0)
def yB(ks:List Key)(v:Int)(m:Nat):Gy ks v (m+1)=if sO (ks.getD m kx0) v then eP (Gy ks v m) (cH [m]) else Gy ks v m:=by simp[Gy,kK]
def I9(ks:List Key)(v:Int):∀m,m<=128->bF (Gy ks v m)
 |0,_=>(show bF (0,0)from⟨aj,aj⟩)
 |m+1,h=>by
  have B:=I9 ks v m ah;rw[yB];split
  ·exact gp B (oT ah)
  exact B
def A3(bj:ByteArray)(wa:Option Addr)(wl wc:Nat)(ea:Option Addr)(el ec:Nat)(n:SN)(a:Option Addr)(c:Nat)(ks:List Key)(w:World)(h:Gk w a ks)(hl:ks.length<=60)(hk:0<=n.kind):
  Cl 288 #[.agg (aK bj (.slice wa wl wc) n (.slice ea el ec)),.slice a ks.length c] w (Rb w (b! (DH ks n))):=by
 have DE:Hd (∀W,Cl 282 #[.agg (aK bj (.slice wa wl wc) n (.slice ea el ec))] W (Rb W (.bool (jf n)))):=fun W=>(lR bj _ _ n W hk).mono fun e I hh=>⟨hh.1,by rw[hh.2];exact aC _ _⟩
 obtain⟨ok,o?⟩:=Ea (jf n);have HE:Hd (DH ks n=if ok then Gy ks n.var ks.length else(0,0)):=by show _=_;rw[o?];rfl
 rw[<-o?]at DE;have HH:=hid h;clear o? h hk;obtain⟨kind,var,op,test,⟨g,av,ac⟩,⟨D,bv,bc⟩,goal⟩:=n;simp only[aK]at DE HE⊢;generalize DH ks _=z at HE⊢;go_enter func288,ntmps288
 go_upto_region 2 with(fail)
 generalize U:((w.alloc (.cells #[.string bj,.slice wa wl wc,Iv kind,Iv var,Iv op,Iv test,.bool g,Iv av,Iv ac,.bool D,Iv bv,Iv bc,.slice ea el ec,.string goal] 152)).alloc eE).alloc eE=H;have R:Hd (Bl w H/\H.heap[w.heap.size]?=some (.cells #[.string bj,.slice wa wl wc,Iv kind,Iv var,Iv op,Iv test,.bool g,Iv av,Iv ac,.bool D,Iv bv,Iv bc,.slice ea el ec,.string goal] 152 (0,0))/\H.heap[w.heap.size+1]?=some jc/\H.heap[w.heap.size+1+1]?=some jc):=by
  subst U;obtain⟨e0,e1,e2,_⟩:=qf w (.cells #[.string bj,.slice wa wl wc,Iv kind,Iv var,Iv op,Iv test,.bool g,Iv av,Iv ac,.bool D,Iv bv,Iv bc,.slice ea el ec,.string goal] 152) eE eE (.cells #[] 0);rw[ch _ _ _ (by simp;try omega)]at e0 e1 e2;exact⟨cq _ _ _ _,e0,e1,e2⟩
 clear U;obtain⟨F,x2⟩:=ae R.b;have l2:=blt R.C;cases ok
 ·rw[aA ak]at HE
  go_wp2_with (go_at_call 282;refine(DE.o _).mono ?_;rintro e T ⟨rfl,A⟩;have q:=hid A;clear A F x2;obtain⟨F,x2⟩:=ae (aE q.o R.C);obtain⟨B,y2⟩:=ae (aE q.o R.c))
  have v:=aE q.o R.c;have r0:(T.setCell (Ad (w.heap.size+1) 0) (Uv 0)).cell? (Ad (w.heap.size+1) 0)=some (Uv 0):=by rw[(ae (aw v _)).1];rfl
  have r1:((T.setCell (Ad (w.heap.size+1) 0) (Uv 0)).setCell (Ad (w.heap.size+1) 1) (Uv 0)).cell? (Ad (w.heap.size+1) 1)=some (Uv 0):=by rw[(ae (aw (aw v _) _)).1];rfl
  refine aG (v:=b! (0,0)) (by simp[results,results288,go_sem,b!,r0,r1]) rfl ⟨by rw[HE.o],?_⟩;exact((aq R.a q.o).setCell (by show _<=w.heap.size+1;omega) _).setCell (by show _<=w.heap.size+1;omega) _
 rw[aD rfl]at HE
 go_wp2_with (go_at_call 282;refine(DE.o _).mono ?_;rintro e T ⟨rfl,A⟩;have q:=hid A;clear A F x2)
 generalize Value.agg #[.string bj,.slice wa wl wc,Iv kind,Iv var,Iv op,Iv test,.bool g,Iv av,Iv ac,.bool D,Iv bv,Iv bc,.slice ea el ec,.string goal]=sv0
 go_loopw[14] (fun p wr=>∃j:Nat,j<=ks.length/\p=Iv j/\Hd (Bl w wr/\wr.heap[w.heap.size]?=some (.cells #[.string bj,.slice wa wl wc,Iv kind,Iv var,Iv op,Iv test,.bool g,Iv av,Iv ac,.bool D,Iv bv,Iv bc,.slice ea el ec,.string goal] 152 (0,0))/\wr.heap[w.heap.size+1]?=some jc/\wr.heap[w.heap.size+1+1]?=some (.cells #[Uv ((Gy ks var j).1:Int),Uv ((Gy ks var j).2:Int)] 267 (0,0)))) (fun p _=>ks.length-(intOf p).toNat)
 case atStart=>exact⟨0,bB _,rfl,aq R.a q.o,aE q.o R.b,aE q.o R.c,aE q.o R.C⟩
 clear q;obtain⟨j,hj,rfl,M⟩:=hrel;have lw:=blt M.C;by_cases J:j<ks.length;rotate_left
 ·have s:¬(j:Int)<(ks.length:Int):=ah
  have hje:j=ks.length:=ah
  have b3:=M.C;rw[hje,<-HE.o]at b3;obtain⟨F,x2⟩:=ae b3;obtain⟨B,y2⟩:=ae M.c;have n1:w.heap.size+1≠w.heap.size+1+1:=ah
  go_wp2_with fail
  have v:=M.c;have r0:(wr.setCell (Ad (w.heap.size+1) 0) (Uv z.1)).cell? (Ad (w.heap.size+1) 0)=some (Uv z.1):=by rw[(ae (aw v _)).1];rfl
  have r1:((wr.setCell (Ad (w.heap.size+1) 0) (Uv z.1)).setCell (Ad (w.heap.size+1) 1) (Uv z.2)).cell? (Ad (w.heap.size+1) 1)=some (Uv z.2):=by rw[(ae (aw (aw v _) _)).1];rfl
  refine aG (v:=b! z) (by simp[results,results288,go_sem,b!,r0,r1]) rfl ⟨rfl,?_⟩;exact(M.a.setCell (by show _<=w.heap.size+1;omega) _).setCell (by show _<=w.heap.size+1;omega) _
 have s:(j:Int)<(ks.length:Int):=ah
 obtain⟨k,E⟩:=La J;obtain⟨b,o,rfl,cc⟩:=(HH.o.below M.a) j k E;have c0:wr.cell? (Ad b (o+j*7))=some (.bool k.1.1):=cc 0 _ rfl;have c1:wr.cell? (Ad b (o+j*7+1))=some (Iv k.1.2.1):=cc 1 _ rfl;have c2:wr.cell? (Ad b (o+j*7+2))=some (Iv k.1.2.2):=cc 2 _ rfl;have c3:wr.cell? (Ad b (o+j*7+3))=some (Iv k.2.1):=cc 3 _ rfl;have c4:wr.cell? (Ad b (o+j*7+4))=some (.bool k.2.2.1):=cc 4 _ rfl;have c5:wr.cell? (Ad b (o+j*7+5))=some (Iv k.2.2.2.1):=cc 5 _ rfl;have c6:wr.cell? (Ad b (o+j*7+6))=some (Iv k.2.2.2.2):=cc 6 _ rfl;have x:Gy ks var (j+1)=if sO k var then eP (Gy ks var j) (cH [j]) else Gy ks var j:=by rw[yB,List.getD,E];rfl
 have Nw:=I9 ks var j ah;obtain⟨u,hu⟩:=Ea (Gy ks var j);rw[<-hu]at x Nw;have f:=hid (Aa x (show wr.heap[w.heap.size+1+1]?=some (rY u.1 u.2)by rw[hu];exact M.C));have Y! : Hd (∀W,Cl 333 #[.agg (tD k),Iv var] W (Rb W (.bool (sO k var)))):=fun W=>N1 k var W
 obtain⟨yes,Vi⟩:=Ea (sO k var);rw[<-Vi]at Y! f;simp only[tD]at Y!;clear hu x E cc Vi
 go_upto_region 7 with(fail)
 generalize hV:wr.alloc (.cells (xd k.1.1 k.1.2.1 k.1.2.2 k.2.1 k.2.2.1 k.2.2.2.1 k.2.2.2.2) 430)=V;have HV:Hd (Bl wr V/\V.heap[wr.heap.size]?=some (.cells (xd k.1.1 k.1.2.1 k.1.2.2 k.2.1 k.2.2.1 k.2.2.2.1 k.2.2.2.2) 430 (0,0))):=by subst hV;exact⟨aC _ _,bf _ _⟩
 clear hV c0 c1 c2 c3 c4 c5 c6;obtain⟨F,x2⟩:=ae HV.A;obtain⟨B,y2⟩:=ae (aE HV.a M.b);cases yes
 ·go_wp2_with (go_at_call 333;refine(Y!.o _).mono ?_;rintro e r ⟨rfl,N⟩;have C:=hid (aq HV.a N);clear N F x2 B y2)
  go_roundw
  case rel=>
   refine⟨j+1,J,h',aq M.a C.o,aE C.o M.b,aE C.o M.c,?_⟩;rw[f.a];exact aE C.o f.A
  simp[intOf];omega
 have Tf:Hd (∀X b,X.cell? (Ad b 0)=some (Iv j)->Cl 241 (mH b) X (Rb X (b! (cH [j])))):=fun X b Z=>j6 X b j ah Z
 have O:Hd (∀(X:World) b,X.cell? (Ad b 0)=some (Uv u.1)->X.cell? (Ad b 1)=some (Uv u.2)->X.cell? (Ad b 2)=some (Uv ((cH [j]).1:Int))->X.cell? (Ad b 3)=some (Uv ((cH [j]).2:Int))->Cl 267 (oE b) X (Rb X (b! (eP u (cH [j]))))):=fun X b h0 G h2 h3=>by have:=e8 X b u (cH [j]) Nw (oT ah) h0 G h2 h3;exact this
 have m:Hd (Gy ks var (j+1)=eP u (cH [j])):=by rw[f.a];rfl
 obtain⟨o1,rK⟩:=Ea (cH [j]);obtain⟨y,hy⟩:=Ea (eP u (cH [j]));rw[<-hy]at m O;rw[<-rK]at Tf O;clear rK hy Nw;simp only[b!]at Tf O
 go_upto_region 8 with(go_at_call 333;refine(Y!.o _).mono ?_;rintro e r ⟨rfl,N⟩;have C:=hid (aq HV.a N);clear N F x2 B y2)
 obtain⟨F,x2⟩:=ae (aE C.o f.A);have Yr:=C.o.size;have n1:w.heap.size+1+1≠r.heap.size:=ah
 have n3:=n1.symm;have ha1:∀(o:Obj) (i:Nat),(r.alloc o).cell? (Ad (w.heap.size+1+1) i)=(#[Uv u.1,Uv u.2]:Array Value)[i]?:=fun o i=>(dY (ch r o _ ah)).trans (F i)
 go_region_law (first|(go_simp;refine bA (Tf.o _ _ ak) ?_;rintro e W3 ⟨rfl,Y⟩;have t:Hd (Bl r W3):=aq ay Y;clear F x2 Y;obtain⟨F,x2⟩:=ae (aE t.o (aE C.o f.A)))|(go_simp;refine bA (O.o _ _ ak ak ak ak) ?_;rintro e W4 ⟨rfl,v⟩;have l:Hd (Bl r W4):=aq (aq t.o ay) v;clear F x2 v;obtain⟨F,x2⟩:=ae (aE l.o (aE C.o f.A))))
 all_goals
  go_wp2_with fail
  go_roundw
  case rel=>
   have L:=aq C.o l.o;refine⟨j+1,J,h',((aq M.a L).setCell (by show _<=w.heap.size+1+1;omega) _).setCell (by show _<=w.heap.size+1+1;omega) _,?_,?_,?_⟩
   ·rw[aZ _ _ _ _ (by show w.heap.size≠w.heap.size+1+1;omega),aZ _ _ _ _ (by show w.heap.size≠w.heap.size+1+1;omega)]
    exact aE L M.b
   ·rw[aZ _ _ _ _ (by show w.heap.size+1≠w.heap.size+1+1;omega),aZ _ _ _ _ (by show w.heap.size+1≠w.heap.size+1+1;omega)]
    exact aE L M.c
   rw[m.o];exact zU (aE L f.A) y
  simp[intOf];omega
def opW(vals:List Int)(o:ot):Int:=if o.isVar then vals.getD o.var.toNat 0 else o.const
def yg(n:Nat)(o:ot):Prop:=o.isVar=true->0<=o.var/\o.var<n
def R9:ByteArray:=⟨#[108,58,32,120,32,61,32,105,110,112,117,116,10,32,105,102,32,120,32,60,32,49,48,32,103,111,116,111,32,108,10,32,111,117,116,112,117,116,32,120,10,114,101,116,117,114,110]⟩
def exO:ByteArray:=⟨#[108,58,32,120,32,61,32,105,110,112,117,116,10,105,102,32,120,32,60,32,49,48,32,103,111,116,111,32,108,10,111,117,116,112,117,116,32,120,10,114,101,116,117,114,110,10]⟩
def aaX:List (List ByteArray):=[[⟨#[108,58]⟩,⟨#[120]⟩,⟨#[61]⟩,⟨#[105,110,112,117,116]⟩],[⟨#[105,102]⟩,⟨#[120]⟩,⟨#[60]⟩,⟨#[49,48]⟩,⟨#[103,111,116,111]⟩,⟨#[108]⟩],[⟨#[111,117,116,112,117,116]⟩,⟨#[120]⟩],[⟨#[114,101,116,117,114,110]⟩]]
def Sb:Fh R9=aaX:=by
 apply Nb;rw[QY];rfl
def exP:List PN:=[⟨⟨#[108]⟩,[⟨#[120]⟩,⟨#[61]⟩,⟨#[105,110,112,117,116]⟩],⟨2,0,0,0,o0,o0,emp⟩⟩,⟨emp,[⟨#[105,102]⟩,⟨#[120]⟩,⟨#[60]⟩,⟨#[49,48]⟩,⟨#[103,111,116,111]⟩,⟨#[108]⟩],⟨4,0,0,0,⟨true,0,0⟩,⟨false,0,10⟩,⟨#[108]⟩⟩⟩,⟨emp,[⟨#[111,117,116,112,117,116]⟩,⟨#[120]⟩],⟨3,0,0,0,⟨true,0,0⟩,o0,emp⟩⟩,⟨emp,[⟨#[114,101,116,117,114,110]⟩],⟨6,0,0,0,o0,o0,emp⟩⟩]
def adZ:zQ ⟨#[108,58]⟩=true:=by first|rfl|decide
def adY:zQ ⟨#[105,102]⟩=false:=by first|rfl|decide
def adX:zQ ⟨#[111,117,116,112,117,116]⟩=false:=by first|rfl|decide
def adW:zQ ⟨#[114,101,116,117,114,110]⟩=false:=by first|rfl|decide
def adV:Wm.nm ⟨#[108]⟩=true:=by first|rfl|decide
def adU:Wm.nm ⟨#[120]⟩=true:=by first|rfl|decide
def adT:Wm.nm ⟨#[49,48]⟩=false:=by first|rfl|decide
def adS:Wm.nm ⟨#[111,117,116,112,117,116]⟩=false:=by first|rfl|decide
def adR:Wm.nm ⟨#[105,102]⟩=false:=by first|rfl|decide
def adQ:Wm.nm ⟨#[114,101,116,117,114,110]⟩=false:=by first|rfl|decide
def aa3:Wm.nm ⟨#[105,110,112,117,116]⟩=false:=by first|rfl|decide
def aa2:JJ [49,48]=true:=by first|rfl|decide
def aa1:zP [49,48]=10:=by first|rfl|decide
def aa0:lr ⟨#[108,58]⟩=⟨#[108]⟩:=by first|rfl|decide
def aaY:xR [] [] aaX=some (exP,[[120]]):=by
 simp[aaX,exP,xR,ua,sJ,adZ,adY,adX,adW,adV,adU,adT,adS,adR,adQ,aa3,aa2,aa1,aa0,tw,sA,DI,lP,i?,oz,tB,fz,dP,lh,dI,Wm.Ub,Wm.Tl,o0]
def R?:mN R9=Pr.ok exP [[120]]:=by
 unfold mN;rw[aA aj,Sb,aaY];have:j4 exP [[120]]=true:=by simp[j4,ej,mO,exP,PN.nc,oz,lQ,rf,jumps,kU,kA,F5,emp,BU,o0]
 simp only[this];rfl
def aaZ:(⟨(vx exP).toArray⟩:ByteArray)=exO:=by
 apply data_inj;simp[vx,oW,lbl,jw,exP,exO,oz,emp]
def R! : Ts R9=exO/\zB R9=0:=by
 constructor
 ·unfold Ts;rw[R?];exact aaZ
 unfold zB;rw[R?]
open Go.RowKit Go.Proofs Go.Maps Tryz
def oY(q y:Option Addr)(A H:Nat)(B:List Nd)(w:World)(h1:cj w q B)(h2:cj w y B)(hn:∀n∈B,gD n)(hl:B.length*88<=140737488355328):
  Cl 21 #[.slice q B.length A,.slice y B.length H] w (Rb w (.bool true)):=by
 have l:=(show Hd _ from Aa h1 (Aa h2 hn));clear h1 h2 hn;have T:((B.length:Int) !=(B.length:Int))=false:=ak
 go_enter func21,ntmps21
 go_wp2_with fail
 go_loopw[5] (fun i wr=>∃k:Nat,k<=B.length/\i=Iv k/\Hd (Bl w wr)) (fun i _=>B.length-(intOf i).toNat)
 case atStart=>exact⟨0,bB _,rfl,aM _ _⟩
 obtain⟨k,Z,rfl,M⟩:=hrel;by_cases J:k<B.length;rotate_left
 ·have s:¬(k:Int)<(B.length:Int):=ah
  go_wp2_with fail
  go_ret
  exact⟨rfl,M.o⟩
 have s:(k:Int)<(B.length:Int):=ah
 obtain⟨n,E⟩:=La J;obtain⟨u,v,r,L,G,Q,W,V,rfl,P,Y,c,X,U,o⟩:=(l.a.below M.o) k n E;obtain⟨x,N,F,D,b,a,z,g,rfl,t,C,j,K,m,d⟩:=(l.b.below M.o) k n E;have f:=(show Hd _ from Aa o (Aa d (l.B n (aL E))));have p:=(show Hd _ from Aa P (Aa Y (Aa c (Aa X (Aa U (Aa t (Aa C (Aa j (Aa K m)))))))));clear E o d
 go_wp2_with fail
 go_region_held3 (fun I=>I.cell? (Ad u (v+k*5))=some (bH r n.facts.length Q)/\I.cell? (Ad u (v+k*5+1))=some (bH L n.aO.length W)/\I.cell? (Ad u (v+k*5+2))=some (.bool n.reached)/\I.cell? (Ad u (v+k*5+3))=some (Iv n.rank)/\I.cell? (Ad u (v+k*5+4))=some (bH G n.vals.length V)/\I.cell? (Ad x (N+k*5))=some (bH F n.facts.length a)/\I.cell? (Ad x (N+k*5+1))=some (.slice D n.aO.length z)/\I.cell? (Ad x (N+k*5+2))=some (.bool n.reached)/\I.cell? (Ad x (N+k*5+3))=some (Iv n.rank)/\I.cell? (Ad x (N+k*5+4))=some (bH b n.vals.length g)) (go_keep) ((go_at_call 47;refine(zG r L G F D b Q W V a z g n _ (f.a.below (aM wr.heap.size wr).drew) (f.b.below (aM wr.heap.size wr).drew) f.B).mono ?_;rintro e h ⟨rfl,S⟩;have O:=aq (aM wr.heap.size wr).drew S;have P:=ax p.a O;have Y:=ax p.b O;have c:=ax p.c O;have X:=ax p.d O;have U:=ax p.e O;have t:=ax p.f O;have C:=ax p.g O;have j:=ax p.h O;have K:=ax p.i O;have m:=ax p.I O;have R:=(show Hd _ from aq M.o O);clear S O))
 all_goals
  clear P Y c X U t C j K m
  go_wp2_with fail
  go_roundw
  case rel=>exact⟨k+1,ah,h',R⟩
  simp[intOf];omega
end Go.Proofs.YtmipbiligijcpaaGreatDoor
