import Derived.Test.YtmipbiligijcpaaGreatDoorA07
import Derived.Deep.CutRange
import Derived.Lib.SlBytesConst
import Derived.Lib.SlBytesRow
namespace Go.Proofs.YtmipbiligijcpaaGreatDoor
set_option linter.all false
set_option maxHeartbeats 2000000
set_option maxRecDepth 100000
open Go.RowKit Go.Proofs Go.Maps
def Rm:(Tryz.prog.info? 96).map (fun i=>(i.zero,i.size,i.bytes))=some (some (.agg lf),5,88):=au
def aaw:(Tryz.prog.info? 73).map (fun i=>(i.zero,i.size,i.bytes))=some (some (.agg iB),6,48):=au
def iD(v:Vl):List Value:=[Iv v.kind,Iv v.lo,Iv v.hi,.bool v.early,Iv v.first,Iv v.rank]
def ie(vs:List Vl):List Value:=vs.flatMap iD
def xo:∀(vs:List Vl),(ie vs).length=vs.length*6
 |[]=>rfl
 |v :: r=>by
  have:=xo r;simp only[ie,bY,bu,bT]at this⊢;simp[iD]at this⊢;omega
def BV:∀(vs:List Vl) (j:Nat) (v:Vl),vs[j]?=some v->∀i x,(iD v)[i]?=some x->(ie vs)[j*6+i]?=some x
 |[],j,v,h,i,x,hx=>by simp at h
 |a :: r,0,v,h,i,x,hx=>by
  simp at h;subst h;have hi:=(bn.1 hx).1;simp only[ie,bY,gU,ct];rw[mE hi];exact hx
 |a :: r,j+1,v,h,i,x,hx=>by
  have:=BV r j v (by simpa using h) i x hx;simp only[ie,bY]at this⊢;rw[fC (by simp[iD];omega)];rw[<-this]
  congr 1
  simp[iD];omega
def Pl{w:World}{B:Nat}{a:Option Addr}{c n:Nat}{vs:List Vl}(h:w.ownsRow B 73 6 (.slice a n c) vs.length (ie vs)):jA w a vs:=by
 intro j v U;have f:=(bn.1 U).1;rcases h.2 with⟨_,e⟩|⟨g,C,A,t,_⟩
 ·omega
 simp at t;obtain⟨rfl,rfl,rfl⟩:=t;have Z:=h.cells (g:=g) rfl;have key:∀i x,(iD v)[i]?=some x->e' w g (0+(j*6+i)) x:=by
  intro i x E;have:=Z _ _ (BV vs j v U i x E)
  rwa[gw]at this
 refine⟨g,0,rfl,?_,?_,?_,?_,?_,?_⟩
 ·simpa using key 0 _ rfl
 ·simpa[lA]using key 1 _ rfl
 ·simpa[lA]using key 2 _ rfl
 ·simpa[lA]using key 3 _ rfl
 ·simpa[lA]using key 4 _ rfl
 simpa[lA]using key 5 _ rfl
section
variable {w w':World} {B n:Nat} {row:Option Nat}
structure N5 where
  fa:Option Addr
  fc:Nat
  ra:Option Addr
  rc:Nat
  va:Option Addr
  vc:Nat
  n:Nd
def gR(c:N5):List Value:=[.slice c.fa c.n.facts.length c.fc,.slice c.ra c.n.aO.length c.rc,.bool c.n.reached,Iv c.n.rank,.slice c.va c.n.vals.length c.vc]
def fq(cl:List N5):List Value:=cl.flatMap gR
structure uK(w:World)(B:Nat)(c:N5):Prop where
  f:w.ownsRow B 3 1 (bH c.fa c.n.facts.length c.fc) c.n.facts.length (c.n.facts.map Iv)
  r:w.ownsRow B 3 1 (bH c.ra c.n.aO.length c.rc) c.n.aO.length (c.n.aO.map Iv)
  v:w.ownsRow B 73 6 (bH c.va c.n.vals.length c.vc) c.n.vals.length (ie c.n.vals)
  fn:c.fa=none->c.fc=0
  rn:c.ra=none->c.rc=0
  vn:c.va=none->c.vc=0
def uK.at{c:N5}(h:uK w B c):rJ w c.fa c.ra c.va c.fc c.rc c.vc c.n:=⟨Fv h.f,Fv h.r,Pl h.v,h.fn,h.rn,h.vn⟩
def ud{e size:Nat}{v:Value}{M:List Value}(h:w.ownsRow B e size v n M)(u:∀k,row=some k->∃A f,w.heap[k]?=some (.cells A 96 f))(he:e≠96):v.ownBlock=none∨v.ownBlock≠row:=by
 cases t:v.ownBlock with
 |none=>exact aJ rfl
 |some k=>
  refine aI (fun S=>?_);obtain⟨Y,m,a⟩:=fg h k t;obtain⟨c,d,b⟩:=u k S.symm;rw[a]at b;simp at b;exact he b.2.1
def uK.kept{c:N5}(h:uK w B c)(m:w.grownBy w' row)(u:∀k,row=some k->∃A f,w.heap[k]?=some (.cells A 96 f)):uK w' B c:=
 ⟨h.f.kept m (ud h.f u aj),h.r.kept m (ud h.r u aj),h.v.kept m (ud h.v u aj),h.fn,h.rn,h.vn⟩
def uK.below{c:N5}(h:uK w B c)(hb:Bl w w'):uK w' B c:=
 ⟨uk h.f hb,uk h.r hb,uk h.v hb,h.fn,h.rn,h.vn⟩
def uK.mono{B':Nat}{c:N5}(h:uK w B c)(hb:B'<=B):uK w B' c:=⟨bJ h.f hb,bJ h.r hb,bJ h.v hb,h.fn,h.rn,h.vn⟩
def jO:∀(R:List N5),(fq R).length=R.length*5
 |[]=>rfl
 |c :: r=>by
  have:=jO r;simp only[fq,bY,bu,bT]at this⊢;simp[gR]at this⊢;omega
def CM:∀(R:List N5) (j:Nat) (c:N5),R[j]?=some c->∀i x,(gR c)[i]?=some x->(fq R)[j*5+i]?=some x
 |[],j,c,h,i,x,hx=>by simp at h
 |a :: r,0,c,h,i,x,hx=>by
  simp at h;subst h;have hi:=(bn.1 hx).1;simp only[fq,bY,gU,ct];rw[mE hi];exact hx
 |a :: r,j+1,c,h,i,x,hx=>by
  have:=CM r j c (by simpa using h) i x hx;simp only[fq,bY]at this⊢;rw[fC (by simp[gR];omega)];rw[<-this]
  congr 1
  simp[gR];omega
def uo{p:Nat}{a:Option Addr}{k:Nat}{R:List N5}(h:w.ownsRow B 96 5 (.slice a n k) R.length (fq R))(d:∀c∈R,uK w p c):cj w a (R.map N5.n):=by
 intro j nd U;simp only[bG,BJ]at U;obtain⟨c,Z,rfl⟩:=U;have f:=(bn.1 Z).1;rcases h.2 with⟨_,e⟩|⟨g,C,A,t,_⟩
 ·omega
 simp at t;obtain⟨rfl,rfl,rfl⟩:=t;have b:=h.cells (g:=g) rfl;have key:∀i x,(gR c)[i]?=some x->e' w g (0+(j*5+i)) x:=by
  intro i x E;have:=b _ _ (CM R j c Z i x E)
  rwa[gw]at this
 refine⟨g,0,c.fa,c.ra,c.va,c.fc,c.rc,c.vc,rfl,?_,?_,?_,?_,?_,(d c (aL Z)).at⟩
 ·simpa using key 0 _ rfl
 ·simpa[lA]using key 1 _ rfl
 ·simpa[lA]using key 2 _ rfl
 ·simpa[lA]using key 3 _ rfl
 simpa[lA]using key 4 _ rfl
end
section
variable {W w w':World} {B rb n i A k fl fc:Nat} {σ α:Type} {s C s1 s2:ByteArray} {bad m u x:Bool} {P:Nat->Prop} {t fa:Option Addr} {g:Int}
open Go.RowKit Go.Proofs Go.Maps Tryz
def N5.fv(x:N5):Value:=.slice x.fa x.n.facts.length x.fc
def N5.rv(x:N5):Value:=.slice x.ra x.n.aO.length x.rc
def N5.vv(x:N5):Value:=.slice x.va x.n.vals.length x.vc
def v8(x:N5):Value:=.agg #[.slice x.fa x.n.facts.length x.fc,.slice x.ra x.n.aO.length x.rc,.bool x.n.reached,Iv x.n.rank,.slice x.va x.n.vals.length x.vc]
structure fL(W:World)(B:Nat)(x:N5):Prop where
  f:W.ownsRow B 3 1 x.fv x.n.facts.length (x.n.facts.map Iv)
  r:W.ownsRow B 3 1 x.rv x.n.aO.length (x.n.aO.map Iv)
  v:W.ownsRow B 73 6 x.vv x.n.vals.length (ie x.n.vals)
  ap:x.fv.ownBlock=none∨x.fv.ownBlock≠x.rv.ownBlock
def fL.own{x:N5}(h:fL W B x):uK W B x:=by
 refine⟨h.f,h.r,h.v,?_,?_,?_⟩<;>intro e
 ·rcases h.f.2 with⟨G,_⟩|⟨g,c,A,G,_⟩<;>simp[N5.fv,e]at G;exact G.2
 ·rcases h.r.2 with⟨G,_⟩|⟨g,c,A,G,_⟩<;>simp[N5.rv,e]at G;exact G.2
 rcases h.v.2 with⟨G,_⟩|⟨g,c,A,G,_⟩<;>simp[N5.vv,e]at G;exact G.2
def S?(w W':World)(rb:Nat)(s:ByteArray)(res:Option (Nd×List UInt8))(e:Ending):Prop:=
 (∃(x:N5) (s':ByteArray),res=some (x.n,s'.data.toList)/\s'.size<=s.size/\e=.returned (v8 x)/\fL W' w.heap.size x/\cT W' rb s' false)∨(res=none/\∃(x:N5) (s':ByteArray),e=.returned (v8 x)/\s'.size<=s.size/\cT W' rb s' true)
def kh(_:Unit)(l:List UInt8):Option ((Int×Unit)×List UInt8):=match kC 100000 l with
 |some (n,r)=>some (((n:Int),()),r)
 |none=>none
def uc (g:Int) (l:List UInt8):Option (Nd×List UInt8):=match kC l.length l with
  | some (k,r)=>(match bI iF k 0 r with
    |some ((fs,_),q)=>if g=1 then(match bI kh k () q with
        |some ((rs,_),q2)=>some (⟨fs,rs,false,0,[]⟩,q2)
        |none=>none) else some (⟨fs,[],false,0,[]⟩,q)
    |none=>none)
  |none=>none
def TL(W':World)(B n:Nat)(s:ByteArray)(bad:Bool)(step:σ->List UInt8->Option ((Int×σ)×List UInt8))(st:σ)(la:Option Addr)(ll lc:Nat)(s':ByteArray)(b':Bool):Prop:=
 s'.size<=s.size/\((b'=false/\ll=n/\∃xs Mm,dJ bad (bI step n st) s=some ((xs,Mm),s'.data.toList)/\W'.ownsRow B 3 1 (.slice la n lc) n (xs.map Iv))∨(b'=true/\(bad=true∨dJ bad (bI step n st) s=none)/\la=none/\ll=0/\lc=0))
def L!.one{W':World}{step:σ->List UInt8->Option ((Int×σ)×List UInt8)}{st:σ}{Inv:World->σ->Prop}{fW:World->Prop}{e:Ending}(h:L! w W' rb n s bad step st Inv fW e)(N:∀W st,Inv W st->fW W):
  ∃t i A C m,e=.returned (.slice t i A)/\TL W' w.heap.size n s bad step st t i A C m/\cT W' rb C m/\fW W':=by
 rcases h with⟨M,f,C,t,A,G,O,rfl,Y,K,H,E⟩|⟨G,rfl,C,O,Y,K⟩
 ·exact⟨t,n,A,C,false,rfl,⟨O,aJ ⟨rfl,rfl,M,f,G,K⟩⟩,H,N _ _ E⟩
 exact⟨none,0,0,C,true,rfl,⟨O,aI ⟨rfl,G,rfl,rfl,rfl⟩⟩,Y,K⟩
def TL.fr{step:σ->List UInt8->Option ((Int×σ)×List UInt8)}{st:σ}(h:TL w B n s bad step st t i A C m)(hf:Fr P w w')(hp:∀k,(Value.slice t i A).ownBlock=some k->P k):TL w' B n s bad step st t i A C m:=by
 refine⟨h.1,?_⟩;rcases h.2 with⟨G,O,M,f,Y,K⟩|h
 ·subst O
  exact aJ ⟨G,rfl,M,f,Y,hf.own K hp⟩
 exact aI h
def TL.lt{step:σ->List UInt8->Option ((Int×σ)×List UInt8)}{st:σ}(h:TL w B n s bad step st t i A C m):∀k,(Value.slice t i A).ownBlock=some k->B<=k/\k<w.heap.size:=by
 rcases h.2 with⟨G,O,M,f,Y,K⟩|⟨_,_,Y,K,H⟩
 ·subst O
  exact K.lt
 intro k X;rw[Y]at X;simp[Value.ownBlock]at X
def SetB(W:World)(w:World)(rb nb:Nat)(p g:Int)(fv rv:Value):Prop:=W.heap[w.heap.size]?=some (.cells (bE rb) 274 (0,0))/\W.heap[w.heap.size+1]?=some (nU p g)/\W.heap[w.heap.size+2]?=some (.cells lf 96 (0,0))/\W.heap[nb]?=some (.cells #[fv,rv,.bool false,Iv 0,.slice none 0 0] 96 (0,0))/\w.heap.size+3<=nb
def eA{p:List UInt8->Option (α×List UInt8)}{a:α×List UInt8}(h:dJ bad p s=some a):bad=false/\p s.data.toList=some a:=by
 unfold dJ at h;cases bad with
 |true=>cases h
 |false=>exact⟨rfl,h⟩
def mT{p:List UInt8->Option (α×List UInt8)}(h:dJ bad p s=none):bad=true∨(bad=false/\p s.data.toList=none):=by
 unfold dJ at h;cases bad with
 |true=>exact aJ rfl
 |false=>exact aI ⟨rfl,h⟩
def rq{p:List UInt8->Option (α×List UInt8)}(h:bad=true∨p s.data.toList=none):dJ bad p s=none:=by
 unfold dJ;cases bad with
 |true=>rfl
 |false=>
  rcases h with h|h
  ·cases h
  exact h
def Ue(s:ByteArray):s.data.toList.length=s.size:=rfl
def P6{p rl rc:Nat}{l:ByteArray}{S:Bool}{ra:Option Addr}(m:g=1)(h1:Y4 s bad (s.size:Int) k s1 u)(h2:TL W B k s1 u iF 0 fa fl fc s2 x)(h3:TL W p k s2 x kh () ra rl rc l S)(f:w.heap.size<=B)(o:∀j,(Value.slice fa fl fc).ownBlock=some j->j<p)(n:B<=p)(hr:cT W rb l S):
  S? w W rb s (dJ bad (uc g) s) (.returned (.agg #[.slice fa fl fc,.slice ra rl rc,.bool false,Iv 0,.slice none 0 0])):=by
 have R:l.size<=s.size:=bw h3.1 (bw h2.1 h1.1);cases S with
 | true=>
  refine aI ⟨?_,⟨fa,fc,ra,rc,none,0,⟨List.replicate fl 0,List.replicate rl 0,false,0,[]⟩⟩,l,by simp[v8],R,hr⟩;apply rq;cases D:bad with
  |true=>exact aJ rfl
  | false=>
   right
   subst D;unfold uc;rcases h1.2 with⟨A,Q,_⟩|⟨A,Q,_⟩;rotate_left
   ·rw[show kC (s.data.toList.length:Int) s.data.toList=none from Q]
   rw[show kC (s.data.toList.length:Int) s.data.toList=some (k,s1.data.toList)from Q];simp only;subst A;rcases h2.2 with⟨N,_,fs,b,z,_⟩|⟨N,z,_⟩;rotate_left
   ·rcases z with z|z
    ·cases z
    rw[show bI iF k 0 s1.data.toList=none from z]
   rw[show bI iF k 0 s1.data.toList=some ((fs,b),s2.data.toList)from z];simp only;rw[aD m];subst N;rcases h3.2 with⟨Y,_⟩|⟨_,I,_⟩
   ·cases Y
   rcases I with I|I
   ·cases I
   rw[show bI kh k () s2.data.toList=none from I]
 | false=>
  rcases h3.2 with⟨_,O,rs,c,I,d⟩|⟨Y,_⟩;rotate_left
  ·cases Y
  obtain⟨N,h⟩:=eA I;subst N;rcases h2.2 with⟨_,q,fs,b,z,v⟩|⟨N,_⟩;rotate_left
  ·cases N
  obtain⟨A,a⟩:=eA z;subst A;rcases h1.2 with⟨_,Q,_⟩|⟨A,_⟩;rotate_left
  ·cases A
  obtain⟨r,i⟩:=eA Q;subst r;have U:=eo _ _ _ _ _ _ _ a;have T:=eo _ _ _ _ _ _ _ h;subst q O;refine aJ ⟨⟨fa,fc,ra,rc,none,0,⟨fs,rs,false,0,[]⟩⟩,l,?_,R,by simp[v8,U,T],⟨?_,?_,dF _ _ _ _,?_⟩,hr⟩
  ·unfold dJ uc
   simp only[bN,bR];rw[show kC (s.data.toList.length:Int) s.data.toList=some (rl,s1.data.toList)from i];simp only;rw[a];simp only;rw[aD m,h]
  ·simpa[N5.fv,U]using bJ v f
  ·simpa[N5.rv,T]using bJ d (bw f n)
  simp only[N5.fv,N5.rv,U,T];cases t:(Value.slice fa rl fc).ownBlock with
  |none=>exact aJ rfl
  |some j=>
   refine aI (fun e=>?_);have:=o j t;have:=(d.lt j e.symm).1;omega
def P5(m:¬g=1)(h1:Y4 s bad (s.size:Int) k s1 u)(h2:TL W B k s1 u iF 0 fa fl fc s2 x)(f:w.heap.size<=B)(hr:cT W rb s2 x):
  S? w W rb s (dJ bad (uc g) s) (.returned (.agg #[.slice fa fl fc,.slice none 0 0,.bool false,Iv 0,.slice none 0 0])):=by
 have R:s2.size<=s.size:=bw h2.1 h1.1;cases x with
 | true=>
  refine aI ⟨?_,⟨fa,fc,none,0,none,0,⟨List.replicate fl 0,[],false,0,[]⟩⟩,s2,by simp[v8],R,hr⟩;apply rq;cases D:bad with
  |true=>exact aJ rfl
  |false=>
   right
   subst D;unfold uc;rcases h1.2 with⟨A,Q,_⟩|⟨A,Q,_⟩;rotate_left
   ·rw[show kC (s.data.toList.length:Int) s.data.toList=none from Q]
   rw[show kC (s.data.toList.length:Int) s.data.toList=some (k,s1.data.toList)from Q];simp only;subst A;rcases h2.2 with⟨N,_⟩|⟨N,z,_⟩
   ·cases N
   rcases z with z|z
   ·cases z
   rw[show bI iF k 0 s1.data.toList=none from z]
 | false=>
  rcases h2.2 with⟨_,c,fs,b,z,d⟩|⟨N,_⟩;rotate_left
  ·cases N
  obtain⟨A,a⟩:=eA z;subst A;rcases h1.2 with⟨_,Q,_⟩|⟨A,_⟩;rotate_left
  ·cases A
  obtain⟨r,i⟩:=eA Q;subst r;have U:=eo _ _ _ _ _ _ _ a;subst c;refine aJ ⟨⟨fa,fc,none,0,none,0,⟨fs,[],false,0,[]⟩⟩,s2,?_,R,by simp[v8,U],⟨?_,dF _ _ _ _,dF _ _ _ _,?_⟩,hr⟩
  ·unfold dJ uc
   simp only[bN,bR];rw[show kC (s.data.toList.length:Int) s.data.toList=some (fl,s1.data.toList)from i];simp only;rw[a];simp only;rw[aA m]
  ·simpa[N5.fv,U]using bJ d f
  cases t:(N5.fv ⟨fa,fc,none,0,none,0,⟨fs,[],false,0,[]⟩⟩).ownBlock with
  |none=>exact aJ rfl
  |some j=>exact aI (fun e=>by simp[N5.rv,Value.ownBlock]at e)
def FU(W:World)(b o:Nat)(v:Value):Fr (fun j=>j≠b) W (W.setCell (Ad b o) v):=Fr.dr (cW W b o v) (fun j _ U=>by simpa using U)
def YQ(W:World)(b:Nat)(a0 a1 a2 a3 a4:Value):Fr (fun j=>j≠b) W (((((W.setCell (Ad b 0) a0).setCell (Ad b 1) a1).setCell (Ad b 2) a2).setCell (Ad b 3) a3).setCell (Ad b 4) a4):=
 Fr.trans (Fr.trans (Fr.trans (Fr.trans (FU _ _ _ _) (FU _ _ _ _) (fun _ _ h=>h)) (FU _ _ _ _) (fun _ _ h=>h)) (FU _ _ _ _) (fun _ _ h=>h)) (FU _ _ _ _) (fun _ _ h=>h)
def cT.fr(h:cT w rb s bad)(hf:Fr P w w')(hp:P rb):cT w' rb s bad:=(hf.block rb h.lt hp).trans h
def Fr.box{cs:Array Value}{t:TypeId}(hf:Fr P w w')(h:w.heap[k]?=some (cJ cs t))(hp:P k):w'.heap[k]?=some (cJ cs t):=(hf.block k (bq.1 h).1 hp).trans h
def MP (rb:Nat) (p g:Int) (s:ByteArray) (bad:Bool) (w:World) (h:cT w rb s bad) (hs:s.size<=60000):
    Cl 231 #[.pointer (some (Ad rb 0)),.agg #[Iv p,Iv g]] w fun e W'=>S? w W' rb s (dJ bad (uc g) s) e/\Fr (fun j=>j≠rb) w W':=by
  have J:=h.lt;obtain⟨x1,y⟩:=ae h;have hc:=fun(V:World) (hV:cT V rb s bad)=>ny rb s bad (s.size:Int) V hV hs ⟨ah,ah⟩
  have HR:=(show Hd _ from Aa hc h);clear h hc;go_enter func231,ntmps231
  go_upto_region 1 with(fail)
  obtain⟨V0,M⟩:=Ea ((((w.alloc (.cells (bE rb) 274)).alloc (df p g)).alloc (.cells lf 96)));rw[<-M];have D:V0.heap.size=w.heap.size+3:=by rw[M];simp
  have m0:V0.heap[w.heap.size]?=some (.cells (bE rb) 274 (0,0)):=by
    rw[M,ch _ _ _ (by simp;omega),ch _ _ _ ak,bf]
  have m1:V0.heap[w.heap.size+1]?=some (nU p g):=by
    rw[M,ch _ _ _ ak];exact(aN w _ _).2
  have m2:V0.heap[w.heap.size+2]?=some (.cells lf 96 (0,0)):=by
    rw[M];have:=bf ((w.alloc (.cells (bE rb) 274)).alloc (df p g)) (.cells lf 96)
    simpa using this
  have Jl:cT V0 rb s bad:=by rw[M];exact((HR.A.alloc _).alloc _).alloc _
  have t:Below w.heap.size w V0:=by rw[M];exact cq _ _ _ _
  clear x1 y;obtain⟨x1,y⟩:=ae Jl;obtain⟨B,o⟩:=ae m0;have H0:=(show Hd _ from Aa m0 (Aa m1 (Aa m2 (Aa Jl t))));clear m0 m1 m2 Jl t M
  go_cut [5] from 8 (fun cv wx=>∃(k:Nat) (s1:ByteArray) (u:Bool),cv=Iv k/\k<=60000/\Hd (Y4 s bad (s.size:Int) k s1 u/\cT wx rb s1 u/\Fr (fun j=>j≠rb) V0 wx))
  case first=>
    go_region_law (go_simp;refine(HR.a _ (by exact H0.d)).mono ?_;rintro e T ⟨k,s1,u,rfl,hk,hr,g⟩)
    all_goals
      go_wp2_with fail
      go_meet
      exact⟨k,s1,u,rfl,(by rcases hk.2 with⟨_,_,q⟩|⟨_,_,q⟩<;>omega),hk,hr,Fr.trans (Fr.aR (P:=fun j=>j≠rb) (by repeat(first|with_reducible exact aM _ _|with_reducible refine below_drewN ?_ _|with_reducible refine kf ?_))) (Fr.dr g (fun j _ U=>by simpa using U)) (fun _ _ U=>U)⟩
  obtain⟨k,s1,u,rfl,FK,f⟩:=hcut
  rename World=>T
  clear x1 y B o;have Lv:w.heap.size+3<=T.heap.size:=by have:=f.B.size;omega
  have m0:T.heap[w.heap.size]?=_:=(f.B.block _ ah ah).trans H0.a;have m1:T.heap[w.heap.size+1]?=_:=(f.B.block _ ah ah).trans H0.b;have m2:T.heap[w.heap.size+2]?=_:=(f.B.block _ ah ah).trans H0.c;have H1:=(show Hd _ from Aa m0 (Aa m1 m2));clear m0 m1 m2
  go_upto_region 4 with(fail)
  obtain⟨V1,TD⟩:=Ea (((T.alloc (.cells lf 96)).alloc (.cells #[Iv 0] 3)));rw[<-TD];have mC:V1.heap.size=T.heap.size+2:=by rw[TD];simp
  have A:Below T.heap.size T V1:=by rw[TD];exact aX _ _ _
  obtain⟨n0,n1⟩:=aN T (.cells lf 96) (.cells #[Iv 0] 3);rw[<-TD]at n0 n1;have z:cT V1 rb s1 u:=by rw[TD];exact(f.b.alloc _).alloc _
  have H:Tb w.heap.size rb V1:=(A.block _ ah).trans H1.a;have Rt:SetB V1 w rb T.heap.size p g (.slice none 0 0) (.slice none 0 0):=⟨H,(A.block _ ah).trans H1.b,(A.block _ ah).trans H1.B,n0,Lv⟩;have NK:Fr (fun j=>j≠rb) w V1:=Fr.trans (Fr.trans (Fr.aR H0.D) f.B (fun _ _ h=>h)) (Fr.aR A) (fun _ _ h=>h)
  have yI:=fun(V:World) (hV:cT V rb s1 u) (hI:Wv (T.heap.size+1) w.heap.size rb V 0) (oZ:∀j,(j=T.heap.size+1∨j=w.heap.size)->j<V.heap.size)=>IB iF (Wv (T.heap.size+1) w.heap.size rb) (aea (T.heap.size+1) w.heap.size rb) (fun j=>j=T.heap.size+1∨j=w.heap.size) (T.heap.size+1) w.heap.size rb k s1 u 0 V
    (fun W st s bad G O h3=>MO _ _ _ ah ah ah W st s bad G O h3)
    (fun W W' st G O=>⟨(O _ (aJ rfl)).trans G.1,(O _ (aI rfl)).trans G.2.1,G.2.2⟩)
    (fun W W' G O=>⟨⟨_,(O _ (aJ rfl)).trans G.1.choose_spec⟩,(O _ (aI rfl)).trans G.2⟩)
    (fun W st G=>⟨⟨_,G.1⟩,G.2.1⟩) oZ hV hI (by have:=f.a.1;omega) ah
  have HP:=(show Hd _ from Aa yI (Aa n1 (Aa z (Aa Rt NK))));obtain⟨B,o⟩:=ae H;clear yI Rt z NK H TD n0 n1 A
  go_wp2_with fail
  refine(HP.a _ HP.c ⟨HP.b,HP.d.1,ah⟩ (by intro j U;rcases U with rfl|rfl<;>omega)).mono ?_;rintro e W2 ⟨O,f2⟩;obtain⟨fa,fl,fc,s2,b2,rfl,OM,hr2,hi2⟩:=O.one (fun W st G=>⟨⟨_,G.1⟩,G.2.1⟩);have L:=(f2.block T.heap.size ah ⟨ah,ah⟩).trans HP.d.2.2.2.1;obtain⟨x,z2⟩:=ae L;have H2:Hd (∀(v:Value),SetB (W2.setCell (Ad T.heap.size 0) v) w rb T.heap.size p g v (.slice none 0 0)/\TL (W2.setCell (Ad T.heap.size 0) v) V1.heap.size k s1 u iF 0 fa fl fc s2 b2/\cT (W2.setCell (Ad T.heap.size 0) v) rb s2 b2/\Fr (fun j=>j≠rb) w (W2.setCell (Ad T.heap.size 0) v)/\V1.heap.size<=(W2.setCell (Ad T.heap.size 0) v).heap.size):=by
    intro v;have m:=cW W2 T.heap.size 0 v;have OJ:=f2.size;have FL:=(f2.block (w.heap.size+1) ah ⟨ah,ah⟩).trans HP.d.2.1;have YD:=(f2.block (w.heap.size+2) ah ⟨ah,ah⟩).trans HP.d.2.2.1;refine⟨⟨(m.block _ ah (by simp;omega)).trans hi2.2,(m.block _ ah (by simp;omega)).trans FL,(m.block _ ah (by simp;omega)).trans YD,eC L v,Lv⟩,OM.fr (Fr.dr (P:=fun j=>V1.heap.size<=j) m (fun j _ U=>by simp;omega)) (fun j U=>(OM.lt j U).1),hr2.grown m (by simp;omega),?_,by have:=m.size;omega⟩;exact Fr.trans (Fr.trans HP.D (f2.mono (fun j _ (U:j≠rb/\j<w.heap.size)=>⟨U.1,ah⟩)) (fun j G O=>⟨O,G⟩)) (Fr.dr (P:=fun j=>j<w.heap.size) m (fun j _ U=>by simp;omega)) (fun j G _=>G)
  clear L OM hr2 hi2 f2 O
  go_upto_region 5 with(fail)
  obtain⟨V2,l⟩:=Ea (W2.setCell (Ad T.heap.size 0) (.slice fa fl fc));rw[<-l];have R:=(show Hd _ from H2.o (.slice fa fl fc));rw[<-l]at R;clear l H2 x z2 B o;have e1:=R.a.1;have e2:=R.a.2.1;have N:=R.a.2.2.2.1;obtain⟨B,o⟩:=ae e2;by_cases DJ:g=1;rotate_left
  · have E:decide (g=1)=false:=by rw[gK];exact DJ
    have Z:=(show Hd _ from DJ);clear DJ
    go_wp2_with fail
    refine(cg _ _ _).mono ?_;rw[E];rintro e V3 ⟨rfl,RM⟩;have Y:Bl V2 V3:=by rw[RM];exact aC _ _
    have b:Fr (fun _=>True) V2 V3:=Fr.aR Y;have d2:=b.box R.a.2.2.1 trivial;have d4:=b.box N trivial;have Yx:=R.c.fr b trivial;have NH:=R.b.fr b (fun _ _=>trivial);have hfw:=Fr.trans R.d b (fun _ _ _=>trivial);have OJ:V1.heap.size<=V3.heap.size:=bw R.D b.size;have I:=(show Hd _ from Aa NH (Aa Yx hfw));clear B o e1 e2 N;obtain⟨B,o⟩:=ae d2;obtain⟨x,z2⟩:=ae d4;clear d2 d4 Yx NH hfw b Y RM
    go_wp2_with fail
    refine aG (v:=.agg #[.slice fa fl fc,.slice none 0 0,.bool false,Iv 0,.slice none 0 0]) (by simp[results,results231,go_sem,B]) rfl ?_;have F:=YQ V3 (w.heap.size+1+1) (.slice fa fl fc) (.slice none 0 0) (.bool false) (Iv 0) (.slice none 0 0);refine⟨P5 Z.o f.a (I.a.fr F (fun j U=>by have:=(I.a.lt j U).1;show j≠_;omega)) ah (I.b.fr F (by show rb≠_;omega)),?_⟩;exact Fr.trans I.B F (fun j G O=>by show j≠_;omega)
  have E:decide (g=1)=true:=by rw[bm];exact DJ
  have Z:=(show Hd _ from DJ);clear DJ
  go_wp2_with fail
  refine(cg _ _ _).mono ?_;rw[E];rintro e V3 ⟨rfl,RM⟩;have Y:Bl V2 V3:=by rw[RM];exact aC _ _
  have b:Fr (fun _=>True) V2 V3:=Fr.aR Y;have d0:=b.box e1 trivial;have d2:=b.box R.a.2.2.1 trivial;have d4:=b.box N trivial;have Yx:=R.c.fr b trivial;have NH:=R.b.fr b (fun _ _=>trivial);have hfw:=Fr.trans R.d b (fun _ _ _=>trivial);have OJ:V1.heap.size<=V3.heap.size:=bw R.D b.size
  have hc3:=IC kh (fun _ _=>True) (fun _=>True) (fun _=>False) rb k s2 b2 () V3
    (fun W st s bad _ O h3=>by
      refine(pN rb s bad W O h3).mono ?_;rintro e W' ⟨q1,q2⟩;refine⟨?_,Fr.dr q2 (fun j _ U=>by simpa using U.1)⟩;rcases q1 with⟨n,C,r1,X,rfl,r3⟩|⟨r1,rfl,C,X,r3⟩
      · obtain⟨rb0,r1'⟩:=eA r1
        subst rb0;exact aJ ⟨_,(),C,by unfold dJ kh;simp only[bN,bR];rw[r1'],X,rfl,r3,trivial⟩
      · refine aI ⟨?_,_,C,⟨_,rfl⟩,rfl,X,r3,trivial⟩
        apply rq;rcases mT r1 with r|⟨_,r⟩
        · exact aJ r
        · right
          unfold kh
          rw[r])
    (fun _ _ _ _ _=>trivial) (fun _ _ _ _=>trivial) (fun _ _ _=>trivial) (fun _ h=>h.elim) Yx trivial (by have:=f.a.1;have:=R.b.1;omega) ah
  have I:=(show Hd _ from Aa hc3 (Aa d2 (Aa d4 (Aa NH (Aa hfw NH.lt)))));clear B o e1 e2 N;obtain⟨B,o⟩:=ae d0;clear hc3 d0 d2 d4 Yx NH hfw b Y RM
  go_wp2_with fail
  refine bA I.a ?_;rintro e W4 ⟨h4,f4⟩;obtain⟨ra,rl,rc,s3,b3,rfl,hl4,Ly,_⟩:=h4.one (fun _ _ _=>trivial);have c:=f4.box I.b (show _/\_ from⟨ah,fun h=>h⟩);have c4:=f4.box I.c (show _/\_ from⟨ah,fun h=>h⟩);have hz4:=f4.size;have H5:=(show Hd _ from Aa c (Aa c4 (Aa hl4 (Aa Ly f4))));clear B o h4 hl4 Ly f4;obtain⟨B,o⟩:=ae c;obtain⟨x,z2⟩:=ae c4;have n1:w.heap.size+2≠T.heap.size:=ah
  have n2:T.heap.size≠w.heap.size+2:=ah
  clear c c4
  go_wp2_with fail
  refine aG (v:=.agg #[.slice fa fl fc,.slice ra rl rc,.bool false,Iv 0,.slice none 0 0]) (by simp[results,results231,go_sem,B]) rfl ?_;have fa1:=FU W4 T.heap.size 1 (.slice ra rl rc);have F:=YQ (W4.setCell (Ad T.heap.size 1) (.slice ra rl rc)) (w.heap.size+1+1) (.slice fa fl fc) (.slice ra rl rc) (.bool false) (Iv 0) (.slice none 0 0);have fa3:=Fr.trans (P:=fun j=>j≠T.heap.size/\j≠w.heap.size+1+1) (fa1.mono (fun j _ h=>h.1)) F (fun j _ h=>h.2);have fa4:=Fr.trans (P:=fun j=>j≠rb/\j≠T.heap.size/\j≠w.heap.size+1+1) (H5.D.mono (fun j _ h=>⟨h.1,fun h=>h⟩)) fa3 (fun j _ h=>h.2);refine⟨P6 Z.o f.a (I.d.fr fa4 (fun j U=>by have:=(I.E j U).1;exact⟨ah,ah,ah⟩)) (H5.c.fr fa3 (fun j U=>by have:=(H5.c.lt j U).1;exact⟨ah,ah⟩)) ah (fun j U=>(I.E j U).2) OJ (H5.d.fr fa3 ⟨ah,ah⟩),?_⟩;exact Fr.trans I.e fa4 (fun j G O=>⟨O,ah,ah⟩)
end
section
variable {bad:Bool} {s:ByteArray} {p:Prop}
open Go.RowKit Go.Proofs Go.Maps Tryz
def ui(l:List UInt8):Option (Vl×List UInt8):=match oJ l with
 |some (x,r)=>match kC 100000 r with
  |some (k,q)=>some (⟨2,0,0,true,x,(k:Int)⟩,q)
  |none=>none
 |none=>none
def lk(g:Int)(l:List UInt8):Option (Vl×List UInt8):=match l with
 | b :: r=>
  if b.toNat=1 then(match oJ r with|some (x,q)=>some (⟨1,x,0,false,0,0⟩,q)|none=>none)
  else if b.toNat=2 then
   (if g=1 then(match gY r with|some (f,q)=>if f then ui q else some (⟨2,0,0,false,0,0⟩,q)|none=>none) else some (⟨2,0,0,false,0,0⟩,r))
  else none
 |[]=>none
def K3{b:UInt8}{r:List UInt8}(h:dJ bad El s=some (b,r)):bad=false/\s.data.toList=b :: r:=by
 unfold dJ El at h;cases bad with
 |true=>cases h
 | false=>
  refine⟨rfl,?_⟩;simp only[bN,bR]at h;split at h
  ·rename_i x X H
   simp at h;rw[H,h.1,h.2]
  cases h
def QL(g:Int)(h:dJ bad El s=none):dJ bad (lk g) s=none:=by
 unfold dJ at h⊢;cases bad with
 |true=>rfl
 |false=>
  simp only[bN,bR]at h⊢;cases hl:s.data.toList with
  |nil=>rfl
  |cons a r=>rw[hl]at h;simp[El]at h
def XA(h:p:=by
 have Y:=C.a;have K:=R.a;have H:=I.a;unfold dJ at Y K H⊢;simp only[bN,bR]at Y K H⊢;unfold lk;rw[E.a];simp only[M.a,M.A,HG1.o,dx,bR,Y];unfold ui;rw[K];simp only;rw[H]
 rfl):p:=h
def Xz(h:p:=by
 have Y:=C.a;unfold dJ at Y⊢;simp only[bN,bR]at Y⊢;unfold lk;rw[E.a];simp only[M.a,M.A,HG1.o,dx,bR,Y]
 rfl):p:=h
def Iu(rb:Nat)(s:ByteArray)(bad:Bool)(p g:Int)(w:World)(h:cT w rb s bad)(hs:s.size<=60000):
  Cl 295 #[.pointer (some (Ad rb 0)),.agg #[Iv p,Iv g]] w fun e w'=>RdP w' rb s (dJ bad (lk g) s) jk (fun z=>∃v,z=jk v) e/\w.grownBy w' (some rb):=by
 have J:=h.lt;have Z:=fun(W:World) (O:cT W rb s bad)=>qV rb s bad W O hs
 have X:=(show Hd _ from Aa Z h);clear h Z;go_enter func295,ntmps295
 go_wp2_with fail
 refine bA (X.a _ ((X.A.alloc _).alloc _)) ?_;rintro e T ⟨h1,u⟩;have A:=dZ (aN w (df p g) (.cells iB 73)).1 u ah;have N:=dZ (aN w (df p g) (.cells iB 73)).2 u ah;have g0:=iQ (iQ u);have e1:=(bq.1 A).1;have e2:=(bq.1 N).1;rcases h1 with⟨b,P,o,c,rfl,L⟩|⟨o,rfl,P,c,L⟩;rotate_left
 ·have Tw:=L.lt
  obtain⟨F,y⟩:=ae A;obtain⟨B,y2⟩:=ae N;obtain⟨z1,z2⟩:=ae L;have n1:w.heap.size≠T.heap.size:=ah
  have n2:T.heap.size≠w.heap.size:=ah
  have n3:w.heap.size+1≠T.heap.size:=ah
  have n4:T.heap.size≠w.heap.size+1:=ah
  have n5:rb≠T.heap.size:=ah
  have n6:T.heap.size≠rb:=ah
  have n7:rb≠w.heap.size+1:=ah
  have n8:w.heap.size+1≠rb:=ah
  have E:=(show Hd _ from Aa (QL g o) (Aa L (Aa g0 (Aa A N))));clear L g0 A N o u
  go_wp2_with fail
  have t:=gO (b:=w.heap.size+1) (E.c.trans (cW _ rb 1 (.bool true))) (eC (o:=1) E.b (.bool true)) ah ah (Iv 0) (Iv 0) (Iv 0) (.bool false) (Iv 0) (Iv 0);refine aG (v:=jk ⟨0,0,0,false,0,0⟩) (by simp[results,results295,go_sem,B,jk,e2]) rfl ?_;exact⟨aI ⟨E.a,_,P,⟨_,rfl⟩,rfl,ah,t.1.alloc _⟩,sT t.2 _⟩
 obtain⟨rfl,hl⟩:=K3 o;have aeV:=rR b;have Tw:=L.lt;obtain⟨F,y⟩:=ae A;obtain⟨B,y2⟩:=ae N;obtain⟨z1,z2⟩:=ae L;have n1:w.heap.size≠T.heap.size:=ah
 have n2:T.heap.size≠w.heap.size:=ah
 have n3:w.heap.size+1≠T.heap.size:=ah
 have n4:T.heap.size≠w.heap.size+1:=ah
 have n5:rb≠T.heap.size:=ah
 have n6:T.heap.size≠rb:=ah
 have n7:rb≠w.heap.size+1:=ah
 have n8:w.heap.size+1≠rb:=ah
 have E:=(show Hd _ from Aa hl (Aa L (Aa g0 (Aa A N))));clear hl L g0 A N o u;by_cases U:b.toNat=1
 ·have aew:((b.toNat:Int)==1)=true:=by rw[eJ];omega
  have Rw:=oQ rb P false (T.alloc (Aj b.toNat)) (E.b.alloc _) ah;have HN:=(show Hd _ from Rw);have M:=(show Hd _ from U);clear Rw U
  go_wp2_with fail
  refine bA HN.o ?_;rintro e W2 ⟨O,q⟩;have hv2:=dZ (bf T (Aj b.toNat)) q ah;have j:=dZ ((ch T (Aj b.toNat) _ e2).trans E.D) q ah;obtain⟨u1,u2⟩:=ae hv2;obtain⟨r,G⟩:=ae j;have gg:=E.c.trans (iQ q);clear F y B y2 z1 z2 hv2 j q;rcases O with⟨x,m,d,Rr,rfl,a⟩|⟨d,rfl,m,Rr,a⟩
  ·have C:=(show Hd _ from Aa d (Aa a gg))
   clear d a gg
   go_wp2_with fail
   have t:=gO (b:=w.heap.size+1) (dz (b:=T.heap.size) (o:=1) C.B ah (Iv x)) (C.b.far (b:=T.heap.size) (o:=1) ah (Iv x)) ah ah (Iv b.toNat) (Iv x) (Iv 0) (.bool false) (Iv 0) (Iv 0);refine aG (v:=jk ⟨(b.toNat:Int),x,0,false,0,0⟩) (by simp[results,results295,go_sem,r,jk]) rfl ?_;refine⟨aJ ⟨⟨(b.toNat:Int),x,0,false,0,0⟩,m,?_,ah,rfl,t.1⟩,t.2⟩;have Y:=C.a;unfold dJ at Y⊢;simp only[bN,bR]at Y⊢;unfold lk;rw[E.a];simp only[M.o,dx];rw[Y];rfl
  have C:=(show Hd _ from Aa d (Aa a gg));clear d a gg
  go_wp2_with fail
  have t:=gO (b:=w.heap.size+1) (dz (b:=T.heap.size) (o:=1) C.B ah (Iv 0)) (C.b.far (b:=T.heap.size) (o:=1) ah (Iv 0)) ah ah (Iv b.toNat) (Iv 0) (Iv 0) (.bool false) (Iv 0) (Iv 0);refine aG (v:=jk ⟨(b.toNat:Int),0,0,false,0,0⟩) (by simp[results,results295,go_sem,r,jk]) rfl ?_;refine⟨aI ⟨?_,_,m,⟨_,rfl⟩,rfl,ah,t.1⟩,t.2⟩;have Y:=C.a;unfold dJ at Y⊢;simp only[bN,bR]at Y⊢;unfold lk;rw[E.a];simp only[M.o,dx];rw[Y]
 have aew:((b.toNat:Int)==1)=false:=by rw[er];omega
 by_cases V:b.toNat=2;rotate_left
 ·have aev:((b.toNat:Int)==2)=false:=by rw[er];omega
  go_wp2_with fail
  have t:=gO (b:=w.heap.size+1) (E.c.trans (cW _ rb 1 (.bool true))) (eC (o:=1) E.b (.bool true)) ah ah (Iv b.toNat) (Iv 0) (Iv 0) (.bool false) (Iv 0) (Iv 0);refine aG (v:=jk ⟨(b.toNat:Int),0,0,false,0,0⟩) (by simp[results,results295,go_sem,B,jk,e2]) rfl ?_;refine⟨aI ⟨?_,_,P,⟨_,rfl⟩,rfl,ah,t.1.alloc _⟩,sT t.2 _⟩;unfold dJ lk;rw[E.a];simp[U,V]
 have aev:((b.toNat:Int)==2)=true:=by rw[eJ];omega
 have M:=(show Hd _ from Aa U V);clear U V;cases hL:decide (g=1)with
 |false=>
  have HGN:Hd (¬g=1):=by show ¬g=1;simpa using hL
  go_wp2_with (go_at_call 203;refine(cg _ _ _).mono ?_;rw[hL];rintro e w9 ⟨rfl,rfl⟩)
  have t:=gO (b:=w.heap.size+1) E.c E.b ah ah (Iv b.toNat) (Iv 0) (Iv 0) (.bool false) (Iv 0) (Iv 0);refine aG (v:=jk ⟨(b.toNat:Int),0,0,false,0,0⟩) (by simp[results,results295,go_sem,B,jk,e2,(show w.heap.size+1<T.heap.size+1 by omega),(show w.heap.size<T.heap.size by omega)]) rfl ?_;refine⟨aJ ⟨⟨(b.toNat:Int),0,0,false,0,0⟩,P,?_,ah,rfl,(t.1.alloc _).alloc _⟩,sT (sT t.2 _) _⟩;unfold dJ lk;rw[E.a];simp[M.a,M.A,HGN.o]
 | true=>
  have HG1:Hd (g=1):=by show g=1;simpa using hL
  have YG:=AX rb P false ((T.alloc (Aj b.toNat)).alloc (df p g)) ((E.b.alloc _).alloc _) ah;have HN:=(show Hd _ from YG);clear YG
  go_wp2_with (go_at_call 203;refine(cg _ _ _).mono ?_;rw[hL];rintro e w9 ⟨rfl,rfl⟩)
  refine bA HN.o ?_;rintro e W2 ⟨O,q⟩;have hv2:=dZ ((ch _ (df p g) _ ak).trans (bf T (Aj b.toNat))) q ah;have j:=dZ ((ch _ (df p g) _ (by simp;omega)).trans ((ch T (Aj b.toNat) _ e2).trans E.D)) q ah;obtain⟨u1,u2⟩:=ae hv2;obtain⟨r,G⟩:=ae j;have gg:=E.c.trans (iQ (iQ q));have ni:=(show Hd _ from Aa hv2 j);clear F y B y2 z1 z2 hv2 j q;rcases O with⟨f,m,d,Rr,rfl,a⟩|⟨d,rfl,m,Rr,a⟩;rotate_left
  ·have C:=(show Hd _ from Aa d (Aa a gg))
   clear d a gg
   go_wp2_with fail
   have t:=gO (b:=w.heap.size+1) C.B C.b ah ah (Iv b.toNat) (Iv 0) (Iv 0) (.bool false) (Iv 0) (Iv 0);refine aG (v:=jk ⟨(b.toNat:Int),0,0,false,0,0⟩) (by simp[results,results295,go_sem,r,jk]) rfl ?_;refine⟨aI ⟨?_,_,m,⟨_,rfl⟩,rfl,ah,t.1⟩,t.2⟩;exact Xz
  cases f with
  |false=>
   have C:=(show Hd _ from Aa d (Aa a gg));clear d a gg
   go_wp2_with fail
   have t:=gO (b:=w.heap.size+1) C.B C.b ah ah (Iv b.toNat) (Iv 0) (Iv 0) (.bool false) (Iv 0) (Iv 0);refine aG (v:=jk ⟨(b.toNat:Int),0,0,false,0,0⟩) (by simp[results,results295,go_sem,r,jk]) rfl ?_;refine⟨aJ ⟨⟨(b.toNat:Int),0,0,false,0,0⟩,m,?_,ah,rfl,t.1⟩,t.2⟩;exact Xz
  | true=>
   have Rw:=oQ rb m false (W2.setCell (Ad T.heap.size 3) (.bool true)) (a.far ah _) ah;have C:=(show Hd _ from Aa d (Aa Rw gg));clear d a gg Rw
   go_wp2_with fail
   refine bA C.b ?_;rintro e W3 ⟨K,g4⟩;have hv3:=dZ (eC (o:=3) ni.a (.bool true)) g4 ah;have S:=dZ ((aZ W2 (Ad T.heap.size 3) _ _ (show w.heap.size+1≠T.heap.size by omega)).trans ni.A) g4 ah;have gg:=(dz (b:=T.heap.size) (o:=3) C.B ah (.bool true)).trans g4;have qF:=(show Hd _ from Aa hv3 S);obtain⟨t1,t2⟩:=ae hv3;obtain⟨n,v2⟩:=ae S;clear u1 u2 r G hv3 S g4;rcases K with⟨x,s3,FH,aeo,rfl,a⟩|⟨FH,rfl,s3,aeo,a⟩;rotate_left
   ·have hrk:=pN rb s3 true (W3.setCell (Ad T.heap.size 4) (Iv 0)) (a.far ah _) ah
    have R:=(show Hd _ from Aa FH (Aa hrk gg));clear FH a gg hrk
    go_wp2_with fail
    refine bA R.b ?_;rintro e W4 ⟨H,g5⟩;have hv4:=dZ (eC (o:=4) qF.a (Iv 0)) g5 ah;have Ly:=dZ ((aZ W3 (Ad T.heap.size 4) _ _ (show w.heap.size+1≠T.heap.size by omega)).trans qF.A) g5 ah;have gg:=(dz (b:=T.heap.size) (o:=4) R.B ah (Iv 0)).trans g5;obtain⟨Q,p2⟩:=ae hv4;obtain⟨l,q2⟩:=ae Ly;clear t1 t2 n v2 hv4 Ly g5;rcases H with⟨k,s4,D,i,rfl,a⟩|⟨D,rfl,s4,i,a⟩
    ·cases D
    have I:=(show Hd _ from Aa D (Aa a gg));clear D a gg
    go_wp2_with fail
    have t:=gO (b:=w.heap.size+1) (dz (b:=T.heap.size) (o:=5) I.B ah (Iv 0)) (I.b.far (b:=T.heap.size) (o:=5) ah (Iv 0)) ah ah (Iv b.toNat) (Iv 0) (Iv 0) (.bool true) (Iv 0) (Iv 0);refine aG (v:=jk ⟨(b.toNat:Int),0,0,true,0,0⟩) (by simp[results,results295,go_sem,l,jk]) rfl ?_;refine⟨aI ⟨?_,_,s4,⟨_,rfl⟩,rfl,ah,t.1⟩,t.2⟩;have Y:=C.a;have K:=R.a;unfold dJ at Y K⊢;simp only[bN,bR]at Y K⊢;unfold lk;rw[E.a];simp only[M.a,M.A,HG1.o,dx,bR,Y];unfold ui;rw[K];rfl
   have hrk:=pN rb s3 false (W3.setCell (Ad T.heap.size 4) (Iv x)) (a.far ah _) ah;have R:=(show Hd _ from Aa FH (Aa hrk gg));clear FH a gg hrk
   go_wp2_with fail
   refine bA R.b ?_;rintro e W4 ⟨H,g5⟩;have hv4:=dZ (eC (o:=4) qF.a (Iv x)) g5 ah;have Ly:=dZ ((aZ W3 (Ad T.heap.size 4) _ _ (show w.heap.size+1≠T.heap.size by omega)).trans qF.A) g5 ah;have gg:=(dz (b:=T.heap.size) (o:=4) R.B ah (Iv x)).trans g5;obtain⟨Q,p2⟩:=ae hv4;obtain⟨l,q2⟩:=ae Ly;clear t1 t2 n v2 hv4 Ly g5;rcases H with⟨k,s4,D,i,rfl,a⟩|⟨D,rfl,s4,i,a⟩
   ·have I:=(show Hd _ from Aa D (Aa a gg))
    clear D a gg
    go_wp2_with fail
    have t:=gO (b:=w.heap.size+1) (dz (b:=T.heap.size) (o:=5) I.B ah (Iv k)) (I.b.far (b:=T.heap.size) (o:=5) ah (Iv k)) ah ah (Iv b.toNat) (Iv 0) (Iv 0) (.bool true) (Iv x) (Iv k);refine aG (v:=jk ⟨(b.toNat:Int),0,0,true,x,(k:Int)⟩) (by simp[results,results295,go_sem,l,jk]) rfl ?_;refine⟨aJ ⟨⟨(b.toNat:Int),0,0,true,x,(k:Int)⟩,s4,?_,ah,rfl,t.1⟩,t.2⟩;exact XA
   have I:=(show Hd _ from Aa D (Aa a gg));clear D a gg
   go_wp2_with fail
   have t:=gO (b:=w.heap.size+1) (dz (b:=T.heap.size) (o:=5) I.B ah (Iv 0)) (I.b.far (b:=T.heap.size) (o:=5) ah (Iv 0)) ah ah (Iv b.toNat) (Iv 0) (Iv 0) (.bool true) (Iv x) (Iv 0);refine aG (v:=jk ⟨(b.toNat:Int),0,0,true,x,0⟩) (by simp[results,results295,go_sem,l,jk]) rfl ?_;refine⟨aI ⟨?_,_,s4,⟨_,rfl⟩,rfl,ah,t.1⟩,t.2⟩;exact XA
end
section
variable {σ:Type}
open Go.RowKit Go.Proofs Go.Maps Tryz
def DX:Vl:=⟨0,0,0,false,0,0⟩
def DZ(a b:List Vl):ie (a++b)=ie a++ie b:=by simp[ie]
def DY(vs:List Vl)(k j:Nat)(v:Vl)(h:vs[k]?=some v)(hj:j<6):(ie vs)[k*6+j]?=(iD v)[j]?:=by
 have G:(iD v)[j]?=some ((iD v)[j]'(by simp[iD];omega)):=bk _;rw[G];exact BV _ k v h j _ G
def set_mid{α:Type}(a l:List α)(m i:Nat)(x:α)(h:a.length=m):(a++l).set (m+i) x=a++l.set i x:=by
 rw[ou _ _ ah]
 congr 2
 omega
def Nc(n:Nat):(madeCells (Value.agg iB).cells (n*6)).toList=ie (List.replicate n DX):=by
 rw[show(Value.agg iB).cells=iB from rfl];apply dW;intro j;by_cases U:j<n*6;rotate_left
 ·rw[bU (by simp[madeCells];omega),bU (by rw[xo];simp;omega)]
 have G:(ie (List.replicate n DX))[j / 6*6+j % 6]?=(iD DX)[j % 6]?:=DY _ (j / 6) (j % 6) DX (by rw[mD,aD ah]) ah;rw[show j / 6*6+j % 6=j by omega]at G;rw[G];have E:j % 6<6:=DN _ ah;simp only[madeCells,BD,BA,bG,jX U,kI];show some iB[j % 6]! = _;generalize j % 6=r at E;have:r=0∨r=1∨r=2∨r=3∨r=4∨r=5:=ah
 rcases this with rfl|rfl|rfl|rfl|rfl|rfl<;>rfl
def aaV(M:List Vl)(n k:Nat)(x:Vl)(hk:M.length=k)(hn:k<n):
  ((((((ie (M++List.replicate (n-k) DX)).set (k*6) (Iv x.kind)).set (k*6+1) (Iv x.lo)).set (k*6+2) (Iv x.hi)).set (k*6+3) (.bool x.early)).set (k*6+4) (Iv x.first)).set (k*6+5) (Iv x.rank)=ie ((M++[x])++List.replicate (n-(k+1)) DX):=by
 have hl:=xo M;rw[hk]at hl;rw[show n-k=(n-(k+1))+1 by omega,dN];simp only[DZ,dj];rw[show ie (DX :: List.replicate (n-(k+1)) DX)=iD DX++ie (List.replicate (n-(k+1)) DX)from rfl,show ie [x]=iD x by simp[ie]];generalize ie (List.replicate (n-(k+1)) DX)=r;generalize ie M=a at hl;generalize k*6=m at hl;have S:∀(l:List Value) (y:Value),(a++l).set m y=a++l.set 0 y:=fun l y=>set_mid a l m 0 y hl
 rw[S,set_mid _ _ _ _ _ hl,set_mid _ _ _ _ _ hl,set_mid _ _ _ _ _ hl,set_mid _ _ _ _ _ hl,set_mid _ _ _ _ _ hl];rfl
def jY(M:List Vl)(n k j:Nat)(hk:M.length=k)(hn:k<n)(hj:j<6):(ie (M++List.replicate (n-k) DX))[k*6+j]?=(iD DX)[j]?:=by
 exact DY _ k j DX (by rw[fC ah,hk,jh,mD,aD ah]) hj
def S!(w W':World)(rb n:Nat)(s:ByteArray)(bad:Bool)(step:σ->List UInt8->Option ((Vl×σ)×List UInt8))(st:σ)(Inv:World->σ->Prop)(fW:World->Prop)(e:Ending):Prop:=
  ((∃xs Mm s' la lc,dJ bad (bI step n st) s=some ((xs,Mm),s'.data.toList)/\s'.size<=s.size/\e=.returned (.slice la n lc)/\(la=none->lc=0)/\W'.ownsRow w.heap.size 73 6 (.slice la n lc) n (ie xs)/\cT W' rb s' false/\Inv W' Mm)∨
   ((bad=true∨dJ bad (bI step n st) s=none)/\e=.returned (.slice none 0 0)/\∃s',s'.size<=s.size/\cT W' rb s' true/\fW W'))
def IA(step:σ->List UInt8->Option ((Vl×σ)×List UInt8))(Inv:World->σ->Prop)(fW:World->Prop)(Own:Nat->Prop)(fb xb rb n:Nat)(s:ByteArray)(bad:Bool)(st:σ)(w:World)
  (G:∀(W:World) (st:σ) (s:ByteArray) (bad:Bool),Inv W st->cT W rb s bad->s.size<=60000->Cl 293 (nk fb xb) W fun e i=>Ou i rb s (dJ bad (step st) s) jk (fun z=>∃x,z=jk x) Inv fW e/\Fr (fun j=>j≠rb/\¬Own j) W i)
  (hinv:∀(W i:World) (st:σ),Inv W st->(∀j,Own j->i.heap[j]?=W.heap[j]?)->Inv i st) (Ba:∀(W i:World),fW W->(∀j,Own j->i.heap[j]?=W.heap[j]?)->fW i) (hIB:∀W st,Inv W st->fW W) (p:∀j,Own j->j<w.heap.size) (h:cT w rb s bad) (hi:Inv w st) (hs:s.size<=60000) (hn:n<=100000000):
  Cl 292 #[.pointer (some (Ad rb 0)),Iv n,.func (.func 293) #[] (nk fb xb)] w fun e i=>
   S! w i rb n s bad step st Inv fW e/\Fr (fun j=>j≠rb/\¬Own j) w i:=by
 have J:rb<w.heap.size:=(bq.1 h).1;have l:=(show Hd _ from Aa G (Aa hinv (Aa p (Aa h hi))));have HB:=(show Hd _ from Aa Ba hIB);clear G hinv p h hi Ba hIB;by_cases h0:n=0
 ·subst h0
  go_enter func292,ntmps292
  go_wp2_with fail
  go_ret
  refine⟨?_,Fr.refl _ _⟩;cases bad with
  |false=>exact aJ ⟨[],st,s,none,0,rfl,aF _,rfl,fun _=>rfl,dF _ _ _ _,l.d,l.D⟩
  |true=>exact aI ⟨aJ rfl,rfl,s,aF _,l.d,HB.A _ _ l.D⟩
 obtain⟨i1,hi,D,O,K⟩:=cY aaw;have HI:=(show Hd _ from Aa hi (Aa D (Aa O K)));clear hi D O K;have hn0:((n:Int)==0)=false:=by rw[er];omega
 go_enter func292,ntmps292
 go_wp2_with (at_make;refine il _ rfl (.tmp 11) (.tmp 11) 71 rfl w.heap.size 73 i1 (.agg iB) 6 underlying71 HI.a HI.b HI.c .i64 .i64 n n n rfl rfl rfl rfl (by rw[HI.C];omega) (by unfold maxLen;omega) ak ?_;intro T h! Y;have E:=(show Hd _ from Aa h! Y);clear h! Y)
 have H:Hd (T.ownsRow w.heap.size 73 6 (b? w.heap.size n) n (ie (([]:List Vl)++List.replicate (n-0) DX))/\cT T rb s bad/\Inv T st/\Fr (fun j=>j≠rb/\¬Own j) w T):=by
  obtain⟨h1,g1⟩:=E.o;rw[Nc]at h1;refine⟨by simpa using h1,l.d.grown g1 ak,l.b w T st l.D (fun j U=>g1.block j (l.c j U) ak),Fr.dr g1 (fun k _ _=>ak)⟩
 clear E
 go_loopw[15] (fun iv wr=>∃(k:Nat) (M:List Vl) (b:σ) (m:ByteArray),k<=n/\iv=Iv k/\m.size<=s.size/\Hd (M.length=k)/\Hd (bI step k st s.data.toList=some ((M,b),m.data.toList)/\(0<k->bad=false))/\Hd (wr.ownsRow w.heap.size 73 6 (b? w.heap.size n) n (ie (M++List.replicate (n-k) DX))/\cT wr rb m (if k=0 then bad else false)/\Inv wr b/\Fr (fun j=>j≠rb/\¬Own j) w wr)) (fun iv _=>n-(intOf iv).toNat)
 case atStart=>exact⟨0,[],st,s,bB _,rfl,aF _,rfl,⟨rfl,(fun h=>ah)⟩,H.a,H.b,H.c,H.C⟩
 clear H;obtain⟨k,M,b,m,X,rfl,Ys,f,I,d⟩:=hrel;by_cases J:k<n;rotate_left
 ·obtain rfl:k=n:=ah
  have ig:¬(k:Int)<k:=ah
  have HE:Hd (dJ bad (bI step k st) s=some ((M,b),m.data.toList)):=by
   show _=_;rw[I.A ah];exact I.a
  go_wp2_with fail
  go_ret
  refine⟨aJ ⟨M,b,m,some (Ad w.heap.size 0),k,HE.o,Ys,rfl,(fun h=>by cases h),?_,?_,d.c⟩,d.C⟩
  ·have:=d.a
   simpa using this
  have:=d.b
  rwa[aA h0]at this
 have ig:(k:Int)<n:=ah
 have Z:=l.a wr b m (if k=0 then bad else false) d.c d.b ah;have HC:=(show Hd _ from Z);clear Z
 go_wp2_with fail
 refine bA HC.o ?_;rintro e r ⟨h2,f2⟩;have u:=f2.own d.a (fun q A=>by simp[Value.ownBlock]at A;subst A;exact⟨ah,fun g=>by have:=l.c _ g;omega⟩);have V:=d.C.trans f2 (fun q _ A=>A);rcases h2 with⟨x,c,s3,o,oZ,rfl,L,ki⟩|⟨o,v,s3,⟨x,rfl⟩,rfl,oZ,L,ki⟩
 ·simp only[jk]
  have ux:=u.stored (k*6) (Iv x.kind);have rA:=ux.1.stored (k*6+1) (Iv x.lo);have ry:=rA.1.stored (k*6+2) (Iv x.hi);have ru:=ry.1.stored (k*6+3) (.bool x.early);have Jk:=ru.1.stored (k*6+4) (Iv x.first);have Jj:=Jk.1.stored (k*6+5) (Iv x.rank);have t:=Aa Jj.1 (((((ux.2.trans rA.2).trans ry.2).trans ru.2).trans Jk.2).trans Jj.2);clear ux rA ry ru Jk Jj;rw[aaV M n k x f.o J]at t;have FL:e' r w.heap.size (k*6) (Iv 0):=(u.cellAt (k*6+0) ah).trans (jY M n k 0 f.o J ah);have YD:e' r w.heap.size (k*6+1) (Iv 0):=(u.cellAt (k*6+1) ah).trans (jY M n k 1 f.o J ah);have hk3:e' r w.heap.size (k*6+2) (Iv 0):=(u.cellAt (k*6+2) ah).trans (jY M n k 2 f.o J ah);have Vv:e' r w.heap.size (k*6+3) (.bool false):=(u.cellAt (k*6+3) ah).trans (jY M n k 3 f.o J ah);have Vu:e' r w.heap.size (k*6+4) (Iv 0):=(u.cellAt (k*6+4) ah).trans (jY M n k 4 f.o J ah);have FK:e' r w.heap.size (k*6+5) (Iv 0):=(u.cellAt (k*6+5) ah).trans (jY M n k 5 f.o J ah);have hfz:=u.frozenAt;have N:=L.grown t.2 (by simp;omega);have R:=l.b r _ c ki (fun j U=>t.2.block j (by have:=l.c j U;have:=d.C.size;have:=f2.size;omega) (by have:=l.c j U;simp;omega));have RD:=V.grown t.2 (fun q A _=>by simp;omega);obtain⟨F,y⟩:=ae N;have sQ:(if k=0 then bad else false)=false/\step b m.data.toList=some ((x,c),s3.data.toList):=by
   generalize(if k=0 then bad else false)=bb at o;cases bb with
   |true=>cases o
   |false=>exact⟨rfl,o⟩
  have C:=(show Hd _ from Aa sQ (Aa t.1 (Aa N (Aa R RD))));clear sQ t N R RD o L ki u V f2
  go_wp2_with fail
  refine⟨⟨k+1,M++[x],c,s3,ah,h',ah,by show _=_;rw[bu,f.o];rfl,⟨?_,fun _=>?_⟩,C.b,?_,C.d,C.D⟩,by simp[intOf];omega⟩
  ·rw[fG,I.a]
   simp only;rw[C.a.2]
  ·by_cases hk0:k=0
   ·have:=C.a.1
    rwa[aD hk0]at this
   exact I.A ah
  rw[aA ah];exact C.c
 simp only[jk];have ux:=u.stored (k*6) (Iv x.kind);have rA:=ux.1.stored (k*6+1) (Iv x.lo);have ry:=rA.1.stored (k*6+2) (Iv x.hi);have ru:=ry.1.stored (k*6+3) (.bool x.early);have Jk:=ru.1.stored (k*6+4) (Iv x.first);have Jj:=Jk.1.stored (k*6+5) (Iv x.rank);have t:=Aa Jj.1 (((((ux.2.trans rA.2).trans ry.2).trans ru.2).trans Jk.2).trans Jj.2);clear ux rA ry ru Jk Jj;have FL:e' r w.heap.size (k*6) (Iv 0):=(u.cellAt (k*6+0) ah).trans (jY M n k 0 f.o J ah);have YD:e' r w.heap.size (k*6+1) (Iv 0):=(u.cellAt (k*6+1) ah).trans (jY M n k 1 f.o J ah);have hk3:e' r w.heap.size (k*6+2) (Iv 0):=(u.cellAt (k*6+2) ah).trans (jY M n k 2 f.o J ah);have Vv:e' r w.heap.size (k*6+3) (.bool false):=(u.cellAt (k*6+3) ah).trans (jY M n k 3 f.o J ah);have Vu:e' r w.heap.size (k*6+4) (Iv 0):=(u.cellAt (k*6+4) ah).trans (jY M n k 4 f.o J ah);have FK:e' r w.heap.size (k*6+5) (Iv 0):=(u.cellAt (k*6+5) ah).trans (jY M n k 5 f.o J ah);have hfz:=u.frozenAt;have N:=L.grown t.2 (by simp;omega);have R:=HB.a r _ ki (fun j U=>t.2.block j (by have:=l.c j U;have:=d.C.size;have:=f2.size;omega) (by have:=l.c j U;simp;omega));have RD:=V.grown t.2 (fun q A _=>by simp;omega);obtain⟨F,y⟩:=ae N;have B:dJ bad (bI step n st) s=none:=by
  unfold dJ;cases NR:bad with
  |true=>rfl
  | false=>
   simp only[bN,bR];have sQ:step b m.data.toList=none:=by
    rw[NR]at o
    simpa[dJ]using o
   refine qO step (k:=k+1) ?_ ah;rw[fG,I.a];simp only;rw[sQ]
 have C:=(show Hd _ from Aa B (Aa N (Aa R RD)));clear B t N R RD o L ki u V f2
 go_wp2_with fail
 go_ret
 exact⟨aI ⟨aI C.a,rfl,s3,ah,C.b,C.c⟩,C.C⟩
end
section
variable {g p r:Int} {n:Nd} {v:Vl}
open Go.RowKit Go.Proofs Go.Maps Tryz
def Bi:∀(fs:List Int) (U:Int),0<=U->cw U fs=true->∀x∈c! U fs,0<=x/\x<=100000
 |[],_,_,_,x,hx=>by simp[c!]at hx
 |f :: r,U,o,h,x,hx=>by
  simp[cw]at h;obtain⟨⟨G,O⟩,Y⟩:=h;simp[c!]at hx;rcases hx with rfl|hx
  ·omega
  exact Bi r (f+1) ah Y x hx
def qd{x:Int}(h:x<=100000):(cO x).length<=10:=gB ah
def nM:∀(fs:List Int) (U:Int),(c! U fs).length=fs.length
 |[],_=>rfl
 |_ :: r,_=>by simp[c!,nM r]
def oS(h:eO g n=true):cw 0 n.facts=true/\ey g n.aO n.facts.length=true:=by
 unfold eO at h;simp only[aS]at h;exact⟨h.1.2,h.2⟩
def AH(h:eO g n=true):∀r∈n.aO,0<=r/\r<=100000:=by
 intro r L;have O:=(oS h).2;unfold ey at O;split at O
 ·simp only[aS,bM]at O
  have:=O.2 r L;simp[rk]at this;omega
 rw[jI]at O;rw[O]at L;cases L
def AG(h:eO g n=true):n.aO.length<=n.facts.length:=by
 have O:=(oS h).2;unfold ey at O;split at O
 ·simp only[aS,bm]at O
  omega
 rw[jI]at O;rw[O];simp
def lJ(h:eO g n=true):cw 0 n.facts=true:=by
 exact(oS h).1
def Ui(h:eO g n=true):(setB n).length<=2100000:=by
 have G:=pI (lJ h);have O:=AG h;have Y:=sU cO 10 (c! 0 n.facts) (fun x E=>qd (Bi _ 0 ah (lJ h) x E).2);have K:=sU cO 10 n.aO (fun x E=>qd (AH h x E).2);have H:=@gB n.facts.length ah;rw[nM]at Y;simp only[setB,bu];omega
def kG{α:Type}(f:α->List UInt8)(l:List α)(k:Nat)(x:α)(h:l[k]?=some x):(l.drop k).flatMap f=f x++(l.drop (k+1)).flatMap f:=by
 have hl:=bn.1 h;rw[oC hl.1,hl.2];simp
def vk{fl:Int}{fs:List Int}{k:Nat}{f:Int}(h:fs[k]?=some f):c! fl (fs.drop k)=(f-fl) :: c! (f+1) (fs.drop (k+1)):=by
 have hl:=bn.1 h;rw[oC hl.1,hl.2];rfl
def Uh(B b:Nat)(l:List UInt8)(g:Int)(fa ra va:Option Addr)(fc rc vc:Nat)(n:Nd)(w:World)(h:Wr w B b l)(hf:∀W,Below B w W->cz W fa n.facts)(hr:∀W,Below B w W->cz W ra n.aO)(u:eO g n=true)(hlen:l.length+3000000<=140737488355328):
  Cl 135 #[.pointer (some (Ad b 0)),.agg #[.slice fa n.facts.length fc,.slice ra n.aO.length rc,.bool n.reached,Iv n.rank,.slice va n.vals.length vc]] w fun e I=>e=.returned (.tuple #[])/\eh w I B b (l++setB n):=by
 have c:=Ui u;have N:=pI (lJ u);have P:=AG u;have D:Hd ((∀W,Below B w W->cz W fa n.facts)/\(∀W,Below B w W->cz W ra n.aO)):=⟨hf,hr⟩;have M:Hd (cw 0 n.facts=true/\∀r∈n.aO,0<=r/\r<=100000):=⟨lJ u,AH u⟩;have H:=(show Hd _ from h.wrote.alloc (.cells #[.slice fa n.facts.length fc,.slice ra n.aO.length rc,.bool n.reached,Iv n.rank,.slice va n.vals.length vc] 96));have Z:Hd ((l++setB n).length<=140737488355328):=by show _<=_;simp only[bu];omega
 clear h hf hr u;go_enter func135,ntmps135
 go_wp2_with (go_at_call 86;refine(gW B b l n.facts.length _ H.o.wr ah ah (by have:=@gB n.facts.length ah;simp only[bu,cO,Int.toNat_natCast];omega)).mono ?_;rintro e T ⟨rfl,G⟩;have L:=G.box H.o.wr (bf w _) aj aj;obtain⟨F,y⟩:=ae L;have p:=(show Hd _ from Aa G L);clear G L)
 clear F y
 go_loopw[4,17] (fun U i wr=>∃(k:Nat) (f:Int) (q:List UInt8),k<=n.facts.length/\i=Iv k/\U=Iv f/\0<=f/\f<=100001/\Hd (cw f (n.facts.drop k)=true)/\Hd (q++((c! f (n.facts.drop k)).flatMap cO++n.aO.flatMap cO)=l++setB n)/\Hd (eh w wr B b q/\wr.heap[w.heap.size]?=some (.cells #[.slice fa n.facts.length fc,.slice ra n.aO.length rc,.bool n.reached,Iv n.rank,.slice va n.vals.length vc] 96 (0,0)))) (fun _ i _=>n.facts.length-(intOf i).toNat)
 case atStart=>
  refine⟨0,0,l++cO n.facts.length,bB _,rfl,rfl,ah,ah,M.a,?_,H.o.trans p.a,p.A⟩;show _=_;simp[setB,cO]
 clear H p;obtain⟨k,U,q,hk,rfl,rfl,t,Q,X,K,d⟩:=hrel;obtain⟨F,y⟩:=ae d.A;by_cases J:k<n.facts.length
 ·have s:(k:Int)<(n.facts.length:Int):=ah
  obtain⟨x,E⟩:=La J;obtain⟨R,v,rfl,Y⟩:=D.a wr d.a.below k x E;have m:=X.o;rw[qQ E]at m;simp only[aS,bm]at m;obtain⟨⟨z,j⟩,S⟩:=m;have A:(q++cO (x-U)).length<=140737488355328:=by
   have G:=dv List.length K.o;have O:=Z.o;rw[vk E]at G;simp only[bY,bu]at G O⊢;omega
  have o:Hd (n.facts[k]?=some x/\cw (x+1) (n.facts.drop (k+1))=true/\(q++cO (x-U)).length<=140737488355328):=⟨E,S,A⟩;clear E S A
  go_wp2_with (go_at_call 86;refine(gW B b q (x-U) _ d.a.wr ah ah o.B).mono ?_;rintro e W2 ⟨rfl,O⟩;have C:=(show Hd _ from O);clear O)
  refine⟨⟨k+1,x+1,q++cO (x-U),ah,h',h',ah,ah,o.b,?_,d.a.trans C.o,C.o.box d.a.wr d.A aj aj⟩,by simp[intOf];omega⟩;show _=_;rw[<-K.o,vk o.a];simp
 obtain rfl:k=n.facts.length:=ah
 have s:¬(n.facts.length:Int)<(n.facts.length:Int):=ah
 have A:=K.o;rw[BL]at A;simp only[c!,wV,dT]at A;have a:=(show Hd _ from A);clear A K X
 go_wp2_with fail
 clear F y
 go_loopw[32] (fun i V=>∃(k:Nat) (q:List UInt8),k<=n.aO.length/\i=Iv k/\Hd (q++(n.aO.drop k).flatMap cO=l++setB n)/\Hd (eh w V B b q)) (fun i _=>n.aO.length-(intOf i).toNat)
 case atStart=>exact⟨0,q,bB _,rfl,by simpa using a,d.a⟩
 clear d a;obtain⟨k,q,hk,rfl,K,d⟩:=hrel;by_cases J:k<n.aO.length;rotate_left
 ·obtain rfl:k=n.aO.length:=ah
  have s:¬(n.aO.length:Int)<(n.aO.length:Int):=ah
  have A:=K.o;rw[BL]at A;simp only[wV,gi]at A
  go_wp2_with fail
  go_end0
  exact⟨rfl,by rw[<-A];exact d.o⟩
 have s:(k:Int)<(n.aO.length:Int):=ah
 obtain⟨x,E⟩:=La J;obtain⟨R,v,rfl,Y⟩:=D.A _ d.o.below k x E;obtain⟨z,j⟩:=M.A x (aL E);have A:(q++cO x).length<=140737488355328:=by
  have G:=dv List.length K.o;have O:=Z.o;rw[kG cO n.aO k x E]at G;simp only[bu]at G O⊢;omega
 have o:Hd (n.aO[k]?=some x/\(q++cO x).length<=140737488355328):=⟨E,A⟩;clear E A
 go_wp2_with (go_at_call 86;refine(gW B b q x _ d.o.wr ah ah o.A).mono ?_;rintro e W2 ⟨rfl,O⟩;have C:=(show Hd _ from O);clear O)
 refine⟨⟨k+1,q++cO x,ah,h',?_,d.o.trans C.o⟩,by simp[intOf];omega⟩;show _=_;rw[<-K.o,kG cO n.aO k x o.a];simp
def u!(h:eF p g n=true):n.vals.length<=8/\0<=n.rank/\n.rank<=100000/\∀v∈n.vals,ew p g n.rank v=true:=by
 unfold eF at h;simp only[aS,bm,bM,rk]at h;exact⟨h.1.1.1.2,h.1.1.2.1,h.1.1.2.2,h.2⟩
def T8(h:ew p g r v=true)(hv:za v):(eN p g v).length<=40:=by
 have G:=xB hv.lo;have O:=xB hv.first
 unfold eN;split
 ·have hd:(v.hi-v.lo).toNat<18446744073709551616:=by obtain⟨a1,a2⟩:=hv.lo;obtain⟨u,x⟩:=hv.hi;omega
  have:=gB hd;simp only[bu];omega
 split
 ·simp only[bT];omega
 split
 ·split
  ·have Y:(cO v.rank).length<=10:=gB (by obtain⟨a1,a2⟩:=hv.rank;omega)
   simp only[bT,bu];omega
  simp
 simp
def VY(h:eF p g n=true)(hn:gD n):(nL p g n).length<=400:=by
 obtain⟨G,O,Y,K⟩:=u! h;have H:=sU (eN p g) 40 n.vals (fun v t=>T8 (K v t) (hn.vals v t));have E:=@gB n.vals.length ah;have U:=qd Y;unfold nL;split<;>simp only[bu,eI]<;>omega
def M0(h:ew 6 g r v=true):v.lo<=v.hi:=by
 unfold ew at h;simp at h;exact h.2
def XF{p:Prop}(h:p:=by
 obtain⟨k,q,hk,rfl,K,d⟩:=hrel;obtain⟨F,y⟩:=ae d.A;have Q:=(bq.1 d.A).1;by_cases J:k<n.vals.length;rotate_left
 ·obtain rfl:k=n.vals.length:=ah
  have s:¬(n.vals.length:Int)<(n.vals.length:Int):=ah
  have A:=K.o;rw[BL]at A;simp only[wV,gi]at A
  go_wp2_with fail
  go_end0
  exact⟨rfl,by rw[<-A];exact d.a⟩
 have s:(k:Int)<(n.vals.length:Int):=ah
 obtain⟨v,t⟩:=La J;obtain⟨b1,o1,rfl,P,Y,c2,X,c4,c5⟩:=D.a wr d.a.below k v t;have M:=D.A v (aL t);have A:q.length+100<=140737488355328:=by
  have G:=dv List.length K.o;have O:=Z.o;simp only[bu]at G O⊢;omega
 have f:=(show Hd _ from Aa t (Aa M (d.a.alloc (.cells (iy v.kind v.lo v.hi v.early v.first v.rank) 73))));clear t M;by_cases U:p=6
 ·subst U
  go_wp2_with (go_at_call 204;refine(JO B b q v _ f.B.wr f.b.2 (M0 f.b.1) A).mono ?_;rintro e r ⟨rfl,O⟩;have C:=(show Hd _ from O);clear O)
  refine⟨⟨k+1,q++(zp v.lo++ik (v.hi-v.lo).toNat),ah,h',?_,f.B.trans C.o,C.o.box f.B.wr ((ch _ _ _ Q).trans d.A) aj aj⟩,by simp[intOf];omega⟩;show _=_;rw[<-K.o,kG (eN 6 g) n.vals k v f.a];simp[eN]
 go_wp2_with (go_at_call 205;refine(Hg B b q p g n.rank v _ f.B.wr f.b.2 f.b.1 U z A).mono ?_;rintro e r ⟨rfl,O⟩;have C:=(show Hd _ from O);clear O)
 refine⟨⟨k+1,q++eN p g v,ah,h',?_,f.B.trans C.o,C.o.box f.B.wr ((ch _ _ _ Q).trans d.A) aj aj⟩,by simp[intOf];omega⟩;show _=_;rw[<-K.o,kG (eN p g) n.vals k v f.a]
 simp):p:=h
def vG(B b:Nat)(l:List UInt8)(p g:Int)(fa ra va:Option Addr)(fc rc vc:Nat)(n:Nd)(w:World)(h:Wr w B b l)(hv:∀W,Below B w W->jA W va n.vals)(hn:gD n)(u:eF p g n=true)(hlen:l.length+3000000<=140737488355328):
  Cl 137 #[.pointer (some (Ad b 0)),.agg #[Iv p,Iv g],.agg #[.slice fa n.facts.length fc,.slice ra n.aO.length rc,.bool n.reached,Iv n.rank,.slice va n.vals.length vc]] w fun e I=>e=.returned (.tuple #[])/\eh w I B b (l++nL p g n):=by
 have c:=VY u hn;obtain⟨h8,z,j,a⟩:=u! u;have D:Hd ((∀W,Below B w W->jA W va n.vals)/\(∀v∈n.vals,ew p g n.rank v=true/\za v)):=⟨hv,fun v M=>⟨a v M,hn.vals v M⟩⟩;have H:=(show Hd _ from(h.wrote.alloc (df p g)).alloc (.cells #[.slice fa n.facts.length fc,.slice ra n.aO.length rc,.bool n.reached,Iv n.rank,.slice va n.vals.length vc] 96));have Z:Hd ((l++nL p g n).length<=l.length+400):=by show _<=_;simp only[bu];omega
 have HC:Hd ((cO n.rank).length<=10/\(cO n.vals.length).length<=10):=⟨qd j,qd ah⟩;clear h hv hn u a;cases N:decide (g=1)with
 | true=>
  have HE:Hd (nL p g n=cO n.rank++(cO n.vals.length++n.vals.flatMap (eN p g))):=by
   show _=_;have m:g=1:=by simpa using N
   simp[nL,m,cO]
  go_enter func137,ntmps137;have x:((w.alloc (df p g)).alloc (.cells #[.slice fa n.facts.length fc,.slice ra n.aO.length rc,.bool n.reached,Iv n.rank,.slice va n.vals.length vc] 96)).heap.size=w.heap.size+2:=ak
  go_wp2_with (first
   |(go_at_call 203;refine(cg _ _ _).mono ?_;rw[N];rintro e S ⟨rfl,rfl⟩)
   |(go_at_call 86;refine(gW B b (l++cO n.rank) n.vals.length _ E.a.wr ah ah (by have:=HC.a;have:=HC.A;simp only[bu];omega)).mono ?_;clear F y V o;rintro e r ⟨rfl,O⟩;have L:=O.box E.a.wr (E.b) aj aj;have R:=O.box E.a.wr (E.B) aj aj;obtain⟨F,y⟩:=ae L;obtain⟨V,o⟩:=ae R;have C:=(show Hd _ from Aa O (Aa L R));clear O L R)
   |(go_at_call 86;refine(gW B b l n.rank _ (H.o.wr.alloc _) z ah (by have:=HC.a;simp only[bu];omega)).mono ?_;rintro e T ⟨rfl,G⟩;have L:=G.box (H.o.wr.alloc _) ((ch _ _ _ (by simp;omega)).trans (aN w _ _).1) aj aj;have R:=G.box (H.o.wr.alloc _) ((ch _ _ _ ak).trans (aN w _ _).2) aj aj;obtain⟨F,y⟩:=ae L;obtain⟨V,o⟩:=ae R;have E:=(show Hd _ from Aa G (Aa L R));clear G L R))
  clear x;clear F y V o N
  go_loopw[22] (fun i wr=>∃(k:Nat) (q:List UInt8),k<=n.vals.length/\i=Iv k/\Hd (q++(n.vals.drop k).flatMap (eN p g)=l++nL p g n)/\Hd (eh w wr B b q/\wr.heap[w.heap.size]?=some (nU p g))) (fun i _=>n.vals.length-(intOf i).toNat)
  case atStart=>
   refine⟨0,l++cO n.rank++cO n.vals.length,bB _,rfl,?_,((H.o.alloc _).trans E.a).trans C.a,C.b⟩;show _=_;rw[HE.o];simp
  clear H E C;exact XF
 | false=>
  have HE:Hd (nL p g n=cO n.vals.length++n.vals.flatMap (eN p g)):=by
   show _=_;have m:¬g=1:=by simpa using N
   simp[nL,m,cO]
  go_enter func137,ntmps137;have x:((w.alloc (df p g)).alloc (.cells #[.slice fa n.facts.length fc,.slice ra n.aO.length rc,.bool n.reached,Iv n.rank,.slice va n.vals.length vc] 96)).heap.size=w.heap.size+2:=ak
  go_wp2_with (first
   |(go_at_call 203;refine(cg _ _ _).mono ?_;rw[N];rintro e S ⟨rfl,rfl⟩)
   |(go_at_call 86;refine(gW B b l n.vals.length _ (H.o.wr.alloc _) ah ah (by have:=HC.A;simp only[bu];omega)).mono ?_;rintro e T ⟨rfl,G⟩;have L:=G.box (H.o.wr.alloc _) ((ch _ _ _ (by simp;omega)).trans (aN w _ _).1) aj aj;have R:=G.box (H.o.wr.alloc _) ((ch _ _ _ ak).trans (aN w _ _).2) aj aj;obtain⟨F,y⟩:=ae L;obtain⟨V,o⟩:=ae R;have E:=(show Hd _ from Aa G (Aa L R));clear G L R))
  clear x;clear F y V o N
  go_loopw[22] (fun i wr=>∃(k:Nat) (q:List UInt8),k<=n.vals.length/\i=Iv k/\Hd (q++(n.vals.drop k).flatMap (eN p g)=l++nL p g n)/\Hd (eh w wr B b q/\wr.heap[w.heap.size]?=some (nU p g))) (fun i _=>n.vals.length-(intOf i).toNat)
  case atStart=>
   refine⟨0,l++cO n.vals.length,bB _,rfl,?_,(H.o.alloc _).trans E.a,E.b⟩;show _=_;rw[HE.o];simp
  clear H E;exact XF
end
section
variable {B:Nat} {w:World} {c:Ct}
open Go.RowKit Go.Proofs Go.Maps Tryz
def S3{u v:World}(h:Below B u v)(k:Below B v w):Below B u w:=h.trans k
def E4(B b:Nat)(l:List UInt8)(p g:Int)(fa ra va:Option Addr)(fc rc vc:Nat)(n:Nd)(w:World)(h:Wr w B b l)(d:∀W,Below B w W->rJ W fa ra va fc rc vc n)(hn:gD n)(u:cy p g n=true)(hlen:l.length+4000000<=140737488355328):
  Cl 87 #[.pointer (some (Ad b 0)),.agg #[Iv p,Iv g],.agg #[.slice fa n.facts.length fc,.slice ra n.aO.length rc,.bool n.reached,Iv n.rank,.slice va n.vals.length vc]] w fun e I=>e=.returned (.tuple #[])/\eh w I B b (l++di p g n):=by
 have H:=(show Hd _ from(h.wrote.alloc (df p g)).alloc (.cells #[.slice fa n.facts.length fc,.slice ra n.aO.length rc,.bool n.reached,Iv n.rank,.slice va n.vals.length vc] 96));have f:Hd ((∀W,Below B w W->rJ W fa ra va fc rc vc n)/\gD n):=⟨d,hn⟩;clear h d hn;cases K:decide (p<=4)with
 | true=>
  have c:p<=4:=by simpa using K
  have j:Hd (di p g n=setB n/\eO g n=true):=by
   refine⟨by unfold di;rw[aD c],?_⟩;unfold cy at u
   rwa[aD c]at u
  clear u c;go_enter func87,ntmps87
  go_wp2_with (first
   |(go_at_call 134;refine(eR _ _ _).mono ?_;rw[K];rintro e S ⟨rfl,rfl⟩)
   |(go_at_call 135;refine(Uh B b l g fa ra va fc rc vc n _ (H.o.wr.alloc _) (fun W D=>(f.a W ((H.o.alloc _).below.trans D)).facts) (fun W D=>(f.a W ((H.o.alloc _).below.trans D)).aO) j.A ah).mono ?_;rintro e T ⟨rfl,G⟩;have E:=(show Hd _ from G);clear G))
  (try simp only[Exit.inBlock,Exit.then]);refine aG (BM rfl _ _ _) rfl ?_
  refine⟨rfl,?_⟩;rw[j.a];exact(H.o.alloc _).trans E.o
 | false=>
  have c:¬p<=4:=by simpa using K
  cases a:n.reached with
  | true=>
   have j:Hd (di p g n=[if true=true then 1 else 0]++nL p g n/\eF p g n=true):=by
    refine⟨by unfold di;rw[aA c,a];rfl,?_⟩;unfold cy at u
    rwa[aA c,a,aD rfl]at u
   rw[a]at H;clear u c;have Z:=fun W h D=>vG B b (l++[if true=true then 1 else 0]) p g fa ra va fc rc vc n W h (fun r O=>(f.a r (S3 D O)).vals) f.A j.A (by simp only[bu,gL];omega)
   rw[a]at Z;go_enter func87,ntmps87
   go_wp2_with (first
    |(go_at_call 134;refine(eR _ _ _).mono ?_;rw[K];rintro e S ⟨rfl,rfl⟩)
    |(go_at_call 137;refine(Z _ E.a.wr ((H.o.alloc _).below.trans E.a.below)).mono ?_;rintro e r ⟨rfl,O⟩;have C:=(show Hd _ from O);clear O)
    |(go_at_call 136;refine(sV B b l true _ (H.o.wr.alloc _) ah).mono ?_;rintro e T ⟨rfl,G⟩;have L:=G.box (H.o.wr.alloc _) ((ch _ _ _ (by simp;omega)).trans (aN w _ _).1) aj aj;have R:=G.box (H.o.wr.alloc _) ((ch _ _ _ ak).trans (aN w _ _).2) aj aj;obtain⟨F,y⟩:=ae L;obtain⟨i,o⟩:=ae R;have E:=(show Hd _ from Aa G (Aa L R));clear G L R))
   go_end0
   refine⟨rfl,?_⟩;rw[j.a,<-dj];exact((H.o.alloc _).trans E.a).trans C.o
  | false=>
   have j:Hd (di p g n=[if false=true then 1 else 0]):=by show _=_;unfold di;rw[aA c,a];rfl
   rw[a]at H;clear u c;go_enter func87,ntmps87
   go_wp2_with (first
    |(go_at_call 134;refine(eR _ _ _).mono ?_;rw[K];rintro e S ⟨rfl,rfl⟩)
    |(go_at_call 136;refine(sV B b l false _ (H.o.wr.alloc _) ah).mono ?_;rintro e T ⟨rfl,G⟩;have L:=G.box (H.o.wr.alloc _) ((ch _ _ _ (by simp;omega)).trans (aN w _ _).1) aj aj;have R:=G.box (H.o.wr.alloc _) ((ch _ _ _ ak).trans (aN w _ _).2) aj aj;obtain⟨F,y⟩:=ae L;obtain⟨i,o⟩:=ae R;have E:=(show Hd _ from Aa G (Aa L R));clear G L R))
   go_end0
   refine⟨rfl,?_⟩;rw[j.o];exact(H.o.alloc _).trans E.a
def Wd(w:World)(C:Array Value)(n c g:Nat)(m:g=w.heap.size):
  (convert 157 157 (ix g n c)).run Tryz.prog (w.alloc (.cells C 5))=.ok (ix g n c) (w.alloc (.cells C 5 (C.size,C.size+1))):=by
 subst m;exact Lib.run_convert_bytes_const w 157 5 C n c underlying157 underlying5
def IQ(B b r n:Nat)(l:List UInt8)(c:UInt8)(w:World)(f:B<=b)(hb:w.heap[b]?=some (.cells (kg r n) 168 (0,0)))(hn:n=l.length)(hl:∀(j:Nat) (u:Value),(Lib.byteCells l)[j]?=some u->w.cell? (Ad r (0+j))=some u)(hlen:l.length+1<=140737488355328):
  Cl 85 #[.pointer (some (Ad b 0)),.int .u8 c.toNat] w fun e I=>e=.returned (.tuple #[])/\eh w I B b (l++[c]):=by
 obtain⟨L,hi,D,v,K⟩:=cY infoByte;subst hn;have c1:w.cell? (Ad b 0)=some (b? r l.length):=by rw[jV hb];rfl
 have J:b<w.heap.size:=(bq.1 hb).1;have X:=(show Hd _ from Aa hb hl);clear hb hl;go_enter func85,ntmps85
 go_wp2_with (at_builtin;refine wpList_append_grows _ rfl _ _ 157 rfl 5 L (.int .u8 0) 1 1 underlying157 hi D v K rfl aj (some (Ad r 0)) l.length l.length (Lib.byteCells l) rfl ?c0 ?c1 ?c2 (Ad w.heap.size 0) 1 1 [.int .u8 c.toNat] rfl rfl ?c3 ?c4 ?c5 ?c6 ?c7 ?_)
 case c0=>intro h;cases h
 case c1=>simp[Lib.byteCells]
 case c2=>
  intro ad s j u U;cases s;have G:=X.A j u U;have O:((Ad r 0):Addr).add j=(Ad r (0+j)):=by rw[gw]
  rw[O];exact(dC (ch _ _ _ (dQ G))).trans G
 case c3=>exact Gb _ _ _
 case c4=>intro u E;simp at E;subst E;rfl
 case c5=>omega
 case c6=>unfold maxLen;omega
 case c7=>omega
 intro R z q i;have N:z.heap[b]?=some (.cells (kg r l.length) 168 (0,0)):=by
  rw[i.block b (by simp;omega) ak];exact(ch _ _ _ J).trans X.a
 have y:z.cell? (Ad b 0)=some (b? r l.length):=by rw[jV N];rfl
 have m:z.frozen? (Ad b 0)=false:=BN N 0;obtain⟨Z,C,rfl⟩:=bS q
 go_wp2
 go_end0
 have d:(Value.slice Z (l.length+1) C).ownBlock≠some b:=by
  rcases MZ q (q:=b) (by first|omega|(simp;omega))with h|h
  ·rw[h];simp
  exact h
 have p:Kp b w z:=⟨i.os,i.tape,i.output,bw ak i.size,fun k o a _ _=>(i.block k (by have:=(bq.1 a).1;simp;omega) ak).trans ((ch _ _ _ (bq.1 a).1).trans a)⟩;refine⟨rfl,⟨f,_,?_,?_,d⟩,yx p 0 _,(((aM _ _).alloc ah _).grown i (by simp;omega) (fun k x=>by simp at x)).setCell (p:=(Ad b 0)) f _⟩
 ·simp[World.setCell,rU,N]
 have e:Lib.byteCells (l++[c])=Lib.byteCells l++[Value.int .u8 c.toNat]:=by simp[Lib.byteCells]
 rw[bu,e];refine⟨by simpa using q.1,?_⟩;rcases q.2 with h|⟨g,F,A,t,G,O,Y⟩
 ·exact aJ h
 refine aI ⟨g,F,A,t,by first|omega|(simp at G;omega),(aZ _ _ _ _ ?_).trans O,Y⟩;rintro rfl;exact d (by rw[t];rfl)
def M5(B b:Nat)(l:List UInt8)(m:Nat)(w:World)(hm:m<256)(h:Wr w B b l)(hlen:l.length+1<=140737488355328):
  Cl 85 #[.pointer (some (Ad b 0)),.int .u8 (m:Int)] w fun e I=>e=.returned (.tuple #[])/\eh w I B b (l++[UInt8.ofNat m]):=by
 have:=fR B b l (UInt8.ofNat m) w h hlen
 rwa[<-yX hm]at this
def EZ(B b r n:Nat)(l:List UInt8)(m:Nat)(w:World)(hm:m<256)(f:B<=b)(hb:w.heap[b]?=some (.cells (kg r n) 168 (0,0)))(hn:n=l.length)(hl:∀(j:Nat) (u:Value),(Lib.byteCells l)[j]?=some u->w.cell? (Ad r (0+j))=some u)(hlen:l.length+1<=140737488355328):
  Cl 85 #[.pointer (some (Ad b 0)),.int .u8 (m:Int)] w fun e I=>e=.returned (.tuple #[])/\eh w I B b (l++[UInt8.ofNat m]):=by
 have:=IQ B b r n l (UInt8.ofNat m) w f hb hn hl hlen
 rwa[<-yX hm]at this
def eh.zU{w':World}{b k:Nat}{l:List UInt8}{cs:Array Value}{t:TypeId}(h:eh w w' B b l)(hk:w.heap[k]?=some (cJ cs t))(N:k≠b)(H:t≠5):w'.heap[k]?=some (cJ cs t):=
 h.kp.keep k _ hk N (fun F E e=>by simp at e;exact H e.2.1)
def Oa{v:Value}{l:List UInt8}(h:w.ownsRow B 5 1 v l.length (Lib.byteCells l))(h0:l≠[]):
  ∃a C,v=.slice (some a) l.length C/\(convert 157 9 (.slice (some a) l.length C)).run Tryz.prog w=.ok (.string ⟨l.toArray⟩) w:=by
 rcases h.2 with⟨_,e⟩|⟨g,C,A,t,_⟩
 ·exact absurd (dM.1 e) h0
 refine⟨_,C,t,run_convert_bytes_back w 157 9 5 _ C l underlying157 underlying5 underlying9 (fun j U=>?_)⟩;subst t;exact h.cells (g:=g) rfl j _ (by simp[Lib.byteCells,U])
def Np{p g:Int}(h:known p g=true):∃b a:Nat,p=b/\g=a/\1<=b/\b<=6/\1<=a/\a<=2:=by
 unfold known at h;simp at h;refine⟨p.toNat,g.toNat,?_⟩;omega
def AY(h:kq c=true):known c.problem c.bK=true/\c.nodes.length<=60/\∀n∈c.nodes,cy c.problem c.bK n=true:=by
 unfold kq at h;simp only[aS,bm,bM]at h;exact⟨h.1.1,h.1.2,h.2⟩
def RF(h:c.nodes.length<=60):(ob c).length<=15:=by
 have:=@gB c.nodes.length ah;simp only[ob,bu,bT,eI];omega
def encR(c:Ct):ByteArray×Int:=match enc c with
 |some l=>(⟨l.toArray⟩,0)
 |none=>(⟨#[]⟩,5)
def JG(na:Option Addr)(nc:Nat)(c:Ct)(w:World)(h:cj w na c.nodes)(hc:py c):
  Cl 42 #[.agg #[Iv c.problem,Iv c.bK,.slice na c.nodes.length nc]] w (Rb w (.tuple #[.string (encR c).1,Iv (encR c).2])):=by
 have YJ:=fun W hb=>yG na nc c W (h.below hb) hc
 obtain⟨p,g,B⟩:=c;have l:Hd (cj w na B/\∀n∈B,gD n):=⟨h,hc.nodes⟩;have HC:=(show Hd _ from YJ);clear h hc YJ;simp only at HC⊢;cases hk:kq ⟨p,g,B⟩with
 |false=>
  have HO:Hd (encR ⟨p,g,B⟩=(⟨#[]⟩,5)):=by show _=_;simp[encR,enc,hk]
  go_enter func42,ntmps42
  go_wp2_with (go_at_call 84;refine(HC.o _ (aC _ _)).mono ?_;rw[hk];rintro e T ⟨rfl,A⟩)
  go_ret2
  rw[HO.o];exact⟨rfl,aq (aC _ _) A⟩
 | true=>
  obtain⟨X,f,Z⟩:=AY hk;simp only at X f Z;obtain⟨b,a,rfl,rfl,OL,hp2,DJ,D⟩:=Np X;have M:Hd (kq ⟨b,a,B⟩=true/\(∀n∈B,cy b a n=true)):=⟨hk,Z⟩;clear hk X Z;go_enter func42,ntmps42
  go_wp2_with fail
  refine(HC.o _ (aC _ _)).mono ?_;rw[M.a];rintro e T ⟨rfl,A⟩;have aaJ:=(A.block _ ak).trans (bf w (.cells #[Iv b,Iv a,.slice na B.length nc] 51));obtain⟨F,y⟩:=ae aaJ;have S:w.heap.size<T.heap.size:=by
   have:=A.size;simp at this;omega
  have j?:=(show Hd _ from Aa (aq (aC _ _) A) aaJ);have kc:=Wd (T.alloc (df b a)) #[.int .u8 87,.int .u8 67,.int .u8 1] 3 3 (T.heap.size+1) ak;clear A aaJ
  go_upto_region 5 with(fail)
  clear kc F y;generalize hV:((T.alloc (df b a)).alloc J7).alloc (.cells #[.slice (cM T.heap.size) 3 3] 168)=V;have H:Hd (Bl w V/\V.heap[w.heap.size]?=some (.cells #[Iv b,Iv a,.slice na B.length nc] 51 (0,0))/\V.heap[T.heap.size]?=some (nU b a)/\V.heap[T.heap.size+1+1]?=some (.cells #[.slice (cM T.heap.size) 3 3] 168 (0,0))/\(∀(j:Nat) (u:Value),(Lib.byteCells [87,67,1])[j]?=some u->V.cell? (Ad (T.heap.size+1) (0+j))=some u)):=by
   subst hV;refine⟨aq j?.o.1 (cq _ _ _ _),?_,?_,?_,?_⟩
   ·exact((cq T _ _ _).block _ S).trans j?.o.2
   ·exact(ch _ _ _ (by simp;omega)).trans (aN T _ _).1
   ·have:=bf ((T.alloc (df b a)).alloc J7) (.cells #[.slice (cM T.heap.size) 3 3] 168)
    simpa using this
   intro j u U;have Y:=(ch ((T.alloc (df b a)).alloc J7) (.cells #[.slice (cM T.heap.size) 3 3] 168) (T.heap.size+1) ak).trans (aN T (df b a) J7).2;simp only[World.cell?,Y,ct]
   simpa[Lib.byteCells]using U
  clear hV j?;generalize T.heap.size=K at S H⊢;obtain⟨F,y⟩:=ae H.b;have z:b<256:=ah
  have NJ:a<256:=ah
  go_upto_region 8 with(first
   |(go_at_call 86;refine(gW w.heap.size (K+1+1) ([87,67,1]++[UInt8.ofNat b]++[UInt8.ofNat a]) B.length _ C.a.wr ah ah (by have:=@qd B.length ah;simp only[bu,bT,eI];omega)).mono ?_;clear F y;rintro e V3 ⟨rfl,Y⟩;have L:=Y.zU C.b ah aj;have R:=Y.zU C.B ah aj;obtain⟨F,y⟩:=ae L;have H3:=(show Hd _ from Aa Y (Aa L R));clear Y L R)
   |(go_at_call 85;refine(M5 w.heap.size (K+1+1) ([87,67,1]++[UInt8.ofNat b]) a _ NJ E.a.wr ak).mono ?_;clear F y;rintro e V2 ⟨rfl,O⟩;have L:=O.zU E.b ah aj;have R:=O.zU E.B ah aj;obtain⟨F,y⟩:=ae L;have C:=(show Hd _ from Aa O (Aa L R));clear O L R)
   |(go_at_call 85;refine(EZ w.heap.size (K+1+1) (K+1) 3 [87,67,1] b _ z ah H.d rfl H.D ak).mono ?_;clear F y;rintro e V1 ⟨rfl,G⟩;have L:=G.zU H.b ah aj;have R:=G.zU H.c ah aj;obtain⟨F,y⟩:=ae L;have E:=(show Hd _ from Aa G (Aa L R));clear G L R))
  have HX:=(show Hd _ from Aa H.a (Aa (H.a.trans (E.a.below.trans (C.a.below.trans H3.a.below))) (Aa H3.a.wr H3.B)));have HD:Hd (ob ⟨b,a,B⟩=[87,67,1]++[UInt8.ofNat b]++[UInt8.ofNat a]++cO B.length):=by show _=_;simp[ob,cO]
  have I:Hd ((ob ⟨b,a,B⟩).length<=15):=RF f;clear H E C H3
  go_wp2_with fail
  clear F y
  go_loopw[34] (fun i wr=>∃(k:Nat) (q:List UInt8),k<=B.length/\i=Iv k/\Hd (q++(B.drop k).flatMap (di b a)=ij ⟨b,a,B⟩)/\Hd (q.length<=60000/\q≠[])/\Hd (Bl w wr/\Wr wr w.heap.size (K+1+1) q/\wr.heap[K]?=some (nU b a))) (fun i _=>B.length-(intOf i).toNat)
  case atStart=>
   refine⟨0,ob ⟨b,a,B⟩,bB _,rfl,?_,⟨by have:=I.o;omega,by rw[HD.o];simp⟩,HX.b,by rw[HD.o];exact HX.c,HX.C⟩;show _=_;simp[ij]
  clear HX HD I;obtain⟨k,q,Tz,rfl,HQ,I,d⟩:=hrel;obtain⟨y1,y2⟩:=ae d.B;have e1:=(bq.1 d.B).1;by_cases J:k<B.length;rotate_left
  ·obtain rfl:k=B.length:=ah
   have s:¬(B.length:Int)<(B.length:Int):=ah
   have hq:=HQ.o;rw[BL]at hq;simp only[wV,gi]at hq;subst hq;obtain⟨_,v2,NQ,ku,_⟩:=d.b;obtain⟨a2,cp2,rfl,kc⟩:=Oa ku I.A;obtain⟨x,z2⟩:=ae NQ;have HR:Hd (encR ⟨b,a,B⟩=(⟨(ij ⟨b,a,B⟩).toArray⟩,0)):=by
    show _=_;simp[encR,enc,M.a,I.a]
   clear NQ ku
   go_wp2_with fail
   go_ret2
   rw[HR.o];exact⟨rfl,d.a⟩
  have s:(k:Int)<(B.length:Int):=ah
  obtain⟨n,hnk⟩:=La J;obtain⟨b1,v,fa,ra,va,fc,rc,vc,rfl,P,c1,c2,c3,c4,hat⟩:=(l.a.below d.a) k n hnk;have adK:∀W,Below w.heap.size (wr.alloc (.cells #[.slice fa n.facts.length fc,.slice ra n.aO.length rc,.bool n.reached,Iv n.rank,.slice va n.vals.length vc] 96)) W->rJ W fa ra va fc rc vc n:=by
   intro W hbW;have N:=(d.a.alloc d.a.size (.cells #[.slice fa n.facts.length fc,.slice ra n.aO.length rc,.bool n.reached,Iv n.rank,.slice va n.vals.length vc] 96)).trans hbW;obtain⟨b2,o2,fa2,ra2,Gn,FZ,rc2,Gm,o,t,d1,d2,d3,d4,afj⟩:=(l.a.below N) k n hnk;cases o;obtain⟨b3,o3,fa3,ra3,va3,fc3,rc3,vc3,o,d0',d1',d2',d3',d4',aeA⟩:=l.a k n hnk;cases o;have q0:=(ax d0' d.a).symm.trans P;have q1:=(ax d1' d.a).symm.trans c1;have Q:=(ax d4' d.a).symm.trans c4;simp at q0 q1 Q;obtain⟨rfl,rfl⟩:=q0;obtain⟨rfl,rfl⟩:=q1;obtain⟨rfl,rfl⟩:=Q;exact aeA.below N
  have m:=(show Hd _ from Aa hnk (Aa adK (Aa (l.A n (aL hnk)) (M.A n (aL hnk)))));have hql:q.length<=60000:=I.a;clear hnk hat adK;by_cases RH:60000<(q++di b a n).length
  ·have VC:60000<((q.length:Nat):Int)+(((di b a n).length:Nat):Int):=by simp only[bu]at RH;omega
   have HR:Hd (encR ⟨b,a,B⟩=(⟨#[]⟩,5)):=by
    show _=_;have G:=dv List.length HQ.o;rw[kG (di b a) B k n m.a]at G;have O:¬(ij ⟨b,a,B⟩).length<=60000:=by simp only[bu]at G RH;omega
    simp[encR,enc,O]
   clear RH
   go_wp2_with (go_at_call 87;refine(E4 w.heap.size (K+1+1) q b a fa ra va fc rc vc n _ (d.b.alloc _) m.b m.c m.C ah).mono ?_;rintro e r ⟨rfl,O⟩;obtain⟨_,v2,NQ,ku,_⟩:=O.wr;obtain⟨a2,cp2,rfl⟩:=bS ku;obtain⟨x,z2⟩:=ae NQ;have C:=(show Hd _ from O);clear O NQ ku)
   go_ret2
   rw[HR.o];exact⟨rfl,(d.a.alloc d.a.size _).trans C.o.below⟩
  have VC:¬60000<((q.length:Nat):Int)+(((di b a n).length:Nat):Int):=by simp only[bu]at RH;omega
  have HR:Hd ((q++di b a n).length<=60000):=by show _<=_;omega
  clear RH
  go_wp2_with (go_at_call 87;refine(E4 w.heap.size (K+1+1) q b a fa ra va fc rc vc n _ (d.b.alloc _) m.b m.c m.C ah).mono ?_;rintro e r ⟨rfl,O⟩;obtain⟨_,v2,NQ,ku,_⟩:=O.wr;obtain⟨a2,cp2,rfl⟩:=bS ku;obtain⟨x,z2⟩:=ae NQ;have C:=(show Hd _ from O);clear O NQ ku)
  refine⟨⟨k+1,q++di b a n,ah,h',?_,⟨HR.o,by have:=I.A;simp[this]⟩,(d.a.alloc d.a.size _).trans C.o.below,C.o.wr,C.o.zU ((ch _ _ _ e1).trans d.B) ah aj⟩,by simp[intOf];omega⟩;show _=_;rw[<-HQ.o,kG (di b a) B k n m.a];simp
end
def QT{a b:List ByteArray}(h:a.map (·.data.toList)=b.map (·.data.toList)):a=b:=by
 induction a generalizing b with
 |nil=>cases b with
  |nil=>rfl
  |cons y r=>simp at h
 | cons x a B=>
  cases b with
  |nil=>simp at h
  |cons y r=>
   simp only[kL,List.cons.injEq]at h;rw[data_inj h.1,B h.2]
def Nb:∀{a b:List (List ByteArray)},a.map (fun l=>l.map (·.data.toList))=b.map (fun l=>l.map (·.data.toList))->a=b:=by
 intro a
 induction a with
 |nil=>intro b h;cases b with
  |nil=>rfl
  |cons y r=>simp at h
 | cons x a B=>
  intro b h;cases b with
  |nil=>simp at h
  |cons y r=>
   simp only[kL,List.cons.injEq]at h;rw[QT h.1,B h.2]
def QY(t:ByteArray):(Fh t).map (fun l=>l.map (·.data.toList))=(Wm.CT [] t.data.toList).map (Wm.mr []):=by
 have h:=Wm.yq t;unfold Fh Ng;rw[<-h,kJ,kJ];apply eM;intro x _;exact Hb x
def wl(ws:List ByteArray):Nat:=(ws.map (fun x=>x.size+1)).sum
end Go.Proofs.YtmipbiligijcpaaGreatDoor
