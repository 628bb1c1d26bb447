import Derived.Test.YtmipbiligijcpaaGreatDoorA10
import Derived.Test.YtmipbiligijcpaaGreatDoorA06
import Derived.Deep.CutBlock
namespace Go.Proofs.YtmipbiligijcpaaGreatDoor
set_option linter.all false
set_option maxRecDepth 99999
set_option maxHeartbeats 0
open Go.RowKit Go.Proofs Go.Maps Tryz List Go.Shelf open List renaming length->ζ,toArray->θ open _root_.Array renaming size->δ open World renaming setCell->κ,ownsRow->ρ,cell?->χ,grownBy->ξ,setCells->ψ open Value renaming ownBlock->φ open Value renaming slice->g',bool->h',agg->j',string->k',pointer->m',tuple->o' open Obj renaming cells->i' open Ending renaming returned->n' open Option renaming some->z',none->A' open Bool renaming true->N',false->O'
variable {B Q a c i k q:Nat}{W w:p'}{p:Prop}
section
variable {nx:List (List Nat)}{R:List Nat}
def GO(n t:Nat):∀(D:List Nat)(j:Nat),fm n j (D++[t])=fm n j D++(if t=n then[j+ζ D] else[])
 |[],j=>by simp[fm]
 |x::r,j=>by
  have B:=GO n t r<|j+1;have e:j+1+ζ r=j+(ζ r+1):=I;simp only[fW,fm,B,bU,e];by_cases h:x=n
  .rw[aD h,aD h];rfl
  rw[aA h,aA h]
def BU(n:Nat)(l:List Nat):∀(D:List<|List Nat)(j:Nat),dD n j (D++[l])=dD n j D++(fm n 0 l).map (λk=>(j+ζ D,k))
 |[],j=>by simp[dD]
 |x::r,j=>by have B:=BU n l r<|j+1;have e:j+1+ζ r=j+(ζ r+1):=I;simp only[fW,dD,B,bU,e,fK]
def lg(n:Nat):∀(D:List<|List Nat)(j:Nat)(q:Nat×Nat),q∈dD n j D->q.1<j+ζ D
 |[],j,q,h=>by simp[dD]at h
 |x::r,j,q,h=>by
  simp only[dD,iF,bG]at h;rcases h with⟨k,_,rfl⟩|h
  .simp
  have:=lg n r (j+1) q h;simp only[bU];omega
def uN(n:Nat):∀(D:List Nat)(j:Nat),ζ (fm n j D)<=ζ D
 |[],j=>by simp[fm]
 |x::r,j=>by have:=uN n r<|j+1;simp only[fm];split<;>simp<;>omega
def lf(n:Nat):∀(D:List<|List Nat)(j:Nat),(∀l∈D,ζ l<=2)->ζ (dD n j D)<=2*ζ D
 |[],j,_=>by simp[dD]
 |x::r,j,h=>by have C:=lf n r (j+1) (λl X=>h l<|by simp[X]);have a:=uN n x 0;have N:=h x ak;simp only[dD,bg,b9,bU];omega
def xW(nx:List<|List Nat)(i j k:Nat):List (Nat×Nat):=dD k 0 (nx.take i)++(fm k 0 ((nx.getD i []).take j)).map λq=>(i,q)
def EO{j t:Nat}(S:nx[i]?=z' R)(f:R[j]?=z' t)(k:Nat):xW nx i (j+1) k=xW nx i j k++(if t=k then[(i,j)] else[]):=by
 have e:nx.getD i []=R:=by rw[getD,S];rfl
 have X:=(aX.1 f).1;unfold xW;rw[e,ep X,(aX.1 f).2,GO,fq,fK,jk,n?<|mE X];congr 2;split<;>simp
def Lx(S:nx[i]?=z' R)(k:Nat):xW nx (i+1) 0 k=xW nx i (ζ R) k:=by
 have e:nx.getD i []=R:=by rw[getD,S];rfl
 have X:=(aX.1 S).1;unfold xW;rw[e,jj,ep X,(aX.1 S).2,BU,Lj,jk,n?<|mE X];simp[fm]
def Ly(v:List<|List Nat)(k:Nat):xW v (ζ v) 0 k=dD k 0 v:=by rw[xW,jj,Lj];simp[fm]
def EN(v:List<|List Nat)(k:Nat):xW v 0 0 k=[]:=by simp[xW,fm,dD]
def VJ(h:∀l∈nx,ζ l<=2)(i j k:Nat):ζ (xW nx i j k)<=2*ζ nx+2:=by
 unfold xW;have C:=lf k (nx.take i) 0 λl X=>h l<|xi X;have a:=uN k ((nx.getD i []).take j) 0;have N:ζ ((nx.getD i []).take j)<=2:=by
  refine bX (length_take_le' _ _) ?_;rw[getD];cases e:nx[i]? with
  |none=>simp
  |some l=>exact h l<|aO e
 have d:ζ (nx.take i)<=ζ nx:=length_take_le' _ _;rw[bg,b9];omega
def qA(n:Nat):PE:=⟨n==0,VV.z,VV.z,VV.z,VV.z,VV.z,VV.z,VV.z,VV.z⟩
def E9(n:Nat):qA (n+1)=PE.zero:=by unfold qA PE.zero;congr 1
end
section
variable {b t m T p:Nat}{E:List y'}{a:Obj}{c:List RR}{r:RR}{F:p'->Prop}
def RJ(b t:Nat):∀(E p c a:List y')(w:p')(o:Nat),o=ζ p->w.1[b]?=z' (i' (θ<|p++c++a) t (0,0))->ζ c=ζ E->(ψ w b o E).1[b]?=z' (i' (θ<|p++E++a) t (0,0))
 |[],p,c,a,w,o,_,h,hl=>by obtain rfl:c=[]:=fT.1 hl;simpa[World.setCells]using h
 |v::E,p,[],a,w,o,_,_,hl=>by simp at hl
 |v::E,p,x::c,a,w,o,d,h,hl=>by
  have C:(κ w (O b o) v).1[b]?=z' (i' (θ ((p++[v])++c++a)) t (0,0)):=by rw[H h];congr 2;rw[cj,d];congr 1;simp
  have e:=RJ b t E (p++[v]) c a (κ w (O b o) v) (o+1) (by simp[d]) C (by simpa using hl);have N:(p++[v])++E++a=p++v::E++a:=ak;rw[N]at e;simpa[World.setCells]using e
def G7:∀(l p z:List y'),ζ z=ζ l->foldl (λ(L:Array y')(x:y'×Nat)=>L.setIfInBounds x.snd x.fst) (θ<|p++z) (l.zipIdx<|ζ p)=θ (p++l)
 |[],p,z,h=>by obtain rfl:z=[]:=fT.1 h;rfl
 |v::l,p,[],h=>by simp at h
 |v::l,p,y::z,h=>by
  rw[zipIdx_cons,ij];have e:(p++y::z).toArray.setIfInBounds (ζ p) v=θ ((p++[v])++z):=by rw[cj];congr 1;simp
  have B:=G7 l (p++[v]) z<|H' h;rw[bg,e4]at B;show foldl _ ((p++y::z).toArray.setIfInBounds (ζ p) v) _=_;rw[e,B];simp
def G8{l z:List y'}(h:ζ z=ζ l):foldl (λ(L:Array y')(x:y'×Nat)=>L.setIfInBounds x.snd x.fst) (θ z) l.zipIdx=θ l:=G7 l [] z h
def ad2{n:Nat}{L:Array y'}(h:w.1[b]?=z' (cU L t))(K:n<=L.size):w.there b 0 n:=λj f=>by rw[bH];refine⟨?_,(A h).2 j⟩;rw[(A h).1,rX I];rfl
def scb{o:Nat}{x:Obj}(a:w.1[k]?=z' x)(K:k≠b):(ψ w b o E).1[k]?=z' x:=(eA b E o w k K).trans a
def Sys.acO{X l:p'}{a:Nat}(h:Sys X B a m T p c)(b:c[k]?=z' r)(a:B<=δ X.1)(F:ξ X l<|φ r.ev):TF B T p X l:=by
 have l:=h.row r<|aO b;refine⟨aQ.grown F a λq e=>(l.lt q e).1,?_⟩;intro q L t f e C b;refine F.block q (bq.1 e).1 ?_;intro u;rcases l.2 with⟨a,_⟩|⟨g,c,Y,a,_,N,_⟩
 .rw[a]at u;simp[Value.ownBlock]at u
 rw[a]at u;have:q=g:=by simpa[Value.ownBlock]using u
 subst this;rw[N]at e;simp at e;exact b e.2.1.symm
def iU(h:∀V,J (V.1[δ w.1]?=z' a/\Bl w V/\δ V.1=δ w.1+1)->F V):F (w.alloc a):=h _ ⟨cv,bA,ak⟩
def T0{b:Obj}(h:∀V,J ((V.1[δ w.1]?=z' a/\V.1[δ w.1+1]?=z' b)/\Bl w V/\δ V.1=δ w.1+1+1)->F V):F ((w.alloc a).alloc b):=h _ ⟨hJ,dH,ak⟩
def agU{b c:Obj}(h:∀V,J ((V.1[δ w.1]?=z' a/\V.1[δ w.1+1]?=z' b/\V.1[δ w.1+1+1]?=z' c)/\Bl w V/\δ V.1=δ w.1+1+1+1)->F V):F (((w.alloc a).alloc b).alloc c):=h _ ⟨Eo,eD,ak⟩
def TY(h:∀V,J (V.1[δ w.1]?=z' a/\Bl w V)->F V):F (w.alloc a).drew:=h _ ⟨cF w a,(cf w a).drew⟩
def PI{L:List y'}(X:ζ L=ζ E)(h:∀V,J (V.1[δ w.1]?=z' (cU (θ E) t)/\Bl w V)->F V):F (ψ (w.alloc<|i' (θ L) t) w.1.size 0 E):=h _ ⟨cX cv X,dJ aK _ _ _ bA⟩
def pH(h:ζ r.st=m):(n0 r)[m]?=z' r.ev:=by subst h;simp[n0]
def Sys.lower{f a:Nat}(h:Sys W B a m T p c)(d:f<=B):Sys W f a m T p c:=by
 refine⟨h.dy,bX d h.low,h.len,λr a=>?_,h.wG⟩;have D:=h.row r a;refine⟨D.1,?_⟩;rcases D.2 with a|⟨g,b,Y,C,c,N⟩
 .exact aP a
 exact aR ⟨g,b,Y,C,bX d c,N⟩
def Sys.range{a:Nat}(h:Sys W B a m T p c)(b:c[k]?=z' r):W.rangeAt a (k*(m+1)) (n0 r):=λ_ _ R=>(h.cell b R).1
def Sys.first{st o:List y'}(h:Sys W B b m T p (⟨st,A',0,[]⟩::c))(U:p≠T)(X:ζ o=m):Sys (ψ W b 0 o) B b m T p (⟨o,A',0,[]⟩::c):=by
 refine⟨?_,h.low,?_,?_,?_⟩
 .have C:=h.dy;have e:=h.len ⟨st,A',0,[]⟩ ak;have V:il (⟨st,A',0,[]⟩::c)=[]++st++(g' A' 0 0::il c):=by simp[il,n0,RR.ev]
  have u:il (⟨o,A',0,[]⟩::c)=[]++o++(g' A' 0 0::il c):=by simp[il,n0,RR.ev]
  rw[V]at C;rw[u];exact RJ b T o [] st _ W 0 rfl C (e.trans X.symm)
 .intro r b;rcases cM.1 b with rfl|b
  .exact X
  exact h.len r (by simp[b])
 .intro r b;rcases cM.1 b with rfl|b
  .exact dj
  have D:=h.row r (by simp[b]);refine⟨D.1,?_⟩;rcases D.2 with a|⟨g,b,Y,C,e,N,d⟩
  .exact aP a
  refine aR ⟨g,b,Y,C,e,(eA _ _ _ _ _ ?_).trans N,d⟩;rintro rfl;exact dV D h.dy U (by rw[C];rfl)
 intro i j a b c f t;cases i with
 |zero=>simp at c;subst c;exact aP rfl
 |succ i=>
  cases j with
  |zero=>
   simp at f;subst f;rcases h.wG (i+1) 0 a _ (H' c) rfl t with C|C
   .exact aP C
   exact aR C
  |succ j=>exact h.wG (i+1) (j+1) a b (H' c) (H' f) t
end
section
variable {o j sb f:Nat}{d W' V:p'}{n:SN}{g:Bool}{b:List RR}{P:Pm}{D:Nat->List (Nat×Nat)}{es:List (Nat×y')}{L:Array y'}{t:TypeId}{r:RR}
abbrev KC.fZ(rb db n:Nat):y':=j' #[g' (z'<|O rb 0) n n,.func (.func 270) #[]<|cB db,.func (.func 272) #[]<|cB db]
abbrev KB.fZ(rb db n:Nat):y':=j' #[g' (z'<|O rb 0) n n,.func (.func 275) #[]<|cB db,.func (.func 277) #[]<|cB db]
abbrev KC.yC(sb:Nat):y':=.func (.func 317) #[]<|cB sb
abbrev KB.yC(sb:Nat):y':=.func (.func 327) #[]<|cB sb
def KC.Ih(W:p')(P:Pm)(es:List<|Nat×y')(xs:List<|Nat×Nat):Prop:=ζ es=ζ xs/\∀(j:Nat)(e:Nat×y')(x:Nat×Nat),es[j]?=z' e->xs[j]?=z' x->e.1=x.1/\∃sb,e.2=KC.yC sb/\KC.pO W sb (P.at x.1) (decide (x.2=0))
def KB.Ih(W:p')(P:Pm)(es:List<|Nat×y')(xs:List<|Nat×Nat):Prop:=ζ es=ζ xs/\∀(j:Nat)(e:Nat×y')(x:Nat×Nat),es[j]?=z' e->xs[j]?=z' x->e.1=x.1/\∃sb,e.2=KB.yC sb/\KB.pO W sb (P.at x.1) (decide (x.2=0))
structure KC.n5(W:p')(B rb:Nat)(P:Pm)(xs:Nat->List (Nat×Nat))(ql:List RR):Prop where
  sys:Sys W B rb 17 375 378 ql
  len:ζ ql=ζ P.nd
  st:∀k r,ql[k]?=z' r->r.st=KC.aT (qA k)
  es:∀k r,ql[k]?=z' r->KC.Ih W P r.es (xs k)
structure KB.n5(W:p')(B rb:Nat)(P:Pm)(xs:Nat->List (Nat×Nat))(ql:List RR):Prop where
  sys:Sys W B rb 17 337 340 ql
  len:ζ ql=ζ P.nd
  st:∀k r,ql[k]?=z' r->r.st=KB.aT (qA k)
  es:∀k r,ql[k]?=z' r->KB.Ih W P r.es (xs k)
def aeD(h:p:=by
 obtain⟨c,y,i,wl,wc,V,f,k,s,j,u,b,C,e,N,d,l⟩:=h
 exact⟨c,y,i,wl,wc,V,f,k,s,j,u,b,hf.box C aj aj,hf.box e aj aj,hf.box N aj aj,hf.box d aj aj,l⟩):p:=h
open KC in
def KC.pO.tf{a:p'}(h:KC.pO w o n g)(hf:TF B 375 378 w a):KC.pO a o n g:=aeD
open KB in
def KB.pO.tf{a:p'}(h:KB.pO w o n g)(hf:TF B 337 340 w a):KB.pO a o n g:=aeD
def KC.Ih.mono{b:p'}{a:List (Nat×y')}{D:List (Nat×Nat)}(h:KC.Ih W P a D)(B:∀o n g,KC.pO W o n g->KC.pO b o n g):KC.Ih b P a D:=
 ⟨h.1,λj e x l F=>by obtain⟨C,o,a,N⟩:=h.2 j e x l F;exact⟨C,o,a,B _ _ _ N⟩⟩
def KB.Ih.mono{b:p'}{a:List (Nat×y')}{D:List (Nat×Nat)}(h:KB.Ih W P a D)(B:∀o n g,KB.pO W o n g->KB.pO b o n g):KB.Ih b P a D:=
 ⟨h.1,λj e x l F=>by obtain⟨C,o,a,N⟩:=h.2 j e x l F;exact⟨C,o,a,B _ _ _ N⟩⟩
def aeC(h:p:=by
 refine⟨by simp[h.1],λk e x l F=>?_⟩;by_cases a:k<ζ es
 .rw[gI a]at l;rw[gI<|by rw[<-h.1];exact a]at F;exact h.2 k e x l F
 rw[eB I]at l;rw[eB<|I' h.1]at F;have o:k-ζ es=0:=by have:=(aX.1 l).1;simp at this;exact this
 rw[o]at l;rw[<-h.1,o]at F;simp at l F;subst l F
 exact⟨rfl,sb,rfl,hd⟩):p:=h
open KC in
def KC.Ih.snoc{D:List (Nat×Nat)}(h:KC.Ih W P es D)(hd:KC.pO W sb (P.at i) (decide (j=0))):KC.Ih W P (es++[(i,KC.yC sb)]) (D++[(i,j)]):=aeC
open KB in
def KB.Ih.snoc{D:List (Nat×Nat)}(h:KB.Ih W P es D)(hd:KB.pO W sb (P.at i) (decide (j=0))):KB.Ih W P (es++[(i,KB.yC sb)]) (D++[(i,j)]):=aeC
def KC.n5.below(h:KC.n5 W B a P D b)(c:Bl W d):KC.n5 d B a P D b:=
 ⟨h.sys.below c,h.len,h.st,λk r a=>(h.es k r a).mono λ_ _ _ Q=>Q.below c⟩
def KB.n5.below(h:KB.n5 W B a P D b)(c:Bl W d):KB.n5 d B a P D b:=
 ⟨h.sys.below c,h.len,h.st,λk r a=>(h.es k r a).mono λ_ _ _ Q=>Q.below c⟩
def aeB(h:p:=by
 obtain⟨b,y,r,wl,wc,V,B,i,s,j,e,a,C,f,N,d,l⟩:=h;have k:∀{p:Nat} {c:Array y'} {u:TypeId},W.1[p]?=z' (cU c u)->u≠abB->W'.1[p]?=z' (cU c u):=by intro p c u U c;refine(hh p ?_).trans U;rintro rfl;rw[U]at hq;simp at hq;exact c<|hq.2.trans ht
 exact⟨b,y,r,wl,wc,V,B,i,s,j,e,a,k C aj,k f aj,k N aj,k d aj,l⟩):p:=h
open KC in
def KC.pO.zg(h:KC.pO W o n g)(hq:W.1[q]?=z' (cU L t))(ht:t=233)(hh:∀k,k≠q->W'.1[k]?=W.1[k]?):KC.pO W' o n g:=aeB
open KB in
def KB.pO.zg(h:KB.pO W o n g)(hq:W.1[q]?=z' (cU L t))(ht:t=242)(hh:∀k,k≠q->W'.1[k]?=W.1[k]?):KB.pO W' o n g:=aeB
def KC.n5.zg(h:KC.n5 W B c P D b)(a:W.1[q]?=z' (i' L 233 (0,0)))(V:∀k,k≠q->d.1[k]?=W.1[k]?):KC.n5 d B c P D b:=
 ⟨h.sys.keep a ⟨aj,aj⟩ V,h.len,h.st,λk r b=>(h.es k r b).mono λ_ _ _ Q=>Q.zg a rfl V⟩
def KB.n5.zg(h:KB.n5 W B c P D b)(a:W.1[q]?=z' (i' L 242 (0,0)))(V:∀k,k≠q->d.1[k]?=W.1[k]?):KB.n5 d B c P D b:=
 ⟨h.sys.keep a ⟨aj,aj⟩ V,h.len,h.st,λk r b=>(h.es k r b).mono λ_ _ _ Q=>Q.zg a rfl V⟩
def KC.sK(h:Bl w V)(Y:TF w.1.size 375 378 V W):Bl w W:=h.trans Y.low
def KB.sK(h:Bl w V)(Y:TF w.1.size 337 340 V W):Bl w W:=h.trans Y.low
def aeA(h:p:=by
 have L:=(aX.1 hr).1;refine⟨hs,by rw[dh];exact h.len,λk q l=>?_,λk q l=>?_⟩
 .rw[e5]at l;by_cases e:t=k
  .subst e;rw[aD rfl,aD L]at l;cases l;exact h.st t r hr
  rw[aA e]at l;exact h.st k q l
 rw[e5]at l;rw[hx];by_cases e:t=k
 .subst e;rw[aD rfl,aD L]at l;cases l;rw[aD rfl];exact((h.es t r hr).mono λ_ _ _ hd=>hd.tf hf).snoc hd
 rw[aA e]at l;rw[aA e,iE]
 exact(h.es k q l).mono λ_ _ _ hd=>hd.tf hf):p:=h
open KC in
def KC.n5.next{a:p'}{d t:Nat}{c:Nat->List (Nat×Nat)}{g:t'}(h:KC.n5 W B d P D b)(hr:b[t]?=z' r)(hs:Sys a B d 17 375 378<|b.set t ⟨r.st,g,f,r.es++[(i,KC.yC o)]⟩)(hf:TF B 375 378 W a)(hd:KC.pO a o (P.at i) (decide (j=0)))(hx:∀k,c k=D k++(if t=k then[(i,j)] else[])):KC.n5 a B d P c (b.set t ⟨r.st,g,f,r.es++[(i,KC.yC o)]⟩):=aeA
open KB in
def KB.n5.next{a:p'}{d t:Nat}{c:Nat->List (Nat×Nat)}{g:t'}(h:KB.n5 W B d P D b)(hr:b[t]?=z' r)(hs:Sys a B d 17 337 340<|b.set t ⟨r.st,g,f,r.es++[(i,KB.yC o)]⟩)(hf:TF B 337 340 W a)(hd:KB.pO a o (P.at i) (decide (j=0)))(hx:∀k,c k=D k++(if t=k then[(i,j)] else[])):KB.n5 a B d P c (b.set t ⟨r.st,g,f,r.es++[(i,KB.yC o)]⟩):=aeA
def KC.n5.low(h:KC.n5 W B a P D b)(c:f<=B):KC.n5 W f a P D b:=⟨h.sys.lower c,h.len,h.st,h.es⟩
def KB.n5.low(h:KB.n5 W B a P D b)(c:f<=B):KB.n5 W f a P D b:=⟨h.sys.lower c,h.len,h.st,h.es⟩
def KC.rA(W:p')(B rb:Nat)(P:Pm):Prop:=∃ql,KC.n5 W B rb P P.ins ql
def KB.rA(W:p')(B rb:Nat)(P:Pm):Prop:=∃ql,KB.n5 W B rb P P.ins ql
def KC.rA.below{b:p'}(h:KC.rA W B a P)(c:Bl W b):KC.rA b B a P:=by obtain⟨b,h⟩:=h;exact⟨b,h.below c⟩
def KB.rA.below{b:p'}(h:KB.rA W B a P)(c:Bl W b):KB.rA b B a P:=by obtain⟨b,h⟩:=h;exact⟨b,h.below c⟩
def KC.Bw:(Tryz.prog.info? 375).map (λi=>(i.zero,i.size,i.bytes))=z' (z'<|j'<|θ<|KC.aT PE.zero++[g' A' 0 0],18,160):=M
def KB.Bw:(Tryz.prog.info? 337).map (λi=>(i.zero,i.size,i.bytes))=z' (z'<|j'<|θ<|KB.aT PE.zero++[g' A' 0 0],18,160):=M
def KC.Bx:(Tryz.prog.info? 378).map (λi=>(i.zero,i.size,i.bytes))=z' (z'<|j' #[G 0,.nilFunc],2,16):=M
def KB.Bx:(Tryz.prog.info? 340).map (λi=>(i.zero,i.size,i.bytes))=z' (z'<|j' #[G 0,.nilFunc],2,16):=M
def aez(h:p:=by
 obtain⟨n,e⟩:∃n,ζ P.nd=n+1:=⟨ζ P.nd-1,I⟩;rw[e,gM]at h;refine⟨_,h.first aj rfl,by rw[e];simp,λk r c=>?_,λk r c=>?_⟩
 .cases k with
  |zero=>simp at c;subst c;rfl
  |succ k=>rw[q?]at c;rw[fB<|aO c,E9]
 rw[EN];have:r.es=[]:=by
  cases k with
  |zero=>simp at c;subst c;rfl
  |succ k=>rw[q?]at c;rw[fB<|aO c]
 rw[this]
 exact⟨rfl,λj e x l _=>by simp at l⟩):p:=h
open KC in
def KC.n5.start(K:0<ζ P.nd)(h:Sys W B a 17 375 378<|replicate (ζ P.nd) ⟨KC.aT PE.zero,A',0,[]⟩):∃b,KC.n5 (ψ W a 0<|KC.aT<|qA 0) B a P (xW P.nx 0 0) b:=aez
open KB in
def KB.n5.start(K:0<ζ P.nd)(h:Sys W B a 17 337 340<|replicate (ζ P.nd) ⟨KB.aT PE.zero,A',0,[]⟩):∃b,KB.n5 (ψ W a 0<|KB.aT<|qA 0) B a P (xW P.nx 0 0) b:=aez
def aey(h:p:=by
 obtain⟨X,hi,j,o,l⟩:=cI Bw;have r:J (_/\_/\_/\_):=⟨hi,j,o,l⟩;clear hi j o l;obtain⟨i0,hi,j,o,l⟩:=cI Bx;have HJ:J (_/\_/\_/\_):=⟨hi,j,o,l⟩;clear hi j o l;have l:=hO.most;have x:=hO.pos;have HH:=hid<|Aa hP hO;clear hP hO;obtain⟨N,j⟩:=Ea<|ζ P.nd;rw[<-j]at l x|-;have HN:=hid j;clear j;simp only[je];go_enter ae3,aeP;go_upto_region 1 with fail
 refine agU (F:=Code.wp _ _ _ _) λV B=>?_;obtain⟨E,z⟩:=A B.a.1;have j:(0:Int)<N:=I;go_upto_region 2 with(at_make;refine gL _ rfl (.tmp 13) (.tmp 13) aeo rfl w.1.size qg X _ 18 aem r.a r.b r.c .i64 .i64 N N N rfl rfl rfl rfl (by rw[r.C];omega) (by unfold maxLen;omega) (I' B.b.size) ?_;intro t l j;have o:=hid<|Aa l j;clear l j)
 clear E z;have j:J (Sys t w.1.size V.1.size 17 qg mK (replicate N ⟨aT PE.zero,A',0,[]⟩)/\Bl w t/\t.1[δ w.1]?=V.1[δ w.1]?/\t.1[δ w.1+1]?=V.1[δ w.1+1]?/\t.1[δ w.1+1+1]?=V.1[δ w.1+1+1]?):=by have C:=o.a;have l:=B.B;rw[mN _ 18 rfl N]at C;exact⟨Sys.made _ C rfl,B.b.grown o.A I (λq e=>by cases e),o.A.block _ I ak,o.A.block _ I ak,o.A.block _ I ak⟩
 refine iU (F:=Code.wp _ _ _ _) λF u=>?_;have o:J (Sys F w.1.size V.1.size 17 qg mK (replicate N ⟨aT PE.zero,A',0,[]⟩)/\Bl w F/\δ V.1<δ t.1/\(_/\_/\_)/\_):=⟨j.a.below u.b,aq j.b u.b,blt j.a.dy,⟨aG u.b<|j.c.trans B.a.1,aG u.b<|j.d.trans B.a.2.1,aG u.b<|j.D.trans B.a.2.2⟩,u.a⟩;have j:=hid B.B;generalize δ t.1=sx at o|-;generalize δ V.1=rb at o j|-;have U:F.there rb 0 17:=ad2 o.a.dy (by rw[kT,Be _ o.a.len,Cr];omega);obtain⟨u,C⟩:=A o.D;go_upto_region 3 with(refine wpList_store_mid rfl bL (.tmp 22) (.tmp 20) rfl rb 0 (θ<|aT<|qA 0) rfl rfl U M (bO _) ?_)
 clear u C U;obtain⟨r,l⟩:=n5.start (P:=P) (by rw[<-HN.o];exact x) (by rw[<-HN.o];exact o.a);have K:∀{k:Nat} {x:Obj},F.1[k]?=z' x->k≠rb->(ψ F rb 0<|aT<|qA 0).1[k]?=z' x:=scb;have HX:J (n5 (ψ F rb 0<|aT<|qA 0) w.1.size rb P (xW P.nx 0 0) r/\Bl w (ψ F rb 0<|aT<|qA 0)/\(_/\_/\_)/\_):=⟨l,dJ o.a.low _ _ _ o.b,⟨K o.d.1<|I' j.o,K o.d.2.1<|I' j.o,K o.d.2.2<|I' j.o⟩,K o.D<|I' o.c⟩;clear l K;generalize ψ F rb 0 (aT<|qA 0)=W3 at HX|-;obtain⟨E,z⟩:=A HX.c.1;simp only[Act.put];go_wp2_with fail;go_loopw[26] (λj wr=>∃(i:Nat)(Y:List RR),i<=N/\j=G i/\J (n5 wr w.1.size rb P (xW P.nx i 0) Y/\TF w.1.size qg mK W3 wr)) (λj _=>N-(intOf j).toNat)
 case atStart=>exact⟨0,r,bm,rfl,HX.a,AF⟩
 obtain⟨i,Y,hi,rfl,t⟩:=hrel;by_cases L:i<N;rotate_left
 .have l:¬(i:Int)<N:=I;obtain rfl:N=i:=I;obtain⟨u,C⟩:=A<|t.A.box HX.C aj aj;obtain⟨z1,z2⟩:=A<|t.A.box HX.c.2.2 aj aj;go_wp2_with fail;have o:=t.A.box HX.c.2.2 aj aj;have j:=hid<|Aa (H (o:=0) o<|cG rb N)<|Aa (H (o:=1) (H (o:=0) o<|cG rb N)<|.func (.func Al) #[] #[m'<|z'<|O (δ w.1+1) 0])<|H (o:=2) (H (o:=1) (H (o:=0) o<|cG rb N)<|.func (.func Al) #[] #[m'<|z'<|O (δ w.1+1) 0])<|.func (.func FR) #[] #[m'<|z'<|O (δ w.1+1) 0];refine aE (v:=fZ rb (δ w.1+1) N) (by simp[results212,results213,go_sem,(A j.a).1,(A j.b).1,(A j.B).1]) rfl ⟨rb,δ w.1+1,rfl,⟨Y,?_⟩,?_,?_⟩
  .have e:xW P.nx N 0=P.ins:=funext λk=>by rw[HN.o,<-HH.a.Xi];exact Ly P.nx k
   rw[<-e];exact t.a.zg o (λk hk=>by rw[aJ hk,aJ hk,aJ hk])
  .rw[aJ<|by dsimp only;omega,aJ<|by dsimp only;omega,aJ<|by dsimp only;omega];exact t.A.box HX.c.2.1 aj aj
  exact(((sK HX.b t.A).setCell G' _).setCell G' _).setCell G' _
 have l:(i:Int)<N:=I;have E:=(HH.a.below HX.b).tf t.A aj aj aj aj;obtain⟨r,l,T,F,W,Kz,TA,U⟩:=E.nodes (k:=i) (by rw[<-HN.o];exact L);have X:=λj (hj:j<14)=>(E.row.cells i r T j hj);obtain⟨nd,tX⟩:=Ea r.n;rw[<-tX]at X F W;obtain⟨ta,C,mh⟩:=U.ints;rw[b9]at C;rw[C]at X;simp only[NC.wv]at X;generalize r.bB=x at X;generalize r.wa=L at X;generalize r.wl=wl at X;generalize r.wc=wc at X;obtain⟨u,o⟩:=Ea<|aS x (g' L wl wc) nd<|g' ta (ζ l)<|ζ l;have z:u.all (·.oneCell')=N':=by rw[o];simp[aS,Value.oneCell']
 have x:u.size=14:=by rw[o];rfl
 have mn:u[12]?=z' (g' ta (ζ l)<|ζ l):=by rw[o];rfl
 have L:wr.rangeAt g (i*14) u.toList:=λj v hv=>by
  have hj:j<14:=by have:=(aX.1 hv).1;rwa[IB,x]at this
  rw[X j hj,<-o];simpa using hv
 have fo:=hid<|Aa o<|Aa Kz<|Aa W<|Aa T C;have ag5:=(HH.A.nx l<|aO Kz).1;clear o X W tX F T E TA U C mh Kz;go_upto_region 6 with(first|(refine wpList_load_mid rfl 152 (.tmp 29) rfl g (i*14) rfl u.toList _ L underlying152 rfl (by rw[IB,x];kernel_rfl) ?_)|(refine wpList_store_mid rfl 152 (.tmp 7) (.tmp 30) rfl wr.1.size 0 u rfl rfl (cK cv<|by rw[x];rfl) (by rw[x];kernel_rfl) z ?_))
 refine PI (F:=Code.wp _ _ _ _) (by simp[x]) λV B=>?_;obtain⟨z1,z2⟩:=A B.a;have o:χ V (O wr.1.size 12)=z' (g' ta (ζ l)<|ζ l):=by rw[z1];simpa using mn
 have z:=bX HX.b.size t.A.low.size;simp only[Act.put];clear z1 z2 L;go_wp2_with fail;clear o;have X:J (TF w.1.size qg mK W3 V/\n5 V w.1.size rb P (xW P.nx i 0) Y):=⟨t.A.trans<|TF.bJ B.A z,t.a.below B.A⟩;have U:=hid B.a;clear z;generalize δ wr.1=nb at U|-;go_loopw[34] (λo wr=>∃(j:Nat)(pl:List RR),j<=ζ l/\o=G j/\J (n5 wr w.1.size rb P (xW P.nx i j) pl/\TF w.1.size qg mK V wr)) (λo _=>ζ l-(intOf o).toNat)
 case atStart=>exact⟨0,Y,bm,rfl,X.A,AF⟩
 obtain⟨j,pl,hj,rfl,HL⟩:=hrel;by_cases z:j<ζ l;rotate_left
 .have o:¬(j:Int)<(ζ l:Int):=I;obtain rfl:j=ζ l:=I;go_wp2_with fail;go_roundw
  case rel=>
   refine⟨i+1,pl,I,e',?_,X.a.trans HL.A⟩;have e:xW P.nx (i+1) 0=xW P.nx i (ζ l):=funext λk=>Lx fo.b k;rw[e];exact HL.a
  exact F'
 have o:(j:Int)<(ζ l:Int):=I;obtain⟨t,F⟩:=La z;have L:t<N:=by rw[HN.o];exact(HH.A.nx l<|aO fo.b).2 t<|aO F
 have B:=hid<|X.a.trans HL.A;have z:=(HH.a.below HX.b).tf B.o aj aj aj aj;obtain⟨C,X,o⟩:=(z.nx i r l fo.d fo.b).ints;rw[b9,fo.D]at X;obtain rfl:ta=C:=H' X;obtain⟨l,l,rfl,T⟩:=o j (t:Int) (by rw[a!,F];rfl);clear z o X;go_upto_region 9 with fail
 clear T;have E:=bu<|HL.A.box U.o aj aj;obtain⟨z1,z2⟩:=A<|B.o.box HX.c.2.1 aj aj;have Y:J (∀W,Cl aeN #[.iface h!<|j' #[],j' u,h' ((j:Int)==0)] W λr w'=>∃o,r=n' (yC o)/\δ W.1<=o/\pO w' o nd (decide (j=0))/\Bl W w'):=by
  have e:((j:Int)==0)=decide (j=0):=by rw[cC];simp
  rw[e,fo.a];exact λW=>By _ _ _ _ _ _ _ _ _ W
 go_upto_region 10 with(first|(refine wpList_load_mid rfl 152 (.tmp 7) rfl nb 0 rfl u.toList _ E underlying152 rfl (by rw[IB,x];kernel_rfl) ?_)|((first|go_at_call 274 | go_at_call 279);refine(Y.o _).mono ?_;rintro e Y ⟨o,rfl,_,x,u⟩;have l:=hid<|Aa x u;clear x u))
 refine iU (F:=Code.wp _ _ _ _) λU u=>?_;have z:J (Below wr.1.size wr U/\δ wr.1<=δ Y.1):=⟨aq l.A u.b,l.A.size⟩;have ow:=hid<|l.a.below u.b;have C:=bX HX.b.size B.o.low.size;have im:=hid<|B.o.trans<|TF.bJ z.a C;obtain⟨r,hr⟩:=La (l:=pl) (i:=t) (by rw[HL.a.len,<-HN.o];exact L);have x:=hid<|Aa hr F;have l:(t:Int)<N:=I;have l:ζ r.es<=130:=by rw[(HL.a.es t r hr).1];have:=VJ (λl X=>(HH.A.nx l X).1) i j t (nx:=P.nx);have:=HH.a.Xi;have:=HN.o;omega
 have B:=blt HL.a.sys.dy;clear hr F z1 z2 E;generalize δ Y.1=Y at u z|-;refine wp_region_held_drew (S:=λW'=>TF w.1.size qg mK W3 W'/\b' W' Y #[G i,yC o] mK) M ⟨im.o.trans<|TF.bJ aQ.drew<|bX C z.a.size,u.a⟩ λaC=>?_;refine tq 0 (xV sx) ?_;refine tr 1 (cG rb N) (λW' aW=>(A<|aW.1.box HX.C aj aj).1) ?_;refine tq 2 (G t) ?_;refine tq 3 (xV sx) ?_;refine tr 4 (cG rb N) (λW' aW=>(A<|aW.1.box HX.C aj aj).1) ?_;refine tq 5 (G t) ?_;refine tq 6 (m'<|z'<|O rb<|t*18) ?_;refine tq 7 (m'<|z'<|O rb<|t*18+17) ?_;refine tr 9 (j' #[G i,yC o]) (λW' aW=>(A aW.2).1) ?_;have N:=bX C z.a.size;refine wpAnyH_ready (rs:=[8,10]) M ak ?_;refine AllReadyH.cons rfl (λK F=>?oA) (AllReadyH.cons rfl (λK F=>?oB) AllReadyH.nil)
 case' oA=>
  obtain⟨k1,T⟩:=(HL.a.sys.below<|aq z.a aQ.drew).cell (j:=17) x.a (v:=r.ev)<|pH<|HL.a.sys.len r<|aO x.a;simp only[Nat.reduceAdd,RR.ev]at k1 T;go_simp;refine F.out _ _ aC λaC=>?_;clear k1 T;clear F K;refine pt ?_;refine r1 10 λK F=>?_;go_simp;refine F.out _ _ ⟨aC.1.trans<|TF.bJ bA N,aG bA aC.2⟩ λaC=>?_;clear F K;refine pt ?_
 case' oB=>
  go_simp;refine F.out _ _ ⟨aC.1.trans<|TF.bJ bA N,aG bA aC.2⟩ λaC=>?_;clear F K;refine pt ?_;refine r1 8 λK F=>?_;obtain⟨k1,T⟩:=(HL.a.sys.below<|aq z.a ((cf U<|i' #[G i,yC o] mK).drew)).cell (j:=17) x.a (v:=r.ev)<|pH<|HL.a.sys.len r<|aO x.a;simp only[Nat.reduceAdd,RR.ev]at k1 T;go_simp;refine F.out _ _ aC λaC=>?_;clear k1 T;clear F K;refine pt ?_
 all_goals
  clear aC;refine TY (F:=λV=>wpAnyH _ _ _ _ _ _ _ _ V) λX L=>?_;have aC:TF w.1.size qg mK W3 X/\b' X Y #[G i,yC o] mK:=⟨im.o.trans<|TF.bJ L.A N,aG L.A u.a⟩;have l:J (Sys X w.1.size rb 17 qg mK pl/\Below wr.1.size wr X):=⟨HL.a.sys.below<|aq z.a L.A,aq z.a L.A⟩;refine r1 11 λK F=>?_;refine gw rfl (.tmp 54) (.tmp 56) aen rfl w.1.size mK i0 (j' #[G 0,.nilFunc]) 2 16 ael HJ.a HJ.b HJ.c HJ.C rfl aj (bk r.ea (ζ r.es) r.ec) (ζ r.es) (ix r.es) (by simp[Act.eval,Act.put]) (l.a.row r<|aO x.a) (O U.1.size 0) 1 1 [G i,yC o] (by simp[Act.eval,Act.put]) rfl (Gd L.a) (by intro u u;simp at u;rcases u with rfl|rfl<;>rfl) (by unfold maxLen;omega) I (bX C l.A.size) ?_;intro E U u W E;obtain⟨V,X,rfl⟩:=aV u;have B:=hid<|Aa u<|Aa W E;clear u W E;have u:b' U Y #[G i,yC o] mK:=(B.b.block Y (blt aC.2) (λe=>by have:=((HL.a.sys.row r<|aO x.a).lt Y e.symm).2;have:=z.A;omega)).trans aC.2;refine F.out _ _ ⟨aC.1.trans<|l.a.acO x.a (bX C l.A.size) B.b,u⟩ λaC=>?_;clear F K;refine pt ?_;refine tq 12 (m'<|z'<|O rb<|t*18) ?_;refine tq 13 (m'<|z'<|O rb<|t*18+17) ?_;refine r1 14 λK F=>?_;obtain⟨k1,T⟩:=l.a.UQ (j:=17) aj x.a aQ B.b (v:=r.ev)<|pH<|l.a.len r<|aO x.a;simp only[Nat.reduceAdd,RR.ev]at k1 T;have Kz:=l.a.grow (e:=(i,yC o)) aj x.a aQ B.b B.a B.B;have Y:=l.a.frame (v:=g' V (ζ r.es+1) X) x.a aQ (bX C l.A.size) B.b<|t*18+17;have o:=hid<|Aa Kz Y;clear Kz Y;go_simp;refine F.out _ _ ⟨(im.o.trans<|TF.bJ L.A N).trans o.A,(aJ (by have:=z.A;dsimp only;omega)).trans u⟩ λaC=>?_;clear k1 T;clear F K;refine pt ?_;refine wpAnyH_done M ?_ _;clear aC u;go_wp2_with fail;go_roundw
  case rel=>
   refine⟨j+1,_,I,e',HL.a.next x.a o.a ((TF.bJ l.A C).trans o.A) (by rw[fo.c];exact(ow.o.below L.A).tf o.A)<|EO fo.b x.A,(HL.A.trans<|TF.bJ l.A C).trans o.A⟩
  exact F'):p:=h
open KC in
def KC.iK(g b f:Nat)(D:List NC)(P:Pm)(w:p')(hP:PM w g b D P)(hO:cN P):
 Cl 212 #[je g (ζ P.nd) b f,.iface 328<|j' #[]] w λe w'=>∃rb s,e=n' (KC.fZ rb s<|ζ P.nd)/\KC.rA w' w.1.size rb P/\w'.1[s]?=z' (i' #[.iface 328<|j' #[]] 381 (0,0))/\Bl w w':=aey
open KB in
def KB.iK(g b f:Nat)(D:List NC)(P:Pm)(w:p')(hP:PM w g b D P)(hO:cN P):
 Cl 213 #[je g (ζ P.nd) b f,.iface 331<|j' #[]] w λe w'=>∃rb s,e=n' (KB.fZ rb s<|ζ P.nd)/\KB.rA w' w.1.size rb P/\w'.1[s]?=z' (i' #[.iface 331<|j' #[]] 386 (0,0))/\Bl w w':=aey
end
section
def KC.fF(e:PE)(n:SN)(so:Bool):PE:=if e.r then(if n.aH=0 then e.put n.var.toNat (jg e n.a) else if n.aH=2 then e.put n.var.toNat VV.dT else if n.aH=1 then KC.ru e n else if n.aH=4 then KC.ry e n so else e) else PE.zero
def KB.fF(e:PE)(n:SN)(so:Bool):PE:=if e.r then(if n.aH=0 then e.put n.var.toNat (jg e n.a) else if n.aH=2 then e.put n.var.toNat VV.all else if n.aH=1 then KB.ru e n else if n.aH=4 then KB.ry e n so else e) else PE.zero
def aeJ{p:Prop}(h:p:=by
 obtain⟨b,y,i,wl,wc,V,B,f,s,o,u,c,C,c,N,d,l⟩:=h;rcases l with⟨K,rfl,rfl⟩|⟨K,rfl,rfl⟩|⟨K,rfl,rfl⟩|⟨K,rfl,rfl⟩|⟨⟨g,l,x,k⟩,rfl,rfl⟩
 .have q:fF e n so=if e.r then e.put n.var.toNat (jg e n.a) else PE.zero:=by(first|unfold KC.fF|unfold KB.fF);simp[K]
  rw[q];exact jv e _ sb _ _ w d (λD w=>afj D w) λ_ W j=>yI e b y i wl wc V B n f s W (aG j c) (aG j C) (hv I) (ha<|by simp[dZ,K])
 .first|(have _:=Dc;have q:fF e n so=if e.r then e.put n.var.toNat VV.dT else PE.zero:=by(first|unfold KC.fF|unfold KB.fF);simp[K])|(have q:fF e n so=if e.r then e.put n.var.toNat VV.all else PE.zero:=by(first|unfold KC.fF|unfold KB.fF);simp[K])
  rw[q];exact jv e _ sb _ _ w d (λD w=>afi D w) λ_ W j=>yH e b y i wl wc V B n f s W (aG j c) (aG j C)<|hv I
 .have q:fF e n so=if e.r then ru e n else PE.zero:=by(first|unfold KC.fF|unfold KB.fF);simp[K]
  rw[q];exact jv e _ sb _ _ w d (λD w=>afh D w) λ_ W j=>yG e b y i wl wc V B n f s W (aG j c) (aG j C) (hv I) (ha<|by simp[dZ,K]) (hb<|by simp[dZ,K]) (qF<|by simp[dZ,K]) (qE<|by simp[dZ,K])
 .have q:fF e n so=if e.r then ry e n so else PE.zero:=by(first|unfold KC.fF|unfold KB.fF);simp[K]
  rw[q];exact jv e _ sb _ _ w d (λD w=>afg D w) λ_ W j=>yF e b y i wl wc V B n so f s o W (aG j c) (aG j C) (aG j N) (ha<|by simp[dZ,K]) (hb<|by simp[dZ,K]) (qF<|by simp[dZ,K]) (qE<|by simp[dZ,K])
 have q:fF e n so=if e.r then e else PE.zero:=by(first|unfold KC.fF|unfold KB.fF);simp[g,l,x,k]
 rw[q]
 exact jv e _ sb _ _ w d (λD w=>aff D w) λ_ W j=>yE e W):p:=h
open KC in
def KC.Bu(e:PE)(n:SN)(so:Bool)(sb:Nat)(w:p')(h:KC.pO w sb n so)(hv:n.aH<=2->0<=n.var/\n.var<8)(a:0<=n.aH)(ha:0<dZ n->n.a.aU=N'->0<=n.a.var/\n.a.var<8)(hb:1<dZ n->n.b.aU=N'->0<=n.b.var/\n.b.var<8)(qF:0<dZ n->dM (b8<|jg e n.a))(qE:1<dZ n->dM (b8<|jg e n.b)):
 Cl 317 #[j'<|θ<|KC.aT e,m'<|z'<|O sb 0] w (Rb w<|j'<|θ<|KC.aT<|KC.fF e n so):=aeJ
open KB in
def KB.Bu(e:PE)(n:SN)(so:Bool)(sb:Nat)(w:p')(h:KB.pO w sb n so)(hv:n.aH<=2->0<=n.var/\n.var<8)(a:0<=n.aH)(ha:0<dZ n->n.a.aU=N'->0<=n.a.var/\n.a.var<8)(hb:1<dZ n->n.b.aU=N'->0<=n.b.var/\n.b.var<8)(qF:0<dZ n->dM (b8<|jg e n.a))(qE:1<dZ n->dM (b8<|jg e n.b)):
 Cl 327 #[j'<|θ<|KB.aT e,m'<|z'<|O sb 0] w (Rb w<|j'<|θ<|KB.aT<|KB.fF e n so):=aeJ
end
section
variable {e:PE}{E:List VV}
def PR(nv:Nat)(e:PE):EV->Prop
 |none=>e=PE.zero
 |some vs=>e.r=N'/\ζ vs=nv/\∀i,e.at i=vs.getD i VV.z
def nO(h:PR Q e<|z' E)(o:lz):jg e o=eW E o:=by rw[jg,eW,h.2.2];rfl
def l7(h:PR Q e<|z' E)(K:Q<=8)(a:k<Q)(x:VV):PR Q (e.put k x) (z'<|E.set k x):=by
 obtain⟨C,a,N⟩:=h;refine⟨C,by rw[dh,a],λi=>?_⟩;rw[PE.jA _ I,N,getD,getD,e5];by_cases S:i=k
 .subst S;rw[aD rfl,aD rfl,aD I];rfl
 rw[aA S,aA λh=>S h.symm]
def WI(h:PR Q e<|z' E)(K:Q<=8)(a:k<Q):PR Q (e.put k<|e.at k) (z' E):=by
 obtain⟨C,a,N⟩:=h;refine⟨C,a,λi=>?_⟩;rw[PE.jA _ I];split
 .rename_i S;rw[S,N]
 exact N i
def Mu(h:PR Q e<|z' E)(K:Q<=8)(o:lz)(a:o.aU=N'->0<=o.var/\o.var<Q)(x:VV):PR Q (KC.gx e o x) (z' E):=by
 unfold KC.gx;split
 .rename_i T;rw[aY]at T;have:=a T.2;exact WI h K I
 exact h
def Sg{v:EV}(h:PR Q e v)(K:Q<=8)(n:SN)(g:Nat)(R:n.aH<=2->0<=n.var/\n.var<Q)(a:0<=n.aH)(c:n.aH=1->0<=n.op/\n.op<=3)(d:0<dZ n->n.a.aU=N'->0<=n.a.var/\n.a.var<Q)(b:1<dZ n->n.b.aU=N'->0<=n.b.var/\n.b.var<Q):PR Q (KC.fF e n (decide (g=0))) (vM 5 n g v):=by
 cases v with
 |none=>have D:e=PE.zero:=h;subst D;show KC.fF PE.zero n _=PE.zero;unfold KC.fF;rfl
 |some E=>
  show PR Q (KC.fF e n (decide (g=0)))<|Ao n g E;rw[KC.fF,Ao,aD h.1];by_cases U:n.aH=0
  .rw[aD U,aA I,aD U,nO h];exact l7 h K (I'<|R I) _
  rw[aA U];by_cases k:n.aH=2
  .rw[aD k,aD k];exact l7 h K (I'<|R I) _
  rw[aA k,aA k,aA U];by_cases a:n.aH=1;rotate_left
  .rw[aA a,aA a];by_cases w:n.aH=4;rotate_left
   .rw[aA w,aA w];exact h
   rw[aD w,aD w];rw[KC.ry,KC.OU,nO h,nO h];by_cases Q:((eW E n.a).any||(eW E n.b).any||oC n.test (eW E n.a).lo (eW E n.b).lo==decide (g=0))=N'
   .rw[aD Q,aD Q];exact Mu (Mu h K n.a (d<|by simp[dZ,w]) _) K n.b (b<|by simp[dZ,w]) _
   rw[aA Q,aA Q];rfl
  rw[aD a,aA I,aD a];rw[KC.ru,KC.WC,nO h,nO h];by_cases Q:n.op=3/\(eW E n.b).any=O'/\(eW E n.b).lo=0
  .rw[aD Q,aD Q];rfl
  rw[aA Q,aA Q];by_cases p:((eW E n.a).any||(eW E n.b).any)=N'
  .rw[aD p,aD p];exact l7 h K (I'<|R I) _
  rw[aA p,aA p];have o:wo n.op (eW E n.b).lo=N':=by
   have:=c a;have a:(eW E n.b).any=O':=by rw[jl,lX]at p;exact p.2
   unfold wo;by_cases P:(eW E n.b).lo=0
   .have:n.op≠3:=λb=>Q ⟨b,a,P⟩;simp;omega
   simp[P]
  rw[aD o];exact l7 h K (I'<|R I) _
end
section
variable {a b x:VV}{e:PE}{o:lz}
structure VH(a:VV):Prop where
  any:a.any=O'
  le:a.lo<=a.hi
  lo:-2^63<=a.lo
  hi:a.hi<=9223372036854775807
def Zi{p:Prop}(h:p:=by
 by_cases h:p.1<=p.2/\q.1<=q.2
 .rw[aD<|by simp[h],aA G']
 rw[aA G',aD G']):p:=h
def MY(a b:VV)(p q:BB)(x y:VV)(F:x=wY a p)(B:y=wY b q):(if (jn p q).2.2 then z' (wY a (jn p q).1,wY b (jn p q).2.1) else A')=vI (x,y):=by subst F B;unfold jn vI wY;exact Zi
def MX(a b:VV)(p q:BB)(x y:VV)(F:x=wY a q)(B:y=wY b p):(if (Oa<|jn p q).2.2 then z' (wY a (Oa<|jn p q).1,wY b (Oa<|jn p q).2.1) else A')=vI (x,y):=by subst F B;unfold jn vI wY Oa;exact Zi
def D8(h:VH a)(u:Int):cA a (-9223372036854775808) u=wY a (a.lo,min a.hi u):=by unfold cA wY;have:=h.lo;rw[aA I];congr 1;split<;>simp<;>omega
def D9(h:VH a)(u:Int):cA a u 9223372036854775807=wY a (max a.lo u,a.hi):=by unfold cA wY;have:=h.hi;rw[aA (c:=(9223372036854775807:Int)<a.hi) I];congr 1;split<;>simp<;>omega
def Yx(d:VH a)(e:VH b)(t:Int)(g:Bool):KB.OU t g a b=mD t g a b:=by
 by_cases c:t=0
 .subst c;cases g
  .have r:mD 0 O' a b=vI (cA a b.lo 9223372036854775807,cA b (-9223372036854775808) a.hi):=by unfold mD tL;simp
   rw[r];exact MX a b (b.lo,min b.hi a.hi) (max a.lo b.lo,a.hi) _ _ (by rw[D9 d]) (by rw[D8 e])
  by_cases T:b.hi=-9223372036854775808\/a.lo=9223372036854775807
  .have r:mD 0 N' a b=A':=by unfold mD tL;simp[T]
   have l:cP 0 N' (b8 a) (b8 b)=((0,0),(0,0),O'):=by show iM (b8 a) (b8 b)=_;unfold iM;rw[aD<|by exact T]
   unfold KB.OU;rw[r,l];rfl
  have r:mD 0 N' a b=vI (cA a (-9223372036854775808)<|b.hi-1,cA b (a.lo+1) 9223372036854775807):=by unfold mD tL;simp[T]
  have l:cP 0 N' (b8 a) (b8 b)=jn (a.lo,min a.hi (b.hi-1)) (max b.lo (a.lo+1),b.hi):=by show iM (b8 a) (b8 b)=_;unfold iM;rw[aA<|by exact T];rfl
  unfold KB.OU;rw[r,l];exact MY a b _ _ _ _ (by rw[D8 d]) (by rw[D9 e])
 by_cases S:t=1
 .subst S;cases g;rotate_left
  .have r:mD 1 N' a b=vI (cA a (-9223372036854775808) b.hi,cA b a.lo 9223372036854775807):=by unfold mD tL;simp
   rw[r];exact MY a b (a.lo,min a.hi b.hi) (max b.lo a.lo,b.hi) _ _ (by rw[D8 d]) (by rw[D9 e])
  by_cases T:a.hi=-9223372036854775808\/b.lo=9223372036854775807
  .have r:mD 1 O' a b=A':=by unfold mD tL;simp[T]
   have l:cP 1 O' (b8 a) (b8 b)=((0,0),(0,0),O'):=by show Oa (iM (b8 b)<|b8 a)=_;unfold iM;rw[aD<|by exact T];rfl
   unfold KB.OU;rw[r,l];rfl
  have r:mD 1 O' a b=vI (cA a (b.lo+1) 9223372036854775807,cA b (-9223372036854775808)<|a.hi-1):=by unfold mD tL;simp[T]
  have l:cP 1 O' (b8 a) (b8 b)=Oa (jn (b.lo,min b.hi (a.hi-1)) (max a.lo (b.lo+1),a.hi)):=by show Oa (iM (b8 b)<|b8 a)=_;unfold iM;rw[aA<|by exact T];rfl
  unfold KB.OU;rw[r,l];exact MX a b _ _ _ _ (by rw[D9 d]) (by rw[D8 e])
 have f:(if (kj (b8 a)<|b8 b).2.2 then z' (wY a (kj (b8 a)<|b8 b).1,wY b (kj (b8 a)<|b8 b).2.1) else A')=vI (cA a b.lo b.hi,cA a b.lo b.hi):=by
  unfold kj vI;rw[Hh a b];have V:wY a (b8<|cA a b.lo b.hi)=cA a b.lo b.hi:=rfl;have u:wY b (b8<|cA a b.lo b.hi)=cA a b.lo b.hi:=by unfold wY b8 cA;rw[d.any,e.any]
  by_cases T:(b8<|cA a b.lo b.hi).1<=(b8<|cA a b.lo b.hi).2
  .have K:(cA a b.lo b.hi).lo<=(cA a b.lo b.hi).hi:=T;rw[aD<|by simpa using T,aA<|by simp;omega,V,u]
  have K:¬(cA a b.lo b.hi).lo<=(cA a b.lo b.hi).hi:=T;rw[aA<|by simpa using T,aD<|by left;simp;omega]
 have z:(if (fM (b8 a)<|b8 b).2.2 then z' (wY a (fM (b8 a)<|b8 b).1,wY b (fM (b8 a)<|b8 b).2.1) else A')=(match (if a.lo=a.hi/\VV.p5 a b=N' then A' else z' (a,b))with|none=>A'|some q=>vI q):=by
  obtain⟨N,j,i⟩:=a;obtain⟨h,o,x⟩:=b;have C:=d.any;have h:=e.any;have N:=d.le;have d:=e.le;simp only at C h N d;subst C h;unfold fM b8 wY VV.p5;by_cases T:j=i/\(j=o/\i=x)
  .rw[aA<|by simp;omega,aD<|by simp;omega]
  rw[aD<|by simp;omega,aA<|by simp;omega];simp only[vI];rw[aA<|by simp;omega]
 by_cases d:t=2
 .subst d;cases g
  .have r:mD 2 O' a b=(match (if a.lo=a.hi/\VV.p5 a b=N' then A' else z' (a,b))with|none=>A'|some q=>vI q):=by unfold mD tL;simp;rfl
   rw[r];exact z
  have r:mD 2 N' a b=vI (cA a b.lo b.hi,cA a b.lo b.hi):=by unfold mD tL;simp
  rw[r];exact f
 cases g
 .have r:mD t O' a b=vI (cA a b.lo b.hi,cA a b.lo b.hi):=by unfold mD tL;simp[c,S,d]
  have l:cP t O' (b8 a) (b8 b)=kj (b8 a) (b8 b):=by unfold cP;simp[c,S,d]
  unfold KB.OU;rw[r,l];exact f
 have r:mD t N' a b=(match (if a.lo=a.hi/\VV.p5 a b=N' then A' else z' (a,b))with|none=>A'|some q=>vI q):=by unfold mD tL;simp[c,S,d];rfl
 have l:cP t N' (b8 a) (b8 b)=fM (b8 a) (b8 b):=by unfold cP;simp[c,S,d]
 unfold KB.OU;rw[r,l];exact z
def adr(e:VH a)(f:VH b){t:Int}{g:Bool}{q:VV×VV}(h:mD t g a b=z' q):(a.lo<=q.1.lo/\q.1.hi<=a.hi/\q.1.lo<=q.1.hi/\q.1.any=O')/\(b.lo<=q.2.lo/\q.2.hi<=b.hi/\q.2.lo<=q.2.hi/\q.2.any=O'):=by
 have X:∀x y:VV,vI (x,y)=z' q->(a.lo<=x.lo/\x.hi<=a.hi/\x.any=O')->(b.lo<=y.lo/\y.hi<=b.hi/\y.any=O')->(a.lo<=q.1.lo/\q.1.hi<=a.hi/\q.1.lo<=q.1.hi/\q.1.any=O')/\(b.lo<=q.2.lo/\q.2.hi<=b.hi/\q.2.lo<=q.2.hi/\q.2.any=O'):=by
  intro x y c F B;unfold vI at c;split at c
  .cases c
  rename_i T;simp only[dU]at c;subst c;simp only[not_or,Int.not_lt]at T;exact⟨⟨F.1,F.2.1,T.1,F.2.2⟩,B.1,B.2.1,T.2,B.2.2⟩
 have c:∀(v:VV)(l u:Int),VH v->v.lo<=(cA v l u).lo/\(cA v l u).hi<=v.hi/\(cA v l u).any=O':=by intro v l u R;unfold cA;refine⟨?_,?_,R.any⟩<;>simp only<;>split<;>omega
 have d:b.lo<=(cA a b.lo b.hi).lo/\(cA a b.lo b.hi).hi<=b.hi:=by unfold cA;refine⟨?_,?_⟩<;>simp only<;>split<;>omega
 unfold mD at h;cases U:tL t g a b with
 |none=>rw[U]at h;cases h
 |some z=>
  rw[U]at h;obtain⟨x,y⟩:=z;refine X x y h ?_ ?_
  .unfold tL at U;split at U
   .split at U
    .cases U
    simp only[dU,eR]at U;rw[<-U.1];exact c _ _ _ e
   split at U
   .simp only[dU,eR]at U;rw[<-U.1];exact c _ _ _ e
   split at U
   .simp only[dU,eR]at U;rw[<-U.1];exact c _ _ _ e
   split at U
   .split at U
    .cases U
    simp only[dU,eR]at U;rw[<-U.1];exact c _ _ _ e
   split at U
   .simp only[dU,eR]at U;rw[<-U.1];exact c _ _ _ e
   split at U
   .cases U
   simp only[dU,eR]at U;rw[<-U.1];exact⟨fY,fY,e.any⟩
  unfold tL at U;split at U
  .split at U
   .cases U
   simp only[dU,eR]at U;rw[<-U.2];exact c _ _ _ f
  split at U
  .simp only[dU,eR]at U;rw[<-U.2];exact c _ _ _ f
  split at U
  .simp only[dU,eR]at U;rw[<-U.2];exact c _ _ _ f
  split at U
  .split at U
   .cases U
   simp only[dU,eR]at U;rw[<-U.2];exact c _ _ _ f
  split at U
  .simp only[dU,eR]at U;rw[<-U.2];exact⟨d.1,d.2,(c _ _ _ e).2.2⟩
  split at U
  .cases U
  simp only[dU,eR]at U;rw[<-U.2];exact⟨fY,fY,f.any⟩
def acT{v:VV}(C:v.lo<=x.lo)(a:x.hi<=v.hi)(N:v.any=x.any):cA v x.lo x.hi=x:=by
 obtain⟨c,b,b⟩:=x;simp only at C a N;rw[cA,N];simp only;congr 1
 .split<;>omega
 split<;>omega
def MJ(c:e.r=N')(a:o.aU=N')(C:(e.at o.var.toNat).lo<=x.lo)(b:x.hi<=(e.at o.var.toNat).hi)(N:(e.at o.var.toNat).any=x.any)(d:x.lo<=x.hi):KB.gx e o x=e.put o.var.toNat x:=by rw[KB.gx,KB.Vu,c,a,acT C b N,aD d];rfl
def MI(a:o.aU=O'):KB.gx e o x=e:=by rw[KB.gx,a];simp
def afk{b:Nat}{E:List VV}(h:PR b e<|z' E)(o:b<=8)(n:SN)(l:n.a.aU=N'->0<=n.a.var/\n.a.var<b)(f:n.b.aU=N'->0<=n.b.var/\n.b.var<b){y:VV}(F:(eW E n.a).lo<=x.lo/\x.hi<=(eW E n.a).hi/\x.lo<=x.hi/\x.any=O')(B:(eW E n.b).lo<=y.lo/\y.hi<=(eW E n.b).hi/\y.lo<=y.hi/\y.any=O')(j:(eW E n.a).any=O')(k:(eW E n.b).any=O'):PR b (KB.gx (KB.gx e n.a x) n.b y) (chV n E x y):=by
 rw[<-nO h]at F j;rw[<-nO h]at B k;have U:∀L,(n.a.aU=N'->L=e.put n.a.var.toNat x)->(n.a.aU=O'->L=e)->PR b L (z'<|if 0<=l9 n.a then E.set (l9 n.a).toNat x else E):=by
  intro L C b;cases R:n.a.aU
  .rw[b R];have:l9 n.a=-1:=by rw[l9,R];rfl
   rw[this];exact h
  rw[C R];have:l9 n.a=n.a.var:=by rw[l9,R];rfl
  rw[this,aD (l R).1];exact l7 h o (I'<|l R) x
 have T:KB.gx e n.a x=if n.a.aU then e.put n.a.var.toNat x else e:=by
  cases R:n.a.aU
  .rw[MI R];rfl
  have q:jg e n.a=e.at n.a.var.toNat:=by rw[jg,R];rfl
  rw[q]at F j;rw[MJ h.1 R F.1 F.2.1 (by rw[j,F.2.2.2]) F.2.2.1];rfl
 have Y:=U (KB.gx e n.a x) (λR=>by rw[T,R];rfl) (λR=>by rw[T,R];rfl);unfold chV Nv;cases z:n.b.aU
 .have:l9 n.b=-1:=by rw[l9,z];rfl
  rw[this,aA aj,MI z];exact Y
 have c:l9 n.b=n.b.var:=by rw[l9,z];rfl
 have b:=f z;rw[c,aD b.1];have b:jg e n.b=e.at n.b.var.toNat:=by rw[jg,z];rfl
 rw[b]at B k;by_cases b:n.b.var=l9 n.a;rotate_left
 .have W:(KB.gx e n.a x).at n.b.var.toNat=e.at n.b.var.toNat:=by
   rw[T];cases f:n.a.aU
   .rfl
   have g:l9 n.a=n.a.var:=by rw[l9,f];rfl
   have:=l f;show(e.put n.a.var.toNat x).at _=_;rw[PE.jA _ I,aA I]
  rw[aA b,aA I,MJ Y.1 z (by rw[W];exact B.1) (by rw[W];exact B.2.1) (by rw[W,k,B.2.2.2]) B.2.2.1];exact l7 Y o I _
 have f:n.a.aU=N':=by
  cases R:n.a.aU
  .have:l9 n.a=-1:=by rw[l9,R];rfl
   omega
  rfl
 have g:l9 n.a=n.a.var:=by rw[l9,f];rfl
 have W:(KB.gx e n.a x).at n.b.var.toNat=x:=by rw[T,f];show(e.put n.a.var.toNat x).at _=x;rw[PE.jA _<|I'<|l f,aD<|by rw[b,g]]
 rw[aD b];have p:∀V:PE,V.r=N'->V.at n.b.var.toNat=x->KB.gx V n.b y=(match KB.Vu x y with|some m=>V.put n.b.var.toNat m|none=>PE.zero):=by intro V r1 N;rw[KB.gx,r1,z,N];rfl
 rw[p _ Y.1 W];unfold KB.Vu;by_cases T:(cA x y.lo y.hi).lo<=(cA x y.lo y.hi).hi
 .rw[aD T,aA I];exact l7 Y o I _
 rw[aA T,aD I];rfl
def Si{Q:Nat}{v:EV}(h:PR Q e v)(K:Q<=8)(n:SN)(g:Nat)(c:∀E,v=z' E->0<dZ n->VH (eW E n.a))(b:∀E,v=z' E->1<dZ n->VH (eW E n.b))(R:n.aH<=2->0<=n.var/\n.var<Q)(a:0<=n.aH)(i:0<dZ n->n.a.aU=N'->0<=n.a.var/\n.a.var<Q)(d:1<dZ n->n.b.aU=N'->0<=n.b.var/\n.b.var<Q):PR Q (KB.fF e n (decide (g=0))) (vM 6 n g v):=by
 cases v with
 |none=>have D:e=PE.zero:=h;subst D;show KB.fF PE.zero n _=PE.zero;unfold KB.fF;rfl
 |some E=>
  show PR Q (KB.fF e n (decide (g=0)))<|An n g E;rw[KB.fF,An,aD h.1];by_cases U:n.aH=0
  .rw[aD U,aA I,aD U,nO h];exact l7 h K (I'<|R I) _
  rw[aA U];by_cases k:n.aH=2
  .rw[aD k,aD k];exact l7 h K (I'<|R I) _
  rw[aA k,aA k,aA U];by_cases a:n.aH=1
  .rw[aD a,aA I,aD a];rw[KB.ru,nO h,nO h];have q:KB.WC n.op (eW E n.a) (eW E n.b)=Qr n.op (eW E n.a) (eW E n.b):=rfl;rw[q];cases Qr n.op (eW E n.a) (eW E n.b)with
   |none=>rfl
   |some m=>exact l7 h K (I'<|R I) _
  rw[aA a,aA a];by_cases w:n.aH=4;rotate_left
  .rw[aA w,aA w];exact h
  rw[aD w,aD w];have a:0<dZ n:=by simp[dZ,w]
  have f:1<dZ n:=by simp[dZ,w]
  have l:=c E rfl a;have c:=b E rfl f;rw[KB.ry,nO h,nO h,Yx l c];cases b:mD n.test (decide (g=0)) (eW E n.a) (eW E n.b)with
  |none=>rfl
  |some q=>have S:=adr l c b;exact afk h K n (i a) (d f) S.1 S.2 l.any c.any
end
section
variable {a b:VV}{e:PE}{v u:EV}
def K!(e:PE){i:Nat}(h:8<=i):e.at i=VV.z:=by unfold PE.at;repeat rw[aA I]
structure zV(v:VV):Prop where
  hi:v.hi=v.lo
  any:v.any=N'->v.lo=0
def zX(v:VV):Prop:=v.any=O'
def acn(c:zV a)(d:zV b):KC.wk a b=g! 5 a b:=by rw[KC.wk,g!,VV.p5,aD rfl,c.hi,d.hi];congr 1;rw[eq_iff_iff];simp
def U9(c:zV a)(e:zV b):KC.JX a b=VV.p5 (g! 5 a b) b:=by
 obtain⟨N,d,f⟩:=a;obtain⟨a,o,x⟩:=b;have C:=c.hi;have b:=e.hi;have g:=c.any;have d:=e.any;simp only at C b g d;subst C b;rw[KC.JX,g!,aD rfl];by_cases T:VV.p5 ⟨N,f,f⟩ ⟨a,x,x⟩=N'
 .rw[aD T,T];unfold VV.p5 at T;simp at T;simp[T]
 rw[aA T];unfold VV.p5 at T;cases a
 .simp[VV.p5,VV.dT]at T|-;intro h;exact T h
 simp[VV.p5,VV.dT,d rfl]
def aco(_:zX a)(_:zX b):KB.wk a b=g! 6 a b:=by
 rw[KB.wk,g!,aA aj];congr 1
 .split<;>omega
 split<;>omega
def U?(c:zX a)(d:zX b):KB.JX a b=VV.p5 (g! 6 a b) b:=by obtain⟨N,e,e⟩:=a;obtain⟨a,o,x⟩:=b;have C:N=O':=c;have b:a=O':=d;subst C b;rw[KB.JX,g!,VV.p5,aA aj,cC];simp;omega
def Dz(a e:PE):∀(k:Nat),k<=8->∀j,j<k->(KC.ly a e k).at j=KC.wk (a.at j) (e.at j)
 |0,_,j,hj=>I
 |k+1,b,j,hj=>by
  rw[KC.gy,PE.jA _ I];by_cases h:j=k
  .rw[aD h,h]
  rw[aA h,Dz a e k I j I]
def Zg(h:p:=by
 have C:E[i]?=z' E[i]:=bj I;have f:c[i]?=z' c[i]:=bj I
 simp[getD,QA,C,f]):p:=h
def Sj(K:Q<=8){a:PE}(d:PR Q a v)(l:PR Q e u)(g:∀i,zV<|a.at i)(h:∀i,zV<|e.at i):PR Q (KC.jO a e) (qD 5 v u):=by
 cases v with
 |none=>have D:a=PE.zero:=d;subst D;exact l
 |some E=>
  cases u with
  |none=>have D:e=PE.zero:=l;subst D;rw[KC.jO,aD d.1];exact d
  |some c=>
   obtain⟨N,f,b⟩:=d;obtain⟨V,u,d⟩:=l;rw[KC.jO,aD N,aD V];refine⟨by rw[KC.yA];exact N,by simp[f,u],λi=>?_⟩;by_cases S:i<Q
   .rw[Dz a e 8 aK i I,acn (g i)<|h i,b,d];exact Zg
   have f:(zipWith (g! 5) E c).getD i VV.z=VV.z:=by rw[getD,cq G'];rfl
   rw[f];by_cases W:i<8
   .rw[Dz a e 8 aK i W,b,d,getD,getD,cq I,cq I];rfl
   exact K! _ I
def Zh(h:p:=by
 by_cases B:i<Q
 .have C:E[i]?=z' E[i]:=bj I;have a:c[i]?=z' c[i]:=bj I;rw[getD,getD,C,a];exact y (E[i],c[i])<|gF.2 ⟨i,by rw[xk];exact⟨C,a⟩⟩
 rw[getD,getD,cq I,cq I]
 rfl):p:=h
def Sl(K:Q<=8){a:PE}(d:PR Q a v)(l:PR Q e u)(g:∀i,zV<|a.at i)(h:∀i,zV<|e.at i):KC.gO a e=t? 5 v u:=by
 cases v with
 |none=>have D:a=PE.zero:=d;subst D;rfl
 |some E=>
  cases u with
  |none=>have D:e=PE.zero:=l;subst D;rw[KC.gO,d.1];rfl
  |some c=>
   obtain⟨N,b,b⟩:=d;obtain⟨V,u,f⟩:=l;rw[KC.gO,N,V,aD<|show(N'&&N')=N' by decide];show(range 8).all (λi=>KC.JX (a.at i)<|e.at i)=(zip E c).all (λx=>VV.p5 (g! 5 x.1 x.2) x.2);rw[cC,bV,bV];constructor
   .intro y x F;obtain⟨i,S⟩:=gF.1 F;rw[xk]at S;have d:=(aX.1 S.1).1;have:=y i<|cx.2 I;rwa[U9 (g i)<|h i,b,f,getD,getD,S.1,S.2]at this
   intro y i S;rw[cx]at S;rw[U9 (g i)<|h i,b,f];exact Zh
def DA(a e:PE):∀(k:Nat),k<=8->∀j,j<k->(KB.ly a e k).at j=KB.wk (a.at j) (e.at j)
 |0,_,j,hj=>I
 |k+1,b,j,hj=>by
  rw[KB.gy,PE.jA _ I];by_cases h:j=k
  .rw[aD h,h]
  rw[aA h,DA a e k I j I]
def Sk(K:Q<=8){a:PE}(d:PR Q a v)(l:PR Q e u)(g:∀i,zX<|a.at i)(h:∀i,zX<|e.at i):PR Q (KB.jO a e) (qD 6 v u):=by
 cases v with
 |none=>have D:a=PE.zero:=d;subst D;exact l
 |some E=>
  cases u with
  |none=>have D:e=PE.zero:=l;subst D;rw[KB.jO,aD d.1];exact d
  |some c=>
   obtain⟨N,f,b⟩:=d;obtain⟨V,u,d⟩:=l;rw[KB.jO,aD N,aD V];refine⟨by rw[KB.yA];exact N,by simp[f,u],λi=>?_⟩;by_cases S:i<Q
   .rw[DA a e 8 aK i I,aco (g i)<|h i,b,d];exact Zg
   have f:(zipWith (g! 6) E c).getD i VV.z=VV.z:=by rw[getD,cq G'];rfl
   rw[f];by_cases W:i<8
   .rw[DA a e 8 aK i W,b,d,getD,getD,cq I,cq I];rfl
   exact K! _ I
def J0(K:Q<=8){a:PE}(d:PR Q a v)(l:PR Q e u)(g:∀i,zX<|a.at i)(h:∀i,zX<|e.at i):KB.gO a e=t? 6 v u:=by
 cases v with
 |none=>have D:a=PE.zero:=d;subst D;rfl
 |some E=>
  cases u with
  |none=>have D:e=PE.zero:=l;subst D;rw[KB.gO,d.1];rfl
  |some c=>
   obtain⟨N,b,b⟩:=d;obtain⟨V,u,f⟩:=l;rw[KB.gO,N,V,aD<|show(N'&&N')=N' by decide];show(range 8).all (λi=>KB.JX (a.at i)<|e.at i)=(zip E c).all (λx=>VV.p5 (g! 6 x.1 x.2) x.2);rw[cC,bV,bV];constructor
   .intro y x F;obtain⟨i,S⟩:=gF.1 F;rw[xk]at S;have d:=(aX.1 S.1).1;have:=y i<|cx.2 I;rwa[U? (g i)<|h i,b,f,getD,getD,S.1,S.2]at this
   intro y i S;rw[cx]at S;rw[U? (g i)<|h i,b,f];exact Zh
end
def rgT(rd:Bool)(vs:List Vl)(i:Nat):PE:=(range i).foldl (λs k=>s.put k ⟨O',(vs.getD k ⟨0,0,0,O',0,0⟩).lo,(vs.getD k ⟨0,0,0,O',0,0⟩).hi⟩) ⟨rd,VV.z,VV.z,VV.z,VV.z,VV.z,VV.z,VV.z,VV.z⟩
def Fz(e:Bool)(E:List Vl)(i:Nat):rgT e E (i+1)=(rgT e E i).put i ⟨O',(E.getD i ⟨0,0,0,O',0,0⟩).lo,(E.getD i ⟨0,0,0,O',0,0⟩).hi⟩:=by simp[rgT,kq]
def kcT(vs:List Vl)(r:Int)(i:Nat):PE:=(range i).foldl (λs k=>s.put k<|kcV (vs.getD k ⟨0,0,0,O',0,0⟩) r) ⟨N',VV.z,VV.z,VV.z,VV.z,VV.z,VV.z,VV.z,VV.z⟩
def GD(E:List Vl)(r:Int)(i:Nat):kcT E r (i+1)=(kcT E r i).put i (kcV (E.getD i ⟨0,0,0,O',0,0⟩) r):=by simp[kcT,kq]
def kcE(rd:Bool)(rk:Int)(vs:List Vl)(r:Int):PE:=if rd&&decide (rk<r) then kcT vs r (ζ vs) else PE.zero
section
variable {v:Vl}{r:Int}{x:Nd}
def Lw(b:Bool)(i:Nat):(PE.at ⟨b,VV.z,VV.z,VV.z,VV.z,VV.z,VV.z,VV.z,VV.z⟩ i)=VV.z:=by unfold PE.at;simp
def Zf{p:Prop}(h:p:=by
 by_cases h:j=k
 .rw[aD h,aD I,h]
 rw[aA h];by_cases a:j<k
 .rw[aD a,aD I]
 rw[aA a,aA I]):p:=h
def Kl(E:List Vl)(r:Int):∀k,k<=8->∀j,(kcT E r k).at j=if j<k then kcV (E.getD j ⟨0,0,0,O',0,0⟩) r else VV.z
 |0,_,j=>by rw[aA I];exact Lw N' j
 |k+1,a,j=>by rw[GD,PE.jA _ I,Kl E r k I j];exact Zf
def Tj(E:List Vl)(r:Int):∀k,(kcT E r k).r=N'
 |0=>rfl
 |k+1=>by rw[GD];exact Tj E r k
def R7(e:Bool)(E:List Vl):∀k,k<=8->∀j,(rgT e E k).at j=if j<k then⟨O',(E.getD j ⟨0,0,0,O',0,0⟩).lo,(E.getD j ⟨0,0,0,O',0,0⟩).hi⟩ else VV.z
 |0,_,j=>by rw[aA I];exact Lw e j
 |k+1,a,j=>by rw[Fz,PE.jA _ I,R7 e E k I j];exact Zf
def Z!(e:Bool)(E:List Vl):∀k,(rgT e E k).r=e
 |0=>rfl
 |k+1=>by rw[Fz];exact Z! e E k
def acm(N:v.aH≠3)(a:0<=r):kcV v r=cS r v:=by
 rw[kcV,cS,aA N];by_cases C:v.aH=1
 .rw[aD C,aD C]
 rw[aA C,aA C];simp[a]
def Ti(N:v.aH≠3)(a:v.rank<=100000):kcV v 100001=cS (-1) v:=by
 rw[kcV,cS,aA N];by_cases C:v.aH=1
 .rw[aD C,aD C]
 rw[aA C,aA C];have:decide ((100001:Int)<=v.rank)=O':=by simp;omega
 simp[this]
def De(K:Q<=8){E:List Vl}(X:ζ E=Q){f:Vl->VV}{e:PE}(a:e.r=N')(h:∀j,e.at j=if j<Q then f (E.getD j ⟨0,0,0,O',0,0⟩) else VV.z):PR Q e (z'<|E.map f):=by
 refine⟨a,by rw[b9,X],λj=>?_⟩;rw[h j];by_cases f:j<Q
 .have C:E[j]?=z' E[j]:=bj I;rw[aD f,getD,getD,a!,C];rfl
 rw[aA f,getD,cq G'];rfl
def abG(K:Q<=8)(X:x.aF=N'->ζ x.aM=Q)(N:∀v∈x.aM,v.aH≠3)(a:0<=r):PR Q (kcE x.aF x.rank x.aM r) (gC x r):=by
 unfold kcE gC;cases F:x.aF
 .rw[aD<|aP rfl];rfl
 by_cases T:x.rank<r;rotate_left
 .have V:¬(N'&&decide (x.rank<r))=N':=by simp;omega
  have u:N'=O'\/(0<=r/\r<=x.rank):=aR ⟨a,I⟩;rw[aA V,aD u];rfl
 have V:(N'&&decide (x.rank<r))=N':=by simp[T]
 have u:¬(N'=O'\/(0<=r/\r<=x.rank)):=by simp;omega
 rw[aD V,aA u];have i:=X F;refine De K i (Tj _ _ _) λj=>?_;rw[i,Kl _ _ _ K];by_cases f:j<Q
 .have C:x.aM[j]?=z' x.aM[j]:=bj I;rw[aD f,aD f,getD,C];exact acm (N _<|aO C) a
 rw[aA f,aA f]
def OX(K:Q<=8)(X:x.aF=N'->ζ x.aM=Q)(N:∀v∈x.aM,v.aH≠3/\v.rank<=100000)(a:x.rank<=100000):PR Q (kcE x.aF x.rank x.aM 100001) (gC x (-1)):=by
 unfold kcE gC;cases F:x.aF
 .rw[aD<|aP rfl];rfl
 have V:(N'&&decide (x.rank<100001))=N':=by simp;omega
 have u:¬(N'=O'\/((0:Int)<=-1/\-1<=x.rank)):=ak;rw[aD V,aA u];have i:=X F;refine De K i (Tj _ _ _) λj=>?_;rw[i,Kl _ _ _ K];by_cases f:j<Q
 .have C:x.aM[j]?=z' x.aM[j]:=bj I;rw[aD f,aD f,getD,C];have:=N _<|aO C;exact Ti this.1 this.2
 rw[aA f,aA f]
def abF(K:Q<=8)(X:x.aF=N'->ζ x.aM=Q)(D:x.aF=O'->x.aM=[])(N:∀v∈x.aM,v.aH=3):PR Q (rgT x.aF x.aM<|ζ x.aM) (gC x (-1)):=by
 unfold gC;cases F:x.aF
 .rw[aD<|aP rfl,D F];rfl
 rw[aA ak];have i:=X F;refine De K i (Z! _ _ _) λj=>?_;rw[i,R7 _ _ _ K];by_cases f:j<Q
 .have C:x.aM[j]?=z' x.aM[j]:=bj I;rw[aD f,aD f,getD,C];have:=N _<|aO C;unfold cS;exact(aD<|this).symm
 rw[aA f,aA f]
end
section
variable {nv:Nat}{e:PE}{v:EV}
def KC.dK(h:PR nv e v)(a:dw 5 nv v):∀i,zV (e.at i)/\dM (b8<|e.at i):=by
 have f:zV VV.z/\dM (b8 VV.z):=⟨⟨rfl,λ_=>rfl⟩,aj,aj⟩;intro i;cases v with
 |none=>have D:e=PE.zero:=h;rw[D,KC.qPE.wP];exact f
 |some E=>
  rw[h.2.2];by_cases S:i<ζ E;rotate_left
  .rw[getD,cq I];exact f
  have C:=bj S;rw[getD,C];have R:=(a E rfl).2 _<|aO C;have Y:=R.form;rw[aD rfl]at Y;show zV E[i]/\dM (b8 E[i]);refine⟨?_,f64.2 R.bd.lo,f64.2 R.bd.hi⟩;rcases Y with Y|Y
  .rw[Y];exact⟨rfl,λ_=>rfl⟩
  rw[Y];exact⟨rfl,λh=>by cases h⟩
def FW{Q:Nat}(K:Q<=8):∀(l:List<|PE×EV)(e:PE)(v:EV),PR Q e v->dw 5 Q v->(∀q∈l,PR Q q.1 q.2/\dw 5 Q q.2)->PR Q ((l.map Prod.fst).foldl KC.jO e) ((l.map Prod.snd).foldl (qD 5) v)/\dw 5 Q ((l.map Prod.snd).foldl (qD 5) v)
 |[],e,v,h,a,_=>⟨h,a⟩
 |q::l,e,v,h,a,hl=>by have b:=hl q ak;exact FW K l _ _ (Sj K h b.1 (λi=>(KC.dK h a i).1) λi=>(KC.dK b.1 b.2 i).1) (oZ a b.2) (λx F=>hl x<|by simp[F])
def KB.dK(h:PR nv e v)(a:dw 6 nv v):∀i,zX (e.at i)/\dM (b8<|e.at i):=by
 have f:zX VV.z/\dM (b8 VV.z):=⟨rfl,aj,aj⟩;intro i;cases v with
 |none=>have D:e=PE.zero:=h;rw[D,KC.qPE.wP];exact f
 |some E=>
  rw[h.2.2];by_cases S:i<ζ E;rotate_left
  .rw[getD,cq I];exact f
  have C:=bj S;rw[getD,C];have R:=(a E rfl).2 _<|aO C;have Y:=R.form;rw[aA aj]at Y;show zX E[i]/\dM (b8 E[i]);refine⟨?_,f64.2 R.bd.lo,f64.2 R.bd.hi⟩;exact Y.1
def FX{Q:Nat}(K:Q<=8):∀(l:List<|PE×EV)(e:PE)(v:EV),PR Q e v->dw 6 Q v->(∀q∈l,PR Q q.1 q.2/\dw 6 Q q.2)->PR Q ((l.map Prod.fst).foldl KB.jO e) ((l.map Prod.snd).foldl (qD 6) v)/\dw 6 Q ((l.map Prod.snd).foldl (qD 6) v)
 |[],e,v,h,a,_=>⟨h,a⟩
 |q::l,e,v,h,a,hl=>by have b:=hl q ak;exact FX K l _ _ (Sk K h b.1 (λi=>(KB.dK h a i).1) λi=>(KB.dK b.1 b.2 i).1) (oZ a b.2) (λx F=>hl x<|by simp[F])
end
section
variable {P:Pm}{held:Nat->PE}{at_:Nat->EV}
def Rz(n i:Nat):(qA n).at i=VV.z:=Lw _ i
def aae(P:Pm)(n:Nat):PR P.nv (qA n) (P.E? n):=by
 unfold Pm.E?;cases n with
 |zero=>rw[aD rfl];refine⟨rfl,ak,λi=>?_⟩;rw[Rz,getD,j!];split<;>rfl
 |succ n=>rw[aA I];exact E9 n
def px(P:Pm):Prop:=∀n∈P.nd,n.aH=1->0<=n.op/\n.op<=3
def KC.cz(P:Pm)(held:Nat->PE)(n:Nat):PE:=((P.ins n).map λx=>KC.fF (held x.1) (P.at x.1) (decide (x.2=0))).foldl KC.jO<|qA n
def KB.cz(P:Pm)(held:Nat->PE)(n:Nat):PE:=((P.ins n).map λx=>KB.fF (held x.1) (P.at x.1) (decide (x.2=0))).foldl KB.jO<|qA n
def Eh{i:Nat}(h:i<ζ P.nd):P.at i∈P.nd:=by rw[Pm.at,getD,bj h];exact eG h
def rg_of{v:VV}(h:okV 6 v):VH v:=by have Y:=h.form;rw[aA aj]at Y;exact⟨Y.1,Y.2,h.bd.lo.1,h.bd.hi.2⟩
def Kv(F:ζ P.nx=ζ P.nd){n:Nat}{x:Nat×Nat}(h:x∈P.ins n):P.at x.1∈P.nd:=Eh<|I'<|lg n P.nx 0 x h
def KC.kB(a:cN P)(T:nD P)(b:px P)(F:ζ P.nx=ζ P.nd)(V:∀m,PR P.nv (held m) (at_ m)/\dw 5 P.nv (at_ m))(n:Nat):
  PR P.nv (KC.cz P held n) (P.say 5 n at_)/\dw 5 P.nv (P.say 5 n at_):=by
 have C:=FW a.nv ((P.ins n).map λx=>(KC.fF (held x.1) (P.at x.1) (decide (x.2=0)),vM 5 (P.at x.1) x.2<|at_ x.1)) (qA n) (P.E? n) (aae P n) (uw 5 P n) (λq c=>by
  obtain⟨x,L,rfl⟩:=bG.1 c;have d:=Kv F L
  exact⟨Sg (V x.1).1 a.nv (P.at x.1) x.2 (a.var _ d) (a.aH _ d).1 (b _ d) (a.a _ d)<|a.b _ d,oV (aP rfl) (T x.1) (V x.1).2⟩)
 rw[fS,fS]at C;have u:P.say 5 n at_=((P.ins n).map<|Prod.snd∘λx=>(KC.fF (held x.1) (P.at x.1) (decide (x.2=0)),vM 5 (P.at x.1) x.2<|at_ x.1)).foldl (qD 5) (P.E? n):=by rw[foldl_map];rfl
 rw[u];exact C
def KB.kB(a:cN P)(T:nD P)(F:ζ P.nx=ζ P.nd)(V:∀m,PR P.nv (held m) (at_ m)/\dw 6 P.nv (at_ m))(n:Nat):
  PR P.nv (KB.cz P held n) (P.say 6 n at_)/\dw 6 P.nv (P.say 6 n at_):=by
 have C:=FX a.nv ((P.ins n).map λx=>(KB.fF (held x.1) (P.at x.1) (decide (x.2=0)),vM 6 (P.at x.1) x.2<|at_ x.1)) (qA n) (P.E? n) (aae P n) (uw 6 P n) (λq b=>by
  obtain⟨x,L,rfl⟩:=bG.1 b;have d:=Kv F L
  exact⟨Si (V x.1).1 a.nv (P.at x.1) x.2 (λE R _=>rg_of<|ic ((V x.1).2 E R).2 _ (T x.1).1) (λE R _=>rg_of<|ic ((V x.1).2 E R).2 _ (T x.1).2) (a.var _ d) (a.aH _ d).1 (a.a _ d)<|a.b _ d,oV (aR rfl) (T x.1) (V x.1).2⟩)
 rw[fS,fS]at C;have u:P.say 6 n at_=((P.ins n).map<|Prod.snd∘λx=>(KB.fF (held x.1) (P.at x.1) (decide (x.2=0)),vM 6 (P.at x.1) x.2<|at_ x.1)).foldl (qD 6) (P.E? n):=by rw[foldl_map];rfl
 rw[u];exact C
end
def zi:(Tryz.prog.info? 73).map (λi=>(i.zero,i.size,i.bytes))=z' (z'<|j' nL,6,48):=M
def pvC(v:Vl):List y':=[G v.aH,G v.lo,G v.hi,h' O',G 0,G 0]
def vG(vs:List Vl):List y':=vs.flatMap pvC
def JY{E:List Vl}{k:Nat}{v:Vl}(h:E[k]?=z' v):vG (E.take<|k+1)=vG (E.take k)++pvC v:=by have X:=(aX.1 h).1;rw[ep X,(aX.1 h).2];simp[vG]
def mM{X:p'}{q:Nat}{L:List y'}{t:TypeId}(h:X.1[q]?=z' (cU (θ L) t)):∀(j:Nat)(u:y'),L[j]?=z' u->χ X (((O q 0):Addr).add j)=z' u:=by intro j u f;rw[dY,bH,(A h).1];simpa using f
section
variable {n:Nat}{a:t'}{es:List PE}{e:PE}{r:RR}{x:Nat×y'}{P:Pm}{b:Nat->PE}{o:lz}
def KC.bp(es:List PE):List y':=es.flatMap KC.aT
def KB.bp(es:List PE):List y':=es.flatMap KB.aT
def KC.kN:∀(l:List PE)(j:Nat)(e:PE)(i:Nat),l[j]?=z' e->i<17->(KC.bp l)[j*17+i]?=(KC.aT e)[i]?
 |[],j,e,i,h,_=>by simp at h
 |a::l,0,e,i,h,hi=>by simp at h;subst h;simp only[KC.bp,bW,e6,bH];exact gI hi
 |a::l,j+1,e,i,h,hi=>by have B:=KC.kN l j e i (H' h) hi;simp only[KC.bp,bW]at B|-;have o:ζ (KC.aT a)=17:=rfl;rw[eB I,<-B];congr 1;omega
def KB.kN:∀(l:List PE)(j:Nat)(e:PE)(i:Nat),l[j]?=z' e->i<17->(KB.bp l)[j*17+i]?=(KB.aT e)[i]?
 |[],j,e,i,h,_=>by simp at h
 |a::l,0,e,i,h,hi=>by simp at h;subst h;simp only[KB.bp,bW,e6,bH];exact gI hi
 |a::l,j+1,e,i,h,hi=>by have B:=KB.kN l j e i (H' h) hi;simp only[KB.bp,bW]at B|-;have o:ζ (KB.aT a)=17:=rfl;rw[eB I,<-B];congr 1;omega
def aex(h:p:=by
 intro j e f;rcases h.2 with⟨R,_⟩|⟨g,b,Y,R,_⟩
 .exfalso;have D:=kN es j e 0 f I;simp at R;have:=(aX.1<|D.trans<|bj<|show 0<ζ (aT e) from Nat.succ_pos 16).1;rw[h.1,R.2.1]at this;omega
 simp at R;obtain⟨rfl,rfl⟩:=R;refine⟨g,0,rfl,λi v S=>?_⟩;have L:=(aX.1 S).1;have U:=h.cells (g:=g) rfl (j*17+i) v (by rw[kN es j e i f L];exact S);rw[dY,bH]at U;rw[bH]
 exact U):p:=h
open KC in
def KC.FV(h:ρ W B 228 17 (g' a n c) n<|KC.bp es):KC.kh W a es:=aex
open KB in
def KB.FV(h:ρ W B 250 17 (g' a n c) n<|KB.bp es):KB.kh W a es:=aex
def KC.FO(h:W.1[q]?=z' (i' (θ<|KC.aT e) 228 (0,0)))(v:B<=q):ρ W B 228 17 (g' (z'<|O q 0) 1 1) 1 (KC.bp [e]):=by refine⟨rfl,aR ⟨q,1,θ<|KC.aT e,rfl,v,h,aK,?_,rfl,rfl⟩⟩;unfold maxLen;decide
def KB.FO(h:W.1[q]?=z' (i' (θ<|KB.aT e) 250 (0,0)))(v:B<=q):ρ W B 250 17 (g' (z'<|O q 0) 1 1) 1 (KB.bp [e]):=by refine⟨rfl,aR ⟨q,1,θ<|KB.aT e,rfl,v,h,aK,?_,rfl,rfl⟩⟩;unfold maxLen;decide
def KC.yB:(Tryz.prog.info? 228).map (λi=>(i.zero,i.size,i.bytes))=z' (z'<|j'<|θ<|KC.aT PE.zero,17,136):=M
def KB.yB:(Tryz.prog.info? 250).map (λi=>(i.zero,i.size,i.bytes))=z' (z'<|j'<|θ<|KB.aT PE.zero,17,136):=M
def aew(h:p:=by
 have o:=(aX.1 hk).1;have F:=tD r.es k x hk;rcases h.2 with⟨_,e⟩|⟨g,a,Y,R,_⟩
 .omega
 simp[RR.ev]at R;refine⟨g,R.1,?_,?_⟩
 .have:=h.cells (g:=g) (by simp[RR.ev,Value.ownBlock,R.1]) _ _ F.1;rwa[dY,bH]at this
 have:=h.cells (g:=g) (by simp[RR.ev,Value.ownBlock,R.1]) _ _ F.2
 rwa[dY,bH]at this):p:=h
open KC in
def KC.Mn(h:ρ W B 378 2 r.ev (ζ r.es)<|ix r.es)(hk:r.es[k]?=z' x):∃g,r.ea=z' (O g 0)/\χ W (O g<|k*2)=z' (G x.1)/\χ W (O g<|k*2+1)=z' x.2:=aew
open KB in
def KB.Mn(h:ρ W B 340 2 r.ev (ζ r.es)<|ix r.es)(hk:r.es[k]?=z' x):∃g,r.ea=z' (O g 0)/\χ W (O g<|k*2)=z' (G x.1)/\χ W (O g<|k*2+1)=z' x.2:=aew
def KC.Se(P:Pm)(held:Nat->PE)(x:Nat×Nat):PE:=KC.fF (held x.1) (P.at x.1) (decide (x.2=0))
def KB.Se(P:Pm)(held:Nat->PE)(x:Nat×Nat):PE:=KB.fF (held x.1) (P.at x.1) (decide (x.2=0))
def KC.oM(P:Pm)(held:Nat->PE):Prop:=∀m,∃v,PR P.nv (held m) v/\dw 5 P.nv v
def KB.oM(P:Pm)(held:Nat->PE):Prop:=∀m,∃v,PR P.nv (held m) v/\dw 6 P.nv v
def KC.oM.bin(h:KC.oM P b)(m i:Nat):dM (b8 ((b m).at i)):=by obtain⟨v,C,a⟩:=h m;exact(KC.dK C a i).2
def KB.oM.bin(h:KB.oM P b)(m i:Nat):dM (b8 ((b m).at i)):=by obtain⟨v,C,a⟩:=h m;exact(KB.dK C a i).2
def KC.oM.op(h:KC.oM P b)(m:Nat)(a:Au o):dM (b8<|jg (b m) o):=by
 unfold jg;split
 .exact h.bin m _
 exact⟨f64.2 a,f64.2 a⟩
def KB.oM.op(h:KB.oM P b)(m:Nat)(a:Au o):dM (b8<|jg (b m) o):=by
 unfold jg;split
 .exact h.bin m _
 exact⟨f64.2 a,f64.2 a⟩
def aev(h:p:=by
 obtain⟨v,C,a⟩:=h x.1;have t:=Kv hx hm
 first|(have _:=Dc;refine(dK (nv:=P.nv) (v:=vM 5 (P.at x.1) x.2 v) ?_ (oV aj (hc x.1) a) i).2)|(refine(dK (nv:=P.nv) (v:=vM 6 (P.at x.1) x.2 v) ?_ (oV aj (hc x.1) a) i).2)
 first|(have _:=Dc;exact Sg C hO.nv (P.at x.1) x.2 (hO.var _ t) (hO.aH _ t).1 (ho _ t) (hO.a _ t)<|hO.b _ t)|(exact Si C hO.nv (P.at x.1) x.2 (λE R _=>rg_of<|ic (a E R).2 _ (hc x.1).1) (λE R _=>rg_of<|ic (a E R).2 _ (hc x.1).2) (hO.var _ t) (hO.aH _ t).1 (hO.a _ t)<|hO.b _ t)):p:=h
open KC in
def KC.oM.made(h:KC.oM P b)(hO:cN P)(hc:nD P)(ho:px P)(hx:ζ P.nx=ζ P.nd){x:Nat×Nat}(hm:x∈P.ins n)(i:Nat):dM (b8 ((KC.Se P b x).at i)):=aev
open KB in
def KB.oM.made(h:KB.oM P b)(hO:cN P)(hc:nD P)(ho:px P)(hx:ζ P.nx=ζ P.nd){x:Nat×Nat}(hm:x∈P.ins n)(i:Nat):dM (b8 ((KB.Se P b x).at i)):=aev
def KC.JW{a b:VV}(c:dM<|b8 a)(d:dM<|b8 b):dM (b8<|KC.wk a b):=by
 unfold KC.wk;split
 .exact c
 exact⟨aj,aj⟩
def KB.JW{a b:VV}(c:dM<|b8 a)(d:dM<|b8 b):dM (b8<|KB.wk a b):=by
 unfold KB.wk;refine⟨?_,?_⟩
 .show aN (min a.lo b.lo)=N';rcases Int.le_total a.lo b.lo with h|h
  .rw[Int.min_eq_left h];exact c.lo
  rw[Int.min_eq_right h];exact d.lo
 show aN (max a.hi b.hi)=N';rcases Int.le_total a.hi b.hi with h|h
 .rw[Int.max_eq_right h];exact d.hi
 rw[Int.max_eq_left h];exact c.hi
def KC.Mi(h:KC.oM P b)(c:cN P)(T:nD P)(a:px P)(F:ζ P.nx=ζ P.nd)(n:Nat):∀i,dM (b8 ((KC.cz P b n).at i)):=by obtain⟨f,Y⟩:=Classical.axiomOfChoice h;have C:=KC.kB c T a F Y n;exact λi=>(KC.dK C.1 C.2 i).2
def KB.Mi(h:KB.oM P b)(a:cN P)(T:nD P)(c:px P)(F:ζ P.nx=ζ P.nd)(n:Nat):∀i,dM (b8 ((KB.cz P b n).at i)):=by obtain⟨f,Y⟩:=Classical.axiomOfChoice h;have C:=KB.kB a T F Y n;exact λi=>(KB.dK C.1 C.2 i).2
def aeu(h:p:=by
 have hN:=hO.most;obtain⟨ql,hE⟩:=hE;obtain⟨r,hr⟩:=La (l:=ql) (i:=n) (by rw[hE.len];exact hn);have TC:=hE.st n r hr;have XG:=hE.es n r hr;have hrg:=hE.sys.range hr;have GQ:=hE.sys.row r<|aO hr;have mw:=lf n P.nx 0 λl hl=>(hO.nx l hl).1;have hL:ζ r.es=ζ (P.ins n):=XG.1;simp only[n0,TC,RR.ev]at hrg;rw[hL]at hrg;obtain⟨L,fw⟩:=Ea<|ζ<|P.ins n;rw[<-fw]at hrg;have hL2:L<=120:=by rw[fw];show(dD n 0 P.nx).length<=120;omega
 have HH:=hid<|Aa hE<|Aa hd<|Aa hO<|Aa hc<|Aa ho<|Aa hx<|Aa hH<|Aa hh<|Aa XG<|Aa GQ fw;clear hE hd hO hc ho hx hH hh XG GQ fw TC hr mw hL;obtain⟨i0,hi,Xw,hz1,ir⟩:=cI yB;have HI:J (_/\_/\_/\_):=⟨hi,Xw,hz1,ir⟩;clear hi Xw hz1 ir;obtain⟨N,gv⟩:=Ea<|ζ P.nd;rw[<-gv]at hN hn|-;have HN:=hid gv;have hni:(n:Int)<N:=I;have ag6:∀e,ζ (aT e)=17:=λ_=>rfl;clear gv;simp only[KC.fZ,KB.fZ];go_enter ae2,aeO;go_upto_region 1 with fail
 refine T0 (F:=Code.wp _ _ _ _) λW0 HB=>?_;have x1:=A HB.a.1;have hr0:=kM hrg HB.b;clear hrg;go_upto_region 2 with(first|(refine wpList_load_mid rfl qg (.tmp 14) rfl rb (n*18) rfl (aT (qA n)++[g' r.ea L r.ec]) _ hr0 abA rfl M ?_)|(refine wpList_store_mid rfl qg (.tmp 7) (.tmp 15) rfl W0.1.size 0 (θ<|aT (qA n)++[g' r.ea L r.ec]) rfl rfl (cK (n:=18) cv rfl) M (all_oneCell_toArray (λv hv=>by rcases iF.1 hv with hv|hv;(· exact pN _ v hv);simp at hv;subst hv;rfl)) ?_))
 refine PI (F:=Code.wp _ _ _ _) rfl λW1 H1=>?_;have mj:=blt HB.a.2;have fy:J (Bl w W1/\_/\_):=⟨aq HB.b H1.A,aG H1.A HB.a.1,aG H1.A HB.a.2⟩;have HQ:=hid<|Aa HB.B H1.a;clear H1 HB hr0 x1;generalize δ W0.1=qr at HQ mj|-;have hr1:W1.rangeAt qr 0 (aT<|qA n):=λj v hv=>bu HQ.A j v (by rw[gI (aX.1 hv).1];exact hv);simp only[Act.put];go_upto_region 3 with(refine wpList_load_mid rfl bL (.tmp 16) rfl qr 0 rfl (aT<|qA n) _ hr1 gU rfl M ?_)
 refine iU (F:=Code.wp _ _ _ _) λW2 H2=>?_;have h2:=H2.a;rw[G8 (l:=aT<|qA n) (z:=qh) rfl]at h2;have ml:=blt HQ.A;have YI:J (Bl w W2/\_/\_/\_/\_):=⟨aq fy.a H2.b,aG H2.b fy.b,aG H2.b fy.B,aG H2.b HQ.A,h2⟩;have mz:=hid HQ.a;clear h2 H2 fy HQ hr1;generalize δ W1.1=b0 at YI ml|-;have x1:=A YI.d;have mq:χ W2 (O qr 17)=z' (bk r.ea L r.ec):=by rw[x1.1];rfl
 clear x1;go_wp2_with fail;clear mq;generalize j' #[g' (z'<|O rb 0) N N,.func (.func Al) #[]<|cB db,.func (.func FR) #[]<|cB db]=sv0;generalize j' (θ<|aT (qA n)++[g' r.ea L r.ec])=sv1;generalize j' (θ<|aT<|qA n)=sv2;go_loopw[8,22] (λlv iv wr=>∃(k:Nat)(a:t')(c:Nat),k<=L/\iv=G k/\lv=g' a (k+1) c/\J (ρ wr b0 bL 17 (g' a (k+1) c) (k+1) (bp<|qA n::((P.ins n).take k).map (Se P held))/\Below b0 W2 wr)) (λ_ iv _=>L-(intOf iv).toNat)
 case atStart=>exact⟨0,_,_,bm,rfl,rfl,FO YI.D aK,aQ⟩
 obtain⟨k,a,c,hk,rfl,rfl,HK⟩:=hrel;have mi:δ w.1+1+1=qr:=mz.o.symm;have gW:J (Bl w wr):=YI.a.trans<|HK.A.mono I;have hsr:=HK.A.size;clear mi;by_cases n8:k<L;rotate_left
 .have jy:¬(k:Int)<L:=I;obtain rfl:L=k:=I
  have iS:(P.ins n).take L=P.ins n:=c! (by rw[<-HH.J];exact aK);rw[iS]at HK;have HJ:J (∀W,Below wr.1.size wr W->Cl Al #[g' a (L+1) c,m'<|z'<|O db 0] W (Rb W<|j'<|θ<|aT<|cz P held n)):=by
   intro W hW;have hl:ζ (qA n::(P.ins n).map (Se P held))=L+1:=by rw[bU,b9,<-HH.J]
   have:=rq a c db (qA n::(P.ins n).map (Se P held)) W (aG (aq gW.o hW) HH.b) (FV<|aZ HK.a hW) (by rw[hl];omega) (by
    intro e he i;rcases cM.1 he with rfl|he
    .rw[Rz];exact⟨aj,aj⟩
    .obtain⟨x,hx,rfl⟩:=bG.1 he
     exact HH.g.made HH.c HH.d HH.e HH.f hx i) λ_ _ ha hb=>JW ha hb
   rw[hl]at this;exact this
  obtain⟨z,hz⟩:=Ea<|cz P held n;rw[<-hz]at HJ;have HZ:=hid hz;clear hz iS;have js:δ w.1+1<b0:=I;have x1:=A<|Hq HK.A YI.b I;go_wp2_with (first|((first|go_at_call 270 | go_at_call 275);refine(HJ.o _ aQ).mono ?_;rintro e Y ⟨rfl,hb⟩;have HY:=hid hb;clear hb x1;have ht:=cK (n:=17) (aG HY.o<|Hq HK.A YI.c js) rfl)|(refine wpList_store_mid rfl bL (.tmp 6) (.tmp 40) rfl (δ w.1+1) 0 (θ<|aT z) rfl rfl ht M (bO _) ?_));have hq:=cX (cs:=qh) (aG HY.o<|Hq HK.A YI.c js) (vs:=aT z) rfl;have hL:=run_loadVar_mid (P:=Tryz.prog) (ψ Y (δ w.1+1) 0<|aT z) (δ w.1+1) 0 bL (aT z) _ (bu hq) gU rfl M;refine aE (v:=j'<|θ<|aT z) (by simp[results,results210,results216,hL,Act.put,asAddr]) rfl ⟨by rw[HZ.o],dJ I _ _ _<|aq gW.o HY.o⟩
 have jy:(k:Int)<L:=I;obtain⟨x,hx⟩:=La (l:=(P.ins n)) (i:=k) (by rw[<-HH.J];exact n8);obtain⟨y,hy⟩:=La (l:=r.es) (i:=k) (by rw[HH.i.1,<-HH.J];exact n8);obtain⟨kv,sb,he2,ll⟩:=HH.i.2 k y x hy hx;obtain⟨g,hg,e0,e1⟩:=Mn (aZ HH.j gW.o) hy;rw[kv]at e0;rw[he2]at e1;have hxm:=aO hx;have gh:x.1<ζ P.nd:=by have:=lg n P.nx 0 x hxm;have:=HH.f;omega
 have GR:=Eh gh;have HX:=hid hx;have HC:J (∀W,Bl w W->Cl fk (#[G x.1]++caps) W (Rb W<|j'<|θ<|aT<|held x.1)):=HH.h x.1 gh;have HM:J (∀W,Bl w W->Cl JV #[j'<|θ<|aT<|held x.1,m'<|z'<|O sb 0] W (Rb W<|j'<|θ<|aT<|Se P held x)):=by intro W hW;have h8:=HH.c.nv;exact Bu (held x.1) (P.at x.1) (decide (x.2=0)) sb W (ll.below hW) (λh=>by have:=HH.c.var _ GR h;omega) (HH.c.aH _ GR).1 (λh1 h2=>by have:=HH.c.a _ GR h1 h2;omega) (λh1 h2=>by have:=HH.c.b _ GR h1 h2;omega) (λ_=>HH.g.op _ (HH.d x.1).1) λ_=>HH.g.op _ (HH.d x.1).2
 clear hx hy kv he2 ll hxm gh GR;generalize held x.1=hd0 at HC HM;obtain⟨md,gm⟩:=Ea<|Se P held x;rw[<-gm]at HM;have nf:=hid gm;clear gm;generalize x.1=xf at HC e0;rw[hg];go_upto_region 6 with fail
 clear e0 e1;refine iU (F:=Code.wp _ _ _ _) λV HV=>?_;have Vq:J (Below wr.1.size wr V/\Below b0 W2 V/\Bl w V):=⟨HV.b,HK.A.trans<|HV.b.mono (by have:=blt YI.D;omega),aq gW.o HV.b⟩;have fu:=hid HV.a;clear HV;generalize ag8:δ wr.1=eb at fu|-;have heb:b0<eb:=by have:=blt YI.D;omega
 refine wp_region_held_drew (S:=λW'=>Below b0 W2 W'/\W'.1[eb]?=z' (i' #[G xf,yC sb] mK (0,0))) M ⟨Vq.b.drew,fu.o⟩ λaC=>?_;refine tq 0 (g' a (k+1) c) ?_;refine tq 1 (xR eb) ?_;refine tr 2 (yC sb) (λW' aW=>(A aW.2).1) ?_;refine tq 3 (.func (.func fk) #[] caps) ?_;refine tq 4 (xV eb) ?_;refine tr 5 (G xf) (λW' aW=>(A aW.2).1) ?_;refine r1 6 λK hK=>?_;go_simp;refine(HC.o _<|Vq.B.drew).mono ?_;rintro e Y1 ⟨rfl,hb⟩;have H1:J (Bl V Y1):=aq aQ.drew hb;clear hb;refine hK.out _ _ ⟨Vq.b.trans<|H1.o.mono (by have:=Vq.a.size;omega),aG H1.o fu.o⟩ λaC=>?_;clear hK K;refine pt ?_;refine r1 7 λK hK=>?_;go_simp;refine(HM.o _<|aq Vq.B H1.o).mono ?_;rintro e Y2 ⟨rfl,hb⟩;have H2:J (Bl V Y2):=aq H1.o hb;clear hb;refine hK.out _ _ ⟨Vq.b.trans<|H2.o.mono (by have:=Vq.a.size;omega),aG H2.o fu.o⟩ λaC=>?_;clear hK K;refine pt ?_;refine r1 8 λK hK=>?_;go_simp;refine hK.out _ _ ⟨aC.1.trans<|bA.mono<|bX (by have:=Vq.a.size;omega) H2.o.size,aG bA aC.2⟩ λaC=>?_;clear hK K;refine pt ?_;clear aC;refine iU (F:=λV=>wpAnyH _ _ _ _ _ _ _ _ V) λX Iy=>?_;have gk:=Iy.a;rw[G8 (l:=aT md) (z:=qh) rfl]at gk;have Hy:J (Bl V X/\X.1[δ Y2.1]?=z' (i' (θ<|aT md) bL (0,0))/\Below wr.1.size wr X/\Below b0 W2 X/\eb<δ X.1):=⟨aq H2.o Iy.b,gk,aq Vq.a<|aq H2.o Iy.b,Vq.b.trans ((aq H2.o Iy.b).mono (by have:=Vq.a.size;omega)),blt<|aG (aq H2.o Iy.b) fu.o⟩;clear gk Iy;have aC:Below b0 W2 X/\X.1[eb]?=z' (i' #[G xf,yC sb] mK (0,0)):=⟨Hy.d,aG Hy.a fu.o⟩;refine r1 9 λK hK=>?_;refine gw rfl (.tmp 26) (.tmp 34) OT rfl b0 bL i0 (j'<|θ<|aT PE.zero) 17 136 abz HI.a HI.b HI.c HI.C rfl aj (g' a (k+1) c) (k+1) (bp<|qA n::((P.ins n).take k).map (Se P held)) (by simp[Act.eval,Act.put]) (aZ HK.a Hy.c) (O Y2.1.size 0) 1 1 (aT md) (by simp[Act.eval,Act.put]) rfl (mM Hy.b) (pN md) (by unfold maxLen;omega) I (by have:=Hy.D;omega) ?_;intro v4 W4 ti TK my;obtain⟨a4,c4,rfl⟩:=aV ti;have H4:=hid<|Aa ti TK;clear ti TK my;have rI:=aZ HK.a Hy.c;refine hK.out _ _ ⟨aC.1.grown H4.A (by have:=Hy.D;omega) λq e=>(rI.lt q e).1,(H4.A.block eb Hy.D λe=>dV rI aC.2 aj e.symm).trans aC.2⟩ λaC=>?_;clear hK K;refine pt ?_;refine tq 10 (g' a4 (k+1+1) c4) ?_;refine wpAnyH_done M ?_ _;clear rI;go_wp2_with fail;go_roundw
 case rel=>
  refine⟨k+1,a4,c4,n8,e',rfl,?_,aC.1⟩;have he:bp (qA n::((P.ins n).take<|k+1).map (Se P held))=bp (qA n::((P.ins n).take k).map (Se P held))++aT md:=by rw[ep (aX.1 HX.o).1,(aX.1 HX.o).2,fq,nf.o];simp[KC.bp,KB.bp]
  rw[he];exact H4.a
 simp[intOf];omega):p:=h
open KC in
theorem KC.uC(rb db B n fk:Nat)(P:Pm)(caps:Array Value)(held:Nat->PE)(w:World)(hE:KC.rA w B rb P)(hd:w.heap[db]?=some (.cells #[.iface 328<|.agg #[]] 381 (0,0)))(hO:cN P)(hc:nD P)(ho:px P)(hx:P.nx.length=P.nd.length)(hn:n<P.nd.length)(hH:KC.oM P held)(mm:∀xs w,(callFunc fk xs).run Tryz.prog w=.ok (.enter fk xs) w)
 (hh:∀m,m<P.nd.length->∀W,Bl w W->Cl fk (#[G m]++caps) W (Rb W<|.agg (KC.aT<|held m).toArray)):
 Cl 210 #[KC.fZ rb db P.nd.length,G n,.func (.func fk) #[] caps] w (Rb w<|.agg (KC.aT<|KC.cz P held n).toArray):=by exact aeu
open KB in
theorem KB.uC(rb db B n fk:Nat)(P:Pm)(caps:Array Value)(held:Nat->PE)(w:World)(hE:KB.rA w B rb P)(hd:w.heap[db]?=some (.cells #[.iface 331<|.agg #[]] 386 (0,0)))(hO:cN P)(hc:nD P)(ho:px P)(hx:P.nx.length=P.nd.length)(hn:n<P.nd.length)(hH:KB.oM P held)(mm:∀xs w,(callFunc fk xs).run Tryz.prog w=.ok (.enter fk xs) w)
 (hh:∀m,m<P.nd.length->∀W,Bl w W->Cl fk (#[G m]++caps) W (Rb W<|.agg (KB.aT<|held m).toArray)):
 Cl 216 #[KB.fZ rb db P.nd.length,G n,.func (.func fk) #[] caps] w (Rb w<|.agg (KB.aT<|KB.cz P held n).toArray):=by exact aeu
end
section
variable {c:Ct}
def bQ(hs:List PE)(n:Nat):PE:=hs.getD n PE.zero
def kcN(r:Int)(x:Nd):PE:=kcE x.aF x.rank x.aM r
def rgN(x:Nd):PE:=rgT x.aF x.aM<|ζ x.aM
structure KcC(c:Ct)(nv:Nat):Prop where
  env:AI c nv
  rank:∀x∈c.nodes,0<=x.rank/\x.rank<=100000
  aM:∀x∈c.nodes,∀v∈x.aM,v.aH≠3/\0<=v.rank/\v.rank<=100000
def aan(o:qi c=N')(U:c.aL=5)(B:∀x∈c.nodes,lA x)(R:c.nodes.all (Xx (Q:Int))=N'):KcC c Q:=by
 have K:∀x∈c.nodes,cY 5 c.grade x=N':=by have:=o;unfold qi at this;rw[aY,bV,U]at this;exact this.2
 have d:∀x∈c.nodes,x.aF=O'->x.aM=[]/\x.facts=[]/\x.rank=0:=by intro x F b;have:=K x F;unfold cY l! at this;simp[b]at this;exact⟨this.2,this.1.1.2,this.1.1.1⟩
 have l:∀x∈c.nodes,x.aF=N'->x.facts=[]/\(0<=x.rank/\x.rank<=100000)/\∀v∈x.aM,gG 5 c.grade x.rank v=N':=by intro x F b;have:=K x F;unfold cY jR rk at this;simp[b]at this;exact⟨this.1.1.1.1.1,this.1.1.2,this.2⟩
 have u:∀x∈c.nodes,x.aF=N'->∀v∈x.aM,((v.aH=1/\v.bY=O'/\v.rank=0)\/(v.aH=2/\v.bY=N'/\x.rank<v.rank/\v.lo=0/\v.rank<=100000)\/(v.aH=2/\v.bY=O'/\v.lo=0/\v.rank=0))/\v.hi=0:=by
  intro x F b v R;have C:=(l x F b).2.2 v R;unfold gG nw at C;cases a:v.bY
  .simp[a]at C;rcases C with C|C
   .exact⟨aP ⟨C.1.1.1,rfl,C.2⟩,C.1.1.2⟩
   exact⟨aR<|aR ⟨C.1.1.1.1,rfl,C.1.1.1.2,C.2⟩,C.1.1.2⟩
  simp[a]at C;exact⟨aR<|aP ⟨C.1.1.2,rfl,C.1.1.1.1.2,C.1.2,C.1.1.1.2⟩,C.2⟩
 have a:∀x∈c.nodes,∀v∈x.aM,x.aF=N':=by
  intro x F v R;cases b:x.aF
  .rw[(d x F b).1]at R;simp at R
  rfl
 refine⟨⟨U,λx F b=>⟨?_,(l x F b).2.1.1,λv R=>?_⟩,λx F v R=>?_,λx F v R=>(u x F (a x F v R) v R).2,λx F=>⟨?_,λb=>(d x F b).1⟩⟩,λx F=>?_,λx F v R=>?_⟩
 .rw[bV]at R;have:=R x F;unfold Xx at this;simp[b]at this;omega
 .rcases(u x F b v R).1 with h|h|h
  .exact aP ⟨h.1,h.2.1⟩
  .exact aR<|aP ⟨h.1,h.2.1,h.2.2.1,h.2.2.2.1⟩
  exact aR<|aR ⟨h.1,h.2.1,h.2.2.1⟩
 .exact⟨((B x F).aM v R).lo,((B x F).aM v R).first⟩
 .cases b:x.aF
  .exact(d x F b).2.1
  exact(l x F b).1
 .cases b:x.aF
  .rw[(d x F b).2.2];omega
  exact(l x F b).2.1
 have D:=(l x F<|a x F v R).2.1;rcases(u x F (a x F v R) v R).1 with h|h|h<;>omega
def zM(c:Ct)(n:Nat):c.at n∈c.nodes\/c.at n=EA:=by
 rw[Ct.at,getD];cases e:c.nodes[n]? with
 |none=>exact aR rfl
 |some x=>exact aP<|aO e
def KcC.at{c:Ct}{Q:Nat}(h:KcC c Q)(n:Nat):((c.at n).aF=N'->ζ (c.at n).aM=Q)/\(∀v∈(c.at n).aM,v.aH≠3/\0<=v.rank/\v.rank<=100000)/\0<=(c.at n).rank/\(c.at n).rank<=100000/\((c.at n).aF=O'->(c.at n).aM=[]):=by
 rcases zM c n with C|C
 .exact⟨λa=>(h.env.ok _ C a).1,h.aM _ C,(h.rank _ C).1,(h.rank _ C).2,(h.env.bare _ C).2⟩
 rw[C];exact⟨λa=>by simp[EA]at a,λv R=>by simp[EA]at R,by simp[EA],by simp[EA],λ_=>rfl⟩
def KcC.last(h:KcC c Q)(K:Q<=8)(n:Nat):PR Q (kcN 100001<|c.at n) (eg c (-1) n):=
 OX K (h.at n).1 (λv R=>⟨((h.at n).2.1 v R).1,((h.at n).2.1 v R).2.2⟩) (h.at n).2.2.2.1
def KcC.rk(h:KcC c Q)(K:Q<=8){r:Int}(a:0<=r)(n:Nat):PR Q (kcN r<|c.at n) (eg c r n):=
 abG K (h.at n).1 (λv R=>((h.at n).2.1 v R).1) a
structure RgC(c:Ct)(nv:Nat):Prop where
  p:c.aL=6
  len:∀x∈c.nodes,x.aF=N'->ζ x.aM=nv
  bare:∀x∈c.nodes,x.aF=O'->x.aM=[]
  aM:∀x∈c.nodes,∀v∈x.aM,v.aH=3/\v.lo<=v.hi/\ga v.lo/\ga v.hi
def R6(o:qi c=N')(U:c.aL=6)(B:∀x∈c.nodes,lA x)(R:c.nodes.all (Xx (Q:Int))=N'):RgC c Q:=by
 have K:∀x∈c.nodes,cY 6 c.grade x=N':=by have:=o;unfold qi at this;rw[aY,bV,U]at this;exact this.2
 have b:∀x∈c.nodes,x.aF=O'->x.aM=[]:=by intro x F a;have:=K x F;unfold cY l! at this;simp[a]at this;exact this.2
 refine⟨U,λx F a=>?_,b,λx F v R=>?_⟩
 .rw[bV]at R;have:=R x F;unfold Xx at this;simp[a]at this;omega
 have a:x.aF=N':=by
  cases a:x.aF
  .rw[b x F a]at R;simp at R
  rfl
 have:=K x F;unfold cY jR at this;simp[a]at this;have C:=this.2 v R;unfold gG at C;simp at C;exact⟨C.1.1.1.1,C.2,((B x F).aM v R).lo,((B x F).aM v R).hi⟩
def RgC.at{c:Ct}{Q:Nat}(h:RgC c Q)(n:Nat):((c.at n).aF=N'->ζ (c.at n).aM=Q)/\((c.at n).aF=O'->(c.at n).aM=[])/\∀v∈(c.at n).aM,v.aH=3/\v.lo<=v.hi/\ga v.lo/\ga v.hi:=by
 rcases zM c n with C|C
 .exact⟨h.len _ C,h.bare _ C,h.aM _ C⟩
 rw[C];exact⟨λa=>by simp[EA]at a,λ_=>rfl,λv R=>by simp[EA]at R⟩
def RgC.pr(h:RgC c Q)(K:Q<=8)(n:Nat):PR Q (rgN<|c.at n) (eg c (-1) n):=
 abF K (h.at n).1 (h.at n).2.1 (λv R=>((h.at n).2.2 v R).1)
def RgC.ok(h:RgC c Q)(n:Nat):dw 6 Q (eg c (-1) n):=by
 unfold eg gC;split
 .exact lq
 rename_i K;intro E e;cases e;have a:(c.at n).aF=N':=by cases V:(c.at n).aF;(· exact absurd (aP V) K);rfl
 refine⟨by simp[(h.at n).1 a],λv R=>?_⟩;obtain⟨u,C,rfl⟩:=bG.1 R;obtain⟨a,k,f,w⟩:=(h.at n).2.2 u C;rw[cS,aD a];exact⟨⟨f,w⟩,by rw[aA aj];exact⟨rfl,k⟩⟩
def Nc{P:Pm}(o:qi c=N')(U:5<=c.aL)(X:ζ c.nodes=ζ P.nd):lh P c=c.nodes.all (Xx (P.nv:Int)):=by
 have K:∀x∈c.nodes,x.facts=[]:=by
  intro x F;have C:=o;unfold qi at C;rw[aY,bV]at C;have a:=C.2 x F;unfold cY jR l! at a;rw[aA I]at a;cases b:x.aF
  .simp[b]at a;exact a.1.1.2
  simp[b]at a;exact a.1.1.1.1.1
 rw[lh,eC X,eN,cC,bV,bV];constructor
 .intro h x F;have:=h x F;rw[aY]at this;have a:=this.2;unfold Xx;simp at a|-;rcases a with a|a
  .exact aP a
  exact aR I
 intro h x F;have:=h x F;rw[K x F];unfold Xx at this;simp at this|-;rcases this with a|a
 .exact aP a
 exact aR I
end
section
variable {hb:Nat}{es l:List PE}
def adQ(h:p:=by
 first|(have _:=Gw;have Y:=hid λW (j:Bl w W)=>KB.iK g cap nv nl P W (hP.below j) hO)|(have Y:=hid λW (j:Bl w W)=>KC.iK g cap nv nl P W (hP.below j) hO)
 clear hP hO;generalize ζ P.nd=N at Y|-;simp only[je]at Y|-
 first|(have _:=Gw;go_enter func143,ntmps143)|(go_enter func139,ntmps139)
 go_upto_region 1 with fail
 refine T0 (F:=Code.wp _ _ _ _) λb U=>?_;have E:=A U.a.1
 first|(have _:=Gw;go_wp2_with (go_at_call 213;refine(Y.o _ U.b).mono ?_;rintro e t ⟨rb,db,rfl,i,Q,b⟩;have c:=hid<|Aa i<|Aa Q b;clear i Q b E;have E:=A<|aG c.B U.a.2))|(go_wp2_with (go_at_call 212;refine(Y.o _ U.b).mono ?_;rintro e t ⟨rb,db,rfl,i,Q,b⟩;have c:=hid<|Aa i<|Aa Q b;clear i Q b E;have E:=A<|aG c.B U.a.2))
 have f:=aG c.B U.a.2
 first|(have _:=Gw;have d:=hid<|Aa (H (o:=0) f<|cG rb N)<|Aa (H (o:=1) (H (o:=0) f<|cG rb N)<|.func (.func 275) #[]<|cB db)<|H (o:=2) (H (o:=1) (H (o:=0) f<|cG rb N)<|.func (.func 275) #[]<|cB db)<|.func (.func 277) #[]<|cB db)|(have d:=hid<|Aa (H (o:=0) f<|cG rb N)<|Aa (H (o:=1) (H (o:=0) f<|cG rb N)<|.func (.func 270) #[]<|cB db)<|H (o:=2) (H (o:=1) (H (o:=0) f<|cG rb N)<|.func (.func 270) #[]<|cB db)<|.func (.func 272) #[]<|cB db)
 have r:=(A d.a).1;have R:=(A d.b).1;have F:=(A d.B).1;have v:db≠δ w.1+1:=by rintro rfl;have C:=c.b;rw[f]at C;simp at C
 first|(have _:=Gw;refine aE (v:=KB.fZ rb db N) (by simp[results143,go_sem,r,R,F]) rfl ⟨rb,db,rfl,?_,?_,?_⟩)|(refine aE (v:=KC.fZ rb db N) (by simp[results139,go_sem,r,R,F]) rfl ⟨rb,db,rfl,?_,?_,?_⟩)
 .obtain⟨b,i⟩:=c.a;exact⟨b,(i.zg f λk b=>by rw[aJ b,aJ b,aJ b]).low U.b.size⟩
 .rw[aJ v,aJ v,aJ v];exact c.b
 exact(((aq U.b c.B).setCell G' _).setCell G' _).setCell G' _):p:=h
def AK(g cap nv:Nat)(nl:List NC)(P:Pm)(w:p')(hP:PM w g cap nl P)(hO:cN P):
  Cl 139 #[je g (ζ P.nd) cap nv] w λe a=>∃rb db,e=n' (KC.fZ rb db<|ζ P.nd)/\KC.rA a w.1.size rb P/\a.1[db]?=z' (i' #[.iface 328<|j' #[]] 381 (0,0))/\Bl w a:=by
 exact adQ
def Lg(g cap nv:Nat)(nl:List NC)(P:Pm)(w:p')(hP:PM w g cap nl P)(hO:cN P):
  Cl 143 #[je g (ζ P.nd) cap nv] w λe a=>∃rb db,e=n' (KB.fZ rb db<|ζ P.nd)/\KB.rA a w.1.size rb P/\a.1[db]?=z' (i' #[.iface 331<|j' #[]] 386 (0,0))/\Bl w a:=by
 have Gw:=True.intro;exact adQ
def Zq(h:p:=by
 induction n with
 |zero=>rfl
 |succ n B=>rw[gM,oj,B,gM];rfl):p:=h
def KC.yD(n:Nat):(replicate n<|KC.aT PE.zero).flatten=KC.bp (replicate n PE.zero):=by exact Zq
def KB.yD(n:Nat):(replicate n<|KB.aT PE.zero).flatten=KB.bp (replicate n PE.zero):=by exact Zq
def KC.k7(a b:List PE):KC.bp (a++b)=KC.bp a++KC.bp b:=IA
def KB.k7(a b:List PE):KB.bp (a++b)=KB.bp a++KB.bp b:=IA
def KC.k5(l:List PE):ζ (KC.bp l)=ζ l*17:=by
 induction l with
 |nil=>rfl
 |cons e l B=>have h:ζ (KC.aT e)=17:=rfl;simp only[KC.bp,bW,bg,bU]at B|-;omega
def KB.k5(l:List PE):ζ (KB.bp l)=ζ l*17:=by
 induction l with
 |nil=>rfl
 |cons e l B=>have h:ζ (KB.aT e)=17:=rfl;simp only[KB.bp,bW,bg,bU]at B|-;omega
def aes(h:p:=by
 intro j e f;refine⟨hb,0,rfl,λi v S=>?_⟩;have L:=(aX.1 S).1;rw[(A h).1,cL,bH,kN es j e i f L]
 exact S):p:=h
open KC in
def KC.mL(h:W.1[hb]?=z' (i' (θ<|KC.bp es) 228 (0,0))):KC.kh W (z'<|O hb 0) es:=aes
open KB in
def KB.mL(h:W.1[hb]?=z' (i' (θ<|KB.bp es) 250 (0,0))):KB.kh W (z'<|O hb 0) es:=aes
def KC.rr(h:W.1[a]?=z' (i' (θ<|KC.bp l) 228 (0,0)))(b:k<ζ l):W.there a (k*17) 17:=λj f=>by refine⟨?_,(A h).2 _⟩;rw[(A h).1,rX<|by rw[kT,KC.k5];omega];rfl
def KB.rr(h:W.1[a]?=z' (i' (θ<|KB.bp l) 250 (0,0)))(b:k<ζ l):W.there a (k*17) 17:=λj f=>by refine⟨?_,(A h).2 _⟩;rw[(A h).1,rX<|by rw[kT,KB.k5];omega];rfl
end
section
abbrev KC.zn0:Nat:=206
abbrev KC.zF1:=@func206
abbrev KC.zN2:=@ntmps206
abbrev KC.zC3:=@Tryz.call206
abbrev KC.zn4:Nat:=207
abbrev KC.zF5:=@func207
abbrev KC.zN6:=@ntmps207
abbrev KC.zF8:=@func138
abbrev KC.zN9:=@ntmps138
abbrev KC.adM:Nat:=237
abbrev KC.adL:Nat:=319
abbrev KB.zn0:Nat:=214
abbrev KB.zF1:=@func214
abbrev KB.zN2:=@ntmps214
abbrev KB.zC3:=@Tryz.call214
abbrev KB.zn4:Nat:=215
abbrev KB.zF5:=@func215
abbrev KB.zN6:=@ntmps215
abbrev KB.zF8:=@func144
abbrev KB.zN9:=@ntmps144
abbrev KB.adM:Nat:=253
abbrev KB.adL:Nat:=332
def aer(h:p:=by
 obtain⟨b,o,rfl,f⟩:=h m e he;have g:(m:Int)<N:=I;clear h he;go_enter zF1,zN2;go_upto_region 1 with fail
 have B:J ((w.alloc<|i' jf bL).1[δ w.1]?=z' (i' jf bL (0,0))/\Bl w (w.alloc<|i' jf bL)/\(w.alloc<|i' jf bL).1[hb]?=z' (i' #[g' (z'<|O b o) N c] OT (0,0))/\(w.alloc<|i' jf bL).rangeAt b (o+m*17) (aT e)):=⟨cv,bA,aG bA hh,kM f bA⟩;clear hh f;generalize w.alloc (i' jf bL)=V at B|-;obtain⟨W,k⟩:=A B.c;have f:=B.C;have U:=cK (n:=17) B.a rfl;go_wp2_with (first|(refine wpList_load_mid rfl bL (.tmp 6) rfl b (o+m*17) rfl (aT e) _ f gU rfl M ?_)|(refine wpList_store_mid rfl bL (.tmp 3) (.tmp 7) rfl w.1.size 0 (θ<|aT e) rfl rfl U M (bO _) ?_));have b:=cX (cs:=qh) B.a (vs:=aT e) rfl;have C:=run_loadVar_mid (P:=Tryz.prog) (ψ V w.1.size 0<|aT e) w.1.size 0 bL (aT e) _ (bu b) gU rfl M
 refine aE (v:=j'<|θ<|aT e) (by simp[results,results206,results214,C,Act.put,asAddr]) rfl ⟨rfl,dJ aK _ _ _ B.b⟩):p:=h
open KC in
def KC.AX(m hb N c:Nat)(q:Option Addr)(a:List PE)(e:PE)(w:World)(hh:w.heap[hb]?=some (.cells #[.slice q N c] 222 (0,0)))(h:KC.kh w q a)(he:a[m]?=some e)(d:m<N):
 Cl 206 #[G m,.pointer<|some<|O hb 0] w (Rb w<|.agg<|θ<|KC.aT e):=by exact aer
open KB in
def KB.AX(m hb N c:Nat)(q:Option Addr)(a:List PE)(e:PE)(w:World)(hh:w.heap[hb]?=some (.cells #[.slice q N c] 244 (0,0)))(h:KB.kh w q a)(he:a[m]?=some e)(d:m<N):
 Cl 214 #[G m,.pointer<|some<|O hb 0] w (Rb w<|.agg<|θ<|KB.aT e):=by exact aer
def aeq(h:p:=by
 have hN:=hO.most;obtain⟨b,hE⟩:=hE;have m:DJ b=(range<|ζ P.nd).map λn=>(P.ins n).map (·.1):=by
  refine et λk=>?_;rw[DJ,a!,a!];cases hr:b[k]? with
  |none=>have:=qQ.1 hr;rw[cq (by simp;have:=hE.len;omega)];rfl
  |some r=>
   have hk:=(aX.1 hr).1;rw[j7<|by rw[<-hE.len];exact hk];simp only[gK,dU];have f:=hE.es k r hr;refine et λj=>?_;rw[a!,a!];cases h1:r.es[j]? with
   |none=>rw[cq<|by rw[<-f.1];exact qQ.1 h1];rfl
   |some e=>
    have hj:=(aX.1 h1).1;cases h2:(P.ins k)[j]? with
    |none=>have:=qQ.1 h2;rw[f.1]at hj;omega
    |some x=>simp only[gK,dU];exact(f.2 j e x h1 h2).1
 rw[<-m];obtain⟨X,hi,D,o,l⟩:=cI td;have HI:J (_/\_/\_/\_):=⟨hi,D,o,l⟩;clear hi D o l m;have HH:=hid<|Aa hE<|Aa hO hx;obtain⟨N,m⟩:=Ea<|ζ P.nd;rw[<-m]at hN|-;have HN:=hid m;have L:=hE.len;rw[<-m]at L;have HL:=hid L;clear hE hO hx m L;simp only[KC.fZ,KB.fZ];go_enter zF5,zN6;go_upto_region 1 with(fail)
 refine iU (F:=Code.wp _ _ _ _) λF U=>?_;obtain⟨E,o⟩:=A U.a;go_upto_region 2 with(at_make;refine gL _ rfl (.tmp 10) (.tmp 10) 264 rfl F.1.size 267 X _ 2 underlying264 HI.a HI.b HI.c .i64 .i64 N N N rfl rfl rfl rfl (by rw[HI.C];omega) (by unfold maxLen;omega) ak ?_;intro t m l;have Y:=hid<|Aa m l;clear m l)
 have l:J (t.1[δ F.1]?=z' (i' (θ<|di<|tT (DJ b) N 0) 267 (0,0))/\Below F.1.size F t):=by have h1:=Y.a;rw[dF _ 2 (by simp[Value.cells]) N]at h1;refine⟨?_,aQ.grown Y.A aK (λq e=>by cases e)⟩;rw[(eJ h1).1];congr 2;rw[show tT (DJ b) N 0=replicate N (0,0)by simp[tT],<-DM];rfl
 have R:δ F.1<δ t.1:=blt l.a;have hw:δ w.1<δ F.1:=blt U.a;obtain⟨u,z⟩:=A<|aG l.A U.a;clear Y E o;have W:=hid<|Aa U.a U.b;clear U;go_wp2_with fail;generalize m:δ F.1=g at *;clear m;go_loopw[15] (λm wr=>∃k:Nat,k<=N/\m=G k/\J (wr.1[g]?=z' (i' (θ<|di<|tT (DJ b) N k) 267 (0,0))/\Below g F wr)) (λm _=>N-(intOf m).toNat)
 case atStart=>exact⟨0,bm,rfl,l.o⟩
 clear l R u z;obtain⟨k,hk,rfl,T⟩:=hrel;have X:Bl w wr:=W.A.trans<|T.A.mono I;by_cases L:k<N;rotate_left
 .have m:¬(k:Int)<N:=I;have hkN:k=N:=I;go_wp2_with fail;go_ret;refine⟨g,rfl,I,?_,X⟩;have:=T.a;rwa[hkN]at this
 have m:(k:Int)<N:=I
 obtain⟨r,hr⟩:=La (l:=b) (i:=k) (by rw[HL.o];exact L);have m:=HH.a.below X;have R:=m.st k r hr;have f:=m.es k r hr;have u:=m.sys.range hr;have o:=lf k P.nx 0 λl hl=>(HH.b.nx l hl).1;have X:ζ r.es<=200:=by
  have h1:ζ (P.ins k)<=120:=by show(dD k 0 P.nx).length<=120;have h2:=HH.B;have:=HN.o;omega
  rw[f.1];omega
 simp only[n0,R,RR.ev]at u;have HR:=hid<|Aa (m.sys.row r<|aO hr)<|Aa f hr;clear m R f hr o;go_upto_region 5 with(first|(refine wpList_load_mid rfl qg (.tmp 18) rfl rb (k*18) rfl (aT (qA k)++[g' r.ea (ζ r.es) r.ec]) _ u abA rfl M ?_)|(refine wpList_store_mid rfl qg (.tmp 5) (.tmp 19) rfl wr.1.size 0 (θ<|aT (qA k)++[g' r.ea (ζ r.es) r.ec]) rfl rfl (cK (n:=18) cv rfl) M (all_oneCell_toArray (λv R=>by rcases iF.1 R with R|R;(· exact pN _ v R);simp at R;subst R;rfl)) ?_))
 refine PI (F:=Code.wp _ _ _ _) rfl λV X=>?_;have f:χ V (O wr.1.size 17)=z' (bk r.ea (ζ r.es) r.ec):=by rw[(A X.a).1];rfl
 simp only[Act.put];clear u;go_wp2_with fail;have m:=blt T.a;go_loopw[23] (λm V=>∃j:Nat,j<=ζ r.es/\m=G j/\J (V.1[g]?=z' (i' (θ<|di<|Ie k (tT (DJ b) N k) ((r.es.take j).map (·.1))) 267 (0,0))/\Below g F V)) (λm _=>ζ r.es-(intOf m).toNat)
 case atStart=>exact⟨0,bm,rfl,aG X.A T.a,T.A.trans<|X.A.mono I⟩
 clear f;obtain⟨j,hj,rfl,HJ⟩:=hrel;by_cases D:j<ζ r.es;rotate_left
 .have m:¬(j:Int)<(ζ r.es:Int):=I;go_wp2_with fail;go_roundw
  case rel=>
   refine⟨k+1,L,e',?_,HJ.A⟩;have:=HJ.a;rwa[c! I,<-T! HR.B,<-oH]at this
  exact F'
 have m:(j:Int)<(ζ r.es:Int):=I;obtain⟨⟨f,m⟩,hx⟩:∃x,r.es[j]?=z' x:=⟨_,bj D⟩;have u:Bl w wr:=W.A.trans<|HJ.A.mono I;obtain⟨X,heg,o,R⟩:=D0 ((HH.a.sys.below u).row r<|aO HR.B) hx;obtain⟨y,E⟩:=La (l:=(P.ins k)) (i:=j) (by rw[<-HR.b.1];exact D);obtain⟨C,sb,z,_⟩:=HR.b.2 j _ y hx E;have hfN:f<N:=by rw[show f=y.1 from C,HN.o];have:=lg k P.nx 0 y<|aO E;rw[HH.B]at this;omega
 simp only at z o R;subst z;clear C E;rw[heg];have HX:=hid<|Aa hx u;clear hx u;go_upto_region 8 with(fail)
 obtain⟨U,u⟩:=Ea<|wr.alloc<|i' #[G f,yC sb] mK;have HU:J (Bl wr U/\U.1[δ wr.1]?=z' (i' #[G f,yC sb] mK (0,0))):=by rw[u];exact⟨bA,cv⟩
 rw[<-u];clear u o R;obtain⟨l,hl⟩:=Ea<|Ie k (tT (DJ b) N k) ((r.es.take j).map (·.1));have R:ζ l=N:=by rw[hl,wU,pM]
 have hgb:U.1[g]?=z' (i' (θ<|di l) 267 (0,0)):=by rw[hl];exact aG HU.a HJ.a
 have Xy:b! (l.getD f (0,0)):=by rw[hl];exact C9 I _ _ (yt _ _ k I) f
 have HN:J (Ie k (tT (DJ b) N k) ((r.es.take<|j+1).map (·.1))=l.set f (fU (l.getD f (0,0))<|de [k])):=by show _=_;rw[ep D,(aX.1 HX.a).2,fq,I2,FH,<-hl];rfl
 obtain⟨u,C⟩:=Ea<|l.getD f (0,0);have Y:J (∀X b,χ X (O b 0)=z' (G k)->Cl 241 (oq b) X (Rb X<|cW<|de [k])):=λX b T=>mc X b k I T;have o:J (∀(X:p') b,χ X (O b 0)=z' (Z u.1)->χ X (O b 1)=z' (Z u.2)->χ X (O b 2)=z' (Z ((de [k]).1:Int))->χ X (O b 3)=z' (Z ((de [k]).2:Int))->Cl 267 (r7 b) X (Rb X<|cW<|fU u<|de [k])):=λX b h0 h1 h2 h3=>by have:=gu X b u (de [k]) (by rw[C];exact Xy) (me _ λg b=>by rw[j9.1 b];omega) h0 h1 h2 h3;exact this
 have E:J (∀W,Bl U W->χ W (O g<|f*2)=z' (Z u.1)/\χ W (O g<|f*2+1)=z' (Z u.2)/\W.frozen? (O g<|f*2)=O'/\W.frozen? (O g<|f*2+1)=O'):=λW hW=>by rw[C];exact ig (aG hW hgb) (by rw[R];exact hfN)
 rw[<-C]at HN;obtain⟨b,Ar⟩:=Ea<|de [k];obtain⟨z,hz⟩:=Ea<|fU u<|de [k];rw[<-hz]at HN o;rw[<-Ar]at Y o;have HL:=hid<|Aa R hgb;clear Ar hz Xy C hl R hgb;have m:(f:Int)<N:=I;simp only[cW]at Y o;refine st (λW'=>Bl U W') 13 (hS:=aQ.drew) (h:=λaC=>?_);refine tt 0 (cG g N) (h:=?_);refine tt 1 (m'<|cV wr.1.size) (h:=?_);refine tt 2 (G f) (y:=λW' aW=>by have m:=(A<|aG aW HU.A).1;clear aC aW;go_simp) (h:=?_);refine tt 3 (cG g N) (h:=?_);refine tt 4 (m'<|cV wr.1.size) (h:=?_);refine tt 5 (G f) (y:=λW' aW=>by have m:=(A<|aG aW HU.A).1;clear aC aW;go_simp) (h:=?_);refine tt 6 (AZ g f) (h:=?_);refine tt 7 (kU u.1 u.2) (y:=λW' aW=>by have m:=(E.o _ aW).1;have u:=(E.o _ aW).2.1;clear aC aW;go_simp) (h:=?_);refine tt 8 (G k) (h:=?_);refine rt 9 (h:=λK hK=>?_);go_simp;refine hK.out _ _ (λ_=>aq aC bA) ?_;clear hK K;refine pt ?_;refine rt 10 (h:=λK hK=>?_);go_simp;refine bP (Y.o _ _ ak) ?_;rintro e t ⟨rfl,l⟩;have r:J (Bl U t):=aq (aq aC bA) l;clear l;refine hK.out _ _ (λ_=>r.o) ?_;clear hK K;refine pt ?_;refine rt 11 (h:=λK hK=>?_);go_simp;refine hK.out _ _ (λ_=>aq r.o bA) ?_;clear hK K;refine pt ?_;refine rt 12 (h:=λK hK=>?_);go_simp;refine bP (o.o _ _ ak ak ak ak) ?_;rintro e F ⟨rfl,X⟩;have b:J (Bl U F):=aq (aq r.o bA) X;clear X;refine hK.out _ _ (λ_=>b.o) ?_;clear hK K aC;refine pt ?_;refine rt 13 (h:=λK hK=>?_);go_simp;refine hK.out _ _ (λh=>absurd h aj) ?_;clear hK K;refine pt ?_;refine rt 14 (h:=λK hK=>?_);obtain⟨U,m,u,l⟩:=E.o _ b.o;go_simp;refine hK.out _ _ (λh=>absurd h aj) ?_;clear hK K U m u l;refine pt ?_;refine dt (h:=?_);go_wp2_with fail;go_roundw
 case rel=>
  refine⟨j+1,D,e',?_,?_⟩
  .rw[HN.o];exact Ed (s:=z) (aG b.o HL.A) (k:=f) (by rw[HL.a];exact hfN)
  exact((HJ.A.trans ((aq HU.a b.o).mono<|I'<|blt HJ.a)).setCell aK _).setCell aK _
 exact F'):p:=h
open KC in
theorem KC.r4(rb s B:Nat)(P:Pm)(w:World)(hE:KC.rA w B rb P)(hO:cN P)(hx:P.nx.length=P.nd.length):
 Cl 207 #[KC.fZ rb s P.nd.length] w λe w'=>∃g,e=.returned (cG g P.nd.length)/\w.heap.size<=g/\w'.heap[g]?=some (.cells (di<|tT ((List.range P.nd.length).map λn=>(P.ins n).map (·.1)) P.nd.length P.nd.length).toArray 267 (0,0))/\Bl w w':=by exact aeq
open KB in
theorem KB.r4(rb s B:Nat)(P:Pm)(w:World)(hE:KB.rA w B rb P)(hO:cN P)(hx:P.nx.length=P.nd.length):
 Cl 215 #[KB.fZ rb s P.nd.length] w λe w'=>∃g,e=.returned (cG g P.nd.length)/\w.heap.size<=g/\w'.heap[g]?=some (.cells (di<|tT ((List.range P.nd.length).map λn=>(P.ins n).map (·.1)) P.nd.length P.nd.length).toArray 267 (0,0))/\Bl w w':=by exact aeq
end
section
variable {s:x'}{E:List bI}{S:List (bI×Nat)}
structure NW(P:Pm):Prop where
  ok:cN P
  cs:nD P
  op:px P
  nx:ζ P.nx=ζ P.nd
  key:∀n∈P.nd,nF<|jx n
structure BdN(n:SN):Prop where
  a:Au n.a
  b:Au n.b
  av:n.a.aU=N'->n.aH=0\/n.aH=1\/n.aH=3\/n.aH=4
  bv:n.b.aU=N'->n.aH=1\/n.aH=4
  az:n.a.aU=O'->n.a.var=0
  bz:n.b.aU=O'->n.b.var=0
  op:0<=n.op/\n.op<=3
def ac0(l:u'):-9223372036854775808<=i? l/\i? l<=9223372036854775807:=by
 unfold i?;cases h:Wm.f? l with
 |none=>simp
 |some x=>
  unfold Wm.f? at h;split at h;rotate_left
  .cases h
  split at h
  .split at h
   .cases h;simp only[xH];omega
   cases h
  split at h
  .cases h;simp only[xH];omega
  cases h
def abN(E:List bI)(s:x'):Au (nW E s)/\((nW E s).aU=O'->(nW E s).var=0):=by
 unfold nW;split
 .exact⟨⟨ak,ak⟩,λh=>by cases h⟩
 exact⟨ac0 _,λ_=>rfl⟩
def qJ{a b}:=@abN a b
def F?:Au o0:=⟨aj,aj⟩
def abQ(l:u'):0<=Wm.tV l/\Wm.tV l<=3:=by
 unfold Wm.tV;split
 .omega
 split
 .omega
 split
 .omega
 split<;>omega
def QV(h:p:=by
 exact λ_=>⟨F?,F?,λh=>(by cases h),λh=>(by cases h),λ_=>rfl,λ_=>rfl,ak⟩):p:=h
def Zp(h:p:=by
 exact λ_=>⟨qJ.1,F?,λ_=>ak,λh=>(by cases h),qJ.2,λ_=>rfl,ak⟩):p:=h
def Ry(E:List bI)(R:List x'):(iz E R).2.1=N'->BdN (iz E R).1:=by
 match R with
 |[]=>intro h;cases h
 |u::r=>
  unfold iz;simp only;split
  .unfold oO;split
   .rename_i b _;exact Zp
   intro h;cases h
  split
  .unfold z7;split
   .split
    .exact λ_=>⟨qJ.1,qJ.1,λ_=>ak,λ_=>ak,qJ.2,qJ.2,ak⟩
    intro h;cases h
   intro h;cases h
  split
  .unfold jX;split
   .exact QV
   intro h;cases h
  split
  .exact QV
  unfold fp;split;rotate_left
  .intro h;cases h
  split;rotate_left
  .intro h;cases h
  split
  .split
   .exact QV
   exact Zp
  .exact λ_=>⟨qJ.1,qJ.1,λ_=>ak,λ_=>ak,qJ.2,qJ.2,abQ _⟩
  intro h;cases h
def ace(E:List bI)(R:List x'):(jS E R).2.2.2.1=N'->BdN (jS E R).2.2.1:=by
 unfold jS;split
 .intro h;cases h
 split
 .split
  .split
   .intro h;cases h
   exact Ry _ _
  intro h;cases h
 exact Ry _ _
def abv:∀(L:List<|List x')(E:List bI)(V b:List PN)(a:List bI),(∀p∈V,BdN p.n)->nN E V L=z' (b,a)->∀p∈b,BdN p.n:=by
 intro L;induction L with
 |nil=>intro E V b a c h;simp[nN]at h;rw[<-h.1];exact c
 |cons R r B=>
  intro E V b a c h;rw[nN]at h;split at h
  .exact B E V b a c h
  split at h;rotate_left
  .cases h
  rename_i o;refine B _ _ b a ?_ h;intro p U;rcases iF.1 U with U|U
  .exact c p U
  simp at U;subst U;exact ace _ _ o
def zC{c:List PN}(h:iD s=Pr.ok c E)(U:kC 0 [] (c.map PN.bB)=z' S){j:Nat}{p:PN}(f:c[j]?=z' p):ζ (jh S p.nc j)<=2/\∀t∈jh S p.nc j,∃k:Nat,t=(k:Int)/\k<ζ c:=by
 obtain⟨_,D,o,a,_⟩:=yK h;simp only[ia,aY]at o;have b:=o.2;unfold dX at b;rw[w8,U]at b;simp only[aY]at b;have L:∀p∈S,p.2<ζ c:=by
  intro p B;rcases Sn _ _ _ _ U p B with C|C
  .cases C
  simpa using C
 have r:=(aX.1 f).1;obtain⟨t,U,k⟩:=LN L D p.n.bD.1.1;have q:p.n.aH≠5->p.n.aH≠6->j+1<ζ c:=by intro g e;exact afW
 unfold jh Hb;have V:p.nc.n.aH=p.n.aH:=rfl;have u:p.nc.n.bD=p.n.bD:=rfl;rw[V,u,U];by_cases d:p.n.aH=4
 .have:=q I I;simp only[d,beq_self_eq_true,dQ];refine⟨ak,λx F=>?_⟩;simp only[cM,dR,dz]at F;rcases F with rfl|rfl
  .exact⟨t,rfl,k⟩
  exact⟨j+1,ak,this⟩
 by_cases l:p.n.aH=5
 .simp only[l];refine⟨ak,λx F=>?_⟩;simp at F;subst F;exact⟨t,rfl,k⟩
 by_cases c:p.n.aH=6
 .simp[c]
 have:=q l c;simp only[dP,d,l,c,eV];refine⟨ak,λx F=>?_⟩;simp at F;subst F;exact⟨j+1,ak,this⟩
def wZ(S:List<|bI×Nat):∀(a:List PN)(i j:Nat),(yT S i a)[j]?=a[j]?.map λp=>(jh S p.nc<|i+j).map Int.toNat
 |[],i,j=>by simp[yT]
 |p::r,i,0=>by simp[yT]
 |p::r,i,j+1=>by rw[yT,q?,q?,wZ S r (i+1) j,show i+1+j=i+(j+1)by omega]
def sT(S:List<|bI×Nat):∀(a:List PN)(i:Nat),ζ (yT S i a)=ζ a
 |[],_=>rfl
 |p::r,i=>by rw[yT,bU,bU,sT S r]
def y5:∀(l:List Int),(∀t∈l,∃k:Nat,t=(k:Int))->(l.map Int.toNat).map Int.ofNat=l
 |[],_=>rfl
 |x::l,h=>by obtain⟨k,rfl⟩:=h x ak;have:=y5 l (λt U=>h t<|by simp[U]);rw[fA,fA,this];rfl
def QL{x:Int}(h:-9223372036854775808<=x/\x<=9223372036854775807):(Lit.int .i64 x).wf=N':=by obtain⟨C,a⟩:=h;have V:IntKind.i64.min=-2^63:=aj;have u:IntKind.i64.max=9223372036854775807:=aj;simp only[Lit.wf,V,u,bM,aY];exact⟨C,a⟩
def J1{r:List PN}(h:iD s=Pr.ok r E)(U:kC 0 [] (r.map PN.bB)=z' S):NW (l8 r S<|ζ E):=by
 obtain⟨_,D,o,a,_⟩:=yK h;simp only[ia,aY,bM]at o;have v:=abv _ [] [] r E ak a;have K:∀n∈(l8 r S<|ζ E).nd,NY (ζ E) n/\BdN n:=λn K=>by obtain⟨p,g,rfl⟩:=bG.1 K;exact⟨(acR h U).Pa p g,v p g⟩
 have g:ζ (l8 r S<|ζ E).nd=ζ r:=b9 _;refine⟨⟨o.1.1.1,by rw[g];exact D,by rw[g];exact o.1.2,λl X=>?_,λn q=>(K n q).1.aH,λn q=>(K n q).1.var,λn q e=>?_,λn q e=>?_⟩,λi=>?_,λn q _=>(K n q).2.op,?_,λn q=>?_⟩
 .obtain⟨j,f⟩:=EJ X;have c:(yT S 0 r)[j]?=z' l:=f;rw[wZ,bH]at c;cases C:r[j]? with
  |none=>rw[C]at c;cases c
  |some p=>rw[C]at c;simp only[gK,dU]at c;obtain⟨a,b⟩:=zC h U C;rw[<-c];refine⟨by rw[b9];exact a,λt U=>?_⟩;obtain⟨x,F,rfl⟩:=bG.1 U;obtain⟨k,rfl,a⟩:=b x F;rw[g];simpa using a
 .exact(K n q).1.a (by unfold dZ at e;split at e<;>first|omega|(split at e<;>omega))
 .exact(K n q).1.b (by unfold dZ at e;split at e<;>first|omega|(split at e<;>omega))
 .by_cases a:i<ζ (l8 r S<|ζ E).nd
  .have d:=Eh a;exact⟨(K _ d).2.a,(K _ d).2.b⟩
  have:(l8 r S<|ζ E).at i=nZ:=by rw[Pm.at,getD,cq I];rfl
  rw[this];exact⟨F?,F?⟩
 .rw[g];exact sT S r 0
 obtain⟨Q,p⟩:=K n q;have z:-2^63<=n.a.var/\n.a.var<=9223372036854775807:=by
  cases e:n.a.aU with
  |true=>have:=Q.a (p.av e) e;omega
  |false=>rw[p.az e];omega
 have a:-2^63<=n.b.var/\n.b.var<=9223372036854775807:=by
  cases e:n.b.aU with
  |true=>have:=Q.b (p.bv e) e;omega
  |false=>rw[p.bz e];omega
 exact⟨QL z,QL p.a,QL (by have:=p.op;show _<=n.op/\n.op<=_;omega),QL a,QL p.b⟩
def WK{a:List PN}{w:p'}{g b:Nat}{D:List NC}(h:iD s=Pr.ok a E)(d:kC 0 [] (a.map PN.bB)=z' S)(e:iB w g b D)(v:wN w D a)(f:∀(j:Nat)(c:NC)(p:PN),D[j]?=z' c->a[j]?=z' p->Er w c.ev (jh S p.nc j)):PM w g b D (l8 a S<|ζ E):=by
 have b:ζ (l8 a S<|ζ E).nd=ζ a:=b9 _;refine⟨e,by rw[b];exact v.len,λj c n T K=>?_,by rw[b];exact sT S a 0,λj c l T X=>?_⟩
 .have r:(a.map PN.n)[j]?=z' n:=K;rw[a!]at r;cases C:a[j]? with
  |none=>rw[C]at r;cases r
  |some p=>rw[C]at r;simp only[gK,dU]at r;rw[<-r];exact(v.each j c p T C).n
 have i:(yT S 0 a)[j]?=z' l:=X;rw[wZ,bH]at i;cases C:a[j]? with
 |none=>rw[C]at i;cases i
 |some p=>rw[C]at i;simp only[gK,dU]at i;rw[<-i,y5 _ λt U=>(let ⟨k,a,_⟩:=(zC h d C).2 t U;⟨k,a⟩)];exact f j c p T C
end
section
variable {P u v wv:y'}{m:RN}{z d va j:t'}{F e vn vc r:Nat}{a b x y:VV}
structure wO(w W:p')(wv:y')(m:RN)(va:t')(vn vc:Nat)(a b x y:VV):Prop where
  low:Bl w W
  b0:W.1[δ w.1]?=z' (i' (aI wv m) 111 (0,0))
  b1:W.1[δ w.1+1]?=z' (i' (fL va vn vc) 133 (0,0))
  b2:W.1[δ w.1+1+1]?=z' (i' (cD a.any a.lo a.hi) 138 (0,0))
  b3:W.1[δ w.1+1+1+1]?=z' (i' (cD b.any b.lo b.hi) 138 (0,0))
  b4:W.1[δ w.1+1+1+1+1]?=z' kV
  b5:W.1[δ w.1+1+1+1+1+1]?=z' (i' #[h' N',g' A' 0 0] 133 (0,0))
  b6:W.1[δ w.1+1+1+1+1+1+1]?=z' (i' (cD x.any x.lo x.hi) 138 (0,0))
  b7:W.1[δ w.1+1+1+1+1+1+1+1]?=z' (i' (cD y.any y.lo y.hi) 138 (0,0))
def wO.z!{d:Nat}{c:p'}(h:wO w W P m z F d a b x y)(e:Bl w c)(k:∀q o,q<=δ w.1+1+1+1+1+1+1+1->W.1[q]?=z' o->c.1[q]?=z' o):wO w c P m z F d a b x y:=
 ⟨e,k _ _ I h.b0,k _ _ I h.b1,k _ _ I h.b2,k _ _ I h.b3,k _ _ I h.b4,k _ _ I h.b5,k _ _ I h.b6,k _ _ I h.b7⟩
def wO.below{e:p'}(h:wO w W P m z F c a b x y)(d:Bl W e):wO w e P m z F c a b x y:=
 h.z! (aq h.low d) λ_ _ _ e=>(d.block _ (bq.1 e).1).trans e
def GZ{b:Nat}{z:y'}(h:q≠b):(κ (κ (κ W (O b 0) u) (O b 1) v) (O b 2) z).1[q]?=W.1[q]?:=by rw[aJ h,aJ h,aJ h]
def adi{z:y'}(h:Bl w W)(a:δ w.1<=q):Bl w (κ (κ (κ W (O q 0) u) (O q 1) v) (O q 2) z):=((h.setCell a _).setCell a _).setCell a _
def wO.aa0(h:wO w W P m d F c a b x y)(z:VV):wO w (κ (κ (κ W (O (δ w.1+1+1+1+1+1+1) 0)<|h' z.any) (O (δ w.1+1+1+1+1+1+1) 1)<|G z.lo) (O (δ w.1+1+1+1+1+1+1) 2)<|G z.hi) P m d F c a b z y:=by have k:∀{q:Nat}{o:Obj},q≠δ w.1+1+1+1+1+1+1->W.1[q]?=z' o->(κ (κ (κ W (O (δ w.1+1+1+1+1+1+1) 0)<|h' z.any) (O (δ w.1+1+1+1+1+1+1) 1)<|G z.lo) (O (δ w.1+1+1+1+1+1+1) 2)<|G z.hi).1[q]?=z' o:=λa e=>(GZ a).trans e;exact⟨adi h.low I,k I h.b0,k I h.b1,k I h.b2,k I h.b3,k I h.b4,k I h.b5,mP h.b6 _ _ _,k I h.b7⟩
def wO.aaZ(h:wO w W P m d F c a b x y)(z:VV):wO w (κ (κ (κ W (O (δ w.1+1+1+1+1+1+1+1) 0)<|h' z.any) (O (δ w.1+1+1+1+1+1+1+1) 1)<|G z.lo) (O (δ w.1+1+1+1+1+1+1+1) 2)<|G z.hi) P m d F c a b x z:=by have k:∀{q:Nat}{o:Obj},q≠δ w.1+1+1+1+1+1+1+1->W.1[q]?=z' o->(κ (κ (κ W (O (δ w.1+1+1+1+1+1+1+1) 0)<|h' z.any) (O (δ w.1+1+1+1+1+1+1+1) 1)<|G z.lo) (O (δ w.1+1+1+1+1+1+1+1) 2)<|G z.hi).1[q]?=z' o:=λa e=>(GZ a).trans e;exact⟨adi h.low I,k I h.b0,k I h.b1,k I h.b2,k I h.b3,k I h.b4,k I h.b5,k I h.b6,mP h.b7 _ _ _⟩
def wO.cells(h:wO w W wv m va vn vc a b x y):=Aa (A h.b0)<|Aa (A h.b2)<|Aa (A h.b3)<|Aa (A h.b4)<|Aa (A h.b5)<|Aa (A h.b6)<|A h.b7
def wO.cut{f:Bool}{j S l u:Int}(h:J<|wO w W P m z F c a b x y):Cl 297 #[j'<|cD f j S,G l,G u] W λe d=>e=n' (j' #[h' (cA ⟨f,j,S⟩ l u).any,G (cA ⟨f,j,S⟩ l u).lo,G (cA ⟨f,j,S⟩ l u).hi])/\J (wO w d P m z F c a b x y):=
 (FI ⟨f,j,S⟩ l u W).mono λ_ _ V=>⟨V.1,h.o.below V.2⟩
def wO.ret(h:wO w W P m z F c a b x y)(L a:y'):χ (κ W (O (δ w.1+1+1+1+1) 0) L) (O (δ w.1+1+1+1+1) 0)=z' L/\χ (κ (κ W (O (δ w.1+1+1+1+1) 0) L) (O (δ w.1+1+1+1+1) 1) a) (O (δ w.1+1+1+1+1) 1)=z' a/\Bl w (κ (κ W (O (δ w.1+1+1+1+1) 0) L) (O (δ w.1+1+1+1+1) 1) a):=
 ⟨by rw[(A<|H h.b4 _).1];rfl,by rw[(A<|H (H h.b4 _) _).1];rfl,(h.low.setCell G' _).setCell G' _⟩
def Yf{a:x'}{l:u'}(h:a.1.1=l):a=⟨θ l⟩:=data_inj h
def nY.dec{v:VV}(h:nY v)(n:¬v.hi=-9223372036854775808):wrap64 (v.hi-1)=v.hi-1:=by have:=h.lo;have:=h.hi;unfold wrap64;omega
def nY.inc{v:VV}(h:nY v)(n:¬v.lo=9223372036854775807):wrap64 (v.lo+1)=v.lo+1:=by have:=h.lo;have:=h.hi;unfold wrap64;omega
def Ht{t:Int}{Q:Bool}(U:(t=2/\Q=O')\/(t=3/\Q=N'))(h:¬(a.lo=a.hi/\VV.p5 a b=N')):tL t Q a b=z' (a,b):=by rcases U with⟨rfl,rfl⟩|⟨rfl,rfl⟩<;>simp only[tL]<;>rw[aA I,aA I,aA I,aA I,aA ak,aA h]
structure pw(w W:p')(wv:y')(m:RN)(va:t')(vn vc:Nat)(a b x y:VV)(q:Nat)(oa:t')(oc:Nat)(us:List VV):Prop where
  ch:wO w W wv m va vn vc a b x y
  ob:W.1[q]?=z' (i' (fL oa vn oc) 133 (0,0))
  low:δ w.1+1+1+1+1+1+1+1<q
  vv:dq W oa us
  len:ζ us=vn
  nil:oa=A'->oc=0
def pw.below{c:List VV}{f:p'}(h:pw w W P m z F e a b x y q j r c)(d:Bl W f):pw w f P m z F e a b x y q j r c:=
 ⟨h.ch.below d,(d.block _ (bq.1 h.ob).1).trans h.ob,h.low,h.vv.below d,h.len,h.nil⟩
def pw.put{c:List VV}{g:Nat}{i:List VV}(h:pw w W P m z F e a b x y q j r c)(R:dq W d i)(K:d=A'->g=0)(X:ζ i=F):
  pw w (κ (κ W (O q 0)<|h' O') (O q 1)<|g' d F g) P m z F e a b x y q d g i:=by
 have a:=h.low;exact⟨h.ch.z! ((h.ch.low.setCell G' _).setCell G' _) λj _ f e=>by rw[aJ<|show j≠q by omega,aJ<|show j≠q by omega];exact e,H (H h.ob _) _,h.low,R.put h.ob,X,K⟩
def pw.cells{oa:t'}{oc:Nat}{us:List VV}(h:pw w W wv m va vn vc a b x y q oa oc us):=Aa (A h.ch.b0)<|Aa (A h.ch.b4)<|Aa (A h.ch.b5)<|Aa (A h.ch.b6)<|Aa (A h.ch.b7)<|A h.ob
def VLt(oa:t')(us:List VV)(n:Nat):Prop:=∀g o,oa=z' (O g o)->us≠[]->g<n
def dq.lt{c:List VV}(h:dq w j c):VLt j c w.1.size:=by
 intro g o e z
 match c,z with
 |v::r,_=>obtain⟨a,b,L,T,_⟩:=h 0 v rfl;rw[e]at L;cases L;exact dW T
def pw.ago{c:List VV}{E:Nat}{L d R:y'}(h:pw w W P m z F e a b x y q j r c)(f:q<E)(X:VLt j c E):
  pw w (κ (κ (κ W (O E 0) L) (O E 1) d) (O E 2) R) P m z F e a b x y q j r c:=by
 have a:=h.low;refine⟨h.ch.z! (adi h.ch.low I) λ_ _ _ e=>(GZ I).trans e,(GZ I).trans h.ob,h.low,λj v f=>?_,h.len,h.nil⟩;obtain⟨g,o,e,T,Q,p⟩:=h.vv j v f;have a:=X g o e (by rintro rfl;simp at f);have V:=GZ (W:=W) (u:=L) (v:=d) (z:=R) (show g≠E by omega);exact⟨g,o,e,(bh V).trans T,(bh V).trans Q,(bh V).trans p⟩
def pw.done{c:List VV}{d:EV}(h:pw w W P m z F e a b x y q j r c)(l:d=z' c):
  kJ w d (n'<|b? O' j F r) (κ (κ W (O (δ w.1+1+1+1+1) 0)<|h' O') (O (δ w.1+1+1+1+1) 1)<|g' j F r):=by
 subst l;exact kJ.mk ⟨rfl,h.len.symm,h.vv.put h.ch.b4,h.nil⟩ (h.ch.ret _ _).2.2
def A8(h:p:=by
 go_wp2_with (go_at_call 297;(first|with_reducible refine(wO.cut U).mono ?_|with_reducible refine(wO.cut<|hid<|U.o.aa0 _).mono ?_|with_reducible refine(wO.cut<|hid<|U.o.aaZ _).mono ?_);clear k;rintro e t ⟨rfl,U⟩;have k:=U.o.cells;simp only[aI]at k)
 go_meet
 first|with_reducible refine⟨rfl,_,_,?_,hid<|U.o.aa0 _⟩|with_reducible refine⟨rfl,_,_,?_,hid<|U.o.aaZ _⟩|with_reducible refine⟨rfl,_,_,?_,hid ((U.o.aa0 _).aaZ _)⟩
 show _=_
 simp[tL,Wm.uu,o]):p:=h
def x?(h:p:=by
 go_wp2_with fail;have q:=U.o.ret (.bool true)<|.slice none 0 0
 refine aE (v:=b? true none 0 0) (by simp[results,results249,go_sem,q.1,q.2.1]) rfl (kJ.mk (show cR _ true none 0 0 none from rfl) q.2.2)):p:=h
def ZZ(h:p:=by
 cases N:(a.lo==a.hi)
 .go_wp2_with fail
  go_meet
  exact⟨rfl,a,b,Ht aj λh=>by simp[h.1]at N,U.o⟩
 cases d:VV.p5 a b
 .have HN:=hid d;simp only[VV.p5]at d;cases e1:(a.any==b.any);rotate_left;cases u:(a.lo==b.lo);rotate_left;have e3:(a.hi==b.hi)=O':=by simpa[e1,u]using d
  all_goals
   clear d;go_wp2_with fail
   go_meet
   exact⟨rfl,a,b,Ht aj λh=>by simp[HN.o]at h,U.o⟩
 obtain rfl:a=b:=(VV.fX a b).1 d;obtain rfl:ev=A':=by rw[v.o];simp[mD,tL,Wm.uu,d,(show a.lo=a.hi by simpa using N)]
 exact x?):p:=h
def ZY(h:p:=by
 go_wp2_with fail;have q:=p.o.ch.ret (h' O')<|bk j (ζ E) r
 refine aE (v:=b? O' j (ζ E) r) (by simp[results249,go_sem,q.1,q.2.1]) rfl (p.o.done rfl)):p:=h
def FL(P:y')(m:RN)(Q:Bool)(va:t')(vc:Nat)(E:List VV)(a b:VV)(w:p')(R:dq w va E)(W:va=A'->vc=0)(hl:ζ E<=8)(y:Wm.x! m.sign.1.1=true)(BW:m.a.var<ζ E)(ED:m.b.var<ζ E)(d:nY a)(c:nY b):
  Cl 249 #[j'<|aI P m,h' Q,b? false va (ζ E) vc,l4 a,l4 b] w (kJ w (match mD (Wm.uu m.sign.1.1) Q a b with|none=>A'|some q=>Nv m.a.var m.b.var E q.1 q.2)):=by
 have s:=hid<|Aa R<|Aa W<|Aa y<|Aa d c;clear R W y d c;generalize L:(match mD (Wm.uu m.sign.1.1) Q a b with|none=>A'|some q=>Nv m.a.var m.b.var E q.1 q.2)=ev;have v:=hid L.symm;clear L;obtain⟨R,S,l,h,x,W,L,g⟩:=m;obtain⟨f,ac,aw⟩:=h;obtain⟨D,X,bw⟩:=x;simp only at BW ED;simp only[aI,b?,l4];go_enter func249,ntmps249
 go_upto_block 0 with(fail)
 generalize j:(((((((w.alloc _).alloc _).alloc _).alloc _).alloc _).alloc _).alloc _).alloc _=W0;have U:J (wO w W0 P ⟨R,S,l,⟨f,ac,aw⟩,⟨D,X,bw⟩,W,L,g⟩ va (ζ E) vc a b a b):=by
  subst j;refine⟨?_,?_,?_,?_,?_,?_,?_,?_,?_⟩
  ·(repeat first|exact aQ|refine lB ?_ (by first|omega|(simp;omega)|(simp;done)) _)
  all_goals
   (repeat(first|(refine jV ?_;rfl)|(refine jV ?_;simp;done)|refine lK ?_<|by simp;try omega))
 clear j
 go_cut [10] from 19 (λpv wx=>pv=m' (z'<|O (δ w.1+1+1+1+1) 0)/\∃x y,J (tL (Wm.uu L.1.1) Q a b=z' (x,y))/\J (wO w wx P ⟨R,S,l,⟨f,ac,aw⟩,⟨D,X,bw⟩,W,L,g⟩ va (ζ E) vc a b x y))
 case first=>
  have h:=s.c;have k:=U.o.cells;simp only[aI]at k;simp only[Wm.x!,eZ,dP]at h;rcases h with((h|h)|h)|h<;>obtain rfl:=Yf h<;>clear h<;>cases Q
  .have o:=True.intro;exact A8
  .by_cases K:b.hi=-9223372036854775808\/a.lo=9223372036854775807
   .obtain rfl:ev=A':=by rw[v.o];simp[mD,tL,Wm.uu,K]
    cases C:(b.hi==-9223372036854775808)
    .have F:(a.lo==9223372036854775807)=true:=by simpa using K.resolve_left (by simpa using C)
     exact x?
    exact x?
   have o:=K;have C:(b.hi==-9223372036854775808)=false:=by simpa using λh=>K<|aP h
   have F:(a.lo==9223372036854775807)=false:=by simpa using λh=>K<|aR h
   have hw:=Aa (s.D.dec λh=>K<|aP h) (s.d.inc λh=>K<|aR h);exact A8
  .by_cases K:a.hi=-9223372036854775808\/b.lo=9223372036854775807
   .obtain rfl:ev=A':=by rw[v.o];simp[mD,tL,Wm.uu,K]
    cases C:(a.hi==-9223372036854775808)
    .have F:(b.lo==9223372036854775807)=true:=by simpa using K.resolve_left (by simpa using C)
     exact x?
    exact x?
   have o:=K;have C:(a.hi==-9223372036854775808)=false:=by simpa using λh=>K<|aP h
   have F:(b.lo==9223372036854775807)=false:=by simpa using λh=>K<|aR h
   have hw:=Aa (s.d.dec λh=>K<|aP h) (s.D.inc λh=>K<|aR h);exact A8
  .have o:=True.intro;exact A8
  .exact ZZ
  .have o:=True.intro;exact A8
  .have o:=True.intro;exact A8
  exact ZZ
 obtain⟨rfl,x,y,T,U⟩:=hcut
 rename p'=>t
 have k:=Aa (A U.o.b1) U.o.cells;simp only[aI]at k;cases C:decide (x.hi<x.lo);rotate_left
 .obtain rfl:ev=A':=by rw[v.o];unfold mD;rw[T.o];simp[vI,vj C]
  exact x?
 cases F:decide (y.hi<y.lo);rotate_left
 .obtain rfl:ev=A':=by rw[v.o];unfold mD;rw[T.o];simp[vI,vj F]
  exact x?
 have HF:J (ev=Nv f D E x y):=by show _=_;rw[v.o];unfold mD;rw[T.o];simp[vI,nG C,nG F]
 go_upto_region 28 with(fail)
 refine TX (F:=Code.wp _ _ _ _) λF u=>?_;have p:J (pw w F P ⟨R,S,l,⟨f,ac,aw⟩,⟨D,X,bw⟩,W,L,g⟩ va (ζ E) vc a b x y t.1.size va vc E):=⟨U.o.below u.A,u.a,(bq.1 U.o.b7).1,(s.a.below U.o.low).below u.A,rfl,s.b⟩;generalize δ t.1=ob at p|-;clear k;have k:=p.o.cells;simp only[aI]at k
 go_upto_if 136 with(fail)
 go_cut [14] from 19 (λpv wx=>pv=m' (z'<|O ob 0)/\∃j r us,J (us=if 0<=f then E.set f.toNat x else E)/\J (pw w wx P ⟨R,S,l,⟨f,ac,aw⟩,⟨D,X,bw⟩,W,L,g⟩ va (ζ E) vc a b x y ob j r us))
 case first=>
  by_cases N:0<=f
  .obtain⟨i,rfl⟩:∃i:Nat,f=i:=⟨f.toNat,I⟩;go_wp2_with (go_at_call 247;refine(eT (ζ E) va vc E i x.any x.lo x.hi _ p.o.vv p.o.nil rfl hl I).mono ?_;clear k;rintro e o ⟨t,s,rfl,v,h,o⟩;have Y:=hid<|p.o.below o;have k:=A Y.o.ob;have B:=hid<|Aa v h;clear v h o)
   go_meet
   exact⟨rfl,t,s,E.set i x,by show _=_;rw[aD N];rfl,Y.o.put B.a B.A<|by rw[dh]⟩
  go_wp2_with fail
  go_meet
  exact⟨rfl,va,vc,E,by show _=_;rw[aA I],p.o⟩
 clear k;obtain⟨rfl,j,r,us,HU,p⟩:=hcut
 rename p'=>W4
 have k:=p.o.cells;simp only[aI]at k;by_cases d:0<=D;rotate_left
 .obtain rfl:ev=z' us:=by rw[HF.o,HU.o];unfold Nv;rw[aA I]
  exact ZY
 obtain⟨i,rfl⟩:∃i:Nat,D=i:=⟨D.toNat,I⟩;go_upto_region 32 with(fail)
 refine TX (F:=Code.wp _ _ _ _) λC h=>?_;have c:J (pw w C P ⟨R,S,l,⟨f,ac,aw⟩,⟨(i:Int),X,bw⟩,W,L,g⟩ va (ζ E) vc a b x y ob j r us/\C.1[δ W4.1]?=z' (i' (cD y.any y.lo y.hi) 138 (0,0))/\ob<δ W4.1/\VLt j us W4.1.size):=⟨p.o.below h.A,h.a,(bq.1 p.o.ob).1,p.o.vv.lt⟩;clear k;generalize δ W4.1=h at c|-;have k:=Aa (A c.b) c.a.cells;simp only[aI]at k
 go_upto_if 154 with(fail)
 go_cut [15] from 19 (λpv wx=>pv=m' (z'<|O h 0)/\∃z,J (z=if (i:Int)=f then cA x y.lo y.hi else y)/\J (pw w wx P ⟨R,S,l,⟨f,ac,aw⟩,⟨(i:Int),X,bw⟩,W,L,g⟩ va (ζ E) vc a b x y ob j r us/\wx.1[h]?=z' (i' #[h' z.any,G z.lo,G z.hi] 138 (0,0))))
 case first=>
  cases l:((i:Int)==f)
  .go_wp2_with fail
   go_meet
   exact⟨rfl,y,by show _=_;rw[aA<|by simpa using l],c.a,c.b⟩
  go_wp2_with (go_at_call 297;refine(abx _ _ _ _ _ _).mono ?_;clear k;rintro e U ⟨f,rfl,a,b⟩;have Y:=hid<|Aa (c.a.below b) ((b.block _ (bq.1 c.b).1).trans c.b);have k:=A Y.A;clear b)
  go_meet
  exact⟨rfl,f,by show _=_;rw[aD<|by simpa using l];exact a.o,Y.a.ago c.c c.C,mP Y.A _ _ _⟩
 clear k;obtain⟨rfl,z,ma,c⟩:=hcut
 rename p'=>a
 have k:=Aa (A c.A) c.a.cells;simp only[aI]at k;cases h6:decide (z.hi<z.lo);rotate_left
 .obtain rfl:ev=A':=by rw[HF.o];unfold Nv;rw[aD d,<-ma.o,aD<|vj h6]
  go_wp2_with fail;have q:=c.a.ch.ret (h' true)<|g' A' 0 0;refine aE (v:=b? true A' 0 0) (by simp[results,results249,go_sem,q.1,q.2.1]) rfl (kJ.mk (show cR _ true A' 0 0 A' from rfl) q.2.2)
 go_upto_region 37 with(go_at_call 247;refine(eT (ζ E) j r us i z.any z.lo z.hi _ c.a.vv c.a.nil c.a.len (by rw[c.a.len];exact hl)<|by rw[c.a.len];omega).mono ?_;clear k;rintro e f ⟨j,r,rfl,e,b,a⟩;have Y:=hid<|c.a.below a;have k:=A Y.o.ob;have B:=hid<|Aa e b;clear e b a)
 have p:=hid (Y.o.put B.a B.A<|by rw[dh];exact Y.o.len);clear k;generalize(f.setCell _ _).setCell _ _=l at p|-;have k:=p.o.cells;simp only[aI]at k;obtain rfl:ev=z' (us.set i z):=by rw[HF.o];unfold Nv;rw[aD d,<-ma.o,aA<|nG h6,<-HU.o];rfl
 exact ZY
end
def aaH{p:Prop}(h:p:=by
 have o:=hid ((KB.start w wv m va (ζ vs) vc).box VV.all);have B:=hid<|Aa hv qn;clear hv qn;obtain⟨bB,b,target,⟨f,b,aw⟩,⟨D,X,bw⟩,ops,sign,g⟩:=m
 first|(have _:=Gu;simp only at hd ht|-)|((first|(have _:=Gv;simp only at hd ho hs BW ED qF qE|-)|(simp only at hd ho ht BW|-)))
 subst hd
 first|(have _:=Gu;subst ht)|(subst ho;(first|(have _:=Gv)|(subst ht)))
 simp only[aI,b?,VV.all]at o|-
 first|(have _:=Gu;obtain⟨ev,L⟩:∃ev,ev=z' (vs.set t ⟨O',-9223372036854775808,9223372036854775807⟩):=⟨_,rfl⟩)|((first|(have _:=Gv;obtain⟨ev,L⟩:∃ev,ev=rIf (Wm.uu sign.1.1) (k==0) f D vs (fR vs f b) (fR vs D X):=⟨_,rfl⟩)|(obtain⟨ev,L⟩:∃ev,ev=z' (vs.set t<|fR vs f b):=⟨_,rfl⟩)))
 rw[<-L];have HE:=hid L;clear L;go_enter func182,ntmps182
 first|(have _:=Gu;(go_upto_region 3 with(fail));(have c:δ (((w.alloc<|i' #[wv,k' bB,k' ⟨vo⟩,G t,G f,G b,k' aw,G D,G X,k' bw,G ops,k' sign,k' g] 111).alloc<|i' (fL va (ζ vs) vc) 133).alloc<|i' uo 133).1=δ w.1+1+1+1:=ak))|((go_upto_region 4 with(fail));(first|(have _:=Gv;(have c:δ (((w.alloc<|i' #[wv,k' bB,k' ⟨#[105,102]⟩,G target,G f,G b,k' aw,G D,G X,k' bw,G 2,k' sign,k' g] 111).alloc<|i' (fL va (ζ vs) vc) 133).alloc<|i' uo 133).1=δ w.1+1+1+1:=ak))|((have c:δ (((w.alloc<|i' #[wv,k' bB,k' ⟨#[61]⟩,G t,G f,G b,k' aw,G D,G X,k' bw,G 1,k' sign,k' g] 111).alloc<|i' (fL va (ζ vs) vc) 133).alloc<|i' uo 133).1=δ w.1+1+1+1:=ak))))
 rw[c]at o;clear c;generalize(((w.alloc _).alloc _).alloc _).alloc _=c at o|-;obtain⟨s,x⟩:=A o.o.kb.b0;obtain⟨V,u⟩:=A o.o.kb.b1;obtain⟨l1,l2⟩:=A o.o.bx;obtain⟨r1,q⟩:=A o.o.kb.b2;simp only[aI]at s
 first
  |(
   have _:=Gu;go_wp2_with (go_at_call 247;refine(eT (ζ vs) va vc vs t O' (-9223372036854775808) 9223372036854775807 _ (B.a.below o.o.kb.low) B.A rfl hl uQ).mono ?_;clear s x V u l1 l2 r1 q;rintro e C ⟨j,r,rfl,c,v,z⟩;have y:=hid<|Aa (o.o.kb.below z)<|Aa c v;obtain⟨r1,q⟩:=A y.a.b2;clear c v z);obtain⟨q4,q5⟩:=y.a.q (h' O')<|bk j (ζ vs) r
   refine aE (v:=b? O' j (ζ vs) r) (by simp[results182,go_sem,q4,q5]) rfl (y.a.done y.b y.B (by rw[dh]) HE.o))
  | (
   go_upto_region 5 with(go_at_call 248;refine(sD va vc (ζ vs) vs f b aw _ (B.a.below o.o.kb.low) rfl hl BW).mono ?_;clear s x V u l1 l2 r1 q;rintro e E ⟨L,rfl,gz,l⟩;have R:=hid<|o.o.below l;clear l)
   have T:=hid<|Aa (R.o.kb.box L)<|R.o.below<|cf _<|i' (cD L.any L.lo L.hi) 138;clear o R;generalize δ E.1=l at T|-;generalize E.alloc _=F at T|-;obtain⟨s,x⟩:=A T.a.kb.b0;obtain⟨V,u⟩:=A T.a.kb.b1;obtain⟨r1,q⟩:=A T.a.kb.b2;obtain⟨N,a2⟩:=A T.a.bx;simp only[aI]at s
   first
    | (
     have _:=Gv;go_upto_region 8 with(go_at_call 248;refine(sD va vc (ζ vs) vs D X bw _ (B.a.below T.a.kb.low) rfl hl ED).mono ?_;clear s x V u r1 q N a2;rintro e o ⟨E,rfl,F,Y⟩;have l:=hid<|Aa (T.a.below Y)<|T.A.below Y;clear Y)
     have U:=hid<|Aa (l.a.kb.box E)<|Aa (l.a.below<|cf _<|i' (cD E.any E.lo E.hi) 138)<|l.A.below<|cf _<|i' (cD E.any E.lo E.hi) 138;clear T l;generalize δ o.1=l at U|-;generalize o.alloc _=l at U|-;obtain⟨s,x⟩:=A U.a.kb.b0;obtain⟨V,u⟩:=A U.a.kb.b1;obtain⟨r1,q⟩:=A U.a.kb.b2;obtain⟨N,a2⟩:=A U.b.bx;obtain⟨b1,o⟩:=A U.a.bx;obtain⟨l1,l2⟩:=A U.B.bx;simp only[aI]at s;have Y:J (∀(W:p'),dq W va vs->Cl 249 #[j' #[wv,k' bB,k' ⟨#[105,102]⟩,G target,G f,G b,k' aw,G D,G X,k' bw,G 2,k' sign,k' g],h'<|k==0,j'<|fL va (ζ vs) vc,j'<|cD L.any L.lo L.hi,j'<|cD E.any E.lo E.hi] W λe w'=>∃R j l r,e=n' (j'<|fe R j l r)/\J (cR w' R j l r ev)/\Bl W w'):=by intro W hW;rw[HE.o,<-gz.o,<-F.o];exact OJ wv ⟨bB,⟨#[105,102]⟩,target,⟨f,b,aw⟩,⟨D,X,bw⟩,2,sign,g⟩ (k==0) va vc (ζ vs) vs L E W hW B.A rfl hl hs BW ED (by rw[gz.o];exact qF) (by rw[F.o];exact qE)
     go_wp2_with (go_at_call 249;refine(Y.o _<|B.a.below U.a.kb.low).mono ?_;clear s x V u r1 q N a2 b1 o l1 l2;rintro e C ⟨R,j,l,r,rfl,b,z⟩;have y:=hid<|U.a.kb.below z;obtain⟨r1,q⟩:=A y.o.b2;clear z);obtain⟨q4,q5⟩:=y.o.q (h' R)<|g' j l r
     refine aE (v:=b? R j l r) (by simp[results182,go_sem,q4,q5]) rfl (y.o.give b.o))
    |(
     go_wp2_with (go_at_call 247;refine(eT (ζ vs) va vc vs t L.any L.lo L.hi _ (B.a.below T.a.kb.low) B.A rfl hl uQ).mono ?_;clear s x V u r1 q N a2;rintro e C ⟨j,r,rfl,c,v,z⟩;have y:=hid<|Aa (T.a.kb.below z)<|Aa c v;obtain⟨r1,q⟩:=A y.a.b2;clear c v z);obtain⟨q4,q5⟩:=y.a.q (h' O')<|bk j (ζ vs) r
     refine aE (v:=b? O' j (ζ vs) r) (by simp[results182,go_sem,q4,q5]) rfl (y.a.done y.b y.B (by rw[dh])<|by rw[HE.o,<-gz.o])))):p:=h
def CT(wv:y')(m:RN)(k:Int)(t:Nat)(va:t')(vc:Nat)(vs:List VV)(w:p')(hv:dq w va vs)(qn:va=A'->vc=0)(hl:ζ vs<=8)(hd:m.does=⟨vo⟩)(ht:m.target=t)(uQ:t<ζ vs):
  Cl 182 #[j'<|aI wv m,G k,b? false va (ζ vs) vc] w (kJ w<|z'<|vs.set t VV.all):=by
 have Gu:=True.intro;exact aaH
def Fi(wv:y')(m:RN)(k:Int)(t:Nat)(va:t')(vc:Nat)(vs:List VV)(w:p')(hv:dq w va vs)(qn:va=A'->vc=0)(hl:ζ vs<=8)(hd:m.does=⟨#[61]⟩)(ho:m.ops=1)(ht:m.target=t)(uQ:t<ζ vs)(BW:m.a.var<ζ vs):
  Cl 182 #[j'<|aI wv m,G k,b? O' va (ζ vs) vc] w (kJ w<|z'<|vs.set t<|fR vs m.a.var m.a.c):=by
 exact aaH
def rIf(t:Int)(yes:Bool)(av bv:Int)(vs:List VV)(a b:VV):EV:=match mD t yes a b with|none=>A'|some q=>Nv av bv vs q.1 q.2
def OJ(P:y')(m:RN)(Q:Bool)(z:t')(x n:Nat)(E:List VV)(a b:VV)(w:p')(R:dq w z E)(W:z=A'->x=0)(K:ζ E=n)(X:ζ E<=8)(y:Wm.x! m.sign.1.1=N')(c:m.a.var<ζ E)(g:m.b.var<ζ E)(k:nY a)(i:nY b):
  Cl 249 #[j'<|aI P m,h' Q,j' #[h' O',g' z n x],j'<|cD a.any a.lo a.hi,j'<|cD b.any b.lo b.hi] w λe d=>∃h j f r,e=n' (j'<|fe h j f r)/\J (cR d h j f r<|rIf (Wm.uu m.sign.1.1) Q m.a.var m.b.var E a b)/\Bl w d:=by
 subst K;exact FL P m Q z x E a b w R W X y c g k i
def cR.put{w:p'}{b:Bool}{j:t'}{f r:Nat}{a:EV}{q c s:Nat}{e:t'}{d:Bool}{L i:y'}{t:TypeId}(h:cR w b j f r a)(g:w.1[q]?=z' (i' (fe d e c s) t (0,0))):cR (κ (κ w (O q 0) L) (O q 1) i) b j f r a:=by
 cases a with
 |none=>exact h
 |some c=>exact⟨h.1,h.2.1,h.2.2.1.put g,h.2.2.2⟩
def KB.give{w W:p'}{P:y'}{m:RN}{z j:t'}{F x f r:Nat}{a:Bool}{b:EV}(h:KB w W P m z F x)(R:cR W a j f r b):
  kJ w b (n'<|b? a j f r) (κ (κ W (O (δ w.1+1+1) 0)<|h' a) (O (δ w.1+1+1) 1)<|g' j f r):=
 kJ.mk (R.put h.b2) ((h.low.setCell G' _).setCell G' _)
def Ov(wv:y')(m:RN)(k:Int)(va:t')(vc:Nat)(vs:List VV)(w:p')(hv:dq w va vs)(qn:va=A'->vc=0)(hl:ζ vs<=8)(hd:m.does=⟨#[105,102]⟩)(ho:m.ops=2)(hs:Wm.x! m.sign.1.1=N')(BW:m.a.var<ζ vs)(ED:m.b.var<ζ vs)(qF:nY<|fR vs m.a.var m.a.c)(qE:nY<|fR vs m.b.var m.b.c):
  Cl 182 #[j'<|aI wv m,G k,b? O' va (ζ vs) vc] w (kJ w<|rIf (Wm.uu m.sign.1.1) (k==0) m.a.var m.b.var vs (fR vs m.a.var m.a.c)<|fR vs m.b.var m.b.c):=by
 have Gv:=True.intro;exact aaH
def adV{p:Prop}(h:p:=by
  have o:=hid ((KB.start w wv m va (ζ vs) vc).box VV.all);have B:=hid<|Aa hv qn;clear hv qn;obtain⟨j,b,b,⟨f,b,l⟩,⟨D,X,z⟩,ops,e,g⟩:=m;simp only at hd ho ht hs BW ED qF qE|-;subst hd;subst ho;subst ht;subst hs;simp only[aI,b?,VV.all]at o|-
  first|(have _:=BM;obtain⟨r,L⟩:∃r,r=z' (vs.set t<|ke (fR vs f b)<|fR vs D X):=⟨_,rfl⟩)|(obtain⟨r,L⟩:∃r,r=z' (vs.set t<|ve (fR vs f b)<|fR vs D X):=⟨_,rfl⟩)
  rw[<-L];have HE:=hid L;clear L;go_enter func182,ntmps182;go_upto_region 4 with(fail)
  first|(have _:=BM;(have e:δ (((w.alloc<|i' #[wv,k' j,k' ⟨#[61]⟩,G t,G f,G b,k' l,G D,G X,k' z,G 2,k' ⟨#[45]⟩,k' g] 111).alloc<|i' (fL va (ζ vs) vc) 133).alloc<|i' uo 133).1=δ w.1+1+1+1:=ak))|((have e:δ (((w.alloc<|i' #[wv,k' j,k' ⟨#[61]⟩,G t,G f,G b,k' l,G D,G X,k' z,G 2,k' ⟨#[43]⟩,k' g] 111).alloc<|i' (fL va (ζ vs) vc) 133).alloc<|i' uo 133).1=δ w.1+1+1+1:=ak))
  rw[e]at o;clear e;generalize(((w.alloc _).alloc _).alloc _).alloc _=e at o|-;obtain⟨s,x⟩:=A o.o.kb.b0;obtain⟨V,u⟩:=A o.o.kb.b1;obtain⟨l1,l2⟩:=A o.o.bx;obtain⟨r1,r2⟩:=A o.o.kb.b2;simp only[aI]at s;go_upto_region 5 with(go_at_call 248;refine(sD va vc (ζ vs) vs f b l _ (B.a.below o.o.kb.low) rfl hl BW).mono ?_;clear s x V u l1 l2 r1 r2;rintro e f ⟨j,rfl,g,l⟩;have b:=hid<|o.o.below l;clear l)
  have T:=hid<|Aa (b.o.kb.box j)<|b.o.below<|cf _<|i' (cD j.any j.lo j.hi) 138;clear o b;generalize δ f.1=qa at T|-;generalize f.alloc _=F at T|-;obtain⟨s,x⟩:=A T.a.kb.b0;obtain⟨V,u⟩:=A T.a.kb.b1;obtain⟨r1,r2⟩:=A T.a.kb.b2;obtain⟨N,a2⟩:=A T.a.bx;simp only[aI]at s;go_upto_region 8 with(go_at_call 248;refine(sD va vc (ζ vs) vs D X z _ (B.a.below T.a.kb.low) rfl hl ED).mono ?_;clear s x V u r1 r2 N a2;rintro e o ⟨E,rfl,f,Y⟩;have b:=hid<|Aa (T.a.below Y)<|T.A.below Y;clear Y)
  have U:=hid<|Aa (b.a.kb.box E)<|Aa (b.a.below<|cf _<|i' (cD E.any E.lo E.hi) 138)<|b.A.below<|cf _<|i' (cD E.any E.lo E.hi) 138;clear T b;generalize δ o.1=b at U|-;generalize o.alloc _=W4 at U|-;obtain⟨s,x⟩:=A U.a.kb.b0;obtain⟨V,u⟩:=A U.a.kb.b1;obtain⟨r1,r2⟩:=A U.a.kb.b2;obtain⟨N,a2⟩:=A U.b.bx;obtain⟨b1,o⟩:=A U.a.bx;obtain⟨l1,l2⟩:=A U.B.bx;simp only[aI]at s;have T:nY j:=by rw[g.o];exact qF
  have L:nY E:=by rw[f.o];exact qE
  first
    |(
       have _:=BM;have D:J (r=z' (vs.set t<|ke j E)):=by
         show _=_
         rw[HE.o,g.o,f.o])
    |(have D:J (r=z' (vs.set t<|ve j E)):=by
         show _=_
         rw[HE.o,g.o,f.o])
  clear HE qF qE;have fa:=T.fit;have X:=L.fit
  first|(have _:=BM;(go_upto_region 16 with(fail));obtain⟨z,F⟩:∃z,z=ke j E:=⟨_,rfl⟩)|(obtain⟨c1,f1,H1,E1⟩:∃c f,J (∀W,Cl 250 #[.int .i64 j.lo,.int .i64 E.lo] W λe w'=>e=n' (o' #[.int .i64 c,h' f])/\W=w')/\J (f=aN (j.lo+E.lo)/\(f=true->c=j.lo+E.lo)):=⟨_,_,λW=>(Bf j.lo E.lo W fa.1 X.1).mono λ_ _ h=>⟨h.1,h.2.symm⟩,rfl,λh=>aD h⟩;obtain⟨c2,f2,H2,g⟩:∃c f,J (∀W,Cl 250 #[.int .i64 j.hi,.int .i64 E.hi] W λe w'=>e=n' (o' #[.int .i64 c,h' f])/\W=w')/\J (f=aN (j.hi+E.hi)/\(f=true->c=j.hi+E.hi)):=⟨_,_,λW=>(Bf j.hi E.hi W fa.2 X.2).mono λ_ _ h=>⟨h.1,h.2.symm⟩,rfl,λh=>aD h⟩;(go_upto_region 13 with(go_at_call 250;refine(H1.o _).mono ?_;rintro e C ⟨rfl,rfl⟩));(go_upto_region 14 with(go_at_call 250;refine(H2.o _).mono ?_;rintro e C ⟨rfl,rfl⟩));obtain⟨z,F⟩:∃z,z=ve j E:=⟨_,rfl⟩;(have l:vd c1 c2 c1 c2 (f1&&f2)=z:=by rw[F];exact aaC E1.o g.o))
  have HE:J (r=z' (vs.set t z)):=by rw[F];exact D.o
  first|(have _:=BM;(have Y:J (∀W,Cl 252 #[j'<|cD j.any j.lo j.hi,j'<|cD E.any E.lo E.hi] W<|Rb W<|j' #[h' z.any,G z.lo,G z.hi]):=by rw[F];exact λW=>Fp j E W T L))|skip
  clear D F fa X
  first
    |(
       have _:=BM;clear s x V u r1 r2 N a2 b1 o l1 l2;refine wp_region_held_drew (S:=λW'=>W'.1[δ w.1]?=z' _/\W'.1[δ w.1+1]?=z' _/\W'.1[qa]?=z' _/\W'.1[b]?=z' _) M ⟨U.a.kb.b0,U.a.kb.b1,U.b.bx,U.a.bx⟩ λaC=>?_;refine tr 0 (j'<|fL va (ζ vs) vc) (λW' aW=>(A aW.2.1).1) ?_;refine tq 1 (qx w.1.size) ?_;refine tq 2 (G t) ?_ (y:=λW' aW=>by obtain⟨k1,k2⟩:=A aW.1;simp only[aI]at k1;clear aC;go_simp);refine tr 3 (j'<|cD j.any j.lo j.hi) (λW' aW=>(A aW.2.2.1).1) ?_;refine tr 4 (j'<|cD E.any E.lo E.hi) (λW' aW=>(A aW.2.2.2).1) ?_;refine r1 5 λK D=>?_;go_simp;refine(Y.o _).mono ?_;rintro e C ⟨rfl,X⟩;have f:J (Bl W4 C):=aq ay X;clear X;refine D.out _ _ ⟨aG f.o U.a.kb.b0,aG f.o U.a.kb.b1,aG f.o U.b.bx,aG f.o U.a.bx⟩ λaC=>?_;clear D K;refine pt ?_;refine r1 6 λK D=>?_;go_simp;refine(eT (ζ vs) va vc vs t z.any z.lo z.hi _ (B.a.below<|aq U.a.kb.low<|aq f.o ay) B.A rfl hl uQ).mono ?_;rintro e W6 ⟨j,r,rfl,F,T,E⟩;have b:J (Bl W4 W6/\dq W6 j (vs.set t z)/\(j=A'->r=0)):=⟨aq (aq f.o ay) E,F,T⟩;clear F T E;refine D.out _ _ ⟨aG b.a U.a.kb.b0,aG b.a U.a.kb.b1,aG b.a U.b.bx,aG b.a U.a.bx⟩ λaC=>?_;clear D K;refine pt ?_;refine r1 7 λK D=>?_;obtain⟨r3,L⟩:=A (U.a.kb.below b.a).b2;go_simp;refine D.out _ _ ⟨((aJ<|by dsimp only;omega).trans (aJ<|by dsimp only;omega)).trans<|aG b.a U.a.kb.b0,((aJ<|by dsimp only;omega).trans (aJ<|by dsimp only;omega)).trans<|aG b.a U.a.kb.b1,((aJ (by have:=U.b.low;dsimp only;omega)).trans<|aJ (by have:=U.b.low;dsimp only;omega)).trans<|aG b.a U.b.bx,((aJ (by have:=U.a.low;dsimp only;omega)).trans<|aJ (by have:=U.a.low;dsimp only;omega)).trans<|aG b.a U.a.bx⟩ λaC=>?_;clear r3 L;clear D K;refine pt ?_;refine wpAnyH_done M ?_ _;go_wp2_with fail;obtain⟨q4,q5⟩:=(U.a.kb.below b.a).q (h' false)<|bk j (ζ vs) r
       refine aE (v:=b? false j (ζ vs) r) (by simp[results,results182,go_sem,q4,q5]) rfl ((U.a.kb.below b.a).done b.b b.B (by rw[dh]) HE.o))
    |(
       have Y:J (∀W,Cl 251 #[G c1,G c2,G c1,G c2,h'<|f1&&f2] W<|Rb W<|j' #[h' z.any,G z.lo,G z.hi]):=by rw[<-l];exact λW=>oK c1 c2 c1 c2 _ W
       clear l E1 g H1 H2;cases f1
       · simp only[vi]at Y
         clear s x V u r1 r2 N a2 b1 o l1 l2;refine wp_region_held_drew (S:=λW'=>W'.1[δ w.1]?=z' _/\W'.1[δ w.1+1]?=z' _) M ⟨U.a.kb.b0,U.a.kb.b1⟩ λaC=>?_;refine tr 0 (j'<|fL va (ζ vs) vc) (λW' aW=>(A aW.2).1) ?_;refine tq 1 (qx w.1.size) ?_;refine tq 2 (G t) ?_ (y:=λW' aW=>by obtain⟨k1,k2⟩:=A aW.1;simp only[aI]at k1;clear aC;go_simp);refine tq 3 (G c1) ?_;refine tq 4 (G c2) ?_;refine tq 5 (G c1) ?_;refine tq 6 (G c2) ?_;refine tq 7 (h' false) ?_;refine tq 8 (h' false) ?_;refine tn 9 ?_;refine tq 10 (h' false) ?_;refine r1 11 λK D=>?_;go_simp;refine(Y.o _).mono ?_;rintro e C ⟨rfl,X⟩;have f:J (Bl W4 C):=aq ay X;clear X;refine D.out _ _ ⟨aG f.o U.a.kb.b0,aG f.o U.a.kb.b1⟩ λaC=>?_;clear D K;refine pt ?_;refine r1 12 λK D=>?_;go_simp;refine(eT (ζ vs) va vc vs t z.any z.lo z.hi _ (B.a.below<|aq U.a.kb.low<|aq f.o ay) B.A rfl hl uQ).mono ?_;rintro e W6 ⟨j,r,rfl,F,T,E⟩;have b:J (Bl W4 W6/\dq W6 j (vs.set t z)/\(j=A'->r=0)):=⟨aq (aq f.o ay) E,F,T⟩;clear F T E;refine D.out _ _ ⟨aG b.a U.a.kb.b0,aG b.a U.a.kb.b1⟩ λaC=>?_;clear D K;refine pt ?_;refine r1 13 λK D=>?_;obtain⟨r3,L⟩:=A (U.a.kb.below b.a).b2;go_simp;refine D.out _ _ ⟨((aJ<|by dsimp only;omega).trans (aJ<|by dsimp only;omega)).trans<|aG b.a U.a.kb.b0,((aJ<|by dsimp only;omega).trans (aJ<|by dsimp only;omega)).trans<|aG b.a U.a.kb.b1⟩ λaC=>?_;clear r3 L;clear D K;refine pt ?_;refine wpAnyH_done M ?_ _;go_wp2_with fail;obtain⟨q4,q5⟩:=(U.a.kb.below b.a).q (h' false)<|bk j (ζ vs) r;refine aE (v:=b? false j (ζ vs) r) (by simp[results,results182,go_sem,q4,q5]) rfl ((U.a.kb.below b.a).done b.b b.B (by rw[dh]) HE.o)
       · simp only[eN]at Y
         clear s x V u r1 r2 N a2 b1 o l1 l2;refine wp_region_held_drew (S:=λW'=>W'.1[δ w.1]?=z' _/\W'.1[δ w.1+1]?=z' _) M ⟨U.a.kb.b0,U.a.kb.b1⟩ λaC=>?_;refine tr 0 (j'<|fL va (ζ vs) vc) (λW' aW=>(A aW.2).1) ?_;refine tq 1 (qx w.1.size) ?_;refine tq 2 (G t) ?_ (y:=λW' aW=>by obtain⟨k1,k2⟩:=A aW.1;simp only[aI]at k1;clear aC;go_simp);refine tq 3 (G c1) ?_;refine tq 4 (G c2) ?_;refine tq 5 (G c1) ?_;refine tq 6 (G c2) ?_;refine tq 7 (h' true) ?_;refine tq 8 (h' true) ?_;refine tq 9 (h' f2) ?_;refine tq 10 (h' f2) ?_;refine r1 11 λK D=>?_;go_simp;refine(Y.o _).mono ?_;rintro e C ⟨rfl,X⟩;have f:J (Bl W4 C):=aq ay X;clear X;refine D.out _ _ ⟨aG f.o U.a.kb.b0,aG f.o U.a.kb.b1⟩ λaC=>?_;clear D K;refine pt ?_;refine r1 12 λK D=>?_;go_simp;refine(eT (ζ vs) va vc vs t z.any z.lo z.hi _ (B.a.below<|aq U.a.kb.low<|aq f.o ay) B.A rfl hl uQ).mono ?_;rintro e W6 ⟨j,r,rfl,F,T,E⟩;have b:J (Bl W4 W6/\dq W6 j (vs.set t z)/\(j=A'->r=0)):=⟨aq (aq f.o ay) E,F,T⟩;clear F T E;refine D.out _ _ ⟨aG b.a U.a.kb.b0,aG b.a U.a.kb.b1⟩ λaC=>?_;clear D K;refine pt ?_;refine r1 13 λK D=>?_;obtain⟨r3,L⟩:=A (U.a.kb.below b.a).b2;go_simp;refine D.out _ _ ⟨((aJ<|by dsimp only;omega).trans (aJ<|by dsimp only;omega)).trans<|aG b.a U.a.kb.b0,((aJ<|by dsimp only;omega).trans (aJ<|by dsimp only;omega)).trans<|aG b.a U.a.kb.b1⟩ λaC=>?_;clear r3 L;clear D K;refine pt ?_;refine wpAnyH_done M ?_ _;go_wp2_with fail;obtain⟨q4,q5⟩:=(U.a.kb.below b.a).q (h' false)<|bk j (ζ vs) r
         refine aE (v:=b? false j (ζ vs) r) (by simp[results,results182,go_sem,q4,q5]) rfl ((U.a.kb.below b.a).done b.b b.B (by rw[dh]) HE.o))):p:=h
def JA(wv:y')(m:RN)(k:Int)(t:Nat)(va:t')(vc:Nat)(vs:List VV)(w:p')(hv:dq w va vs)(qn:va=A'->vc=0)(hl:ζ vs<=8)(hd:m.does=⟨#[61]⟩)(ho:m.ops=2)(ht:m.target=t)(uQ:t<ζ vs)(hs:m.sign=⟨#[43]⟩)(BW:m.a.var<ζ vs)(ED:m.b.var<ζ vs)(qF:nY<|fR vs m.a.var m.a.c)(qE:nY<|fR vs m.b.var m.b.c):
  Cl 182 #[j'<|aI wv m,G k,b? O' va (ζ vs) vc] w (kJ w<|z'<|vs.set t<|ve (fR vs m.a.var m.a.c)<|fR vs m.b.var m.b.c):=by
 exact adV
def Fp(a b:VV)(w:p')(d:nY a)(f:nY b):Cl 252 #[j'<|cD a.any a.lo a.hi,j'<|cD b.any b.lo b.hi] w (Rb w<|j' #[h' (ke a b).any,G (ke a b).lo,G (ke a b).hi]):=JC a b w d f
def Jx(wv:y')(m:RN)(k:Int)(t:Nat)(va:t')(vc:Nat)(vs:List VV)(w:p')(hv:dq w va vs)(qn:va=A'->vc=0)(hl:ζ vs<=8)(hd:m.does=⟨#[61]⟩)(ho:m.ops=2)(ht:m.target=t)(uQ:t<ζ vs)(hs:m.sign=⟨#[45]⟩)(BW:m.a.var<ζ vs)(ED:m.b.var<ζ vs)(qF:nY<|fR vs m.a.var m.a.c)(qE:nY<|fR vs m.b.var m.b.c):
  Cl 182 #[j'<|aI wv m,G k,b? O' va (ζ vs) vc] w (kJ w<|z'<|vs.set t<|ke (fR vs m.a.var m.a.c)<|fR vs m.b.var m.b.c):=by
 have BM:=True.intro;exact adV
def wl(ws:List x'):Nat:=(ws.map λx=>x.size+1).sum
end Go.Proofs.YtmipbiligijcpaaGreatDoor
