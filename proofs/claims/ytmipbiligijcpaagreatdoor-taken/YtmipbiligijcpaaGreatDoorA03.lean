import Derived.Test.YtmipbiligijcpaaGreatDoorA02
import Derived.Laws.EntriesVeiled
import Derived.Deep.Cut
import Derived.Laws.AppendOwnNone
namespace Go.Proofs.YtmipbiligijcpaaGreatDoor
set_option linter.all false
set_option maxHeartbeats 2000000
set_option maxRecDepth 100000
open Go.RowKit Go.Proofs Go.Maps
open Go.RowKit Go.Proofs Go.Maps Tryz
def Tn(s:BS)(f:Nat):BS:=if f<64 then(s.1|||2 ^ f,s.2) else(s.1,s.2|||2 ^ (f-64))
def cH(fs:List Nat):BS:=fs.foldl Tn (0,0)
def Zv{s:BS}(h:bF s){f:Nat}(hf:f<128):bF (Tn s f):=by
 unfold Tn;split
 ·have:(2:Nat) ^ f<2 ^ 64:=GY ah ah
  have G:=h.lo;have O:s.1|||2 ^ f<2 ^ 64:=Bw ah this
  exact⟨by show s.1|||2 ^ f<_;omega,h.hi⟩
 have:(2:Nat) ^ (f-64)<2 ^ 64:=GY ah ah;have G:=h.hi;have O:s.2|||2 ^ (f-64)<2 ^ 64:=Bw ah this
 exact⟨h.lo,by show s.2|||2 ^ (f-64)<_;omega⟩
def QK:∀(fs:List Nat) (u:BS),bF u->(∀f∈fs,f<128)->bF (fs.foldl Tn u)
 |[],u,h,_=>h
 |s :: r,u,h,k=>QK r _ (Zv h (k s ak)) (fun x E=>k x (by simp[E]))
def gQ(fs:List Nat)(k:∀f∈fs,f<128):bF (cH fs):=QK fs _ ⟨aj,aj⟩ k
def EY{fs:List Nat}{k f:Nat}(h:fs[k]?=some f):cH (fs.take (k+1))=Tn (cH (fs.take k)) f:=by
 have hl:=(bn.1 h).1;rw[dS hl,(bn.1 h).2];simp[cH]
def QE(a f:Nat)(ha:a<18446744073709551616)(hf:f<64):bits .or .u64 (a:Int) (IntKind.u64.wrap (2 ^ f))=((a|||2 ^ f:Nat):Int):=by
 have G:(2:Nat) ^ f<2 ^ 64:=GY ah hf;have O:IntKind.u64.wrap (2 ^ f)=((2 ^ f:Nat):Int):=by
  rw[wP,Int.natCast_pow];refine Int.emod_eq_of_lt (Int.pow_nonneg aj) ?_;have:((2 ^ f:Nat):Int)<((2 ^ 64:Nat):Int):=Int.ofNat_lt.2 G;rw[Int.natCast_pow]at this
  simpa using this
 rw[O];exact Bz a (2 ^ f) ha ah
def Xw{p:Prop}(h:p:=by
 show(wr.setCell _ _).heap[w.heap.size]?=_;rw[aZ _ _ _ _ (by show w.heap.size≠w.heap.size+1;omega)]
 exact M.b):p:=h
def IL(Z:Option Addr)(c:Nat)(fs:List Nat)(w:World)(h:cz w Z (fs.map Int.ofNat))(hi:∀f∈fs,f<128)(hl:fs.length<=1000):
  Cl 241 #[.slice Z fs.length c] w (Rb w (b! (cH fs))):=by
 have l:=(show Hd _ from Aa h hi);clear h hi;go_enter func241,ntmps241
 go_wp2_with fail
 go_loopw[8] (fun i wr=>∃k:Nat,k<=fs.length/\i=Iv k/\Hd (Bl w wr/\wr.heap[w.heap.size]?=some jc/\wr.heap[w.heap.size+1]?=some (.cells #[Uv (cH (fs.take k)).1,Uv (cH (fs.take k)).2] 267 (0,0)))) (fun i _=>fs.length-(intOf i).toNat)
 case atStart=>
  refine⟨0,bB _,rfl,aX _ _ _,(aN _ _ _).1,?_⟩;have:=(aN w eE eE).2
  simpa[cH]using this
 obtain⟨k,X,rfl,M⟩:=hrel;by_cases J:k<fs.length;rotate_left
 ·have s:¬(k:Int)<(fs.length:Int):=ah
  have r:fs.take k=fs:=cP ah;rw[r]at M;obtain⟨F,y⟩:=ae M.B;obtain⟨n,o⟩:=ae M.b
  go_wp2_with fail
  have A:(wr.setCell (Ad w.heap.size 0) (Uv ((cH fs).1:Int))).cell? (Ad w.heap.size 0)=some (Uv ((cH fs).1:Int)):=by rw[(ae (aw M.b _)).1];rfl
  have j:((wr.setCell (Ad w.heap.size 0) (Uv ((cH fs).1:Int))).setCell (Ad w.heap.size 1) (Uv ((cH fs).2:Int))).cell? (Ad w.heap.size 1)=some (Uv ((cH fs).2:Int)):=by rw[(ae (aw (aw M.b _) _)).1];rfl
  refine aG (v:=b! (cH fs)) (by simp[results,results241,go_sem,b!,A,j]) rfl ⟨rfl,?_⟩;exact(M.a.setCell (aF _) _).setCell (aF _) _
 have s:(k:Int)<(fs.length:Int):=ah
 obtain⟨f,E⟩:=La J;obtain⟨m,v,rfl,P⟩:=l.a k (f:Int) (by rw[bG,E];rfl);have V:=l.A f (aL E);have g:=(show Hd _ from E);clear E;have t:=ax P M.a;obtain⟨u,b⟩:=Ea (cH (fs.take k));have O:=(show Hd _ from b);rw[<-b]at M;clear b;obtain⟨F,y⟩:=ae M.B;by_cases a:f<64
 ·have hd:f / 64=0:=ah
  have B:wr.cell? (Ad (w.heap.size+1) 0)=some (Uv u.1):=by rw[F];rfl
  clear F
  go_wp2_with fail
  go_region
  go_wp2_with fail
  go_roundw
  case measure=>simp[intOf];omega
  have C:f % 64=f:=tL a;have d:=gQ (fs.take k) (fun x E=>l.A x (lZ E));rw[C,QE u.1 f (by rw[O.o];exact d.lo) a];refine⟨k+1,ah,h',?_,?_,?_⟩
  ·exact(M.a.setCell (by show _<=w.heap.size+1;omega) _).drew
  ·exact Xw
  rw[EY g.o,<-O.o];unfold Tn;rw[aD a];exact aw M.B _
 have hd:f / 64=1:=ah
 have B:wr.cell? (Ad (w.heap.size+1) 1)=some (Uv u.2):=by rw[F];rfl
 clear F
 go_wp2_with fail
 go_region
 go_wp2_with fail
 go_roundw
 case measure=>simp[intOf];omega
 have C:f % 64=f-64:=ah
 have d:=gQ (fs.take k) (fun x E=>l.A x (lZ E));rw[C,QE u.2 (f-64) (by rw[O.o];exact d.hi) ah];refine⟨k+1,ah,h',?_,?_,?_⟩
 ·exact(M.a.setCell (by show _<=w.heap.size+1;omega) _).drew
 ·exact Xw
 rw[EY g.o,<-O.o];unfold Tn;rw[aA a];exact aw M.B _
open Go.RowKit Go.Proofs Go.Maps Tryz
def j6(W:World)(b f:Nat)(hf:f<128)(Z:W.cell? (Ad b 0)=some (Iv f)):
  Cl 241 (mH b) W (Rb W (b! (cH [f]))):=by
 refine IL (some (Ad b 0)) 1 [f] W ?_ (by simpa using hf) ak;intro j x hj
 match j,hj with
 |0,hj=>simp at hj;subst hj;exact⟨b,0,rfl,Z⟩
 |j+1,hj=>simp at hj
def VE(s:BS)(f:Nat)(w:World)(hs:bF s)(hf:f<128):
  Cl 245 #[b! s,Iv f] w (Rb w (.bool (zS (eH (cH [f]) s)))):=by
 have j:Hd (∀W b,W.cell? (Ad b 0)=some (Iv f)->Cl 241 (mH b) W (Rb W (b! (cH [f])))):=fun W b Z=>j6 W b f hf Z
 have a:Hd (∀W,Cl 296 #[b! (cH [f]),b! s] W (Rb W (.bool (zS (eH (cH [f]) s))))):=fun W=>ri _ _ W (gQ _ (by simpa using hf)) hs
 obtain⟨z,R⟩:=Ea (zS (eH (cH [f]) s));rw[<-R]at a⊢;obtain⟨u,E⟩:=Ea (cH [f]);rw[<-E]at a j;clear R E hs hf;simp only[b!]at j a⊢;go_enter func245,ntmps245
 go_wp2_with fail
 generalize k:w.alloc (lB s.1 s.2)=H;have p:Hd (Bl w H/\H.cell? (Ad w.heap.size 0)=some (Uv s.1)/\H.cell? (Ad w.heap.size 1)=some (Uv s.2)):=by
  subst k;exact⟨aC _ _,ak,ak⟩
 have d:w.heap.size<H.heap.size:=dQ p.b;have B:=p.b;have n:=p.B;have g:w.heap.size≠H.heap.size:=ah
 have V:H.heap.size≠w.heap.size:=ah
 clear k
 go_region_held3 (fun I=>I.cell? (Ad w.heap.size 0)=some (Uv s.1)/\I.cell? (Ad w.heap.size 1)=some (Uv s.2)) (go_keep) (first|(go_at_call 241;refine(j.o _ _ ak).mono ?_;rintro e T ⟨rfl,A⟩;have L:Bl H T:=aq ay A;have l:=ax p.b L;have t:=ax p.B L;have c:=(show Hd _ from L);clear L A)|(go_at_call 296;refine(a.o _).mono ?_;rintro e r ⟨rfl,N⟩;have eB:Bl H r:=aq (by repeat(first|exact c.o|with_reducible refine below_drewN ?_ _|with_reducible refine kf ?_)) N;have y:=ax p.b eB;have Q:=ax p.B eB;have q:=(show Hd _ from eB);clear eB N))
 all_goals
  go_wp2_with fail
  go_ret
  first|exact⟨rfl,aq p.a q.o⟩|exact⟨rfl,below_drewN (aq p.a q.o) _⟩
def e8(W:World)(b:Nat)(s t:BS)(hs:bF s)(N:bF t)(c0:W.cell? (Ad b 0)=some (Uv s.1))(c1:W.cell? (Ad b 1)=some (Uv s.2))(c2:W.cell? (Ad b 2)=some (Uv t.1))(c3:W.cell? (Ad b 3)=some (Uv t.2)):
  Cl 267 (oE b) W (Rb W (b! (eP s t))):=by
 have e:zj [s,t]=eP s t:=by simp[zj,eP]
 rw[<-e];refine An (some (Ad b 0)) 2 [s,t] W ?_ ?_ ak
 ·intro j x hj
  match j,hj with
  |0,hj=>simp at hj;subst hj;exact⟨b,0,rfl,c0,c1⟩
  |1,hj=>simp at hj;subst hj;exact⟨b,0,rfl,c2,c3⟩
  |j+2,hj=>simp at hj
 intro x E;simp at E;rcases E with rfl|rfl
 ·exact hs
 exact N
def jK(n:Nat):BS:=(List.range n).foldl (fun s f=>eP s (cH [f])) (0,0)
def xp(n:Nat):jK (n+1)=eP (jK n) (cH [n]):=by simp[jK,kK]
def oG:∀n,n<=128->bF (jK n)
 |0,_=>⟨aj,aj⟩
 |n+1,h=>by rw[xp];exact gp (oG n ah) (gQ _ (by simp;omega))
def oF(n:Nat)(w:World)(hn:n<=128):
  Cl 208 #[Iv n] w (Rb w (b! (jK n))):=by
 go_enter func208,ntmps208
 go_wp2_with fail
 go_loopw[6] (fun i wr=>∃k:Nat,k<=n/\i=Iv k/\Hd (Bl w wr/\wr.heap[w.heap.size]?=some jc/\wr.heap[w.heap.size+1]?=some (.cells #[Uv (jK k).1,Uv (jK k).2] 267 (0,0)))) (fun i _=>n-(intOf i).toNat)
 case atStart=>
  refine⟨0,bB _,rfl,aX _ _ _,(aN _ _ _).1,?_⟩;have:=(aN w eE eE).2
  simpa[jK]using this
 obtain⟨k,X,rfl,M⟩:=hrel;by_cases J:k<n;rotate_left
 ·have s:¬(k:Int)<n:=ah
  have r:k=n:=ah
  subst r;obtain⟨F,y⟩:=ae M.B;obtain⟨B,o⟩:=ae M.b
  go_wp2_with fail
  have D:(wr.setCell (Ad w.heap.size 0) (Uv ((jK k).1:Int))).cell? (Ad w.heap.size 0)=some (Uv ((jK k).1:Int)):=by rw[(ae (aw M.b _)).1];rfl
  have l:((wr.setCell (Ad w.heap.size 0) (Uv ((jK k).1:Int))).setCell (Ad w.heap.size 1) (Uv ((jK k).2:Int))).cell? (Ad w.heap.size 1)=some (Uv ((jK k).2:Int)):=by rw[(ae (aw (aw M.b _) _)).1];rfl
  refine aG (v:=b! (jK k)) (by simp[results,results208,go_sem,b!,D,l]) rfl ⟨rfl,?_⟩;exact(M.a.setCell (aF _) _).setCell (aF _) _
 have s:(k:Int)<n:=ah
 have j:Hd (∀W b,W.cell? (Ad b 0)=some (Iv k)->Cl 241 (mH b) W (Rb W (b! (cH [k])))):=fun W b Z=>j6 W b k ah Z
 have O:Hd (∀(W:World) b,W.cell? (Ad b 0)=some (Uv ((jK k).1:Int))->W.cell? (Ad b 1)=some (Uv ((jK k).2:Int))->W.cell? (Ad b 2)=some (Uv ((cH [k]).1:Int))->W.cell? (Ad b 3)=some (Uv ((cH [k]).2:Int))->Cl 267 (oE b) W (Rb W (b! (jK (k+1))))):=by
  rw[xp];exact fun W b q G C Y=>e8 W b _ _ (oG k ah) (gQ _ (by simp;omega)) q G C Y
 obtain⟨u,E⟩:=Ea (jK k);obtain⟨t,h⟩:=Ea (cH [k]);obtain⟨v,g⟩:=Ea (jK (k+1));rw[<-g]at O;rw[<-E]at O M;rw[<-h]at O j;have H:=(show Hd _ from g);clear E h g;obtain⟨F,y⟩:=ae M.B;simp only[b!]at j O;have P:=(bq.1 M.B).1;have p:w.heap.size+1≠wr.heap.size:=ah
 have V:wr.heap.size≠w.heap.size+1:=ah
 go_wp2_with fail
 go_region_law (go_simp;first|(refine bA (j.o _ _ ak) ?_;rintro e T ⟨rfl,A⟩;have a:T.heap[w.heap.size+1]?=_:=(A.block _ (by simp;have:=(bq.1 M.B).1;omega)).trans ((ch _ _ _ (bq.1 M.B).1).trans M.B);obtain⟨x,z⟩:=ae a;have U:=(bq.1 a).1;have K:w.heap.size+1≠T.heap.size:=ah;have Q:=K.symm;have L:Bl wr T:=aq ay A;have c:=(show Hd _ from Aa a L);clear a A L)|(refine bA (O.o _ _ ak ak ak ak) ?_;rintro e m ⟨rfl,N⟩;have f:m.heap[w.heap.size+1]?=_:=(N.block _ (by simp;have:=(bq.1 c.a).1;omega)).trans ((ch _ _ _ (bq.1 c.a).1).trans c.a);obtain⟨B,o⟩:=ae f;have eB:Bl wr m:=aq (aq c.A ay) N;have d:=(show Hd _ from Aa f eB);clear f N eB))
 all_goals
  go_wp2_with fail
  go_roundw
  case rel=>
   refine⟨k+1,ah,h',?_,?_,?_⟩
   ·exact((aq M.a d.A).setCell (by show _<=w.heap.size+1;omega) _).setCell (by show _<=w.heap.size+1;omega) _
   ·rw[aZ _ _ _ _ (by show w.heap.size≠w.heap.size+1;omega),aZ _ _ _ _ (by show w.heap.size≠w.heap.size+1;omega)]
    exact(d.A.block _ (bq.1 M.b).1).trans M.b
   rw[<-H.o];exact aw (aw d.a _) _
  simp[intOf];omega
section
variable {s t:BS}
def bt(s:BS)(f:Nat):Bool:=if f<64 then s.1.testBit f else s.2.testBit (f-64)
def gC(s t:BS)(f:Nat):bt (eP s t) f=(bt s f||bt t f):=by
 unfold bt eP;split<;>simp
def Ke(a b i:Nat)(hb:b<18446744073709551616)(hi:i<64):(Zk a b).testBit i=(a.testBit i&&!b.testBit i):=by
 unfold Zk;rw[Nat.testBit_and];have:18446744073709551615-b=2 ^ 64-(b+1):=ah
 rw[this,Nat.testBit_two_pow_sub_succ ah];simp[hi]
def kj(s t:BS)(f:Nat)(N:bF t)(hf:f<128):bt (eH s t) f=(bt s f&&!bt t f):=by
 unfold bt eH;split
 ·exact Ke _ _ _ N.lo ah
 exact Ke _ _ _ N.hi ah
def ad6(s:BS)(g f:Nat)(hf:f<128)(m:g<128):bt (Tn s g) f=(bt s f||decide (f=g)):=by
 unfold bt Tn;by_cases G:g<64
 ·rw[aD G]
  by_cases O:f<64
  ·rw[aD O,aD O,Nat.testBit_or,Nat.testBit_two_pow]
   simp[eq_comm]
  rw[aA O,aA O,show decide (f=g)=false by simp;omega,Bool.or_false]
 rw[aA G];by_cases O:f<64
 ·rw[aD O,aD O,show decide (f=g)=false by simp;omega,Bool.or_false]
 rw[aA O,aA O,Nat.testBit_or,Nat.testBit_two_pow]
 congr 1
 rw[wO];omega
def iW(f:Nat):bt (0,0) f=false:=by unfold bt;split<;>simp
def SW:∀(fs:List Nat) (u:BS) (f:Nat),f<128->(∀g∈fs,g<128)->bt (fs.foldl Tn u) f=(bt u f||decide (f∈fs))
 |[],u,f,_,_=>ak
 |g :: r,u,f,V,hr=>by
  rw[gx,SW r _ f V (fun x E=>hr x (by simp[E])),ad6 u g f V (hr g ak),wN]
  congr 1
  rw[cR];simp
def k?(fs:List Nat)(f:Nat)(hf:f<128)(h:∀g∈fs,g<128):bt (cH fs) f=decide (f∈fs):=by
 unfold cH;rw[SW fs _ f hf h,iW,jg]
def vm:∀(n f:Nat),n<=128->f<128->bt (jK n) f=decide (f<n)
 |0,f,_,_=>by rw[show jK 0=(0,0)from rfl,iW];simp
 |n+1,f,J,hf=>by
  rw[xp,gC,vm n f ah hf,k? [n] f hf (by simp;omega),cR];simp;omega
def SS:∀(m:List BS) (u:BS) (f:Nat),bt (m.foldl eP u) f=(bt u f||m.any fun s=>bt s f)
 |[],u,f=>ak
 |s :: r,u,f=>by rw[gx,SS r,gC,wS,wN]
def ad5(m:List BS)(f:Nat):bt (zj m) f=m.any fun s=>bt s f:=by
 unfold zj;rw[SS,iW,jg]
def DT{a b:Nat}(ha:a<18446744073709551616)(hb:b<18446744073709551616)(h:∀i,i<64->a.testBit i=b.testBit i):a=b:=by
 refine Nat.eq_of_testBit_eq fun i=>?_
 by_cases hi:i<64
 ·exact h i hi
 have O:(18446744073709551616:Nat)<=2 ^ i:=by
  have:=G1 (n:=2) ah (show 64<=i by omega);exact this
 rw[Nat.testBit_lt_two_pow ah,Nat.testBit_lt_two_pow ah]
def SZ(hs:bF s)(N:bF t)(h:∀f,f<128->bt s f=bt t f):s=t:=by
 obtain⟨P,m⟩:=s;obtain⟨j,E⟩:=t;have Q:P=j:=DT hs.lo N.lo fun i hi=>by have:=h i ah;unfold bt at this;rw[aD hi,aD hi]at this;exact this
 have z:m=E:=DT hs.hi N.hi fun i hi=>by
  have:=h (i+64) ah;unfold bt at this;rw[aA ah,aA ah]at this
  simpa using this
 rw[Q,z]
def abt(s:BS):zS s=true↔s=(0,0):=by
 obtain⟨a,b⟩:=s;simp[zS]
def Wg(hs:bF s):zS s=true↔∀f,f<128->bt s f=false:=by
 rw[abt];constructor
 ·rintro rfl f _;exact iW f
 intro h;exact SZ hs ⟨aj,aj⟩ fun f V=>by rw[h f V,iW]
def mP(N:bF t):zS (eH s t)=true↔∀f,f<128->bt s f=true->bt t f=true:=by
 rw[Wg (jj s t)];constructor
 ·intro h f V z
  have:=h f V;rw[kj s t f N V,z,fj]at this
  simpa using this
 intro h f V;rw[kj s t f N V];cases z:bt s f with
 |false=>rfl
 |true=>rw[h f V z];rfl
def aaK{f:Nat}(hs:bF s)(hf:f<128):zS (eH (cH [f]) s)=bt s f:=by
 rw[cR,mP hs];constructor
 ·intro h;exact h f hf (by rw[k? [f] f hf (by simpa using hf)];simp)
 intro h g m C;rw[k? [f] g m (by simpa using hf)]at C;simp at C;subst C;exact h
end
section
variable {W:World} {B rb m d c k:Nat} {v:Value}
open Go.RowKit Go.Proofs Go.Maps Tryz
structure RR where
  st:List Value
  ea:Option Addr
  ec:Nat
  es:List (Nat×Value)
abbrev RR.ev(r:RR):Value:=.slice r.ea r.es.length r.ec
def oh(r:RR):List Value:=r.st++[r.ev]
def gX(rl:List RR):List Value:=rl.flatMap oh
def ia(es:List (Nat×Value)):List Value:=es.flatMap fun e=>[Iv e.1,e.2]
def JH(es:List (Nat×Value))(e:Nat×Value):ia (es++[e])=ia es++[Iv e.1,e.2]:=by simp[ia]
def Av{m:Nat}:∀(rl:List RR),(∀r∈rl,r.st.length=m)->(gX rl).length=rl.length*(m+1)
 |[],_=>by simp[gX]
 |r :: q,h=>by
  have B:=Av q (fun x E=>h x (by simp[E]));have o:=h r ak;simp only[gX,bY,bu,oh,bT,eI]at B⊢;rw[rS];omega
def xG{m:Nat}:∀(rl:List RR) (k:Nat) (r:RR) (j:Nat),(∀r∈rl,r.st.length=m)->rl[k]?=some r->j<m+1->(gX rl)[k*(m+1)+j]?=(oh r)[j]?
 |[],k,r,j,_,h,_=>by simp at h
 |a :: q,0,r,j,C,h,hj=>by
  simp at h;subst h;have o:=C a ak;simp only[gX,bY,gU,ct];rw[mE (by simp[oh];omega)]
 |a :: q,k+1,r,j,C,h,hj=>by
  have o:=C a ak;have B:=xG q k r j (fun x E=>C x (by simp[E])) (by simpa using h) hj;simp only[gX,bY]at B⊢;rw[fC (by simp[oh,rS];omega),<-B]
  congr 1
  simp[oh,rS];omega
def pH{m:Nat}:∀(rl:List RR) (k:Nat) (r b:RR) (j:Nat) (v:Value),(∀r∈rl,r.st.length=m)->rl[k]?=some r->j<m+1->oh b=(oh r).set j v->(gX rl).set (k*(m+1)+j) v=gX (rl.set k b)
 |[],k,r,b,j,v,_,h,_,_=>by simp at h
 |a :: q,0,r,b,j,v,C,h,U,he=>by
  simp at h;subst h;have o:=C a ak;simp only[gX,dm,bY,gU,ct];rw[DL _ _ (by simp[oh];omega),he]
 |a :: q,k+1,r,b,j,v,C,h,U,he=>by
  have o:=C a ak;have B:=pH q k r b j v (fun x E=>C x (by simp[E])) (by simpa using h) U he;simp only[gX,cU,bY]at B⊢;rw[ou _ _ (by simp[oh,rS];omega),<-B]
  congr 2
  simp[oh,rS];omega
structure Sys(W:World)(B rb m tR tE:Nat)(rl:List RR):Prop where
  fB:W.heap[rb]?=some (.cells (gX rl).toArray tR (0,0))
  low:B<=rb
  len:∀r∈rl,r.st.length=m
  row:∀r∈rl,W.ownsRow B tE 2 r.ev r.es.length (ia r.es)
  vH:∀(i j:Nat) (a b:RR),rl[i]?=some a->rl[j]?=some b->i≠j->a.ev.ownBlock=none∨a.ev.ownBlock≠b.ev.ownBlock
def Sys.below{W':World}{rl:List RR}(h:Sys W B rb m d c rl)(hb:Bl W W'):Sys W' B rb m d c rl:=by
 refine⟨(hb.block _ (bq.1 h.fB).1).trans h.fB,h.low,h.len,fun r L=>?_,h.vH⟩;have o:=h.row r L;refine⟨o.1,?_⟩;rcases o.2 with a|⟨g,C,A,G,O,Y,K⟩
 ·exact aJ a
 exact aI ⟨g,C,A,G,O,(hb.block g (bq.1 Y).1).trans Y,K⟩
def Sys.cell{rl:List RR}(h:Sys W B rb m d c rl){j:Nat}{r:RR}(hk:rl[k]?=some r)(hj:(oh r)[j]?=some v):W.cell? (Ad rb (k*(m+1)+j))=some v/\W.frozen? (Ad rb (k*(m+1)+j))=false:=by
 obtain⟨F,y⟩:=ae h.fB;refine⟨?_,y _⟩;have hl:=h.len r (aL hk);have J:j<m+1:=by
  have:=(bn.1 hj).1;simp[oh]at this;omega
 rw[F,de,xG rl k r j h.len hk J,hj]
def lI{e size n t:Nat}{M:List Value}{cs:Array Value}(h:W.ownsRow B e size v n M)(hk:W.heap[k]?=some (cJ cs t))(he:e≠t):v.ownBlock≠some k:=by
 rcases h.2 with⟨Q,_⟩|⟨g,C,A,Q,_,Y,_⟩
 ·rw[Q];simp[Value.ownBlock]
 rw[Q];intro z;have:g=k:=by simpa[Value.ownBlock]using z
 subst this;rw[Y]at hk;simp at hk;exact he hk.2
def Sys.grow{X S:World}{rl:List RR}{r:RR}{e:Nat×Value}{z:Option Addr}{f:Nat}(h:Sys W B rb m d c rl)(N:c≠d)(hk:rl[k]?=some r)(hb:Bl W X)
  (Q:X.grownBy S r.ev.ownBlock) (R:S.ownsRow B c 2 (.slice z (r.es.length+1) f) (r.es.length+1) (ia r.es++[Iv e.1,e.2])) (hn:(Value.slice z (r.es.length+1) f).ownBlock=r.ev.ownBlock∨(Value.slice z (r.es.length+1) f).ownBlock=some X.heap.size):
  Sys (S.setCell (Ad rb (k*(m+1)+m)) (.slice z (r.es.length+1) f)) B rb m d c (rl.set k ⟨r.st,z,f,r.es++[e]⟩):=by
 have T:=h.below hb;have o:=(bq.1 T.fB).1;have P:some rb≠r.ev.ownBlock:=fun e=>lI (T.row r (aL hk)) T.fB N e.symm
 have p:d' S rb (gX rl).toArray d:=(Q.block rb o P).trans T.fB;have F:(Value.slice z (r.es.length+1) f).ownBlock≠some rb:=lI R p N;have y:=h.len r (aL hk);have l:=(bn.1 hk).1;have u:∀(size n:Nat) (v:Value) (M:List Value),S.ownsRow B c size v n M->v.ownBlock≠some rb->(S.setCell (Ad rb (k*(m+1)+m)) (.slice z (r.es.length+1) f)).ownsRow B c size v n M:=by
  intro size n v M L t;refine⟨L.1,?_⟩;rcases L.2 with a|⟨g,C,A,G,O,Y,K⟩
  ·exact aJ a
  refine aI ⟨g,C,A,G,O,?_,K⟩;rw[aZ _ _ _ _ (by rintro rfl;exact t (by rw[G];rfl))];exact Y
 refine⟨?_,h.low,?_,?_,?_⟩
 ·rw[aw p]
  congr 2
  rw[cS]
  congr 1
  refine pH rl k r _ m _ h.len hk ah ?_;simp only[oh,RR.ev,bu,gL];rw[ou _ _ ah,y,jh];rfl
 ·intro x E
  rcases gN E with E|rfl
  ·exact h.len x E
  exact y
 ·intro x E
  rw[i!]at E;obtain⟨j,U⟩:=E;rw[eQ]at U;by_cases s:k=j
  ·rw[aD s,aD ah]at U
   cases U;have:=u 2 _ _ _ R F
   simpa[RR.ev,JH]using this
  rw[aA s]at U;have w:=T.row x (aL U);have hd:=h.vH j k x r U hk ah;have:S.ownsRow B c 2 x.ev x.es.length (ia x.es):=by
   refine⟨w.1,?_⟩;rcases w.2 with a|⟨g,C,A,G,O,Y,K⟩
   ·exact aJ a
   refine aI ⟨g,C,A,G,O,(Q.block g (bq.1 Y).1 ?_).trans Y,K⟩;rcases hd with hd|hd
   ·rw[G]at hd;simp[Value.ownBlock]at hd
   intro e;exact hd (by rw[<-e,G];rfl)
  exact u 2 _ _ _ this (lI w T.fB N)
 intro i j a b hi U I;rw[eQ]at hi U;by_cases H:k=i
 ·rw[aD H,aD ah]at hi
  cases hi;rw[aA ah]at U;have hd:=h.vH j k b r U hk ah;have D:=T.row b (aL U);simp only[RR.ev,bu,gL];rcases hn with hn|hn
  ·rw[hn]
   rcases hd with hd|hd
   ·rw[show b.ev.ownBlock=none from hd]
    cases L:r.ev.ownBlock with
    |none=>exact aJ rfl
    |some q=>exact aI ak
   exact aI (fun e=>hd e.symm)
  rw[hn];refine aI fun e=>?_
  have:=(D.lt X.heap.size e.symm).2;omega
 rw[aA H]at hi;by_cases s:k=j;rotate_left
 ·rw[aA s]at U
  exact h.vH i j a b hi U I
 rw[aD s,aD ah]at U;cases U;have hd:=h.vH i k a r hi hk ah;have J:=T.row a (aL hi);simp only[RR.ev,bu,gL];rcases hn with hn|hn
 ·rw[hn];exact hd
 rw[hn];refine aI fun e=>?_
 have:=(J.lt X.heap.size e).2;omega
structure Ef where
  drop:BS
  add:BS
def Dc(e:Ef):Value:=.agg #[Uv e.drop.1,Uv e.drop.2,Uv e.add.1,Uv e.add.2]
structure DF(e:Ef):Prop where
  drop:bF e.drop
  add:bF e.add
def Gt(e:Ef)(s:BS):BS:=eP (eH s e.drop) e.add
def ZY(e:Ef)(s:BS)(w:World)(he:DF e)(hs:bF s):
  Cl 328 #[Dc e,b! s] w (Rb w (b! (Gt e s))):=by
 have X:Hd (∀W,Cl 153 #[b! s,b! e.drop] W (Rb W (b! (eH s e.drop)))):=fun W=>jJ s e.drop W hs he.drop
 have O:Hd (∀(W:World) b,W.cell? (Ad b 0)=some (Uv ((eH s e.drop).1:Int))->W.cell? (Ad b 1)=some (Uv ((eH s e.drop).2:Int))->W.cell? (Ad b 2)=some (Uv e.add.1)->W.cell? (Ad b 3)=some (Uv e.add.2)->Cl 267 (oE b) W (Rb W (b! (Gt e s)))):=fun W b o G h2 Y=>e8 W b _ _ (jj _ _) he.add o G h2 Y
 obtain⟨z,hz⟩:=Ea (Gt e s);obtain⟨u,E⟩:=Ea (eH s e.drop);rw[<-hz]at O⊢;rw[<-E]at O X;clear hz E he hs;obtain⟨⟨C,j⟩,a1,a2⟩:=e;obtain⟨s1,m⟩:=s;simp only[b!,Dc]at X O⊢;go_enter func328,ntmps328
 go_wp2_with fail
 generalize k:((w.alloc (.cells #[Uv C,Uv j,Uv a1,Uv a2] 397)).alloc (lB s1 m)).alloc eE=H;have R:Hd (Bl w H/\H.heap[w.heap.size]?=some (.cells #[Uv C,Uv j,Uv a1,Uv a2] 397 (0,0))/\H.heap[w.heap.size+1]?=some (rY s1 m)/\H.heap[w.heap.size+1+1]?=some jc):=by
  subst k;refine⟨cq _ _ _ _,?_,?_,?_⟩
  ·rw[ch _ _ _ (by simp;omega)];exact(aN w _ _).1
  ·rw[ch _ _ _ ak];exact(aN w _ _).2
  have:=bf ((w.alloc (.cells #[Uv C,Uv j,Uv a1,Uv a2] 397)).alloc (lB s1 m)) eE
  simpa using this
 clear k;obtain⟨F,y⟩:=ae R.b;obtain⟨B,y2⟩:=ae R.c;obtain⟨x,z2⟩:=ae R.C;have U:=(bq.1 R.C).1;have g:w.heap.size≠H.heap.size:=ah
 have p:w.heap.size+1≠H.heap.size:=ah
 have V:w.heap.size+1+1≠H.heap.size:=ah
 go_region_law (go_simp;first|(refine bA (X.o _) ?_;rintro f T ⟨rfl,A⟩;have L:Bl H T:=aq ay A;obtain⟨p1,p2⟩:=ae ((L.block _ ah).trans R.b);have n:=L.size;have m1:w.heap.size≠T.heap.size:=ah;have D:w.heap.size+1+1≠T.heap.size:=ah;have M:=m1.symm;have J:=D.symm;have c:=(show Hd _ from L);clear L A)|(refine bA (O.o _ _ ak ak ak ak) ?_;rintro f Z ⟨rfl,N⟩;have eB:Bl H Z:=aq (aq c.o ay) N;obtain⟨l,t⟩:=ae ((eB.block _ ah).trans R.C);have q:=(show Hd _ from eB);clear eB N))
 all_goals
  go_wp2_with fail
  have v:=(q.o.block _ U).trans R.C;have r0:(Z.setCell (Ad (w.heap.size+1+1) 0) (Uv z.1)).cell? (Ad (w.heap.size+1+1) 0)=some (Uv z.1):=by rw[(ae (aw v _)).1];rfl
  have r1:((Z.setCell (Ad (w.heap.size+1+1) 0) (Uv z.1)).setCell (Ad (w.heap.size+1+1) 1) (Uv z.2)).cell? (Ad (w.heap.size+1+1) 1)=some (Uv z.2):=by rw[(ae (aw (aw v _) _)).1];rfl
  refine aG (v:=b! z) (by simp[results,results328,go_sem,b!,r0,r1]) rfl ⟨rfl,?_⟩;exact((aq R.a q.o).setCell (by show _<=w.heap.size+1+1;omega) _).setCell (by show _<=w.heap.size+1+1;omega) _
abbrev cK(rb n:Nat):Value:=.agg (bV rb n)
def u?(e:Ef):Value:=.func (.func 328) #[Dc e] #[]
end
section
variable {es:List (Nat×Ef)} {k m B n q c:Nat} {d:Ef} {w w' W:World} {a b:Value}
open Go.RowKit Go.Proofs Go.Maps Tryz
def pU:(Tryz.prog.info? 267).map (fun i=>(i.zero,i.size,i.bytes))=some (some (.agg #[Uv 0,Uv 0]),2,16):=au
def eG(s:BS):List Value:=[Uv s.1,Uv s.2]
def cG(ss:List BS):List Value:=ss.flatMap eG
def XW(s0:BS)(es:List (Nat×Ef))(held:Nat->BS):BS:=zj (s0 :: es.map fun e=>Gt e.2 (held e.1))
theorem sZ:∀(l:List (Nat×Value)) (k:Nat) (x:Nat×Value),l[k]?=some x->(ia l)[k*2]?=some (Iv x.1)/\(ia l)[k*2+1]?=some x.2
 |[],k,x,h=>by simp at h
 |a :: l,0,x,h=>by simp at h;subst h;simp[ia]
 |a :: l,k+1,x,h=>by
  have:=sZ l k x (by simpa using h);simp only[ia,bY,dw,dT]at this⊢;rw[show(k+1)*2=k*2+1+1 by omega]
  simpa using this
def Sg{l:List (Nat×Value)}(he:l=es.map fun e=>(e.1,u? e.2))(hk:es[k]?=some (m,d)):(ia l)[k*2]?=some (Iv m)/\(ia l)[k*2+1]?=some (u? d):=sZ l k (m,u? d) (by rw[he,bG,hk];rfl)
def bp{e size:Nat}{v:Value}{M:List Value}(h:w.ownsRow B e size v n M)(hb:Bl w w'):w'.ownsRow B e size v n M:=by
 refine⟨h.1,?_⟩;rcases h.2 with a|⟨g,C,A,G,O,Y,K⟩
 ·exact aJ a
 exact aI ⟨g,C,A,G,O,(hb.block g (bq.1 Y).1).trans Y,K⟩
def E7{X:World}{t:TypeId}(h:X.heap[q]?=some (.cells #[a,b] t (0,0))):∀(j:Nat) (u:Value),[a,b][j]?=some u->X.cell? (((Ad q 0):Addr).add j)=some u:=by
 intro j u U;rw[gw,ct,(ae h).1]
 simpa using U
def zT{o:Obj}(hb:Below B w w')(h:w.heap[k]?=some o)(hk:k<B):w'.heap[k]?=some o:=(hb.block k hk).trans h
def QH{e:Ef}{s:BS}(he:DF e)(hs:bF s):bF (Gt e s):=gp (jj _ _) he.add
theorem tm:∀(l:List BS) (j:Nat) (s:BS),l[j]?=some s->(cG l)[j*2]?=some (Uv s.1)/\(cG l)[j*2+1]?=some (Uv s.2)
 |[],j,s,h=>by simp at h
 |a :: l,0,s,h=>by simp at h;subst h;simp[cG,eG]
 |a :: l,j+1,s,h=>by
  have:=tm l j s (by simpa using h);simp only[cG,bY,eG,dw,dT]at this⊢;rw[show(j+1)*2=j*2+1+1 by omega]
  simpa using this
def P2{a:Option Addr}{m:List BS}(h:W.ownsRow B 267 2 (.slice a n c) n (cG m)):ld W a m:=by
 intro j s U;have O:=tm m j s U;rcases h.2 with⟨t,_⟩|⟨g,C,A,t,_⟩
 ·exfalso
  have G:=h.1;simp at t;have:=(bn.1 O.1).1
  simp_all
 simp at t;obtain⟨rfl,rfl⟩:=t;have H:=h.cells (g:=g) rfl _ _ O.1;have L:=h.cells (g:=g) rfl _ _ O.2;rw[gw]at H L;exact⟨g,0,rfl,H,L⟩
theorem qf(w:World)(v N d s:Obj):((((w.alloc v).alloc N).alloc d).alloc s).heap[w.heap.size]?=some v/\((((w.alloc v).alloc N).alloc d).alloc s).heap[w.heap.size+1]?=some N/\((((w.alloc v).alloc N).alloc d).alloc s).heap[w.heap.size+1+1]?=some d/\((((w.alloc v).alloc N).alloc d).alloc s).heap[w.heap.size+1+1+1]?=some s:=by
 have K:=bf (((w.alloc v).alloc N).alloc d) s;have Y:=bf ((w.alloc v).alloc N) d;rw[show(((w.alloc v).alloc N).alloc d).heap.size=w.heap.size+1+1+1 by simp]at K;rw[show((w.alloc v).alloc N).heap.size=w.heap.size+1+1 by simp]at Y;refine⟨?_,?_,?_,K⟩
 ·rw[ch _ _ _ (by simp;try omega),ch _ _ _ (by simp;try omega)];exact(aN w v N).1
 ·rw[ch _ _ _ (by simp;try omega),ch _ _ _ (by simp;try omega)];exact(aN w v N).2
 rw[ch _ _ _ (by simp;try omega)];exact Y
def Qz{t:Nat}(h:W.heap[q]?=some (.cells #[a,b] t (0,0)))(f:B<=q):W.ownsRow B t 2 (.slice (some (Ad q 0)) 1 1) 1 [a,b]:=by
 refine⟨rfl,aI ⟨q,1,#[a,b],rfl,f,h,aF _,?_,rfl,rfl⟩⟩;unfold maxLen
 decide
def ad1{r:RR}(h:W.ownsRow B c 2 r.ev r.es.length (ia r.es))(he:r.es=es.map fun e=>(e.1,u? e.2))(hk:es[k]?=some (m,d)):∃g,r.ea=some (Ad g 0)/\W.cell? (Ad g (k*2))=some (Iv m)/\W.cell? (Ad g (k*2+1))=some (u? d):=by
 have l:=(bn.1 hk).1;rcases h.2 with⟨_,e⟩|⟨g,C,A,t,_⟩
 ·rw[he,br]at e;omega
 simp[RR.ev]at t;refine⟨g,t.1,?_,?_⟩
 ·have:=h.cells (g:=g) (by simp[RR.ev,Value.ownBlock,t.1]) (k*2) (Iv m) (Sg he hk).1
  rwa[gw,ct]at this
 have:=h.cells (g:=g) (by simp[RR.ev,Value.ownBlock,t.1]) (k*2+1) (u? d) (Sg he hk).2
 rwa[gw,ct]at this
def Mu(rb B N n fk:Nat)(rl:List RR)(r:RR)(s0:BS)(es:List (Nat×Ef))(caps:Array Value)(held:Nat->BS)(w:World)(hS:Sys w B rb 2 393 404 rl)(hl:rl.length=N)(hN:N<=60)(hr:rl[n]?=some r)(t:r.st=eG s0)(hs0:bF s0)(o:r.es=es.map fun e=>(e.1,u? e.2))(hef:∀e∈es,DF e.2/\bF (held e.1))(Z:es.length<=200)(hfn:∀xs w,(callFunc fk xs).run Tryz.prog w=.ok (.enter fk xs) w)
  (hh:∀e∈es,∀W,Bl w W->Cl fk (#[Iv e.1]++caps) W (Rb W (b! (held e.1)))):
  Cl 226 #[cK rb N,Iv n,.func (.func fk) #[] caps] w (Rb w (b! (XW s0 es held))):=by
 have c0:=hS.cell (j:=0) (v:=Uv s0.1) hr (by simp[oh,t,eG]);have c1:=hS.cell (j:=1) (v:=Uv s0.2) hr (by simp[oh,t,eG]);have c2:=hS.cell (j:=2) (v:=.slice r.ea es.length r.ec) hr (by simp[oh,t,eG,RR.ev,o]);have hn:n<N:=by rw[<-hl];exact(bn.1 hr).1
 have hni:(n:Int)<N:=ah
 have X:=hid (hS.row r (aL hr));have l:=hid (Aa hh (Aa hef (Aa hs0 o)));simp only[Nat.reduceAdd,z!]at c0 c1 c2;have hb:=aX w (.cells (bV rb N) 260) eE;have d0:=ax c0.1 hb;have d1:=ax c1.1 hb;have d2:=ax c2.1 hb;clear hS hh hef hs0 o t hr hl c0 c1 c2 hb;simp only[cK];go_enter func226,ntmps226
 go_upto_region 4 with(fail)
 generalize U:(((w.alloc (.cells (bV rb N) 260)).alloc eE).alloc (.cells #[Uv s0.1,Uv s0.2,.slice r.ea es.length r.ec] 393)).alloc (lB s0.1 s0.2)=W0;have R:Hd (Bl w W0/\W0.heap[w.heap.size]?=some (.cells (bV rb N) 260 (0,0))/\W0.heap[w.heap.size+1]?=some jc/\W0.heap[w.heap.size+1+1+1]?=some (rY s0.1 s0.2)):=by
  subst U;obtain⟨q0,q1,_,q3⟩:=qf w (.cells (bV rb N) 260) eE (.cells #[Uv s0.1,Uv s0.2,.slice r.ea es.length r.ec] 393) (lB s0.1 s0.2);exact⟨dD _ _ _ _ _,q0,q1,q3⟩
 clear U d0 d1 d2;have oZ:=blt R.C
 go_loopw[8,22] (fun lv p wr=>∃(k:Nat) (a:Option Addr) (c:Nat),k<=es.length/\p=Iv k/\lv=.slice a (k+1) c/\Hd (wr.ownsRow (w.heap.size+1+1+1) 267 2 (dH a k c) (k+1) (cG (s0 :: (es.take k).map fun e=>Gt e.2 (held e.1)))/\Below (w.heap.size+1+1+1) W0 wr)) (fun _ p _=>es.length-(intOf p).toNat)
 case atStart=>exact⟨0,_,_,bB _,rfl,rfl,Qz R.C (aF _),aM _ _⟩
 obtain⟨k,a,c,hk,rfl,rfl,M⟩:=hrel;have L:Bl w wr:=R.a.trans (M.A.mono ah);have hsr:=M.A.size;by_cases J:k<es.length;rotate_left
 ·have ig:¬(k:Int)<(es.length:Int):=ah
  have hke:k=es.length:=ah
  subst hke;rw[oy]at M;have HU:Hd (∀W,Bl wr W->Cl 267 #[.slice a (es.length+1) c] W (Rb W (b! (XW s0 es held)))):=by
   intro W U;have hl:(s0 :: es.map fun e=>Gt e.2 (held e.1)).length=es.length+1:=ak
   have:=An a c (s0 :: es.map fun e=>Gt e.2 (held e.1)) W (P2 (bp M.a U)) (by intro s hs;rcases cQ.1 hs with rfl|hs;(· exact l.c);obtain⟨e,he,rfl⟩:=bP.1 hs;exact QH (l.b e he).1 (l.b e he).2) (by simp;omega)
   rw[hl]at this;exact this
  obtain⟨z,hz⟩:=Ea (XW s0 es held);rw[<-hz]at HU;have HZ:=hid hz;clear hz;obtain⟨F,y⟩:=ae (zT M.A R.b ah);have HBX:=hid L;have l1:w.heap.size+1<wr.heap.size:=ah
  clear L;simp only[b!]at HU
  go_wp2_with (go_at_call 267;refine(HU.o _ (aM _ _)).mono ?_;rintro e T ⟨rfl,A⟩;have v:=aE A (zT M.A R.c ah);clear F y;obtain⟨F,y⟩:=ae v;have j?:=hid (Aa A v);clear A v)
  have v:=j?.o.2;have r0:(T.setCell (Ad (w.heap.size+1) 0) (Uv z.1)).cell? (Ad (w.heap.size+1) 0)=some (Uv z.1):=by rw[(ae (aw v _)).1];rfl
  have r1:((T.setCell (Ad (w.heap.size+1) 0) (Uv z.1)).setCell (Ad (w.heap.size+1) 1) (Uv z.2)).cell? (Ad (w.heap.size+1) 1)=some (Uv z.2):=by rw[(ae (aw (aw v _) _)).1];rfl
  refine aG (v:=b! z) (by simp[results,results226,go_sem,b!,r0,r1]) rfl ⟨by rw[HZ.o],?_⟩;exact((aq HBX.o j?.o.1).setCell (by show _<=w.heap.size+1;omega) _).setCell (by show _<=w.heap.size+1;omega) _
 have ig:(k:Int)<(es.length:Int):=ah
 obtain⟨⟨m,ef⟩,E⟩:∃x,es[k]?=some x:=⟨_,bk J⟩;obtain⟨g,hg,e0,e1⟩:=ad1 (bp X.o L) l.C E;obtain⟨hq1,Y⟩:=l.b _ (aL E);have f:Hd (∀W,Bl w W->Cl fk (#[Iv m]++caps) W (Rb W (b! (held m)))):=l.a _ (aL E);have j:Hd (∀W,Cl 328 #[Dc ef,b! (held m)] W (Rb W (b! (Gt ef (held m))))):=fun W=>ZY ef (held m) W hq1 Y
 have HX:=hid E;clear E hq1 Y;rw[hg];simp only[u?]at e1
 go_upto_region 6 with(fail)
 generalize hV:wr.alloc (.cells #[Iv m,.func (.func 328) #[Dc ef] #[]] 404)=V;have H:Hd (Bl wr V/\V.heap[wr.heap.size]?=some (.cells #[Iv m,.func (.func 328) #[Dc ef] #[]] 404 (0,0))):=by
  subst hV;exact⟨aC _ _,bf _ _⟩
 clear hV e0 e1;obtain⟨F,y⟩:=ae H.A;have Zd:Hd (Bl w V):=aq L H.a;have Yr:=H.a.size;obtain⟨hm,hhm⟩:=Ea (held m);obtain⟨on,hon⟩:=Ea (Gt ef (held m));rw[<-hhm]at f j;have HON:Hd (on=Gt ef (held m)):=hon;rw[hhm,<-hon,<-hhm]at j;clear hhm hon L;obtain⟨i0,hi,D,O,mC⟩:=cY pU;have b:Hd (_/\_/\_/\_):=⟨hi,D,O,mC⟩;clear hi D O mC;generalize hEF:Dc ef=efv at j;generalize b! hm=bh at f j;simp only[b!]at j
 go_region_law (first|(go_simp;refine bA (f.o _ (aq Zd.o ay)) ?_;rintro e T ⟨rfl,A⟩;have j?:Hd (Bl V T):=aq ay A;clear F y A;obtain⟨F,y⟩:=ae (aE j?.o H.A))|(go_simp;refine bA (j.o _) ?_;rintro e W2 ⟨rfl,uz⟩;have C:Hd (Bl V W2):=aq (aq j?.o ay) uz;clear uz)|(refine e9 rfl (.tmp 26) (.tmp 34) 264 rfl (w.heap.size+1+1+1) 267 i0 (.agg #[.int .u64 0,.int .u64 0]) 2 16 underlying264 b.a b.b b.c b.C rfl aj (dH a k c) (k+1) (cG (s0 :: (es.take k).map fun e=>Gt e.2 (held e.1))) (by simp[Act.eval,Act.put]) (by exact bp M.a (aq (aq H.a C.o) ay)) (Ad W2.heap.size 0) 1 1 [.int .u64 (on.1:Int),.int .u64 (on.2:Int)] (by simp[Act.eval,Act.put]) rfl (by exact E7 (bf W2 _)) (by intro u hu;simp at hu;rcases hu with rfl|rfl<;>rfl) (by unfold maxLen;omega) ah (by have:=C.o.size;simp;omega) ?_;intro v4 W4 mU G A!;obtain⟨a4,c4,rfl⟩:=bS mU;have H4:=hid (Aa mU G);clear mU G A!))
 all_goals
  go_wp2_with fail
  go_roundw
  case rel=>
   have h3:=H4.a;have he:cG (s0 :: (es.take (k+1)).map fun e=>Gt e.2 (held e.1))=cG (s0 :: (es.take k).map fun e=>Gt e.2 (held e.1))++[Uv on.1,Uv on.2]:=by
    rw[dS J,(bn.1 HX.o).2,iq,HON.o];simp[cG,eG]
   refine⟨k+1,a4,c4,J,h',rfl,?_,?_⟩
   ·rw[he];exact h3
   exact M.A.trans ((((aq H.a C.o).mono ah).alloc (by have:=C.o.size;omega) _).grown H4.A (by have:=C.o.size;simp;omega) (fun q e=>((bp M.a (aq H.a C.o)).lt q e).1))
  simp[intOf];omega
end
section
variable {d:Option Tmp} {i fuel:Nat} {listed:Array Bool} {a:Act} {w:World} {op:Op} {ty:TypeId} {ps:String} {af:Array Edge} {gd:Option (Nat×Bool)}
section
variable {P:Program} {ops:Array Oper} {Q:Exit->Act->World->Prop} {md:Region.Mode} {S:World->Prop} {k:Nat}
def pz(P:Program)(md:Region.Mode)(ops:Array Oper)(Q:Exit->Act->World->Prop)(S:World->Prop)(k:Nat):Nat->Array Bool->Act->World->Prop
 |0,listed,a,w=>Region.ready md ops listed=[]/\Q .normal a w
 |fuel+1,listed,a,w=>
  (Region.ready md ops listed=[]->Q .normal a w) ∧
  ∀i∈Region.ready md ops listed,wpOp P ops Q i (fun a' w'=>(i<k->S w')/\pz P md ops Q S k fuel (listed.setIfInBounds i true) a' w') a w
def y?:∀(m:Nat) (d:Array Bool) (a:Act) (w:World),pz P md ops Q S k m d a w->wpAny P md ops Q m d a w
 |0,_,_,_,h=>h
 |m+1,_,_,_,h=>⟨h.1,fun i hi=>wpOp_mono (fun n I p=>y? m _ n I p.2) (h.2 i hi)⟩
def Fo(md:Region.Mode)(ops:Array Oper)(k:Nat):Bool:=(List.range ops.size).all fun j=>decide (j<k)||(List.range k).all fun i=>match ops[j]? with|some o=>o.after.any fun e=>Region.binds md e&&e.on==i|none=>true
def U?(h:Fo md ops k=true){d:Array Bool}{j:Nat}(hi:i<k)(hl:d.getD i true=false)(hj:j∈Region.ready md ops d):j<k:=by
 obtain⟨_,o,g,Z⟩:=qI.1 hj;unfold Fo at h;rw[bM]at h;have G:=h j (by rw[bZ];exact(bq.1 g).1);rw[dO,bm]at G;rcases G with G|G
 ·exact G
 exfalso
 rw[bM]at G;have O:=G i (by rw[bZ];exact hi);rw[g]at O;simp only[Array.any_eq_true,aS,eJ]at O;obtain⟨n,J,Y,K⟩:=O;have H:=Z _ (Array.getElem_mem J) Y;rw[K]at H;rcases iw i d.size with p|p
 ·simp[p]at hl H;rw[hl]at H;cases H
 simp[wK p]at H
def y!{q:Oper}{v:Value}(hi:ops[i]?=some q)(K:i<k)(A:Fo md ops k=true)(x:∀(j:Nat) (o:Oper) cs b,ops[j]?=some o->o.op≠.select cs b)
  (hQ:∀c a w,Q (.panic c) (a.put q.dst v) w->Q (.panic c) a w):
  ∀(m:Nat) (d:Array Bool) (a:Act) (w:World),
   (∀j E,ops[j]?=some E->j≠i->d.getD j true=false->(∀e∈E.after,Region.binds md e=true->e.on≠i)->q.apart ops E=true) →
   i∈Region.ready md ops d->YieldsIf P ops S q v a->S w →
   pz P md ops Q S k m (d.setIfInBounds i true) (a.put q.dst v) w->pz P md ops Q S k (m+1) d a w:=by
 intro m
 induction m with
 |zero=>
  intro d a w _ L T l H;refine⟨fun h=>(by rw[h]at L;cases L),fun j U=>?_⟩;by_cases g:j=i
  ·subst g;exact T.wpOp hi l ⟨fun _=>l,H⟩
  have:=ready_mono U g;rw[H.1]at this;cases this
 | succ m B=>
  intro d a w s L T l H;refine⟨fun h=>(by rw[h]at L;cases L),fun j U=>?_⟩;by_cases g:j=i
  ·subst g;exact T.wpOp hi l ⟨fun _=>l,H⟩
  have G:=H.2 j (ready_mono U g);obtain⟨u,E,C,Z⟩:=qI.1 U
  have F:∀e∈E.after,Region.binds md e=true->e.on≠i:=fun e N D y=>by
   have G:=Z e N D;have M:=(qI.1 L).1;rw[y]at G;rcases iw i d.size with p|p
   ·simp[p]at M G;rw[M]at G;cases G
   simp[wK p]at G
  have O:=wpOp_putIf C (s j E C g u F) (fun cs b=>x i q cs b hi) (fun cs b=>x j E cs b C) hQ T G
  have t:∀k ok,ops[k]?=some ok->k≠i->(d.setIfInBounds j true).getD k true=false →
    (∀e∈ok.after,Region.binds md e=true->e.on≠i)->q.apart ops ok=true:=fun k ok X z J f=>by
   refine s k ok X z ?_ f;by_cases r:j=k
   ·subst r;exact u
   rw[getD_set_ne true r]at J;exact J
  have r:=U? A K (qI.1 L).1 U;refine wpOp_mono (fun n I Y=>⟨fun _=>Y.2.1 r,B (d.setIfInBounds j true) n I t (ready_mono L (qn g)) Y.1 (Y.2.1 r) ?_⟩) O;rw[Array.setIfInBounds_comm _ _ g];exact Y.2.2
theorem tt{a':Act}(i:Nat)(v:Value)(hi:ops[i]?=some ⟨d,op,ty,ps,af,gd⟩:=by rfl)
  (hk:(decide (i<k)&&Fo md ops k&&Region.noSelect ops&&Region.free md ops listed i&&(Region.ready md ops listed).contains i)=true:=by kernel_rfl)
  (hw:Region.wanted ⟨d,op,ty,ps,af,gd⟩ (yielded ops a.tmps)=true:=by kernel_rfl) (hQ:∀c a w,Q (.panic c) (a.put d v) w->Q (.panic c) a w:=by exact fun _ _ _ h=>h)
  (y:∀w,S w->(execOp a.eval ⟨d,op,ty,ps,af,gd⟩).run P w=.ok (.value v) w:=by intro W' aU;clear aB;go_simp) (hS:S w:=by assumption) (ha:a.put d v=a':=by(try simp only[Act.put,cS,dm,cU]);rfl)
  (h:pz P md ops Q S k fuel (listed.setIfInBounds i true) a' w):pz P md ops Q S k (fuel+1) listed a w:=by
 simp only[aS,bm]at hk;obtain⟨⟨⟨⟨h1,h2⟩,h3⟩,h4⟩,h5⟩:=hk;subst ha;exact y! hi h1 h2 (Region.noSelect_spec h3) hQ fuel listed a w (Region.free_spec hi h4) (by simpa using h5) (aJ ⟨hw,y⟩) hS h
theorem rt(i:Nat)(hi:ops[i]?=some ⟨d,op,ty,ps,af,gd⟩:=by rfl)(hr:Region.ready md ops listed=[i]:=by kernel_rfl)
  (h:∀K:Act->World->Prop,Shut (∀a w,(i<k->S w)->pz P md ops Q S k fuel (listed.setIfInBounds i true) a w->K a w)->if Region.wanted ⟨d,op,ty,ps,af,gd⟩ (yielded ops a.tmps)=true then Oper.wp P ⟨d,op,ty,ps,af,gd⟩ a w K Q else K (a.put d undef) w):pz P md ops Q S k (fuel+1) listed a w:=by
 refine⟨fun h0=>(by rw[hr]at h0;cases h0),fun j hj=>?_⟩;rw[hr]at hj;obtain rfl:j=i:=by simpa using hj
 exact wpOp_step hi (fun K' hK=>h K' (fun a w hS hW=>hK a w ⟨hS,hW⟩))
theorem dt(hr:Region.ready md ops listed=[]:=by kernel_rfl)(h:Q .normal a w):pz P md ops Q S k fuel listed a w:=by
 cases fuel with
 |zero=>exact⟨hr,h⟩
 |succ n=>exact⟨fun _=>h,by rw[hr];simp⟩
theorem st(S:World->Prop)(k:Nat){id:Nat}(hm:P.follows .mixedOrders=true:=by kernel_rfl)(hS:S w.drew)(h:S w.drew->pz P .any ops Q S k ops.size (Array.replicate ops.size false) a w.drew):(Code.region id ops true).wp P Q a w:=
 wp_region_any hm (y? _ _ _ _ (h hS))
end
end
section
variable {w:World} {g C:Nat}
open Go.RowKit Go.Proofs Go.Maps Tryz
structure NC where
  bj:ByteArray
  wa:Option Addr
  wl:Nat
  wc:Nat
  n:SN
  ea:Option Addr
  el:Nat
  ec:Nat
abbrev NC.wv(c:NC):Value:=.slice c.wa c.wl c.wc
abbrev NC.ev(c:NC):Value:=.slice c.ea c.el c.ec
def NC.on(c:NC)(a:Option Addr)(l k:Nat):NC:={c with ea:=a,el:=l,ec:=k}
def pQ(c:NC):List Value:=(aK c.bj c.wv c.n c.ev).toList
def eZ(l:List NC):List Value:=l.flatMap pQ
def hG(c:NC):(pQ c).length=14:=rfl
def zu(l:List NC)(c:NC):eZ (l++[c])=eZ l++pQ c:=by simp[eZ]
def e!(c:NC)(l:List NC):eZ (c :: l)=pQ c++eZ l:=by simp[eZ]
theorem uS:∀(l:List NC) (k:Nat) (c:NC) (j:Nat),l[k]?=some c->j<14->(eZ l)[k*14+j]?=(pQ c)[j]?
 |[],k,c,j,h,_=>by simp at h
 |d :: l,0,c,j,h,hj=>by
  simp at h;subst h;rw[e!,gU,ct,mE (by rw[hG];exact hj)]
 |d :: l,k+1,c,j,h,hj=>by
  rw[e!,fC (by rw[hG];omega),hG,show(k+1)*14+j-14=k*14+j by omega];exact uS l k c j (by simpa using h) hj
theorem sg(a:Option Addr)(el ec:Nat):∀(l:List NC) (k:Nat) (c:NC),l[k]?=some c->(eZ l).set (k*14+12) (.slice a el ec)=eZ (l.set k (c.on a el ec))
 |[],k,c,h=>by simp at h
 |d :: l,0,c,h=>by
  simp at h;subst h;rw[dm,e!,e!,DL _ _ (by rw[hG];omega)];rfl
 |d :: l,k+1,c,h=>by
  rw[cU,e!,e!,ou _ _ (by rw[hG];omega),hG,show(k+1)*14+12-14=k*14+12 by omega,sg a el ec l k c (by simpa using h)]
def fT(w:World)(g cap:Nat)(nl:List NC):Prop:=∃cur,w.heap[g]?=some (.cells cur 152 (0,0))/\cur.size=cap*14/\cur.toList.take (nl.length*14)=eZ nl/\nl.length<=cap
def fT.cells{S:List NC}(h:fT w g C S)(k:Nat)(c:NC)(hk:S[k]?=some c)(j:Nat)(hj:j<14):w.cell? (Ad g (k*14+j))=(aK c.bj c.wv c.n c.ev)[j]?:=by
 obtain⟨A,D,_,N,_⟩:=h;have hl:k<S.length:=(bn.1 hk).1;have G:=uS S k c j hk hj;rw[<-N,List.getElem?_take,aD ah]at G;simp only[World.cell?,D]
 simpa[pQ]using G
def fT.all{S:List NC}(h:fT w g C S)(k:Nat)(c:NC)(hk:S[k]?=some c):w.cell? (Ad g (k*14))=some (.string c.bj)/\w.cell? (Ad g (k*14+1))=some (bH c.wa c.wl c.wc)/\w.cell? (Ad g (k*14+2))=some (Iv c.n.kind)/\w.cell? (Ad g (k*14+3))=some (Iv c.n.var)/\w.cell? (Ad g (k*14+4))=some (Iv c.n.op)/\w.cell? (Ad g (k*14+5))=some (Iv c.n.test)/\w.cell? (Ad g (k*14+6))=some (.bool c.n.a.isVar)/\w.cell? (Ad g (k*14+7))=some (Iv c.n.a.var)/\w.cell? (Ad g (k*14+8))=some (Iv c.n.a.const)/\w.cell? (Ad g (k*14+9))=some (.bool c.n.b.isVar)/\w.cell? (Ad g (k*14+10))=some (Iv c.n.b.var)/\w.cell? (Ad g (k*14+11))=some (Iv c.n.b.const)/\w.cell? (Ad g (k*14+12))=some (bH c.ea c.el c.ec)/\w.cell? (Ad g (k*14+13))=some (.string c.n.goal):=
 ⟨h.cells k c hk 0 ah,h.cells k c hk 1 ah,h.cells k c hk 2 ah,h.cells k c hk 3 ah,h.cells k c hk 4 ah,h.cells k c hk 5 ah,h.cells k c hk 6 ah,h.cells k c hk 7 ah,h.cells k c hk 8 ah,h.cells k c hk 9 ah,h.cells k c hk 10 ah,h.cells k c hk 11 ah,h.cells k c hk 12 ah,h.cells k c hk 13 ah⟩
def fT.frozen{S:List NC}(h:fT w g C S)(o:Nat):w.frozen? (Ad g o)=false:=by
 obtain⟨A,D,_⟩:=h;simp[World.frozen?,D]
def fT.lt{S:List NC}(h:fT w g C S):g<w.heap.size:=by
 obtain⟨A,D,_⟩:=h;exact(bq.1 D).1
def fT.of_block{w':World}{S:List NC}(h:fT w g C S)(hb:w'.heap[g]?=w.heap[g]?):fT w' g C S:=by
 obtain⟨A,G,O⟩:=h;exact⟨A,hb.trans G,O⟩
def fT.alloc{S:List NC}(h:fT w g C S)(o:Obj):fT (w.alloc o) g C S:=h.of_block (ch w o g h.lt)
def fT.Ms{S:List NC}(h:fT w g C S)(k:Nat)(c:NC)(hk:S[k]?=some c)(a:Option Addr)(el ec:Nat):fT (w.setCell (Ad g (k*14+12)) (.slice a el ec)) g C (S.set k (c.on a el ec)):=by
 obtain⟨A,D,z,N,Z⟩:=h;have hl:k<S.length:=(bn.1 hk).1;refine⟨A.setIfInBounds (k*14+12) (.slice a el ec),?_,by simpa using z,?_,by simpa using Z⟩
 ·have J:=(bq.1 D)
  simp only[World.setCell,rU];simp[D]
 rw[ke,<-sg a el ec S k c hk,<-N];rw[O7,List.take_set]
def Er(w:World)(ev:Value)(es:List Int):Prop:=(es=[]/\ev=.slice none 0 0)∨∃b,ev=.slice (some (Ad b 0)) es.length es.length/\w.heap[b]?=some (.cells (es.map Iv).toArray 3 (0,0))
def F5(kind goal next:Int):List Int:=if kind==4 then[goal,next] else if kind==5 then[goal] else if kind==6 then[] else[next]
def N7(k g n:Int)(w:World):
  Cl 128 #[Iv k,Iv g,Iv n] w fun e I=>∃a el ec,e=.returned (.slice a el ec)/\Hd (Er I (.slice a el ec) (F5 k g n))/\Bl w I:=by
 go_enter func128,ntmps128
 go_wp2
 all_goals
  go_ret
  refine⟨_,_,_,rfl,?_,?_⟩
 ·exact aI ⟨w.heap.size,by simp[F5, *],by rw[bf];simp[F5, *]⟩
 ·exact(aM _ _).alloc (aF _) _
 ·exact aI ⟨w.heap.size,by simp[F5, *],by rw[bf];simp[F5, *]⟩
 ·exact(aM _ _).alloc (aF _) _
 ·exact aJ ⟨by simp[F5, *],rfl⟩
 ·exact aM _ _
 ·exact aI ⟨w.heap.size,by simp[F5, *],by rw[bf];simp[F5, *]⟩
 exact(aM _ _).alloc (aF _) _
def Mr{W:World}{k:Nat}{bj goal:ByteArray}{u v:Value}{kind var op test av ac bv bc:Int}{a D:Bool}(h:∀j,j<14->W.cell? (Ad g (k+j))=(aK bj u ⟨kind,var,op,test,⟨a,av,ac⟩,⟨D,bv,bc⟩,goal⟩ v)[j]?):W.cell? (Ad g k)=some (.string bj)/\W.cell? (Ad g (k+1))=some u/\W.cell? (Ad g (k+2))=some (Iv kind)/\W.cell? (Ad g (k+3))=some (Iv var)/\W.cell? (Ad g (k+4))=some (Iv op)/\W.cell? (Ad g (k+5))=some (Iv test)/\W.cell? (Ad g (k+6))=some (.bool a)/\W.cell? (Ad g (k+7))=some (Iv av)/\W.cell? (Ad g (k+8))=some (Iv ac)/\W.cell? (Ad g (k+9))=some (.bool D)/\W.cell? (Ad g (k+10))=some (Iv bv)/\W.cell? (Ad g (k+11))=some (Iv bc)/\W.cell? (Ad g (k+12))=some v/\W.cell? (Ad g (k+13))=some (.string goal):=
 ⟨h 0 ah,h 1 ah,h 2 ah,h 3 ah,h 4 ah,h 5 ah,h 6 ah,h 7 ah,h 8 ah,h 9 ah,h 10 ah,h 11 ah,h 12 ah,h 13 ah⟩
end
section
variable {a:List ByteArray} {k:Nat}
open Go.RowKit Go.Proofs Go.Maps Go.WideMaps Tryz
def qg(ps:List (cC×Nat)):DataW Unit:=ps.foldl (fun D p=>D.put (kV p.1) (.lit (.int .i64 (p.2:Int)))) (.map [])
def pE(ps:List (cC×Nat))(p:cC×Nat):qg (ps++[p])=(qg ps).put (kV p.1) (.lit (.int .i64 (p.2:Int))):=by simp[qg]
def xw{α:Type}{P:List α->Prop}(h0:P [])(h1:∀l a,P l->P (l++[a]))(l:List α):P l:=by
 suffices h:∀n (l:List α),l.length=n->P l from h _ l rfl
 intro n
 induction n with
 |zero=>intro l h;rw[dM.1 h];exact h0
 |succ n B=>
  intro l h;obtain⟨r,a,rfl⟩:∃r a,l=r++[a]:=⟨l.dropLast,l.getLast (by intro e;simp[e]at h),(wL _).symm⟩;exact h1 r a (B r (by simpa using h))
def XV(ps:List (cC×Nat)):Tidy (qg ps):=by
 induction ps using xw with
 |h0=>exact tidy_empty
 |h1 l a B=>rw[pE];exact B.put (pS a.1) _
def kU(ps:List (cC×Nat)):List cC:=ps.map Prod.fst
def BU(ps:List (cC×Nat))(v:cC):Int:=match ps.reverse.find? (fun p=>p.1==v)with|some p=>(p.2:Int)|none=>0
def aaL(ps:List (cC×Nat))(v:cC):Maps.has (qg ps) (kV v)=decide (v∈kU ps):=by
 induction ps using xw with
 |h0=>rfl
 | h1 l a B=>
  rw[pE];by_cases e:v=a.1
  ·subst e
   rw[Maps.has_put_same (XV l).isMap (pS _)];simp[kU]
  rw[Maps.has_put_other (fun f=>e (sM f)),B,wO];simp[kU,e]
def atA(ps:List (cC×Nat))(v:cC):(qg ps).atKey (kV v) (.lit (.int .i64 0))=.lit (.int .i64 (BU ps v)):=by
 induction ps using xw with
 |h0=>rfl
 | h1 l a B=>
  rw[pE];by_cases e:v=a.1
  ·subst e
   rw[Maps.atKey_put_same (XV l).isMap (pS _)];simp[BU]
  rw[Maps.atKey_put_other (fun f=>e (sM f)),B];have:(a.1==v)=false:=by simpa using fun f=>e f.symm
  simp[BU,this]
def mO(i:Nat)(ps:List (cC×Nat)):List ByteArray->Option (List (cC×Nat))
 |[]=>some ps
 |b :: r=>if b.toList.isEmpty then mO (i+1) ps r else if b.data.toList∈kU ps then none else mO (i+1) (ps++[(b.data.toList,i)]) r
def EO(i:Nat)(ps:List (cC×Nat))(l:List ByteArray)(k:Nat):mO i ps l=(mO i ps (l.take k)).bind (fun q=>mO (i+(l.take k).length) q (l.drop k)):=by
 induction l generalizing i ps k with
 |nil=>simp[mO]
 | cons b r B=>
  cases k with
  |zero=>simp[mO]
  |succ k=>
   rw[List.take_succ_cons,List.drop_succ_cons];simp only[mO];split
   ·rw[B];simp only[bT];congr 1;funext q;congr 1;omega
   split
   ·rfl
   rw[B];simp only[bT];congr 1;funext q;congr 1;omega
def Qw{ps:List (cC×Nat)}{b:ByteArray}(h:mO 0 [] (a.take k)=some ps)(hb:a[k]?=some b):
  mO 0 [] (a.take (k+1))=if b.toList.isEmpty then some ps else if b.data.toList∈kU ps then none else some (ps++[(b.data.toList,k)]):=by
 have hl:k<a.length:=(bn.1 hb).1;rw[EO 0 [] (a.take (k+1)) k,List.take_take,jW ah,h];have e:(a.take (k+1)).drop k=[b]:=by
  rw[List.drop_take,show k+1-k=1 by omega,List.take_one,List.head?_drop,hb];rfl
 have z:(a.take k).length=k:=by simp;omega
 simp only[Option.bind_some,e,z,ct,mO]
def Qy(h:mO 0 [] (a.take k)=none):mO 0 [] a=none:=by
 rw[EO 0 [] a k,h];rfl
def aap{S:List NC}{c:NC}(h:S[k]?=some c):(S.map NC.bj)[k]?=some c.bj:=by simp[h]
def vy (g C:Nat) (S:List NC) (w:World) (B:fT w g C S) (hlen:S.length<=60) (R:∀c∈S,c.bj.size<=3000):
    Cl 126 #[.slice (some (Ad g 0)) S.length C] w fun e I=>
      ((∃ps b,mO 0 [] (S.map NC.bj)=some ps/\e=.returned (.tuple #[.map (some b),.bool true])/\w.heap.size<=b/\I.ownsMap Tryz.prog 9 (plainElem Tryz.prog 3) b 60 (qg ps))∨
       (mO 0 [] (S.map NC.bj)=none/\e=.returned (.tuple #[.map none,.bool false])))/\Bl w I:=by
  have v:=@run_makeMap Tryz.prog;have m:=B.lt;go_enter func126,ntmps126
  go_wp2
  go_loopw[12] (fun i wr=>∃(k:Nat) (ps:List (cC×Nat)),k<=S.length/\i=Iv k/\Hd (mO 0 [] ((S.map NC.bj).take k)=some ps)/\wr.ownsMap Tryz.prog 9 (plainElem Tryz.prog 3) w.heap.size k (qg ps)/\Bl w wr) (fun i _=>S.length-(intOf i).toNat)
  case atStart=>exact⟨0,[],bB _,rfl,rfl,World.ownsMap_made _ _ _ _,(aM _ _).alloc (aF _) _⟩
  obtain⟨k,ps,X,rfl,a,p,D⟩:=hrel;by_cases J:k<S.length;rotate_left
  · obtain rfl:k=S.length:=ah
    go_wp2
    go_ret2
    have e:=a.o;rw[cP ak]at e;exact⟨aJ ⟨ps,w.heap.size,e,rfl,aF _,p.mono ah⟩,D⟩
  obtain⟨c,Z⟩:=La J;have O:=B.of_block (D.block g m);obtain⟨A,l,V,y,Q,E,H,M,N,L,F,G,o,r⟩:=O.all k c Z;have K:c.bj.size<=maxLen:=by have:=R c (aL Z);unfold maxLen;omega
  have t:=Qw a.o (aap Z);have f:Hd (mO 0 [] ((S.map NC.bj).take (k+1))=if c.bj.toList.isEmpty then some ps else if c.bj.data.toList∈kU ps then none else some (ps++[(c.bj.data.toList,k)])):=t;clear O t;have s:(k:Int)<(S.length:Int):=ah
  have P:=D.size;have x:keyOf Tryz.prog 9 (.string c.bj)=some (kV c.bj.data.toList):=keyOf_string_mk underlying9 K;cases h:c.bj.toList.isEmpty with
  | true=>
    go_wp2_with fail
    have e:mO 0 [] ((S.map NC.bj).take (k+1))=some ps:=by rw[f.o,h];rfl
    exact⟨⟨k+1,ps,ah,h',e,(p.alloc _).mono ah,D.alloc P _⟩,by simp[intOf];omega⟩
  | false=>
    by_cases d:c.bj.data.toList∈kU ps
    · have T:Maps.has (qg ps) (kV c.bj.data.toList)=true:=by rw[aaL];simpa using d
      go_wp2_with (first
        |(at_lookup;refine Bu _ rfl _ _ 141 rfl 9 3 .i64 Fm underlying141 underlying3 (Ag _) w.heap.size k (qg ps) rfl (p.alloc _) _ _ rfl x ?_;intro z u q))
      go_ret2
      refine⟨aI ⟨Qy (k:=k+1) ?_,rfl⟩,D.alloc P _⟩;rw[f.o,h];simp[d]
    have T:Maps.has (qg ps) (kV c.bj.data.toList)=false:=by rw[aaL];simpa using d
    go_wp2_with (first
      |(at_lookup;refine Bu _ rfl _ _ 141 rfl 9 3 .i64 Fm underlying141 underlying3 (Ag _) w.heap.size k (qg ps) rfl (p.alloc _) _ _ rfl x ?_;intro z u q)
      |(at_mapUpdate;refine wpList_mapUpdate_own _ rfl _ _ _ 141 rfl 9 3 Fm underlying141 _ w.heap.size k (qg ps) rfl (p.alloc _) (by unfold maxLen;omega) _ _ _ rfl rfl x _ [] (plainElem_int underlying3 (WalkArith.wf_i64 ah)) ?_;intro W n Y))
    go_roundw
    case rel=>
      have e:mO 0 [] ((S.map NC.bj).take (k+1))=some (ps++[(c.bj.data.toList,k)]):=by rw[f.o,h];simp[d]
      refine⟨k+1,_,ah,h',e,?_,?_⟩
      · rw[pE];exact n
      exact(D.alloc P _).grown Y (by simp;omega) (fun j U=>by cases U;exact aF _)
    simp[intOf];omega
end
section
variable {w w':World} {ev:Value} {es:List Int} {g C k:Nat} {S f:List NC} {ps:List (cC×Nat)}
open Go.RowKit Go.Proofs Go.Maps Go.WideMaps Tryz
def jumps(k:Int):Bool:=k==4||k==5
def oU(c:NC)(w:World):
  Cl 127 #[.agg #[.string c.bj,.slice c.wa c.wl c.wc,Iv c.n.kind,Iv c.n.var,Iv c.n.op,Iv c.n.test,.bool c.n.a.isVar,Iv c.n.a.var,Iv c.n.a.const,.bool c.n.b.isVar,Iv c.n.b.var,Iv c.n.b.const,.slice c.ea c.el c.ec,.string c.n.goal]] w fun e I=>
   e=.returned (.bool (jumps c.n.kind))/\Bl w I:=by
 go_enter func127,ntmps127
 go_wp2
 all_goals
  go_ret
  refine⟨aW ?_,(aM _ _).alloc (aF _) _⟩
  simp_all[jumps]
def lQ(ps:List (cC×Nat))(nl:List NC):Bool:=nl.all (fun c=>!jumps c.n.kind||decide (c.n.goal.data.toList∈kU ps))
def kA(ps:List (cC×Nat))(c:NC)(j:Nat):List Int:=F5 c.n.kind (BU ps c.n.goal.data.toList) ((j:Int)+1)
def rf(ps:List (cC×Nat))(nl:List NC):Bool:=match nl.getLast? with|some c=>!(kA ps c (nl.length-1)).contains (nl.length:Int)|none=>false
def ej(nl:List NC):Bool:=match mO 0 [] (nl.map NC.bj)with|some ps=>lQ ps nl&&rf ps nl|none=>false
structure Ov(c c':NC):Prop where
  bj:c'.bj=c.bj
  wa:c'.wa=c.wa
  wl:c'.wl=c.wl
  wc:c'.wc=c.wc
  n:c'.n=c.n
def Ov.refl(c:NC):Ov c c:=⟨rfl,rfl,rfl,rfl,rfl⟩
def Ov.on(c:NC)(a:Option Addr)(l k:Nat):Ov c (c.on a l k):=⟨rfl,rfl,rfl,rfl,rfl⟩
structure Lk(w:World)(ps:List (cC×Nat))(nl nl':List NC)(k:Nat):Prop where
  len:nl'.length=nl.length
  done:∀j c,j<k->nl[j]?=some c->∃c',nl'[j]?=some c'/\Ov c c'/\Er w c'.ev (kA ps c j)/\(!jumps c.n.kind||decide (c.n.goal.data.toList∈kU ps))=true
  rest:∀j,k<=j->nl'[j]?=nl[j]?
def Er.aR(h:Er w ev es)(hb:Bl w w'):Er w' ev es:=by
 rcases h with h|⟨b,G,O⟩
 ·exact aJ h
 exact aI ⟨b,G,(hb.block b (bq.1 O).1).trans O⟩
def Er.QJ(h:Er w ev es)(B:fT w g C S)(o:Nat)(v:Value):Er (w.setCell (Ad g o) v) ev es:=by
 rcases h with h|⟨b,G,O⟩
 ·exact aJ h
 refine aI ⟨b,G,(aZ _ _ _ _ ?_).trans O⟩;rintro rfl;obtain⟨A,Z,_⟩:=B;rw[Z]at O;simp at O
def Lk.aR(h:Lk w ps S f k)(hb:Bl w w'):Lk w' ps S f k:=
 ⟨h.len,fun j c U Z=>let ⟨F,a,b,d,e⟩:=h.done j c U Z;⟨F,a,b,d.aR hb,e⟩,h.rest⟩
def Lk.step{c:NC}(h:Lk w ps S f k)(B:fT w g C f)(Z:S[k]?=some c)(o:f[k]?=some c)(a:Option Addr)(el ec:Nat)(i:Er w (.slice a el ec) (kA ps c k))(m:(!jumps c.n.kind||decide (c.n.goal.data.toList∈kU ps))=true):
  Lk (w.setCell (Ad g (k*14+12)) (.slice a el ec)) ps S (f.set k (c.on a el ec)) (k+1):=by
 have hl:k<f.length:=(bn.1 o).1;refine⟨by simpa using h.len,fun j d U hd=>?_,fun j U=>?_⟩;rotate_left
 ·rw[List.getElem?_set_ne ah];exact h.rest j ah
 by_cases e:j=k
 ·subst e
  rw[Z]at hd;cases hd;exact⟨c.on a el ec,by simp[hl],Ov.on c a el ec,i.QJ B _ _,m⟩
 obtain⟨F,x,y,z,u⟩:=h.done j d ah hd;exact⟨F,by rw[List.getElem?_set_ne ah];exact x,y,z.QJ B _ _,u⟩
def Nh(a:Option Addr)(C:Nat)(w:World):
  Cl 80 #[.slice a 0 C] w fun e I=>e=.returned (.bool false)/\I=w:=by
 go_enter func80,ntmps80
 go_wp2
 go_ret
 exact⟨rfl,rfl⟩
def Ni(a:Option Addr)(len C:Nat)(w:World)(h0:((len:Int)==0)=false)(h:decide (60<(len:Int))=true):
  Cl 80 #[.slice a len C] w fun e I=>e=.returned (.bool false)/\I=w:=by
 go_enter func80,ntmps80
 go_wp2
 go_ret
 exact⟨rfl,rfl⟩
end
section
variable {S:List NC} {ps:List (cC×Nat)} {c:NC} {w:World}
open Go.RowKit Go.Proofs Go.Maps Go.WideMaps Tryz
def Fk{k:Nat}(hp:mO 0 [] (S.map NC.bj)=some ps)(Z:S[k]?=some c)(h:(!jumps c.n.kind||decide (c.n.goal.data.toList∈kU ps))=false):ej S=false:=by
 have:lQ ps S=false:=by
  rw[lQ,List.all_eq_false];exact⟨c,aL Z,by rw[h];simp⟩
 simp[ej,hp,this]
def I6{f:List NC}(hp:mO 0 [] (S.map NC.bj)=some ps)(h:Lk w ps S f S.length)(hn:0<S.length)(Z:S[S.length-1]?=some c):ej S=!(kA ps c (S.length-1)).contains (S.length:Int):=by
 have G:lQ ps S=true:=by
  rw[lQ,bM];intro d hd;obtain⟨j,U,rfl⟩:=List.getElem_of_mem hd;obtain⟨_,_,_,_,e⟩:=h.done j _ U (bk U);exact e
 have O:S.getLast?=some c:=by rw[Bv,Z]
 simp[ej,hp,G,rf,O]
def F?{a:Option Addr}{l c:Nat}{es:List Int}(h:Er w (.slice a l c) es)(hl:es.length<=2)(x:Int):
  Cl 129 #[.slice a l c,Iv x] w fun e I=>e=.returned (.bool (es.contains x))/\I=w:=by
 rcases h with⟨rfl,h⟩|⟨b,h,D⟩
 ·cases h
  exact Tryz.slices_Contains_int_empty none 0 x w
 cases h
 have:=Tryz.slices_Contains_int b 0 es.length es.length es x w (aF _) ah (fun j U=>by
  simp[World.cell?,D,U,cx])
 rw[oy]at this;exact this
def V4(k g n:Int):(F5 k g n).length<=2:=by unfold F5;split;simp;split;simp;split<;>simp
def Q6(g C:Nat)(S:List NC)(w:World)(B:fT w g C S)(h0:0<S.length)(hlen:S.length<=60)(R:∀c∈S,c.bj.size<=3000)(hzg:∀c∈S,c.n.goal.size<=3000):
  Cl 80 #[.slice (some (Ad g 0)) S.length C] w fun e I=>
   e=.returned (.bool (ej S))/\w.grownBy I (some g)/\(ej S=true->∃ps f,mO 0 [] (S.map NC.bj)=some ps/\fT I g C f/\Lk I ps S f S.length):=by
 have m:=B.lt;have e0:((S.length:Int)==0)=false:=by rw[er];omega
 have e6:decide (60<(S.length:Int))=false:=by rw[gK];omega
 go_enter func80,ntmps80
 go_wp2_with fail
 refine(vy g C S w B hlen R).mono ?_;rintro e T ⟨L,A⟩;rcases L with⟨ps,l,K,rfl,hmb,p⟩|⟨K,rfl⟩;rotate_left
 ·have D:Hd (ej S=false):=by show _=_;simp[ej,K]
  clear K
  go_wp2_with fail
  go_ret
  exact⟨aW D.o.symm,jQ (bC A) _,fun h=>by rw[D.o]at h;cases h⟩
 have HP:Hd (mO 0 [] (S.map NC.bj)=some ps):=K;clear K;have hNW:=B.of_block (A.block g m);have hgW:=hNW.lt
 go_wp2_with fail
 go_loopw[26] (fun i wr=>∃(k:Nat) (f:List NC),k<=S.length/\i=Iv k/\fT wr g C f/\Lk wr ps S f k/\wr.ownsMap Tryz.prog 9 (plainElem Tryz.prog 3) l 60 (qg ps)/\w.grownBy wr (some g)) (fun i _=>S.length-(intOf i).toNat)
 case atStart=>exact⟨0,S,bB _,rfl,hNW,⟨rfl,fun j c U=>ah,fun _ _=>rfl⟩,p,jQ (bC A) _⟩
 clear p hNW;obtain⟨k,f,X,rfl,M,E,p,hgr⟩:=hrel;by_cases J:k<S.length;rotate_left
 ·obtain rfl:k=S.length:=ah
  obtain⟨c,Z⟩:=La (l:=S) (i:=S.length-1) ah;obtain⟨c',o,aeR,hEr,_⟩:=E.done (S.length-1) c ah Z;have D:Hd (ej S=!(kA ps c (S.length-1)).contains (S.length:Int)):=I6 HP.o E h0 Z;obtain⟨_,_,_,_,_,_,_,_,_,_,_,_,q12,_⟩:=M.all (S.length-1) c' o;have hzero:((S.length-1:Nat):Int)=(S.length:Int)-1:=ah
  clear B
  go_wp2_with fail
  refine(F? hEr (V4 _ _ _) _).mono ?_;rintro e I ⟨rfl,rfl⟩
  go_wp2
  go_ret
  exact⟨aW (by rw[D.o];simp),hgr,fun _=>⟨ps,f,HP.o,M,E⟩⟩
 obtain⟨c,Z⟩:=La J;have o:f[k]?=some c:=by rw[E.rest k (aF _)];exact Z
 obtain⟨q0,q1,t,y,Q,q5,q6,q7,q8,q9,F,q11,q12,q13⟩:=M.all k c o;have hzc:c.n.goal.size<=maxLen:=by have:=hzg c (aL Z);unfold maxLen;omega
 have s:(k:Int)<(S.length:Int):=ah
 have x:keyOf Tryz.prog 9 (.string c.n.goal)=some (kV c.n.goal.data.toList):=keyOf_string_mk underlying9 hzc;have u:=atA ps c.n.goal.data.toList;have W:=aaL ps c.n.goal.data.toList;have hfz:=M.frozen (k*14+12);obtain⟨jb,q⟩:∃jb,jumps c.n.kind=jb:=⟨_,rfl⟩;obtain⟨v,b⟩:∃v,decide (c.n.goal.data.toList∈kU ps)=v:=⟨_,rfl⟩;rw[b]at W;cases a:(!jb||v)with
 | false=>
  obtain⟨rfl,rfl⟩:jb=true/\v=false:=by cases jb<;>cases v<;>simp_all
  have D:Hd (ej S=false):=Fk HP.o Z (by rw[q,b];rfl);clear b
  go_wp2_with (first
   |(at_lookup;refine Bu _ rfl _ _ 141 rfl 9 3 .i64 Fm underlying141 underlying3 (Ag _) l 60 (qg ps) rfl (p.alloc _) _ _ rfl x ?_;intro z O hwc)
   |(go_at_call 127;refine(oU c _).mono ?_;rintro e r ⟨rfl,N⟩))
  go_ret
  exact⟨aW D.o.symm,hgr.trans (cm (jQ (bC N) _)),fun h=>by rw[D.o]at h;cases h⟩
 | true=>
  have HJ:Hd ((!jumps c.n.kind||decide (c.n.goal.data.toList∈kU ps))=true):=by show _=_;rw[q,b];exact a
  clear b;cases jb<;>cases v<;>simp only[wX,Bool.not_false,Bool.or_false,Bool.or_true,bN]at a
  all_goals
   go_wp2_with (first
    |(at_lookup;refine Bu _ rfl _ _ 141 rfl 9 3 .i64 Fm underlying141 underlying3 (Ag _) l 60 (qg ps) rfl (p.alloc _) _ _ rfl x ?_;intro z O hwc)
    |(go_at_call 127;refine(oU c _).mono ?_;rintro e r ⟨rfl,N⟩;have eB:=dA (bC N) (fun k e=>by cases e);obtain⟨H,FD⟩:=ae eB;have d:g<r.heap.size:=fD M.lt (by have:=N.size;simp at this;omega);have r12:=((M.alloc _).of_block (N.block g (by have:=M.lt;simp;omega))).all k c o;have rfz:=((M.alloc _).of_block (N.block g (by have:=M.lt;simp;omega))).frozen (k*14+12);obtain⟨_,_,_,_,_,_,_,_,_,_,_,_,r12,_⟩:=r12)
    |(go_at_call 128;refine(N7 _ _ _ _).mono ?_;rintro e W3 ⟨ea,el,ec,rfl,n,Y⟩;have V:=((M.alloc _).of_block (N.block g (by have:=M.lt;simp;omega))).of_block (Y.block g d);have t12:=V.all k c o;have tfz:=V.frozen (k*14+12);obtain⟨_,_,_,_,_,_,_,_,_,_,_,_,t12,_⟩:=t12))
   go_roundw
   case rel=>
    have ez:z=BU ps c.n.goal.data.toList:=by
     have:=O.symm.trans u
     simpa using this
    subst ez;have hbA:Bl wr W3:=(((aM _ wr).alloc (aF _) _).trans (N.mono ak)).trans (Y.mono (by have:=N.size;simp at this;omega));have hE:Er W3 (.slice ea el ec) (kA ps c k):=n.o;refine⟨k+1,_,ah,h',V.Ms k c o ea el ec,(E.aR hbA).step V Z o ea el ec hE HJ.o,?_,?_⟩
    ·refine World.ownsMap.setCell ?_ ?_ _
     ·exact p.kept (bC hbA) ak
     show l≠g;omega
    have G:=hgr.trans (jQ (bC hbA) (some g));refine⟨G.os,G.tape,G.output,by simpa[World.setCell]using G.size,fun j U P=>?_⟩;rw[aZ _ _ _ _ (by intro e;exact P (by rw[e]))];exact G.block j U P
   simp[intOf];omega
end
def kR:Nat->List UInt8->Option (Nat×List UInt8)
 |0,_=>none
 |_+1,[]=>none
 |k+1,b :: r=>if b.toNat<128 then some (b.toNat,r) else match kR k r with
  |some (n,q)=>if n=0 then none else some (b.toNat % 128+128*n,q)
  |none=>none
theorem EB:∀(k n:Nat) (r:List UInt8),n<128 ^ k->kR k (ik n++r)=some (n,r)∨k=0
 |0,n,r,h=>aI rfl
 | k+1,n,r,h=>by
  left
  by_cases J:n<128
  ·rw[kH J]
   have:(UInt8.ofNat n).toNat=n:=by simp only[DM];omega
   simp[kR,this,J]
  rw[p! J];have D:(UInt8.ofNat (n % 128+128)).toNat=n % 128+128:=by simp only[DM];omega
  have G:n / 128<128 ^ k:=by rw[Ab]at h;omega
  have X:k≠0:=by rintro rfl;simp at G;omega
  rcases EB k (n / 128) r G with O|O
  ·have Y:n / 128≠0:=by omega
   simp only[dw,kR,D,O];rw[aA ah,aA Y]
   congr 2
   omega
  exact absurd O X
theorem EA:∀(k:Nat) (l:List UInt8) (n:Nat) (r:List UInt8),kR k l=some (n,r)->l=ik n++r/\n<128 ^ k
 |0,l,n,r,h=>by simp[kR]at h
 |k+1,[],n,r,h=>by simp[kR]at h
 | k+1,b :: q,n,r,h=>by
  have D:=rR b;rw[kR]at h;by_cases G:b.toNat<128
  ·rw[aD G]at h
   simp at h;obtain⟨rfl,rfl⟩:=h;rw[kH G];refine⟨by simp,?_⟩;have:128 ^ (k+1)=128 ^ k*128:=Ab ..;have:0<128 ^ k:=Nat.pow_pos ah;omega
  rw[aA G]at h;cases A:kR k q with
  |none=>rw[A]at h;simp at h
  |some p=>
   obtain⟨m,s⟩:=p;rw[A]at h;simp only at h;by_cases C:m=0
   ·rw[aD C]at h;simp at h
   rw[aA C]at h;simp at h;obtain⟨rfl,rfl⟩:=h;obtain⟨rfl,J⟩:=EA k q m s A;have O:¬b.toNat % 128+128*m<128:=by omega
   have Y:(b.toNat % 128+128*m) / 128=m:=by omega
   have K:(b.toNat % 128+128*m) % 128+128=b.toNat:=by omega
   rw[p! O,Y,K];refine⟨by simp,?_⟩;have:128 ^ (k+1)=128 ^ k*128:=Ab ..;omega
def rc(l:List UInt8):Option (Nat×List UInt8):=match kR 10 l with
 |some (n,r)=>if n<18446744073709551616 then some (n,r) else none
 |none=>none
theorem j3(l:List UInt8)(n:Nat)(r:List UInt8):rc l=some (n,r)↔l=ik n++r/\n<18446744073709551616:=by
 constructor;rotate_left
 ·rintro⟨rfl,h⟩
  unfold rc;rcases EB 10 n r ah with O|O
  ·rw[O]
   simp only;rw[aD h]
  omega
 intro h;unfold rc at h;cases A:kR 10 l with
 |none=>rw[A]at h;simp at h
 | some p=>
  obtain⟨m,s⟩:=p;rw[A]at h;simp only at h;split at h
  ·rename_i C
   simp at h;obtain⟨rfl,rfl⟩:=h;exact⟨(EA 10 l m s A).1,C⟩
  cases h
def od(i n:Nat):Option (Nat×List UInt8)->Option (Nat×List UInt8)
 |some (m,r)=>if 0<i/\m=0 then none else if n+128 ^ i*m<18446744073709551616 then some (n+128 ^ i*m,r) else none
 |none=>none
theorem ZD(l:List UInt8):rc l=od 0 0 (kR 10 l):=by
 unfold rc od;cases kR 10 l with
 |none=>rfl
 |some p=>obtain⟨n,r⟩:=p;simp
theorem VP(i n k:Nat):od i n (kR k [])=none:=by
 cases k<;>simp[kR,od]
theorem yM(i n k:Nat)(b:UInt8)(r:List UInt8)(h:b.toNat<128):od i n (kR (k+1) (b :: r))=if 0<i/\b.toNat=0 then none else if n+128 ^ i*b.toNat<18446744073709551616 then some (n+128 ^ i*b.toNat,r) else none:=by
 simp[kR,h,od]
theorem FY(i n k:Nat)(b:UInt8)(r:List UInt8)(h:¬b.toNat<128):od i n (kR (k+1) (b :: r))=od (i+1) (n+128 ^ i*(b.toNat % 128)) (kR k r):=by
 rw[kR,aA h];cases kR k r with
 |none=>rfl
 | some p=>
  obtain⟨m,q⟩:=p;by_cases C:m=0
  ·simp[od,C]
  have e:n+128 ^ i*(b.toNat % 128+128*m)=n+128 ^ i*(b.toNat % 128)+128 ^ (i+1)*m:=by
   rw[Nat.mul_add,Ab,Nat.mul_assoc,lA]
  have R:¬(0<i/\b.toNat % 128+128*m=0):=by omega
  have K:¬(0<i+1/\m=0):=by omega
  simp only[od,aA C,aA R,aA K,e]
section
variable {w:World} {s:ByteArray}
open Go.RowKit Go.Proofs Go.Maps Tryz
def cT(w:World)(rb:Nat)(s:ByteArray)(bad:Bool):Prop:=w.heap[rb]?=some (.cells #[.string s,.bool bad] 178 (0,0))
def cT.grown{w':World}{rb:Nat}{bad:Bool}{row:Option Nat}(h:cT w rb s bad)(m:w.grownBy w' row)(hr:some rb≠row):cT w' rb s bad:=(m.block rb (bq.1 h).1 hr).trans h
def eC{b o:Nat}{cs:Array Value}{t:TypeId}(h:w.heap[b]?=some (cJ cs t))(v:Value):(w.setCell (Ad b o) v).heap[b]?=some (.cells (cs.setIfInBounds o v) t (0,0)):=by
 simp[World.setCell,rU,h]
def PV(h:0<s.size):s.toList.isEmpty=false:=by
 have hl:s.data.toList.length=s.size:=rfl;rw[oz];cases z:s.data.toList with
 |nil=>rw[z]at hl;simp at hl;omega
 |cons a r=>rfl
def PF{p:Prop}(h:p:=by
 go_enter func156,ntmps156
 go_wp2_with fail
 go_ret
 exact⟨rfl,a.o⟩):p:=h
def qN(rb:Nat)(s:ByteArray)(bad:Bool)(w:World)(h:cT w rb s bad)(hb:bad=true∨s.size=0):
  Cl 156 (bE rb) w fun e I=>e=.returned (.int .u8 0)/\cT I rb s true/\w.grownBy I (some rb):=by
 obtain⟨F,y⟩:=ae h;have X:=(show Hd (cT w rb s bad)from h);clear h;have b:cT (w.setCell (Ad rb 1) (.bool true)) rb s true/\w.grownBy (w.setCell (Ad rb 1) (.bool true)) (some rb):=⟨eC X.o _,cW _ _ _ _⟩;have a:=(show Hd _ from b);clear b;cases bad with
 |true=>
  exact PF
 |false=>
  have z:s.size=0:=by rcases hb with h|h;cases h;exact h
  have H:s=⟨#[]⟩:=data_inj (by have:s.data.toList.length=0:=z;simpa using dM.1 this);subst H;exact PF
def Aw(rb:Nat)(s:ByteArray)(w:World)(h:cT w rb s false)(h0:0<s.size)(hs:s.size<=60000):
  Cl 156 (bE rb) w fun e I=>e=.returned (.int .u8 (s[0]).toNat)/\cT I rb (s.extract 1 s.size) false/\w.grownBy I (some rb):=by
 obtain⟨F,y⟩:=ae h;have X:=(show Hd (cT w rb s false)from h);clear h;have P:=PV h0;have b:cT (w.setCell (Ad rb 0) (.string (s.extract 1 s.size))) rb (s.extract 1 s.size) false/\w.grownBy (w.setCell (Ad rb 0) (.string (s.extract 1 s.size))) (some rb):=⟨eC X.o _,cW _ _ _ _⟩;have a:=(show Hd _ from b);clear b;exact PF
end
section
variable {p:Prop}
open Go.RowKit Go.Proofs Go.Maps Tryz
def D?{s:ByteArray}(h:0<s.size):s.data.toList=s[0] :: (s.extract 1 s.size).data.toList:=by
 have hl:s.data.toList.length=s.size:=rfl;have e:(s.extract 1 s.size).data.toList=s.data.toList.drop 1:=by
  rw[ByteArray.data_extract,Array.toList_extract];show(s.data.toList.drop 1).take (s.size-1)=_;rw[cP (by rw[List.length_drop,hl];exact aF _)]
 rw[e];cases z:s.data.toList with
 |nil=>rw[z]at hl;simp at hl;omega
 | cons a r=>
  have:s[0]=a:=by
   have O:s.data.toList[0]?=some a:=by rw[z];rfl
   have Y:s.data.toList[0]?=some s[0]:=by rw[bk (by rw[hl];exact h)];rfl
   rw[Y]at O;exact dK O
  rw[this];rfl
def Oo:∀r:Fin 256,bits BinOp.and IntKind.u8 ((r.val:Nat):Int) 127=((r.val % 128:Nat):Int):=by decide +kernel
def abF(b:UInt8):bits BinOp.and IntKind.u8 (b.toNat:Int) 127=((b.toNat % 128:Nat):Int):=Oo ⟨b.toNat,rR b⟩
def Pd(n:Nat)(h:n<18446744073709551616):IntKind.u64.wrap (n:Int)=n:=by
 have e:IntKind.u64.wrap (n:Int)=n % 18446744073709551616:=by simp[IntKind.wrap,IntKind.bits,IntKind.signed]
 rw[e];omega
def Cz(i:Nat):128 ^ i=2 ^ (7*i):=by rw[Nat.pow_mul]
def sj(n i:Nat)(b:UInt8)(hn:n<128 ^ i)(hv:n+128 ^ i*(b.toNat % 128)<18446744073709551616):bits BinOp.or IntKind.u64 (n:Int) (IntKind.u64.wrap (IntKind.u64.wrap (bits BinOp.and IntKind.u8 (b.toNat:Int) 127)*2 ^ (7*i)))=((n+128 ^ i*(b.toNat % 128):Nat):Int):=by
 rw[abF,Pd _ ah];have e:((b.toNat % 128:Nat):Int)*2 ^ (7*i)=((128 ^ i*(b.toNat % 128):Nat):Int):=by
  rw[Cz]
  push_cast
  rw[DP]
 rw[e,Pd _ ah,Bz _ _ ah ah]
 congr 1
 have O:128 ^ i*(b.toNat % 128)=(b.toNat % 128) <<< (7*i):=by rw[Nat.shiftLeft_eq,Cz,By]
 rw[O,Nat.or_comm,<-Nat.shiftLeft_add_eq_or_of_lt (by rw[<-Cz];exact hn),wU]
def aeO(w w':World)(rb:Nat)(s:ByteArray)(e:Ending):Prop:=(∃n s',rc s.data.toList=some (n,s'.data.toList)/\s'.size<=s.size/\e=.returned (Uv n)/\cT w' rb s' false)∨(rc s.data.toList=none/\e=.returned (Uv 0)/\∃s',s'.size<=s.size/\cT w' rb s' true)
def PD(h:p:=by
 clear g l a X
 go_wp2_with (go_at_call 156;refine(j.a _ f.o).mono ?_;rintro e T ⟨rfl,G,u⟩;obtain⟨F,y⟩:=ae G;have E:=(show Hd _ from Aa G u);clear G u)
 go_ret
 exact⟨aI ⟨H0.o,rfl,t,by have:=j.B;omega,eC E.a _⟩,(Z.o.trans E.A).trans (cW _ _ _ _)⟩):p:=h
def PB(h:p:=by
 go_wp2_with (go_at_call 156;refine(j.a _ f.o).mono ?_;rintro e T ⟨rfl,G,u⟩;obtain⟨F,y⟩:=ae G;have E:=(show Hd _ from Aa G u);clear G u)
 go_ret
 exact⟨aJ ⟨N,t,H0.o,by have:=j.B;omega,rfl,E.a⟩,Z.o.trans E.A⟩):p:=h
def PA(h:p:=by
 show _=_;rw[j.b,yM _ _ _ _ _ D,aA ah];have C:b.toNat % 128=b.toNat:=tL D;have Q:=d.o;rw[C]at Q
 rw[<-Q,aD c]):p:=h
def XD(h:p:=by
 have G:128 ^ i*(b.toNat % 128)<=128 ^ i*127:=Bx _ ah;have O:=a ah;have Y:=m.o
 omega):p:=h
def MW(rb:Nat)(s:ByteArray)(w:World)(h:cT w rb s false)(hs:s.size<=60000):
  Cl 230 (bE rb) w fun e I=>aeO w I rb s e/\w.grownBy I (some rb):=by
 have HR:=(show Hd (cT w rb s false)from h);clear h;go_enter func230,ntmps230
 go_wp2_with fail
 go_loopw[3,4] (fun nv z wr=>∃(i n:Nat) (q:ByteArray),i<=9/\n<128 ^ i/\nv=Uv n/\z=Iv ((7*i:Nat):Int)/\q.size<=s.size/\Hd (rc s.data.toList=od i n (kR (10-i) q.data.toList))/\Hd (cT wr rb q false)/\Hd (w.grownBy wr (some rb))) (fun _ z _=>100-(intOf z).toNat)
 case atStart=>exact⟨0,0,s,ah,ak,rfl,rfl,aF _,ZD _,HR,World.grownBy.refl _ _⟩
 obtain⟨i,n,q,hi,J,rfl,rfl,A,HF,f,Z⟩:=hrel;by_cases o:0<q.size;rotate_left
 ·have H0:Hd (rc s.data.toList=none):=by
   show _=_;have H:q.data.toList=[]:=dM.1 (show q.size=0 by omega);rw[HF.o,H,VP]
  have S:((0:Int)==0)=true:=rfl
  go_wp2_with (go_at_call 156;refine(qN rb q false _ f.o (aI ah)).mono ?_;rintro e T ⟨rfl,G,u⟩;obtain⟨F,y⟩:=ae G;have E:=(show Hd _ from Aa G u);clear G u)
  all_goals
   go_ret
   first
    |exact⟨aI ⟨H0.o,rfl,q,A,E.a⟩,Z.o.trans E.A⟩
    |exact⟨aI ⟨H0.o,rfl,q,A,eC E.a _⟩,(Z.o.trans E.A).trans (cW _ _ _ _)⟩
 obtain⟨k,X⟩:∃k,10-i=k+1:=⟨9-i,ah⟩;have g:=rR (q[0]);have v:=D? o;have K:(q.extract 1 q.size).size<=q.size:=ak
 have x:=HF.o;rw[X,v]at x;have p:=fun W M=>Aw rb q W M o ah
 generalize hbv:q[0]=b at g x p;generalize hqv:q.extract 1 q.size=t at K x p;have j:=(show Hd _ from Aa p (Aa x K));have hpw:n<128 ^ i:=J;have m:=(show Hd _ from hpw);have l:128 ^ i<=9223372036854775808:=by
  have:128 ^ i<=128 ^ 9:=G1 ah hi;omega
 have a:i<9->128 ^ i<=72057594037927936:=by
  intro h;have:128 ^ i<=128 ^ 8:=G1 ah ah;omega
 clear p x K v hbv hqv J hpw;by_cases D:b.toNat<128;rotate_left
 ·by_cases V:i=9
  ·have L:((b.toNat:Int)==0)=false:=by rw[er];omega
   have P:decide (1<(b.toNat:Int))=true:=by rw[bm];omega
   have fs:(7*(i:Int)==63)=true:=by rw[eJ];omega
   have U:decide ((b.toNat:Int)<128)=false:=by rw[gK];omega
   have H0:Hd (rc s.data.toList=none):=by
    show _=_;rw[j.b];rw[FY _ _ _ _ _ D,show k=0 by omega];rfl
   exact PD
  have L:((b.toNat:Int)==0)=false:=by rw[er];omega
  have P:decide (1<(b.toNat:Int))=true:=by rw[bm];omega
  have fs:(7*(i:Int)==63)=false:=by rw[er];omega
  have U:decide ((b.toNat:Int)<128)=false:=by rw[gK];omega
  have c:n+128 ^ i*(b.toNat % 128)<18446744073709551616:=by
   exact XD
  have r:=sj n i b m.o c;obtain⟨N,B⟩:=Ea (n+128 ^ i*(b.toNat % 128));rw[<-B]at r c;have d:=(show Hd _ from B);clear B;have H0:Hd (rc s.data.toList=od (i+1) N (kR (10-(i+1)) t.data.toList)/\N<128 ^ (i+1)):=by
   refine⟨?_,?_⟩
   ·rw[j.b,FY _ _ _ _ _ D,d.o,show 10-(i+1)=k by omega]
   have G:128 ^ i*(b.toNat % 128)<=128 ^ i*127:=Bx _ ah;have Y:=m.o;rw[d.o,Ab];omega
  clear g l a X
  go_wp2_with (go_at_call 156;refine(j.a _ f.o).mono ?_;rintro e T ⟨rfl,G,u⟩;obtain⟨F,y⟩:=ae G;have E:=(show Hd _ from Aa G u);clear G u)
  exact⟨⟨i+1,N,t,ah,H0.A,rfl,h',by have:=j.B;omega,H0.a,E.a,Z.o.trans E.A⟩,by simp[intOf];omega⟩
 by_cases R:b.toNat=0
 ·by_cases hi0:i=0
  rotate_left
  ·have L:((b.toNat:Int)==0)=true:=by rw[eJ];omega
   have fp:decide (0<7*(i:Int))=true:=by rw[bm];omega
   have P:decide (1<(b.toNat:Int))=false:=by rw[gK];omega
   have U:decide ((b.toNat:Int)<128)=true:=by rw[bm];omega
   have H0:Hd (rc s.data.toList=none):=by
    show _=_;rw[j.b];rw[yM _ _ _ _ _ D,aD ah]
   exact PD
  have L:((b.toNat:Int)==0)=true:=by rw[eJ];omega
  have fp:decide (0<7*(i:Int))=false:=by rw[gK];omega
  have P:decide (1<(b.toNat:Int))=false:=by rw[gK];omega
  have fs:(7*(i:Int)==63)=false:=by rw[er];omega
  have U:decide ((b.toNat:Int)<128)=true:=by rw[bm];omega
  have c:n+128 ^ i*(b.toNat % 128)<18446744073709551616:=by
   have G:128 ^ i*(b.toNat % 128)<=128 ^ i*1:=Bx _ ah;have Y:=m.o;omega
  have r:=sj n i b m.o c;obtain⟨N,B⟩:=Ea (n+128 ^ i*(b.toNat % 128));rw[<-B]at r c;have d:=(show Hd _ from B);clear B;have H0:Hd (rc s.data.toList=some (N,t.data.toList)):=by
   exact PA
  clear g l a X R hi0;exact PB
 by_cases h1b:b.toNat=1
 ·have L:((b.toNat:Int)==0)=false:=by rw[er];omega
  have P:decide (1<(b.toNat:Int))=false:=by rw[gK];omega
  have U:decide ((b.toNat:Int)<128)=true:=by rw[bm];omega
  have c:n+128 ^ i*(b.toNat % 128)<18446744073709551616:=by
   have G:128 ^ i*(b.toNat % 128)<=128 ^ i*1:=Bx _ ah;have Y:=m.o;omega
  have r:=sj n i b m.o c;obtain⟨N,B⟩:=Ea (n+128 ^ i*(b.toNat % 128));rw[<-B]at r c;have d:=(show Hd _ from B);clear B;have H0:Hd (rc s.data.toList=some (N,t.data.toList)):=by
   exact PA
  clear g l a X R h1b;exact PB
 by_cases V:i=9
 ·have L:((b.toNat:Int)==0)=false:=by rw[er];omega
  have P:decide (1<(b.toNat:Int))=true:=by rw[bm];omega
  have fs:(7*(i:Int)==63)=true:=by rw[eJ];omega
  have U:decide ((b.toNat:Int)<128)=true:=by rw[bm];omega
  have H0:Hd (rc s.data.toList=none):=by
   show _=_;rw[j.b];rw[yM _ _ _ _ _ D,aA ah,aA ?_];subst V;omega
  exact PD
 have L:((b.toNat:Int)==0)=false:=by rw[er];omega
 have P:decide (1<(b.toNat:Int))=true:=by rw[bm];omega
 have fs:(7*(i:Int)==63)=false:=by rw[er];omega
 have U:decide ((b.toNat:Int)<128)=true:=by rw[bm];omega
 have c:n+128 ^ i*(b.toNat % 128)<18446744073709551616:=by
  exact XD
 have r:=sj n i b m.o c;obtain⟨N,B⟩:=Ea (n+128 ^ i*(b.toNat % 128));rw[<-B]at r c;have d:=(show Hd _ from B);clear B;have H0:Hd (rc s.data.toList=some (N,t.data.toList)):=by
  exact PA
 clear g l a X;exact PB
end
section
variable {α:Type}
open Go.RowKit Go.Proofs Go.Maps Tryz
def RdA(w':World)(rb:Nat)(s:ByteArray)(res:Option (α×List UInt8))(val:α->Value)(z:Value)(e:Ending):Prop:=
 (∃a s',res=some (a,s'.data.toList)/\s'.size<=s.size/\e=.returned (val a)/\cT w' rb s' false)∨(res=none/\e=.returned z/\∃s',s'.size<=s.size/\cT w' rb s' true)
def dJ(bad:Bool)(p:List UInt8->Option (α×List UInt8))(s:ByteArray):Option (α×List UInt8):=if bad then none else p s.data.toList
def nA(rb:Nat)(s:ByteArray)(bad:Bool)(w:World)(h:cT w rb s bad)(hs:s.size<=60000):
  Cl 230 (bE rb) w fun e I=>RdA I rb s (dJ bad rc s) (fun n:Nat=>Uv n) (Uv 0) e/\w.grownBy I (some rb):=by
 cases bad with
 |false=>
  refine(MW rb s w h hs).mono ?_;rintro e I ⟨G,O⟩;exact⟨G,O⟩
 |true=>
  have X:=(show Hd (cT w rb s true)from h);clear h;go_enter func230,ntmps230
  go_wp2_with fail
  go_loopw[3,4] (fun nv z wr=>nv=Uv 0/\z=Iv 0/\wr=w) (fun _ _ _=>0)
  case atStart=>exact⟨rfl,rfl,rfl⟩
  obtain⟨rfl,rfl,rfl⟩:=hrel
  go_wp2_with (go_at_call 156;refine(qN rb s true _ X.o (aJ rfl)).mono ?_;rintro e T ⟨rfl,G,u⟩;obtain⟨F,y⟩:=ae G;have E:=(show Hd _ from Aa G u);clear G u)
  go_ret
  exact⟨aI ⟨rfl,rfl,s,aF _,E.a⟩,E.A⟩
def kC(most:Int)(l:List UInt8):Option (Nat×List UInt8):=match rc l with
 |some (n,r)=>if (n:Int)<=most then some (n,r) else none
 |none=>none
def XC{p:Prop}(h:p:=by
 go_wp2_with fail
 go_ret
 refine⟨aI ⟨?_,rfl,C,c,a.a⟩,E.B.trans a.A⟩;have O:=E.a;unfold dJ at O⊢;cases bad with
 |true=>rfl
 |false=>
  simp only[bN,bR]at O⊢;unfold kC;rw[O];simp only
  rw[aA ah]):p:=h
def yc(rb:Nat)(s:ByteArray)(bad:Bool)(most:Int)(w:World)(h:cT w rb s bad)(hs:s.size<=60000)(hm:eX most):
  Cl 158 (Ah rb most) w fun e I=>RdA I rb s (dJ bad (kC most) s) (fun n:Nat=>Iv n) (Iv 0) e/\w.grownBy I (some rb):=by
 obtain⟨i,S⟩:=hm;have Z:=nA rb s bad w h hs;have f:=(show Hd _ from Z);clear h Z;go_enter func158,ntmps158
 go_wp2_with fail
 refine bA f.o ?_;rintro e T ⟨G,u⟩;rcases G with⟨n,C,o,c,rfl,L⟩|⟨o,rfl,C,c,L⟩;rotate_left
 ·obtain⟨F,y⟩:=ae L
  have m:Hd (dJ bad (kC most) s=none):=by
   show _=_;unfold dJ at o⊢;cases bad with
   |true=>rfl
   |false=>
    simp only[bN,bR]at o⊢;unfold kC;rw[o]
  have E:=(show Hd _ from Aa L u);have b:cT (T.setCell (Ad rb 1) (.bool true)) rb C true/\T.grownBy (T.setCell (Ad rb 1) (.bool true)) (some rb):=⟨eC L _,cW _ _ _ _⟩;have a:=(show Hd _ from b);clear b o L u;by_cases g:most<0
  ·go_wp2_with fail
   go_ret
   exact⟨aI ⟨m.o,rfl,C,c,a.a⟩,E.A.trans a.A⟩
  obtain⟨d,rfl⟩:=G5 (show 0<=most by omega);have j:¬((d:Int)<0):=ah
  go_wp2_with fail
  go_ret
  exact⟨aI ⟨m.o,rfl,C,c,E.a⟩,E.A⟩
 have J:n<18446744073709551616:=by
  unfold dJ at o;cases bad with
  |true=>cases o
  |false=>exact((j3 _ _ _).1 o).2
 obtain⟨F,y⟩:=ae L;have E:=(show Hd _ from Aa o (Aa L u));have b:cT (T.setCell (Ad rb 1) (.bool true)) rb C true/\T.grownBy (T.setCell (Ad rb 1) (.bool true)) (some rb):=⟨eC L _,cW _ _ _ _⟩;have a:=(show Hd _ from b);clear b o L u;by_cases g:most<0
 ·exact XC
 obtain⟨d,rfl⟩:=G5 (show 0<=most by omega);by_cases k:n<=d
 ·have j:¬((d:Int)<n):=ah
  have W:n<9223372036854775808:=ah
  go_wp2_with fail
  go_ret
  refine⟨aJ ⟨n,C,?_,c,rfl,E.b⟩,E.B⟩;have O:=E.a;unfold dJ at O⊢;cases bad with
  |true=>cases O
  |false=>
   simp only[bN,bR]at O⊢;unfold kC;rw[O];simp only;rw[aD ah]
 have j:(d:Int)<n:=ah
 exact XC
end
open Go.RowKit Go.Proofs Go.Maps Tryz
def El(l:List UInt8):Option (UInt8×List UInt8):=match l with
 |b :: r=>some (b,r)
 |[]=>none
def qV(rb:Nat)(s:ByteArray)(bad:Bool)(w:World)(h:cT w rb s bad)(hs:s.size<=60000):
  Cl 156 (bE rb) w fun e I=>RdA I rb s (dJ bad El s) (fun b:UInt8=>.int .u8 (b.toNat:Int)) (.int .u8 0) e/\w.grownBy I (some rb):=by
 by_cases o:bad=true∨s.size=0
 ·refine(qN rb s bad w h o).mono ?_
  rintro e I ⟨rfl,G,O⟩;refine⟨aI ⟨?_,rfl,s,aF _,G⟩,O⟩;unfold dJ;cases bad with
  |true=>rfl
  |false=>
   have H:s.data.toList=[]:=dM.1 (show s.size=0 by rcases o with h|h;cases h;exact h);rw[H];rfl
 have D:bad=false:=by cases bad<;>simp_all
 subst D;have a:0<s.size:=ah
 refine(Aw rb s w h a hs).mono ?_;rintro e I ⟨rfl,G,O⟩;refine⟨aJ ⟨s[0],s.extract 1 s.size,?_,ak,rfl,G⟩,O⟩;unfold dJ;rw[D? a];rfl
def gY(l:List UInt8):Option (Bool×List UInt8):=match l with
 |b :: r=>if b.toNat<=1 then some (decide (b.toNat=1),r) else none
 |[]=>none
def AX(rb:Nat)(s:ByteArray)(bad:Bool)(w:World)(h:cT w rb s bad)(hs:s.size<=60000):
  Cl 232 (bE rb) w fun e I=>RdA I rb s (dJ bad gY s) (fun b:Bool=>.bool b) (.bool false) e/\w.grownBy I (some rb):=by
 have Z:=qV rb s bad w h hs;have f:=(show Hd _ from Z);clear h Z;go_enter func232,ntmps232
 go_wp2_with fail
 refine bA f.o ?_;rintro e T ⟨G,u⟩;rcases G with⟨b,C,o,c,rfl,L⟩|⟨o,rfl,C,c,L⟩;rotate_left
 ·obtain⟨F,y⟩:=ae L
  have m:Hd (dJ bad gY s=none):=by
   show _=_;unfold dJ at o⊢;cases bad with
   |true=>rfl
   |false=>
    simp only[bN,bR]at o⊢;cases hl:s.data.toList with
    |nil=>rfl
    |cons a r=>rw[hl]at o;simp[El]at o
  have E:=(show Hd _ from Aa L u);clear L u o
  go_wp2_with fail
  go_ret
  exact⟨aI ⟨m.o,rfl,C,c,eC E.a _⟩,E.A.trans (cW _ _ _ _)⟩
 obtain⟨F,y⟩:=ae L;have g:=rR b;have d:bad=false/\s.data.toList=b :: C.data.toList:=by
  unfold dJ El at o;cases bad with
  |true=>cases o
  | false=>
   refine⟨rfl,?_⟩;simp only[bN,bR]at o;split at o
   ·rename_i x X H
    simp at o;rw[H,o.1,o.2]
   cases o
 obtain⟨rfl,hl⟩:=d;have E:=(show Hd _ from Aa hl (Aa L u));clear hl L u o;by_cases W:b.toNat<=1
 ·have j:decide (1<(b.toNat:Int))=false:=by rw[gK];omega
  go_wp2_with fail
  go_ret
  refine⟨aJ ⟨decide (b.toNat=1),C,?_,c,?_,?_⟩,E.B.trans (cW _ _ _ _)⟩
  ·unfold dJ gY
   rw[E.a];simp[W]
  ·show Ending.returned (.bool _)=_
   exact aW (by rw[cR];simp;omega)
  exact eC E.b _
 have j:decide (1<(b.toNat:Int))=true:=by rw[bm];omega
 have i:((b.toNat:Int)==1)=false:=by rw[er];omega
 go_wp2_with fail
 go_ret
 refine⟨aI ⟨?_,rfl,C,c,eC E.b _⟩,E.B.trans (cW _ _ _ _)⟩;unfold dJ gY;rw[E.a];simp[W]
def Mf(n:Nat):Int:=if n % 2=0 then((n / 2:Nat):Int) else -((n / 2:Nat):Int)-1
def oJ(l:List UInt8):Option (Int×List UInt8):=match rc l with
 |some (n,r)=>some (Mf n,r)
 |none=>none
def oQ(rb:Nat)(s:ByteArray)(bad:Bool)(w:World)(h:cT w rb s bad)(hs:s.size<=60000):
  Cl 334 (bE rb) w fun e I=>RdA I rb s (dJ bad oJ s) (fun x:Int=>Iv x) (Iv 0) e/\w.grownBy I (some rb):=by
 have Z:=nA rb s bad w h hs;have f:=(show Hd _ from Z);clear h Z;go_enter func334,ntmps334
 go_wp2_with fail
 refine bA f.o ?_;rintro e T ⟨G,u⟩;rcases G with⟨n,C,o,c,rfl,L⟩|⟨o,rfl,C,c,L⟩;rotate_left
 ·have m:Hd (dJ bad oJ s=none):=by
   show _=_;unfold dJ at o⊢;cases bad with
   |true=>rfl
   |false=>
    simp only[bN,bR]at o⊢;unfold oJ;rw[o]
  have E:=(show Hd _ from Aa L u);clear L u o
  go_wp2_with fail
  go_ret
  exact⟨aI ⟨m.o,rfl,C,c,E.a⟩,E.A⟩
 have J:n<18446744073709551616:=by
  unfold dJ at o;cases bad with
  |true=>cases o
  |false=>exact((j3 _ _ _).1 o).2
 have m:Hd (dJ bad oJ s=some (Mf n,C.data.toList)):=by
  show _=_;unfold dJ at o⊢;cases bad with
  |true=>cases o
  |false=>
   simp only[bN,bR]at o⊢;unfold oJ;rw[o]
 have E:=(show Hd _ from Aa L u);clear o L u;obtain⟨q,A,d⟩:∃q:Nat,q=n / 2/\(n:Int) / 2=(q:Int):=⟨n / 2,rfl,ah⟩;have b:q<9223372036854775808:=ah
 by_cases O:n % 2=0
 ·have a:((n:Int) % 2==0)=true:=by rw[eJ];omega
  have g:Hd (Mf n=(q:Int)):=by show _=_;unfold Mf;rw[aD O,A]
  clear O A
  go_wp2_with fail
  go_ret
  exact⟨aJ ⟨Mf n,C,m.o,c,by rw[g.o];rfl,E.a⟩,E.A⟩
 have a:((n:Int) % 2==0)=false:=by rw[er];omega
 have g:Hd (Mf n=-(q:Int)-1):=by show _=_;unfold Mf;rw[aA O,A]
 clear O A
 go_wp2_with fail
 go_ret
 exact⟨aJ ⟨Mf n,C,m.o,c,by rw[g.o];rfl,E.a⟩,E.A⟩
def pN(rb:Nat)(s:ByteArray)(bad:Bool)(w:World)(h:cT w rb s bad)(hs:s.size<=60000):
  Cl 291 (bE rb) w fun e I=>RdA I rb s (dJ bad (kC 100000) s) (fun n:Nat=>Iv n) (Iv 0) e/\w.grownBy I (some rb):=by
 have Z:=yc rb s bad 100000 w h hs ⟨ah,ah⟩;have f:=(show Hd _ from Z);clear h Z;go_enter func291,ntmps291
 go_wp2_with fail
 refine bA f.o ?_;rintro e T ⟨G,u⟩;rcases G with⟨n,C,o,c,rfl,L⟩|⟨o,rfl,C,c,L⟩
 ·have E:=(show Hd _ from Aa o (Aa L u))
  clear o L u
  go_wp2_with fail
  go_ret
  exact⟨aJ ⟨n,C,E.a,c,rfl,E.b⟩,E.B⟩
 have E:=(show Hd _ from Aa o (Aa L u));clear o L u
 go_wp2_with fail
 go_ret
 exact⟨aI ⟨E.a,rfl,C,c,E.b⟩,E.B⟩
section
variable {σ α:Type}
open Go.RowKit Go.Proofs Go.Maps Tryz
def bI{σ α:Type}(step:σ->List UInt8->Option ((α×σ)×List UInt8)):Nat->σ->List UInt8->Option ((List α×σ)×List UInt8)
 |0,st,l=>some (([],st),l)
 | n+1,st,l=>match step st l with
  |some ((x,Mm),r)=>match bI step n Mm r with
   |some ((xs,st2),q)=>some ((x :: xs,st2),q)
   |none=>none
  |none=>none
def fG{σ α:Type}(step:σ->List UInt8->Option ((α×σ)×List UInt8)):∀(n:Nat) (st:σ) (l:List UInt8),bI step (n+1) st l=match bI step n st l with
  |some ((M,f),r)=>(match step f r with|some ((x,b),q)=>some ((M++[x],b),q)|none=>none)
  |none=>none
 |0,st,l=>by
  simp only[bI];cases step st l with
  |none=>rfl
  |some p=>obtain⟨⟨x,f⟩,r⟩:=p;rfl
 | n+1,st,l=>by
  rw[bI];cases z:step st l with
  |none=>simp[bI,z]
  | some p=>
   obtain⟨⟨x,f⟩,r⟩:=p;simp only;rw[fG step n f r];simp only[bI,z];cases bI step n f r with
   |none=>rfl
   |some I=>
    obtain⟨⟨M,b⟩,q⟩:=I;simp only;cases step b q with
    |none=>rfl
    |some R=>obtain⟨⟨y,c⟩,d⟩:=R;rfl
def eo{σ α:Type}(step:σ->List UInt8->Option ((α×σ)×List UInt8)):∀(n:Nat) (st:σ) (l:List UInt8) (M:List α) (f:σ) (r:List UInt8),bI step n st l=some ((M,f),r)->M.length=n
 |0,st,l,M,f,r,h=>by simp[bI]at h;rw[h.1.1];rfl
 | n+1,st,l,M,f,r,h=>by
  rw[bI]at h;cases z:step st l with
  |none=>rw[z]at h;simp at h
  | some p=>
   obtain⟨⟨x,c⟩,q⟩:=p;rw[z]at h;simp only at h;cases L:bI step n c q with
   |none=>rw[L]at h;simp at h
   |some I=>
    obtain⟨⟨g,b⟩,t⟩:=I;rw[L]at h;simp at h;rw[<-h.1.1];have:=eo step n c q g b t L;simp[this]
def qO (step:σ->List UInt8->Option ((α×σ)×List UInt8)) {n k:Nat} {st:σ} {l:List UInt8} (h:bI step k st l=none) (hk:k<=n):bI step n st l=none:=by
  induction n with
  | zero => obtain rfl:k=0:=ah
            exact h
  | succ n B=>
    by_cases H:k=n+1
    · subst H;exact h
    rw[fG,B ah]
def R8(M:List Int)(n k:Nat)(x:Int)(hk:M.length=k)(hn:k<n):(((M++List.replicate (n-k) 0).map Iv).set k (Iv x))=((M++[x])++List.replicate (n-(k+1)) 0).map Iv:=by
 rw[<-tT]
 congr 1
 rw[ou _ _ ah,hk,jh,show n-k=(n-(k+1))+1 by omega,dN,dm];simp
def Ou(W':World)(rb:Nat)(s:ByteArray)(res:Option ((α×σ)×List UInt8))(val:α->Value)(z:Value->Prop)(Inv:World->σ->Prop)(fW:World->Prop)(e:Ending):Prop:=
 (∃x st s',res=some ((x,st),s'.data.toList)/\s'.size<=s.size/\e=.returned (val x)/\cT W' rb s' false/\Inv W' st)∨(res=none/\∃v s',z v/\e=.returned v/\s'.size<=s.size/\cT W' rb s' true/\fW W')
def L!(w W':World)(rb n:Nat)(s:ByteArray)(bad:Bool)(step:σ->List UInt8->Option ((Int×σ)×List UInt8))(st:σ)(Inv:World->σ->Prop)(fW:World->Prop)(e:Ending):Prop:=
  ((∃xs Mm s' la lc,dJ bad (bI step n st) s=some ((xs,Mm),s'.data.toList)/\s'.size<=s.size/\e=.returned (.slice la n lc)/\(la=none->lc=0)/\W'.ownsRow w.heap.size 3 1 (.slice la n lc) n (xs.map Iv)/\cT W' rb s' false/\Inv W' Mm)∨
   ((bad=true∨dJ bad (bI step n st) s=none)/\e=.returned (.slice none 0 0)/\∃s',s'.size<=s.size/\cT W' rb s' true/\fW W'))
def Xy{p:Prop}(h:p:=by
 have J:rb<w.heap.size:=(bq.1 h).1;have l:=(show Hd _ from Aa G (Aa hinv (Aa p (Aa h hi))));have HB:=(show Hd _ from Aa Ba hIB);clear G hinv p h hi Ba hIB;by_cases h0:n=0
 ·subst h0
  go_enter func289,ntmps289
  go_wp2_with fail
  go_ret
  refine⟨?_,Fr.refl _ _⟩;cases bad with
  |false=>exact aJ ⟨[],st,s,none,0,rfl,aF _,rfl,fun _=>rfl,dF _ _ _ _,l.d,l.D⟩
  |true=>exact aI ⟨aJ rfl,rfl,s,aF _,l.d,HB.A _ _ l.D⟩
 obtain⟨i1,hi,D,O,K⟩:=cY sP;have HI:=(show Hd _ from Aa hi (Aa D (Aa O K)));clear hi D O K;have hn0:((n:Int)==0)=false:=by rw[er];omega
 go_enter func289,ntmps289
 go_wp2_with (at_make;refine il _ rfl (.tmp 11) (.tmp 11) 36 rfl w.heap.size 3 i1 (Iv 0) 1 underlying36 HI.a HI.b HI.c .i64 .i64 n n n rfl rfl rfl rfl (by rw[HI.C];omega) (by unfold maxLen;omega) ak ?_;intro T h! Y;have E:=(show Hd _ from Aa h! Y);clear h! Y)
 have H:Hd (T.ownsRow w.heap.size 3 1 (b? w.heap.size n) n ((([]:List Int)++List.replicate (n-0) 0).map Iv)/\cT T rb s bad/\Inv T st/\Fr (fun j=>j≠rb/\¬Own j) w T):=by
  obtain⟨h1,g1⟩:=E.o;rw[show(Value.int IntKind.i64 0).cells=#[Iv 0] from rfl,toList_madeCells_one,BK]at h1;refine⟨by simpa using h1,l.d.grown g1 ak,l.b w T st l.D (fun j hj=>g1.block j (l.c j hj) ak),Fr.dr g1 (fun k _ _=>ak)⟩
 clear E
 go_loopw[15] (fun iv wr=>∃(k:Nat) (M:List Int) (b:σ) (m:ByteArray),k<=n/\iv=Iv k/\m.size<=s.size/\Hd (M.length=k)/\Hd (bI step k st s.data.toList=some ((M,b),m.data.toList)/\(0<k->bad=false))/\Hd (wr.ownsRow w.heap.size 3 1 (b? w.heap.size n) n ((M++List.replicate (n-k) 0).map Iv)/\cT wr rb m (if k=0 then bad else false)/\Inv wr b/\Fr (fun j=>j≠rb/\¬Own j) w wr)) (fun iv _=>n-(intOf iv).toNat)
 case atStart=>exact⟨0,[],st,s,bB _,rfl,aF _,rfl,⟨rfl,(fun h=>ah)⟩,H.a,H.b,H.c,H.C⟩
 clear H;obtain⟨k,M,b,m,X,rfl,Ys,f,I,d⟩:=hrel;by_cases J:k<n;rotate_left
 ·obtain rfl:k=n:=ah
  have ig:¬(k:Int)<k:=ah
  have HE:Hd (dJ bad (bI step k st) s=some ((M,b),m.data.toList)):=by
   show _=_;rw[I.A ah];exact I.a
  go_wp2_with fail
  go_ret
  refine⟨aJ ⟨M,b,m,some (Ad w.heap.size 0),k,HE.o,Ys,rfl,(fun h=>by cases h),?_,?_,d.c⟩,d.C⟩
  ·have:=d.a
   simpa using this
  have:=d.b
  rwa[aA h0]at this
 have ig:(k:Int)<n:=ah
 have Z:=l.a wr b m (if k=0 then bad else false) d.c d.b ah;have HC:=(show Hd _ from Z);clear Z
 go_wp2_with fail
 refine bA HC.o ?_;rintro e r ⟨h2,f2⟩;have u:=f2.own d.a (fun q A=>by simp[Value.ownBlock]at A;subst A;exact⟨ah,fun g=>by have:=l.c _ g;omega⟩);have V:=d.C.trans f2 (fun q _ A=>A);rcases h2 with⟨x,c,s3,o,oZ,rfl,L,ki⟩|⟨o,v,s3,⟨x,rfl⟩,rfl,oZ,L,ki⟩
 ·have t:=u.stored k (Iv x)
  rw[R8 M n k x f.o J]at t;have U:=u.cellAt k ah;have NI:((M++List.replicate (n-k) 0).map Iv)[k]?=some (Iv 0):=by
   rw[bG,fC (by rw[f.o];exact aF _),f.o,jh,mD,aD ah];rfl
  rw[NI]at U;have hfz:=u.frozenAt k;have N:=L.grown t.2 (by simp;omega);have R:=l.b r _ c ki (fun j hj=>t.2.block j (by have:=l.c j hj;have:=d.C.size;have:=f2.size;omega) (by have:=l.c j hj;simp;omega));have RD:=V.grown t.2 (fun q A _=>by simp;omega);obtain⟨F,y⟩:=ae N;have sQ:(if k=0 then bad else false)=false/\step b m.data.toList=some ((x,c),s3.data.toList):=by
   generalize(if k=0 then bad else false)=bb at o;cases bb with
   |true=>cases o
   |false=>exact⟨rfl,o⟩
  have C:=(show Hd _ from Aa sQ (Aa t.1 (Aa N (Aa R RD))));clear sQ t N R RD o L ki u V f2 NI
  go_wp2_with fail
  refine⟨⟨k+1,M++[x],c,s3,ah,h',ah,by show _=_;rw[bu,f.o];rfl,⟨?_,fun _=>?_⟩,C.b,?_,C.d,C.D⟩,by simp[intOf];omega⟩
  ·rw[fG,I.a]
   simp only;rw[C.a.2]
  ·by_cases hk0:k=0
   ·have:=C.a.1
    rwa[aD hk0]at this
   exact I.A ah
  rw[aA ah];exact C.c
 have t:=u.stored k (Iv x);have U:=u.cellAt k ah;have NI:((M++List.replicate (n-k) 0).map Iv)[k]?=some (Iv 0):=by
  rw[bG,fC (by rw[f.o];exact aF _),f.o,jh,mD,aD ah];rfl
 rw [NI]at U;have hfz:=u.frozenAt k;have N:=L.grown t.2 (by simp;omega);have R:=HB.a r _ ki (fun j hj=>t.2.block j (by have:=l.c j hj;have:=d.C.size;have:=f2.size;omega) (by have:=l.c j hj;simp;omega));have RD:=V.grown t.2 (fun q A _=>by simp;omega);obtain⟨F,y⟩:=ae N;have B:dJ bad (bI step n st) s=none:=by
  unfold dJ;cases NR:bad with
  |true=>rfl
  | false=>
   simp only[bN,bR];have sQ:step b m.data.toList=none:=by
    rw[NR]at o
    simpa[dJ]using o
   refine qO step (k:=k+1) ?_ ah;rw[fG,I.a];simp only;rw[sQ]
 have C:=(show Hd _ from Aa B (Aa N (Aa R RD)));clear B t N R RD o L ki u V f2 NI
 go_wp2_with fail
 go_ret
 exact⟨aI ⟨aI C.a,rfl,s3,ah,C.b,C.c⟩,C.C⟩):p:=h
def IC(step:σ->List UInt8->Option ((Int×σ)×List UInt8))(Inv:World->σ->Prop)(fW:World->Prop)(Own:Nat->Prop)(rb n:Nat)(s:ByteArray)(bad:Bool)(st:σ)(w:World)
  (G:∀(W:World) (st:σ) (s:ByteArray) (bad:Bool),Inv W st->cT W rb s bad->s.size<=60000->Cl 291 (bE rb) W fun e i=>Ou i rb s (dJ bad (step st) s) (fun x:Int=>Iv x) (fun z=>∃x,z=Iv x) Inv fW e/\Fr (fun j=>j≠rb/\¬Own j) W i)
  (hinv:∀(W i:World) (st:σ),Inv W st->(∀j,Own j->i.heap[j]?=W.heap[j]?)->Inv i st) (Ba:∀(W i:World),fW W->(∀j,Own j->i.heap[j]?=W.heap[j]?)->fW i) (hIB:∀W st,Inv W st->fW W) (p:∀j,Own j->j<w.heap.size) (h:cT w rb s bad) (hi:Inv w st) (hs:s.size<=60000) (hn:n<=100000000):
  Cl 289 #[.pointer (some (Ad rb 0)),Iv n,.func (.func 291) (bE rb) #[]] w fun e i=>
   L! w i rb n s bad step st Inv fW e/\Fr (fun j=>j≠rb/\¬Own j) w i:=by
 exact Xy
def IB(step:σ->List UInt8->Option ((Int×σ)×List UInt8))(Inv:World->σ->Prop)(fW:World->Prop)(Own:Nat->Prop)(fb xb rb n:Nat)(s:ByteArray)(bad:Bool)(st:σ)(w:World)
  (G:∀(W:World) (st:σ) (s:ByteArray) (bad:Bool),Inv W st->cT W rb s bad->s.size<=60000->Cl 290 (nk fb xb) W fun e i=>Ou i rb s (dJ bad (step st) s) (fun x:Int=>Iv x) (fun z=>∃x,z=Iv x) Inv fW e/\Fr (fun j=>j≠rb/\¬Own j) W i)
  (hinv:∀(W i:World) (st:σ),Inv W st->(∀j,Own j->i.heap[j]?=W.heap[j]?)->Inv i st) (Ba:∀(W i:World),fW W->(∀j,Own j->i.heap[j]?=W.heap[j]?)->fW i) (hIB:∀W st,Inv W st->fW W) (p:∀j,Own j->j<w.heap.size) (h:cT w rb s bad) (hi:Inv w st) (hs:s.size<=60000) (hn:n<=100000000):
  Cl 289 #[.pointer (some (Ad rb 0)),Iv n,.func (.func 290) #[] (nk fb xb)] w fun e i=>
   L! w i rb n s bad step st Inv fW e/\Fr (fun j=>j≠rb/\¬Own j) w i:=by
 exact Xy
end
section
variable {x:Int}
open Go.RowKit Go.Proofs Go.Maps Tryz
def Zi(h:eX x):DQ x<18446744073709551616:=by
 obtain⟨G,O⟩:=h;unfold DQ;split<;>omega
def xB(h:eX x):(zp x).length<=10:=gB (Zi h)
def Pe{lo hi:Int}(a:lo<=hi)(hl:eX lo)(T:eX hi):IntKind.u64.wrap (IntKind.u64.wrap hi-IntKind.u64.wrap lo)=(((hi-lo).toNat:Nat):Int):=by
 obtain⟨F,A⟩:=hl;obtain⟨l,m⟩:=T;have e:∀n:Int,IntKind.u64.wrap n=n % 18446744073709551616:=fun n=>by simp[IntKind.wrap,IntKind.bits,IntKind.signed]
 rw[e,e,e];omega
def JO(B b:Nat)(l:List UInt8)(v:Vl)(w:World)(h:Wr w B b l)(hv:za v)(a:v.lo<=v.hi)(hlen:l.length+100<=140737488355328):
  Cl 204 #[.pointer (some (Ad b 0)),.agg (iy v.kind v.lo v.hi v.early v.first v.rank)] w fun e I=>e=.returned (.tuple #[])/\eh w I B b (l++(zp v.lo++ik (v.hi-v.lo).toNat)):=by
 obtain⟨kind,lo,hi,early,first,rank⟩:=v;obtain⟨_,hl,T,_,_⟩:=hv;simp only at a hl T⊢;have hd:(hi-lo).toNat<18446744073709551616:=by obtain⟨a1,a2⟩:=hl;obtain⟨u,x⟩:=T;omega
 have c:=Pe a hl T;generalize(hi-lo).toNat=d at hd c⊢;have H:=(show Hd _ from Aa h (Aa (xB hl) (Aa (gB hd) hl)));clear h hl T;go_enter func204,ntmps204
 go_wp2_with (first
  |(go_at_call 266;refine(qZ B b l lo _ (H.a.alloc _) H.C (by have:=H.b;simp only[bu];omega)).mono ?_;rintro e f ⟨rfl,G⟩;obtain⟨F,y⟩:=ae (G.box (H.a.alloc _) (bf w _) aj aj);have E:=(show Hd _ from G);clear G)
  |(go_at_call 133;refine(uH B b (l++zp lo) d _ E.o.wr hd (by have:=H.b;have:=H.c;simp only[bu];omega)).mono ?_;rintro e r ⟨rfl,O⟩;have C:=(show Hd _ from O);clear O))
 go_end0
 refine⟨rfl,?_⟩;have:=(((H.a.wrote).alloc (.cells #[Iv kind,Iv lo,Iv hi,.bool early,Iv first,Iv rank] 73)).trans E.o).trans C.o
 rwa[dj]at this
def Hg(B b:Nat)(l:List UInt8)(p g r:Int)(v:Vl)(w:World)(h:Wr w B b l)(hv:za v)(u:ew p g r v=true)(hp:p≠6)(hr:0<=r)(hlen:l.length+100<=140737488355328):
  Cl 205 #[.pointer (some (Ad b 0)),.agg #[Iv p,Iv g],.agg (iy v.kind v.lo v.hi v.early v.first v.rank)] w fun e A=>e=.returned (.tuple #[])/\eh w A B b (l++eN p g v):=by
 obtain⟨kind,lo,hi,early,first,rank⟩:=v;obtain⟨_,hl,_,V,a⟩:=hv;simp only at hl V a⊢;have U:=((h.wrote.alloc (df p g)).alloc (.cells #[Iv kind,Iv lo,Iv hi,.bool early,Iv first,Iv rank] 73));have H:=(show Hd _ from Aa U (Aa (xB hl) (Aa (xB V) (Aa hl V))));clear h hl V U;have X:(kind=1/\early=false)∨(kind=2/\(early=false∨(early=true/\g=1/\0<=rank/\rank<=100000))):=by
  unfold ew at u;rw[aA hp]at u;cases early with
  |true=>simp[nF]at u⊢;omega
  |false=>simp at u⊢;omega
 rcases X with⟨rfl,rfl⟩|⟨rfl,X⟩
 ·have c:Hd (eN p g ⟨1,lo,hi,false,first,rank⟩=1 :: zp lo):=by show _=_;simp[eN,hp]
  clear u;go_enter func205,ntmps205
  go_wp2_with (first
   |(go_at_call 85;refine(fR B b l 1 _ H.a.wr ah).mono ?_;rintro e T ⟨rfl,G⟩;obtain⟨F,y⟩:=ae (G.box H.a.wr (aN w _ _).1 aj aj);obtain⟨f,o⟩:=ae (G.box H.a.wr (aN w _ _).2 aj aj);have E:=(show Hd _ from G);clear G)
   |(go_at_call 266;refine(qZ B b (l++[1]) lo _ E.o.wr H.d (by have:=H.b;simp only[bu,gL];omega)).mono ?_;rintro e t ⟨rfl,O⟩;have C:=(show Hd _ from O);clear O))
  (try simp only[Exit.inBlock,Exit.then]);refine aG (BM rfl _ _ _) rfl ?_
  refine⟨rfl,?_⟩;rw[c.o];have:=(H.a.trans E.o).trans C.o
  rwa[dj]at this
 cases k:decide (g=1)with
 | false=>
  have m:¬g=1:=by simpa using k
  have c:Hd (eN p g ⟨2,lo,hi,early,first,rank⟩=[2]):=by show _=_;simp[eN,hp,m]
  clear u X m;go_enter func205,ntmps205
  go_wp2_with (first
   |(go_at_call 85;refine(fR B b l 2 _ H.a.wr ah).mono ?_;rintro e T ⟨rfl,G⟩;obtain⟨F,y⟩:=ae (G.box H.a.wr (aN w _ _).1 aj aj);obtain⟨f,o⟩:=ae (G.box H.a.wr (aN w _ _).2 aj aj);have E:=(show Hd _ from G);clear G)
   |(go_at_call 203;refine(cg _ _ _).mono ?_;rw[k];rintro e S ⟨rfl,rfl⟩))
  (try simp only[Exit.inBlock,Exit.then]);refine aG (BM rfl _ _ _) rfl ?_
  refine⟨rfl,?_⟩;rw[c.o];exact(H.a.trans E.o).alloc _
 | true=>
  have m:g=1:=by simpa using k
  cases early with
  | false=>
   have c:Hd (eN p g ⟨2,lo,hi,false,first,rank⟩=[2]++[if false=true then 1 else 0]):=by show _=_;simp[eN,hp,m]
   clear u X m;go_enter func205,ntmps205
   go_wp2_with (first
    |(go_at_call 85;refine(fR B b l 2 _ H.a.wr ah).mono ?_;rintro e T ⟨rfl,G⟩;have L:=G.box H.a.wr (aN w _ _).1 aj aj;have R:=G.box H.a.wr (aN w _ _).2 aj aj;obtain⟨F,y⟩:=ae L;obtain⟨f,o⟩:=ae R;have Q:=(bq.1 L).1;have z:=(bq.1 R).1;have E:=(show Hd _ from Aa G (Aa L R));clear G L R)
    |(go_at_call 203;refine(cg _ _ _).mono ?_;rw[k];rintro e S ⟨rfl,rfl⟩)
    |(go_at_call 136;refine(sV B b (l++[2]) false _ (E.a.wr.alloc _) (by simp only[bu,gL];omega)).mono ?_;rintro e t ⟨rfl,O⟩;obtain⟨x,q⟩:=ae (O.box (E.a.wr.alloc _) ((ch _ _ _ z).trans E.B) aj aj);have C:=(show Hd _ from O);clear O F y f o))
   go_end0
   refine⟨rfl,?_⟩;rw[c.o];have:=((H.a.trans E.a).alloc (df p g)).trans C.o
   rwa[dj]at this
  | true=>
   have j:0<=rank/\rank<=100000:=by rcases X with h|h;cases h;exact h.2.2
   have c:Hd (eN p g ⟨2,lo,hi,true,first,rank⟩=[2]++[if true=true then 1 else 0]++zp first++cO rank/\(cO rank).length<=10):=by
    refine⟨by simp[eN,hp,m],gB ah⟩
   clear u X m;go_enter func205,ntmps205
   go_wp2_with (first
    |(go_at_call 85;refine(fR B b l 2 _ H.a.wr ah).mono ?_;rintro e T ⟨rfl,G⟩;have L:=G.box H.a.wr (aN w _ _).1 aj aj;have R:=G.box H.a.wr (aN w _ _).2 aj aj;obtain⟨F,y⟩:=ae L;obtain⟨f,o⟩:=ae R;have Q:=(bq.1 L).1;have z:=(bq.1 R).1;have E:=(show Hd _ from Aa G (Aa L R));clear G L R)
    |(go_at_call 203;refine(cg _ _ _).mono ?_;rw[k];rintro e S ⟨rfl,rfl⟩)
    |(go_at_call 136;refine(sV B b (l++[2]) true _ (E.a.wr.alloc _) (by simp only[bu,gL];omega)).mono ?_;rintro e t ⟨rfl,O⟩;have R:=O.box (E.a.wr.alloc _) ((ch _ _ _ z).trans E.B) aj aj;obtain⟨x,q⟩:=ae R;have C:=(show Hd _ from Aa O R);clear O R F y f o)
    |(go_at_call 266;refine(qZ B b (l++[2]++[if true=true then 1 else 0]) first _ C.a.wr H.D (by have:=H.c;simp only[bu,gL];omega)).mono ?_;rintro e D ⟨rfl,Y⟩;obtain⟨d,i⟩:=ae (Y.box C.a.wr C.A aj aj);have s:=(show Hd _ from Y);clear Y x q)
    |(go_at_call 86;refine(gW B b (l++[2]++[if true=true then 1 else 0]++zp first) rank _ s.o.wr j.1 ah (by have:=H.c;have:=c.A;simp only[bu,gL];omega)).mono ?_;rintro e n ⟨rfl,K⟩;have I:=(show Hd _ from K);clear K))
   go_end0
   refine⟨rfl,?_⟩;rw[c.a];have:=((((H.a.trans E.a).alloc (df p g)).trans C.a).trans s.o).trans I.o
   simpa only[dj]using this
end
def uk{w w':World}{B e size n:Nat}{v:Value}{M:List Value}(h:w.ownsRow B e size v n M)(hb:Bl w w'):w'.ownsRow B e size v n M:=by
 refine⟨h.1,?_⟩;rcases h.2 with a|⟨g,C,A,G,O,Y,K⟩
 ·exact aJ a
 exact aI ⟨g,C,A,G,O,(hb.block g (bq.1 Y).1).trans Y,K⟩
end Go.Proofs.YtmipbiligijcpaaGreatDoor
