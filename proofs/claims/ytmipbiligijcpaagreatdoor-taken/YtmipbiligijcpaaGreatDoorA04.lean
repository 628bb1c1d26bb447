import Derived.Test.YtmipbiligijcpaaGreatDoorA03
import Derived.Lib.TrailingZeros
import Derived.RangeFuncNested
import Derived.RangeFuncBound
import Derived.Shelf.RegionOpen
import Derived.OwnWalkIn
import Derived.LoopNIn
import Derived.LoopIn
namespace Go.Proofs.YtmipbiligijcpaaGreatDoor
set_option linter.all false
set_option maxHeartbeats 4000000
set_option maxRecDepth 100000
open Go.RowKit Go.Shelf Go.Proofs Go.Maps
open Go.RowKit Go.Proofs Go.Maps Tryz
abbrev RS:=List (BS×List (Nat×Ef))
def Ht(R:RS):List (List Value×List (Nat×Value)):=R.map fun r=>(eG r.1,r.2.map fun e=>(e.1,u? e.2))
structure DB(R:RS)(N:Nat):Prop where
  len:R.length=N
  most:N<=60
  each:∀r∈R,bF r.1/\r.2.length<=200/\∀e∈r.2,DF e.2/\e.1<N
def nO(w:World)(B rb:Nat)(R:RS):Prop:=∃rl,Sys w B rb 2 393 404 rl/\rl.map (fun r=>(r.st,r.es))=Ht R
def nO.below{w w':World}{B rb:Nat}{R:RS}(h:nO w B rb R)(hb:Bl w w'):nO w' B rb R:=by
 obtain⟨rl,G,O⟩:=h;exact⟨rl,G.below hb,O⟩
def jU(R:RS)(held:Nat->BS)(n:Nat):BS:=match R[n]? with|some r=>XW r.1 r.2 held|none=>(0,0)
def cn(hs:List BS)(n:Nat):BS:=hs.getD n (0,0)
def eW{hs:List BS}(h:∀s∈hs,bF s)(n:Nat):bF (cn hs n):=by
 unfold cn;cases e:hs[n]? with
 |none=>rw[List.getD,e];exact⟨aj,aj⟩
 |some s=>rw[List.getD,e];exact h s (aL e)
def xE{R:RS}{N:Nat}(h:DB R N){held:Nat->BS}(T:∀n,bF (held n))(n:Nat):bF (jU R held n):=by
 unfold jU;cases e:R[n]? with
 |none=>exact(show bF (0,0)from⟨aj,aj⟩)
 |some r=>
  refine Py _ fun s z=>?_
  have:=h.each r (aL e);rcases cQ.1 z with rfl|z
  ·exact this.1
  obtain⟨x,E,rfl⟩:=bP.1 z;exact QH (this.2.2 x E).1 (T x.1)
def t?(rb B N n fk:Nat)(R:RS)(caps:Array Value)(held:Nat->BS)(w:World)(c:nO w B rb R)(b:DB R N)(hn:n<N)(a:∀m,bF (held m))(o:∀M w,(callFunc fk M).run Tryz.prog w=.ok (.enter fk M) w)
  (T:∀m,m<N->∀W,Bl w W->Cl fk (#[Iv m]++caps) W (Rb W (b! (held m)))):
  Cl 226 #[cK rb N,Iv n,.func (.func fk) #[] caps] w (Rb w (b! (jU R held n))):=by
 obtain⟨rl,G,O⟩:=c;have hl:rl.length=N:=by have:=dv List.length O;simp[Ht]at this;rw[this,b.len]
 obtain⟨r,L⟩:=La (l:=rl) (i:=n) ah;obtain⟨q,A⟩:=La (l:=R) (i:=n) (by rw[b.len];exact hn);have Y:=dv (fun l=>l[n]?) O;simp only[Ht,bG,L,A,kI,dG,fE]at Y;have d:=b.each q (aL A);have e:jU R held n=XW q.1 q.2 held:=by unfold jU;rw[A]
 rw[e];exact Mu rb B N n fk rl r q.1 q.2 caps held w G hl b.most L Y.1 d.1 Y.2 (fun e H=>⟨(d.2.2 e H).1,a e.1⟩) d.2.1 o (fun e H W U=>T e.1 (d.2.2 e H).2 W U)
def ND(q m:Nat)(a:Option Addr)(N c:Nat)(hs:List BS)(w:World)(hq:w.heap[q]?=some (.cells #[.slice a N c] 264 (0,0)))(hl:hs.length=N)(B:N<=60)(hm:m<N)(hS:ld w a hs):
  Cl 240 (xg m q) w (Rb w (b! (cn hs m))):=by
 have E:hs[m]?=some (cn hs m):=by unfold cn;rw[List.getD,bk ah];rfl
 obtain⟨b,o,rfl,P,Y⟩:=hS m _ E;have O:(m:Int)<N:=ah
 generalize cn hs m=z at *;obtain⟨F,y⟩:=ae hq;have D:=aC w eE;have t:=ax P D;have C:=ax Y D;have J:=blt hq;have p:q≠w.heap.size:=ah
 clear hS E hl hq P Y D;go_enter func240,ntmps240
 go_wp2_with fail
 refine aG (v:=b! z) (by simp[results,results240,go_sem,b!]) rfl ⟨rfl,?_⟩
 (repeat first|exact aM _ _|refine rM ?_ (by first|omega|(simp;omega)) _|refine uM ?_ (by first|omega|(simp;omega)|(simp;done)) _)
def Eh(R:RS)(hs:List BS)(N:Nat):Bool:=(List.range N).all fun n=>zS (eH (jU R (cn hs) n) (cn hs n))
def d!(f:Nat->Bool)(k:Nat):(List.range (k+1)).all f=((List.range k).all f&&f k):=by simp[kK]
def fS{f:Nat->Bool}{k n:Nat}(h:f k=false)(hk:k<n):(List.range n).all f=false:=by
 rw[uL];intro O;rw[bM]at O;have:=O k (by simpa using hk);rw[h]at this;cases this
def Hp(rb B N c:Nat)(a:Option Addr)(R:RS)(hs:List BS)(w:World)(hR:nO w B rb R)(hI:DB R N)(hl:hs.length=N)(hS:ld w a hs)(d:∀s∈hs,bF s):
  Cl 168 #[cK rb N,.slice a N c] w (Rb w (.bool (Eh R hs N))):=by
 have hN:=hI.most;have l:=hid (Aa hR (Aa hI (Aa hl (Aa hS d))));clear hR hI hl hS d;simp only[cK];go_enter func168,ntmps168
 go_upto_region 3 with(fail)
 generalize U:(w.alloc (.cells (bV rb N) 260)).alloc (.cells #[.slice a N c] 264)=H;have HB:Hd (Bl w H/\H.heap[w.heap.size]?=some (.cells (bV rb N) 260 (0,0))/\H.heap[w.heap.size+1]?=some (.cells #[.slice a N c] 264 (0,0))):=by
  subst U;exact⟨aX _ _ _,(aN _ _ _).1,(aN _ _ _).2⟩
 clear U;have oZ:=blt HB.B
 go_loopw[11] (fun p wr=>∃k:Nat,k<=N/\p=Iv k/\Hd (Eh R hs k=true/\Bl H wr)) (fun p _=>N-(intOf p).toNat)
 case atStart=>exact⟨0,bB _,rfl,rfl,aM _ _⟩
 obtain⟨k,X,rfl,M⟩:=hrel;have hsr:=M.A.size;have L:Bl w wr:=aq HB.a M.A;by_cases J:k<N;rotate_left
 ·have ig:¬(k:Int)<N:=ah
  have K:k=N:=ah
  go_wp2_with fail
  go_ret
  exact⟨by rw[<-K,M.a];rfl,L⟩
 have ig:(k:Int)<N:=ah
 have E:hs[k]?=some (cn hs k):=by unfold cn;rw[List.getD,bk (by rw[l.c];exact J)];rfl
 obtain⟨b,o,rfl,P,Y⟩:=l.d k _ E;have t:=ax P L;have d1:=ax Y L;obtain⟨y1,y2⟩:=ae (aE M.A HB.b);have f:=hid (Aa L E);obtain⟨ok,u⟩:=Ea (zS (eH (jU R (cn hs) k) (cn hs k)));have HN:Hd (ok=false->Eh R hs N=false):=fun h=>fS (k:=k) (u.symm.trans h) J
 have Z:Hd (ok=true->Eh R hs (k+1)=true):=fun h=>by
  have G:=M.a;unfold Eh at G⊢;rw[d!,G,<-u,h];rfl
 have O:=eW l.D k;have HP:Hd (∀W,Cl 296 #[b! (jU R (cn hs) k),b! (cn hs k)] W (Rb W (.bool ok))):=by rw[u];exact fun W=>ri _ _ W (xE l.b (eW l.D) k) O
 have HS:Hd (∀W,Bl wr W->Cl 226 #[cK rb N,Iv k,.func (.func 240) #[] #[.pointer (cM w.heap.size)]] W (Rb W (b! (jU R (cn hs) k)))):=by
  intro W U;have G:=aq f.a U;refine t? rb B N k _ R _ (cn hs) W (l.a.below G) l.b J (eW l.D) (fun xs w=>Tryz.call240 xs w) fun m hm r T=>?_
  exact ND (w.heap.size+1) m _ N c hs r (aE T (aE U (aE M.A HB.B))) l.c hN hm (fun j s hj=>by obtain⟨b,o,e,P,Y⟩:=l.d j s hj;exact⟨b,o,e,ax (ax P G) T,ax (ax Y G) T⟩)
 simp only[cK]at HS;generalize cn hs k=z at *;generalize jU R (cn hs) k=sa at *;clear E P Y L u O
 go_upto_region 5 with(fail)
 generalize g:wr.alloc (.cells #[Uv z.1,Uv z.2] 267)=V;have HV:Hd (Bl wr V/\V.heap[wr.heap.size]?=some (.cells #[Uv z.1,Uv z.2] 267 (0,0))/\V.heap[w.heap.size]?=some (.cells (bV rb N) 260 (0,0))):=by
  subst g;exact⟨aC _ _,bf _ _,aE (aC _ _) (aE M.A HB.b)⟩
 clear g t d1 y1 y2;obtain⟨F,y⟩:=ae HV.b;obtain⟨y1,y2⟩:=ae HV.B;have s1:V.cell? (Ad wr.heap.size 0)=some (Uv z.1):=by rw[F];rfl
 have s2:V.cell? (Ad wr.heap.size 1)=some (Uv z.2):=by rw[F];rfl
 have s3:V.cell? (Ad w.heap.size 0)=some (b? rb N):=by rw[y1];rfl
 have v:V.cell? (Ad w.heap.size 1)=some iz:=by rw[y1];rfl
 have s5:V.cell? (Ad w.heap.size 2)=some mI:=by rw[y1];rfl
 have n:=hid (Aa s1 (Aa s2 (Aa s3 (Aa v s5))));clear F y y1 y2;simp only[b!]at HS HP
 go_region_held3 (fun I=>I.cell? (Ad wr.heap.size 0)=some (Uv z.1)/\I.cell? (Ad wr.heap.size 1)=some (Uv z.2)/\I.cell? (Ad w.heap.size 0)=some (b? rb N)/\I.cell? (Ad w.heap.size 1)=some iz/\I.cell? (Ad w.heap.size 2)=some mI) (go_keep) ((first|(go_at_call 226;refine(HS.o _ (aq HV.a ay)).mono ?_;rintro e W1 ⟨rfl,A⟩;have L:Bl V W1:=aq ay A;have q:=hid L;have p0:=ax n.a L;have Q:=ax n.b L;have p2:=ax n.c L;have p3:=ax n.d L;have p4:=ax n.D L;clear A L)|(go_at_call 296;refine(HP.o _).mono ?_;rintro e r ⟨rfl,uz⟩;have L:Bl V r:=aq (aq q.o ay) uz;have C:=hid L;have g0:=ax n.a L;have g1:=ax n.b L;have g2:=ax n.c L;have S:=ax n.d L;have D:=ax n.D L;clear uz L)))
 all_goals
  cases ok
  ·go_wp2_with fail
   go_ret
   exact⟨by rw[HN.o (by trivial)];rfl,aq f.a (aq HV.a C.o)⟩
  go_wp2_with fail
  go_roundw
  case rel=>exact⟨k+1,J,h',Z.o (by trivial),aq M.A (aq HV.a C.o)⟩
  simp[intOf];omega
section
variable {α:Type} {k g t:Nat} {W:World} {l:List BS} {x:Nd}
open Go.RowKit Go.Proofs Go.Maps Tryz
def JZ(count:Int)(x:Nd):Bool:=match x.facts.getLast? with|some f=>decide (f<count)|none=>true
def jG{l:List α}{x:α}(f:α->Bool)(h:l[k]?=some x):(l.take (k+1)).all f=((l.take k).all f&&f x):=by
 have hl:=(bn.1 h).1;rw[dS hl,(bn.1 h).2];simp
def vp{l:List α}{x:α}(f:α->Bool)(h:l[k]?=some x)(hf:f x=false):l.all f=false:=by
 rw[uL];intro O;rw[bM]at O;have:=O x (aL h);rw[hf]at this;cases this
def Dx(na:Option Addr)(nc:Nat)(B:List Nd)(count:Int)(w:World)(h:cj w na B)(d:∀x∈B,gD x)(hn:B.length<=60):
  Cl 167 #[.slice na B.length nc,Iv count] w (Rb w (.bool (B.all (JZ count)))):=by
 have l:=hid (Aa h d);clear h d;go_enter func167,ntmps167
 go_wp2_with fail
 go_loopw[10] (fun p wr=>∃i:Nat,i<=B.length/\p=Iv i/\Hd ((B.take i).all (JZ count)=true/\Bl w wr)) (fun p _=>B.length-(intOf p).toNat)
 case atStart=>exact⟨0,bB _,rfl,rfl,aM _ _⟩
 obtain⟨i,hi,rfl,M⟩:=hrel;by_cases J:i<B.length;rotate_left
 ·have s:¬(i:Int)<(B.length:Int):=ah
  go_wp2_with fail
  go_ret
  exact⟨by have G:=M.a;rw[cP ah]at G;rw[G];rfl,M.A⟩
 have s:(i:Int)<(B.length:Int):=ah
 obtain⟨x,E⟩:=La J;obtain⟨b,o,fa,ra,va,fc,rc,vc,rfl,P,Y,c,X,k,u⟩:=l.a.below M.A i x E;have D:=(l.A x (aL E)).fsz;have n:=hid E;clear E;by_cases q:x.facts.length=0
 ·have R:Hd (JZ count x=true):=by show _=_;unfold JZ;rw[dM.1 q];rfl
  rw[q]at P
  go_wp2_with fail
  go_roundw
  case rel=>exact⟨i+1,J,h',by rw[jG _ n.o,M.a,R.o];rfl,M.A.alloc M.A.size _⟩
  simp[intOf];omega
 obtain⟨m,C⟩:∃m,x.facts.length=m+1:=⟨x.facts.length-1,ah⟩;obtain⟨f,V⟩:=La (l:=x.facts) (i:=m) ah;obtain⟨r,N,rfl,g⟩:=u.facts m f V;have a:=aC wr (.cells #[.slice (some (Ad r N)) x.facts.length fc,.slice ra x.aO.length rc,.bool x.reached,Iv x.rank,.slice va x.vals.length vc] 96);have j:=ax g a;have R:Hd (JZ count x=decide (f<count)):=by show _=_;unfold JZ;rw[Bv,C,Nat.add_sub_cancel,V]
 clear u g V a;rw[C]at P j;rw[C]at D;have O:(m:Int)<((m:Int)+1):=ah
 have t:wrap64 ((m:Int)+1-1)=m:=by unfold wrap64;omega
 by_cases Z:count<=f
 ·have Q:decide (f<count)=false:=by simp;omega
  go_wp2_with fail
  go_ret
  exact⟨by rw[vp _ n.o (R.o.trans Q)];rfl,M.A.alloc M.A.size _⟩
 have Q:decide (f<count)=true:=by simp;omega
 go_wp2_with fail
 go_roundw
 case rel=>exact⟨i+1,J,h',by rw[jG _ n.o,M.a,R.o,Q];rfl,M.A.alloc M.A.size _⟩
 simp[intOf];omega
def dX(z:Array Value)(m:Nat)(hm:z.size=m):∀n,(madeCells z (n*m)).toList=(List.replicate n z.toList).flatten
 |0=>by simp[madeCells]
 |n+1=>by
  have B:=dX z m hm n;simp only[madeCells,BD,BA]at B⊢;rw[rS,Nat.one_mul,wM,iq,B,List.replicate_succ',List.flatten_append]
  congr 1
  rw[kJ];simp only[l6,List.flatten_nil,gi];refine tP (by simp[hm]) fun i G O=>?_
  simp only[br,tS]at G;simp only[tO,G7,Function.comp,hm];rw[By n m,Nat.mul_add_mod,tL G];rw[getElem!_pos z i ah];simp
def LK(x:Nd):List Nat:=x.facts.map Int.toNat
def qM(x:Nd):BS:=cH (LK x)
def Og(l:List BS):(cG l).length=l.length*2:=by
 induction l with
 |nil=>rfl
 |cons a l B=>simp only[cG,bY,bu,bT]at B⊢;simp[eG]at B⊢;omega
theorem Bj:∀(l:List BS) (k:Nat) (s:BS),k<l.length->((cG l).set (k*2) (Uv s.1)).set (k*2+1) (Uv s.2)=cG (l.set k s)
 |[],k,s,h=>by simp at h
 |a :: l,0,s,h=>by simp[cG,eG]
 |a :: l,k+1,s,h=>by
  have:=Bj l k s (by simpa using h);simp only[cG,bY,eG,dw,dT,cU]at this⊢;rw[show(k+1)*2=k*2+1+1 by omega];simp only[cU];rw[this]
def wB{s:BS}(h:W.heap[g]?=some (.cells (cG l).toArray t (0,0)))(hk:k<l.length):((W.setCell (Ad g (k*2)) (Uv s.1)).setCell (Ad g (k*2+1)) (Uv s.2)).heap[g]?=some (.cells (cG (l.set k s)).toArray t (0,0)):=by
 rw[aw (aw h _) _]
 congr 2
 rw[cS,cS,Bj l k s hk]
def Oh(h:W.heap[g]?=some (.cells (cG l).toArray t (0,0)))(hk:k<l.length):∃u v,W.cell? (Ad g (k*2))=some u/\W.cell? (Ad g (k*2+1))=some v/\W.frozen? (Ad g (k*2))=false/\W.frozen? (Ad g (k*2+1))=false:=by
 obtain⟨F,y⟩:=ae h;have hl:=Og l;exact⟨(cG l)[k*2]'(ah),(cG l)[k*2+1]'(ah),by rw[F];simp,by rw[F];simp,y _,y _⟩
def Ge(h:W.heap[g]?=some (.cells (cG l).toArray t (0,0))):ld W (some (Ad g 0)) l:=by
 intro j s U;obtain⟨F,_⟩:=ae h;have:=tm l j s U;exact⟨g,0,rfl,by rw[F];simpa using this.1,by rw[F];simpa using this.2⟩
def Ek{f:Nd->α}{z:α}{B:List Nd}{i:Nat}(hx:B[i]?=some x):(((B.take i).map f)++List.replicate (B.length-i) z).set i (f x)=((B.take (i+1)).map f)++List.replicate (B.length-(i+1)) z:=by
 have hl:=(bn.1 hx).1;rw[ou _ _ (by simp;omega),dS hl,(bn.1 hx).2,br,dL,jW ah,jh,show B.length-i=(B.length-(i+1))+1 by omega,dN,dm];simp
def wq(n:Nat):(List.replicate n [Uv 0,Uv 0]).flatten=cG (List.replicate n (0,0)):=by
 induction n with
 |zero=>rfl
 |succ n B=>rw[dN,l6,B,dN];rfl
def e?{B n sz:Nat}{z:List Value}(h:W.ownsRow B t sz (b? g n) n z):W.heap[g]?=some (.cells z.toArray t (0,0))/\B<=g:=by
 rcases h.2 with⟨e,_⟩|⟨g,C,A,e,G,O,Y,_,H,E⟩
 ·simp at e
 simp at e;obtain⟨rfl,rfl⟩:=e;refine⟨?_,G⟩;rw[O]
 congr 2
 rw[cP (by simp[H])]at E;rw[<-E]
def Yb{w:World}{fa:Option Addr}(h:cz w fa x.facts)(h0:∀f∈x.facts,0<=f):cz w fa ((LK x).map Int.ofNat):=by
 have:(LK x).map Int.ofNat=x.facts:=by
  unfold LK;rw[kJ]
  conv=>rhs;rw[<-List.map_id x.facts]
  refine eM fun f V=>?_
  have:=h0 f V;simp only[Function.comp,id];exact G4 this
 rw[this];exact h
def P3(na:Option Addr)(nc:Nat)(B:List Nd)(w:World)(h:cj w na B)(hf:∀x∈B,∀f∈x.facts,0<=f/\f<128)(hl:∀x∈B,x.facts.length<=128)(hn:B.length<=60):
  Cl 169 #[.slice na B.length nc] w fun e I=>∃g,e=.returned (b? g B.length)/\ld I (some (Ad g 0)) (B.map qM)/\Bl w I:=by
 obtain⟨V,hi,D,O,K⟩:=cY pU;have y:Hd (_/\_/\_/\_):=⟨hi,D,O,K⟩;clear hi D O K;have l:=hid (Aa h (Aa hf hl));clear h hf hl;go_enter func169,ntmps169
 go_wp2_with (at_make;refine il _ rfl (.tmp 7) (.tmp 7) 264 rfl w.heap.size 267 V _ 2 underlying264 y.a y.b y.c .i64 .i64 B.length B.length B.length rfl rfl rfl rfl (by rw[y.C];omega) (by unfold maxLen;omega) ak ?_;intro T n Y;have j:=hid (Aa n Y);clear n Y)
 have H:Hd (T.heap[w.heap.size]?=some (.cells (cG (((B.take 0).map qM)++List.replicate (B.length-0) (0,0))).toArray 267 (0,0))/\Bl w T):=by
  have G:=j.a;rw[dX _ 2 (by simp[Value.cells]) B.length]at G;refine⟨?_,(aM _ _).grown j.A (aF _) (fun q e=>by cases e)⟩;rw[(e? G).1]
  congr 2
  rw[tI,List.map_nil,dT,wQ,<-wq];rfl
 clear j
 go_loopw[11] (fun p wr=>∃i:Nat,i<=B.length/\p=Iv i/\Hd (wr.heap[w.heap.size]?=some (.cells (cG (((B.take i).map qM)++List.replicate (B.length-i) (0,0))).toArray 267 (0,0))/\Bl w wr)) (fun p _=>B.length-(intOf p).toNat)
 case atStart=>exact⟨0,bB _,rfl,H.o⟩
 clear H;obtain⟨i,hi,rfl,M⟩:=hrel;by_cases J:i<B.length;rotate_left
 ·have s:¬(i:Int)<(B.length:Int):=ah
  go_wp2_with fail
  go_ret
  refine⟨w.heap.size,rfl,?_,M.A⟩;have:=Ge M.a;rw[cP ah,show B.length-i=0 by omega,w?,gi]at this;exact this
 have s:(i:Int)<(B.length:Int):=ah
 obtain⟨x,E⟩:=La J;obtain⟨b,o,fa,ra,va,fc,rc,vc,rfl,P,S,c,X,k,u⟩:=l.a.below M.A i x E;have hf:=l.b x (aL E);have hl:=l.B x (aL E);have j:Hd (∀W,Bl wr W->Cl 241 #[.slice fa x.facts.length fc] W (Rb W (b! (qM x)))):=by
  intro W U;have:=IL fa fc (LK x) W ((Yb u.facts fun f h=>(hf f h).1).below U) (fun f h=>by obtain⟨g,m,rfl⟩:=bP.1 h;have:=hf g m;omega) (by simp[LK];omega);rw[show(LK x).length=x.facts.length by simp[LK]]at this;exact this
 have F:=hid E;have r:=blt M.a;clear u hf E;obtain⟨z,R⟩:=Ea (qM x);rw[<-R]at j;have v:=hid R;clear R;have C:(((B.take i).map qM)++List.replicate (B.length-i) (0,0)).length=B.length:=by simp;omega
 simp only[b!]at j
 go_wp2_with (go_at_call 241;refine(j.o _ (aC _ _)).mono ?_;rintro e T ⟨rfl,A⟩;have L:=aq (aC _ _) A;have a:=aE L M.a;obtain⟨t,N,Q,k1,k2,Z⟩:=Oh a (k:=i) (by rw[C];exact J);have d:=hid (Aa L a);clear A L a)
 go_roundw
 case rel=>
  refine⟨i+1,J,h',?_,?_⟩
  ·have:=wB (s:=z) d.A (k:=i) (by rw[C];exact J)
   rw[v.o,Ek F.o,<-v.o]at this;exact this
  exact((aq M.A d.a).setCell (aF _) _).setCell (aF _) _
 simp[intOf];omega
end
section
variable {x:Nd} {k g t j i:Nat} {W:World}
open Go.RowKit Go.Proofs Go.Maps Tryz
def z70:Array Value:=#[Uv 0,Uv 0]++Array.replicate 68 (Iv 0)
def aax:(Tryz.prog.info? 354).map (fun i=>(i.zero,i.size,i.bytes))=some (some (.agg z70),70,560):=au
abbrev RK:=BS×List Int
def vU(r:RK):List Value:=eG r.1++r.2.map Iv
def gy(l:List RK):List Value:=l.flatMap vU
def iI{r:RK}(h:r.2.length=68):(vU r).length=70:=by simp[vU,eG,h]
def Eo:∀(l:List RK) (k:Nat) (r:RK) (j:Nat),(∀r∈l,r.2.length=68)->l[k]?=some r->j<70->(gy l)[k*70+j]?=(vU r)[j]?
 |[],k,r,j,_,h,_=>by simp at h
 |a :: l,0,r,j,C,h,hj=>by
  simp at h;subst h;simp only[gy,bY,gU,ct];rw[mE (by rw[iI (C a ak)];exact hj)]
 |a :: l,k+1,r,j,C,h,hj=>by
  have B:=Eo l k r j (fun x E=>C x (by simp[E])) (by simpa using h) hj;simp only[gy,bY]at B⊢;rw[fC (by rw[iI (C a ak)];omega),iI (C a ak),<-B]
  congr 1
  omega
def Ax:∀(l:List RK) (k:Nat) (r b:RK) (j:Nat) (v:Value),(∀r∈l,r.2.length=68)->l[k]?=some r->j<70->vU b=(vU r).set j v->(gy l).set (k*70+j) v=gy (l.set k b)
 |[],k,r,b,j,v,_,h,_,_=>by simp at h
 |a :: l,0,r,b,j,v,C,h,U,he=>by
  simp at h;subst h;simp only[gy,dm,bY,gU,ct];rw[DL _ _ (by rw[iI (C a ak)];exact U),he]
 |a :: l,k+1,r,b,j,v,C,h,U,he=>by
  have B:=Ax l k r b j v (fun x E=>C x (by simp[E])) (by simpa using h) U he;simp only[gy,cU,bY]at B⊢;rw[ou _ _ (by rw[iI (C a ak)];omega),iI (C a ak),<-B]
  congr 2
  omega
def VL(n:Nat):(List.replicate n z70.toList).flatten=gy (List.replicate n ((0,0),List.replicate 68 0)):=by
 induction n with
 |zero=>rfl
 |succ n B=>
  rw[dN,l6,B,dN];simp only[gy,bY]
  congr 1
def OD(l:List Int)(f:Int)(r:Int):List Int:=l.set f.toNat r
def Hu(x:Nd)(k:Nat):List Int:=((x.facts.zip x.aO).take k).foldl (fun l p=>OD l p.1 p.2) (List.replicate 68 0)
def nX(x:Nd):RK:=(qM x,Hu x x.facts.length)
def Uo(ps:List (Int×Int)):∀l:List Int,(ps.foldl (fun l p=>OD l p.1 p.2) l).length=l.length:=by
 induction ps with
 |nil=>intro l;rfl
 |cons p ps B=>intro l;rw[gx,B];simp[OD]
def iH(x:Nd)(k:Nat):(Hu x k).length=68:=by unfold Hu;rw[Uo];simp
def Qb{f r:Int}(hf:x.facts[k]?=some f)(hr:x.aO[k]?=some r):Hu x (k+1)=OD (Hu x k) f r:=by
 have R:(x.facts.zip x.aO)[k]?=some (f,r):=by rw[tQ];exact⟨hf,hr⟩
 have hl:=(bn.1 R).1;unfold Hu;rw[dS hl,(bn.1 R).2,wW];rfl
def xK{l:List RK}{r:RK}{v:Value}{r':RK}(hm:∀r∈l,r.2.length=68)(h:W.heap[g]?=some (.cells (gy l).toArray t (0,0)))(hk:l[k]?=some r)(hj:j<70)(he:vU r'=(vU r).set j v):(W.setCell (Ad g (k*70+j)) v).heap[g]?=some (.cells (gy (l.set k r')).toArray t (0,0)):=by
 rw[aw h _]
 congr 2
 rw[cS,Ax l k r r' j v hm hk hj he]
def sh{l:List RK}{r:RK}(hm:∀r∈l,r.2.length=68)(h:W.heap[g]?=some (.cells (gy l).toArray t (0,0)))(hk:l[k]?=some r)(hj:j<70):W.cell? (Ad g (k*70+j))=(vU r)[j]?/\W.frozen? (Ad g (k*70+j))=false:=by
 obtain⟨F,y⟩:=ae h;exact⟨by rw[F,de,Eo l k r j hm hk hj],y _⟩
def xC{α:Type}{P:α->Prop}{l:List α}{x:α}(h:∀y∈l,P y)(hx:P x):∀y∈l.set k x,P y:=by
 intro y T;rcases gN T with T|rfl
 ·exact h y T
 exact hx
def Hw(ns:List Nd)(i:Nat):List RK:=((ns.take i).map nX)++List.replicate (ns.length-i) ((0,0),List.replicate 68 0)
def xL(B:List Nd)(i:Nat):∀r∈Hw B i,r.2.length=68:=by
 intro r L;rcases jH.1 L with h|h
 ·obtain⟨x,_,rfl⟩:=bP.1 h;exact iH _ _
 rw[ji h];simp
def KI(B:List Nd)(h:i<=B.length):(Hw B i).length=B.length:=by simp[Hw];omega
def Hv(B:List Nd)(h:i<B.length):(Hw B i)[i]?=some ((0,0),List.replicate 68 0):=by
 unfold Hw;rw[fC (by simp;omega),br,dL,jW ah,jh,show B.length-i=(B.length-i-1)+1 by omega];rfl
def Qd{B:List Nd}(hx:B[i]?=some x):(Hw B i).set i (nX x)=Hw B (i+1):=Ek hx
def Ij(na:Option Addr)(nc:Nat)(B:List Nd)(w:World)(h:cj w na B)(hf:∀x∈B,∀f∈x.facts,0<=f/\f<68)(hl:∀x∈B,x.facts.length<=128/\x.aO.length=x.facts.length)(hn:B.length<=60):
  Cl 242 #[.slice na B.length nc] w fun e I=>∃g,e=.returned (b? g B.length)/\I.heap[g]?=some (.cells (gy (B.map nX)).toArray 354 (0,0))/\Below w.heap.size w I:=by
 obtain⟨i1,hi,D,O,K⟩:=cY aax;have HI:Hd (_/\_/\_/\_):=⟨hi,D,O,K⟩;clear hi D O K;have l:=hid (Aa h (Aa hf hl));clear h hf hl;go_enter func242,ntmps242
 go_wp2_with (at_make;refine il _ rfl (.tmp 9) (.tmp 9) 351 rfl w.heap.size 354 i1 _ 70 underlying351 HI.a HI.b HI.c .i64 .i64 B.length B.length B.length rfl rfl rfl rfl (by rw[HI.C];omega) (by unfold maxLen;omega) ak ?_;intro T n Y;have HO:=hid (Aa n Y);clear n Y)
 have HM:Hd (T.heap[w.heap.size]?=some (.cells (gy (Hw B 0)).toArray 354 (0,0))/\Below w.heap.size w T):=by
  have h1:=HO.a;rw[dX _ 70 (by simp[Value.cells,z70]) B.length]at h1;refine⟨?_,(aM _ _).grown HO.A (aF _) (fun q e=>by cases e)⟩;rw[(e? h1).1]
  congr 2
  unfold Hw;rw[tI,List.map_nil,dT,wQ,<-VL];rfl
 clear HO
 go_loopw[13] (fun p wr=>∃i:Nat,i<=B.length/\p=Iv i/\Hd (wr.heap[w.heap.size]?=some (.cells (gy (Hw B i)).toArray 354 (0,0))/\Below w.heap.size w wr)) (fun p _=>B.length-(intOf p).toNat)
 case atStart=>exact⟨0,bB _,rfl,HM.o⟩
 clear HM;obtain⟨i,hi,rfl,M⟩:=hrel;by_cases J:i<B.length;rotate_left
 ·have s:¬(i:Int)<(B.length:Int):=ah
  go_wp2_with fail
  go_ret
  refine⟨w.heap.size,rfl,?_,M.A⟩;have:=M.a;unfold Hw at this;rw[cP ah,show B.length-i=0 by omega,w?,gi]at this;exact this
 have s:(i:Int)<(B.length:Int):=ah
 obtain⟨x,E⟩:=La J;obtain⟨b,o,fa,ra,va,fc,rc,vc,rfl,t,C,d2,d3,m,c5⟩:=l.a i x E;have P:=ax t M.A;have c1:=ax C M.A;have c:=ax d2 M.A;have X:=ax d3 M.A;have k:=ax m M.A;clear t C d2 d3 m;have hf:=l.b x (aL E);have hl:=l.B x (aL E);have HO:Hd (∀W,Bl wr W->Cl 241 #[.slice fa x.facts.length fc] W (Rb W (b! (qM x)))):=by
  intro W U;have:=IL fa fc (LK x) W ((Yb c5.facts fun f h=>(hf f h).1).below (aq M.A U)) (fun f h=>by obtain⟨g,hg,rfl⟩:=bP.1 h;have:=hf g hg;omega) (by simp[LK];omega);rw[show(LK x).length=x.facts.length by simp[LK]]at this;exact this
 have HX:=hid (Aa E (Aa c5 (Aa hf hl)));have hlr:=blt M.a;have Jn:=hl.1;clear c5 hf E hl;obtain⟨z,R⟩:=Ea (qM x);rw[<-R]at HO;have HZ:=hid R;clear R;simp only[b!]at HO
 go_upto_region 6 with(go_at_call 241;refine(HO.o _ (aC _ _)).mono ?_;rintro e T ⟨rfl,A⟩;have L:=aq (aC wr (.cells #[.slice fa x.facts.length fc,.slice ra x.aO.length rc,.bool x.reached,Iv x.rank,.slice va x.vals.length vc] 96)) A;have NQ:=aE L M.a;have hbn:=aE A (bf wr (.cells #[.slice fa x.facts.length fc,.slice ra x.aO.length rc,.bool x.reached,Iv x.rank,.slice va x.vals.length vc] 96));have H:=sh (j:=0) (xL B i) NQ (Hv B J) ah;have k1:=sh (j:=1) (xL B i) NQ (Hv B J) ah;simp only[z!,vU,eG,dw,List.getElem?_cons_zero,ox]at H k1;have d:=hid (Aa L (Aa NQ hbn));clear A L NQ hbn)
 have HV:Hd (Below w.heap.size w ((T.setCell (Ad w.heap.size (i*70)) (Uv z.1)).setCell (Ad w.heap.size (i*70+1)) (Uv z.2))/\((T.setCell (Ad w.heap.size (i*70)) (Uv z.1)).setCell (Ad w.heap.size (i*70+1)) (Uv z.2)).heap[w.heap.size]?=some (.cells (gy ((Hw B i).set i (z,Hu x 0))).toArray 354 (0,0))/\((T.setCell (Ad w.heap.size (i*70)) (Uv z.1)).setCell (Ad w.heap.size (i*70+1)) (Uv z.2)).heap[wr.heap.size]?=some (.cells #[.slice fa x.facts.length fc,.slice ra x.aO.length rc,.bool x.reached,Iv x.rank,.slice va x.vals.length vc] 96 (0,0))):=by
  refine⟨((aq M.A d.a).setCell (aF _) _).setCell (aF _) _,?_,?_⟩
  ·have Q:=xK (j:=0) (v:=Uv z.1) (r':=((z.1,0),List.replicate 68 0)) (xL B i) d.b (Hv B J) ah (by simp[vU,eG])
   rw[z!]at Q;have e2:=xK (j:=1) (v:=Uv z.2) (r:=((z.1,0),List.replicate 68 0)) (r':=(z,List.replicate 68 0)) (xC (xL B i) ak) Q (by rw[eQ,aD rfl,aD (by rw[KI B hi];exact J)]) ah (by simp[vU,eG]);rw[w!]at e2;exact e2
  rw[aZ _ _ _ _ (by show wr.heap.size≠w.heap.size;omega),aZ _ _ _ _ (by show wr.heap.size≠w.heap.size;omega)];exact d.B
 clear H k1 d;generalize(T.setCell (Ad w.heap.size (i*70)) (Uv z.1)).setCell (Ad w.heap.size (i*70+1)) (Uv z.2)=V at HV;obtain⟨F,y⟩:=ae HV.B
 go_wp2_with fail
 clear F y
 go_loopw[28] (fun jv wi=>∃j:Nat,j<=x.facts.length/\jv=Iv j/\Hd (Below w.heap.size w wi/\wi.heap[w.heap.size]?=some (.cells (gy ((Hw B i).set i (z,Hu x j))).toArray 354 (0,0))/\wi.heap[wr.heap.size]?=some (.cells #[.slice fa x.facts.length fc,.slice ra x.aO.length rc,.bool x.reached,Iv x.rank,.slice va x.vals.length vc] 96 (0,0)))) (fun jv _=>x.facts.length-(intOf jv).toNat)
 case atStart=>exact⟨0,bB _,rfl,HV.o⟩
 clear HV
 rename World=>wi
 obtain⟨j,hj,rfl,G⟩:=hrel;by_cases v:j<x.facts.length;rotate_left
 ·have Ry:¬(j:Int)<(x.facts.length:Int):=ah
  go_wp2_with fail
  go_roundw
  case rel=>
   refine⟨i+1,J,h',?_,G.a⟩;have:=G.b;rw[show j=x.facts.length by omega,HZ.o]at this;rw[<-Qd HX.a];exact this
  simp[intOf];omega
 have Ry:(j:Int)<(x.facts.length:Int):=ah
 have ae9:x.aO.length=x.facts.length:=HX.D;obtain⟨f,hf⟩:=La v;obtain⟨r,hr⟩:=La (l:=x.aO) (i:=j) ah;obtain⟨hf0,hf1⟩:=HX.c f (aL hf);obtain⟨fn,rfl⟩:∃fn:Nat,f=fn:=⟨f.toNat,ah⟩;have hfi:(fn:Int)<68:=ah
 have HN5:Hd (rJ wi fa ra va fc rc vc x):=HX.b.below G.a;obtain⟨b2,N,rfl,cf⟩:=HN5.o.facts j _ hf;obtain⟨S,o3,rfl,cr⟩:=HN5.o.aO j _ hr;obtain⟨F,y⟩:=ae G.B;have a:((Hw B i).set i (z,Hu x j))[i]?=some (z,Hu x j):=by rw[eQ,aD rfl,aD (by rw[KI B hi];exact J)]
 have Z:=xC (x:=(z,Hu x j)) (k:=i) (xL B i) (iH x j);obtain⟨u,hu⟩:=La (l:=(vU (z,Hu x j))) (i:=2+fn) (by rw[iI (iH x j)];omega);have H:=sh (j:=2+fn) Z G.b a ah;rw[hu]at H;have k1:i*70+(2+fn)=i*70+2+fn:=ah
 rw[k1]at H;have hlw:=blt G.b;have hlx:=blt G.B;have nn:wr.heap.size≠w.heap.size:=ah
 have HS:Hd (Below w.heap.size w (wi.drew.setCell (Ad w.heap.size (i*70+2+fn)) (Iv r))/\(wi.drew.setCell (Ad w.heap.size (i*70+2+fn)) (Iv r)).heap[w.heap.size]?=some (.cells (gy ((Hw B i).set i (z,Hu x (j+1)))).toArray 354 (0,0))/\(wi.drew.setCell (Ad w.heap.size (i*70+2+fn)) (Iv r)).heap[wr.heap.size]?=some (.cells #[.slice (some (Ad b2 N)) x.facts.length fc,.slice (some (Ad S o3)) x.aO.length rc,.bool x.reached,Iv x.rank,.slice va x.vals.length vc] 96 (0,0))):=by
  refine⟨G.a.drew.setCell (aF _) _,?_,?_⟩;rotate_left
  ·rw[aZ _ _ _ _ nn];exact G.B
  have e:=xK (j:=2+fn) (v:=Iv r) (r':=(z,Hu x (j+1))) Z (W:=wi.drew) G.b a ah (by
   rw[Qb hf hr];simp only[vU,OD,Int.toNat_natCast]
   rw[ou _ _ (by simp[eG]),show 2+fn-(eG z).length=fn by simp[eG],tT])
  rw[k1,w!]at e;exact e
 clear hf hr a Z hu k1 HN5
 go_wp2_with fail
 go_region
 all_goals
  go_wp2_with fail
  go_roundw
  case rel=>exact⟨j+1,v,h',HS.o⟩
  simp[intOf];omega
end
open Go.RowKit Go.Proofs Go.Maps Tryz
def kB(w:World):Prop:=∀j,j<64->w.cell? (Ad 0 j)=some (.int .u8 ((Lib.deBruijn64tab.getD j 0:Nat):Int))
def kB.below{w w':World}(h:kB w)(hb:Bl w w'):kB w':=fun j U=>ax (h j U) hb
def Zp(x a:Nat)(hx:x<18446744073709551616)(g:x≠0)(j:x&&&(18446744073709551616-x)=a):
  IntKind.u64.wrap (bits BinOp.and IntKind.u64 (x:Int) (IntKind.u64.wrap (-(x:Int)))*285870213051353865) / 288230376151711744=((a*285870213051353865 % 18446744073709551616 / 288230376151711744:Nat):Int):=by
 have Q:IntKind.u64.wrap (-(x:Int))=((18446744073709551616-x:Nat):Int):=by rw[wP];omega
 rw[Q,bits_and_u64_nat x _ hx ah,j,wP];omega
def Ua(x k a:Nat)(w:World)(g:((x:Int)==0)=false)
  (key:IntKind.u64.wrap (bits BinOp.and IntKind.u64 (x:Int) (IntKind.u64.wrap (-(x:Int)))*285870213051353865) / 288230376151711744=(a:Int))
  (hi:a<64) (hk:k<64) (T:w.cell? (Ad 0 a)=some (.int .u8 (k:Int))):
  Cl 228 #[Uv x] w fun e I=>e=.returned (Iv k)/\I=w:=by
 go_enter func228,ntmps228
 go_wp2_with (simp only[key])
 go_ret
 exact⟨rfl,rfl⟩
def Zq(x:Nat)(w:World)(hx:x<18446744073709551616)(g:x≠0)(J:kB w):
  Cl 228 #[Uv x] w fun e I=>e=.returned (Iv ((Lib.ctz 64 x:Nat):Int))/\I=w:=by
 obtain⟨j,X⟩:=Lib.lowest_bit 64 x g hx;obtain⟨hi,a⟩:=Lib.deBruijn64_at _ X;have T:=J _ hi;rw[a]at T;exact Ua x _ _ w (by rw[er];omega) (Zp x _ hx g j) hi X T
theorem Ff(x:Nat)(hx:x<18446744073709551616)(g:x≠0):Lib.ctz 64 x<64/\x.testBit (Lib.ctz 64 x)=true/\(∀i,i<Lib.ctz 64 x->x.testBit i=false)/\∀i,(x&&&(x-1)).testBit i=(x.testBit i&&decide (i≠Lib.ctz 64 x)):=by
 obtain⟨m,C,X⟩:=Lib.ctzFrom_spec 64 x ah hx;have e:Lib.ctz 64 x=Lib.ctzFrom 64 x:=by simp[Lib.ctz,g]
 rw[e];generalize Lib.ctzFrom 64 x=k at C X;have K:0<2 ^ k:=Nat.pow_pos ah;have u:∀i,x.testBit i=(decide (k<=i)&&(2*m+1).testBit (i-k)):=by
  intro i;rw[C,By,Nat.testBit_mul_two_pow]
 have hd:(x-1) / 2 ^ k=2*m:=by
  have:x-1=2 ^ k*(2*m)+(2 ^ k-1):=by
   rw[C,Nat.mul_add,BK];omega
  rw[this,Nat.mul_add_div K,Nat.div_eq_of_lt ah];omega
 refine⟨X,?_,?_,?_⟩
 ·rw[u];simp
 ·intro i hi
  rw[u];simp;omega
 intro i;rw[Nat.testBit_and];by_cases G:i<k
 ·rw[u,show decide (k<=i)=false by simp;omega];simp
 have O:(x-1).testBit i=(2*m).testBit (i-k):=by
  rw[<-hd,Nat.testBit_div_two_pow]
  congr 1
  omega
 rw[O];by_cases Y:i=k
 ·subst Y
  simp
 obtain⟨j,U⟩:∃j,i-k=j+1:=⟨i-k-1,by omega⟩;rw[u,U,Nat.testBit_succ,Nat.testBit_succ,show(2*m+1) / 2=m by omega,show 2*m / 2=m by omega];cases a:m.testBit j<;>simp[Y]
def m?(x base:Nat):List Nat:=((List.range 64).filter x.testBit).map (base+·)
def Jy{p:Nat->Bool}{k n:Nat}(hk:k<n)(h1:p k=true)(h2:∀i,i<k->p i=false):(List.range n).filter p=k :: (List.range n).filter fun i=>p i&&decide (i≠k):=by
 have e:List.range n=List.range k++(k :: (List.range (n-k-1)).map (fun j=>k+1+j)):=by
  rw[show n=k+(1+(n-k-1))by omega,wM,wM];simp[kK,lA]
 have u:∀q:Nat->Bool,(∀i,i<k->q i=false)->(List.range k).filter q=[]:=by
  intro q A;rw[G?];intro a y;rw[bZ]at y;rw[A a y];simp
 rw[e,GX,GX,u p h2,u (fun i=>p i&&decide (i≠k)) (fun i hi=>by rw[h2 i hi];rfl),dT,dT,tV,tV,h1];simp only[dx,ne_eq,not_true_eq_false,decide_false,BG,bN,bR]
 congr 1
 refine GV ?_;intro a y;simp only[bP,bZ]at y;obtain⟨j,_,rfl⟩:=y;simp;intro _;omega
def JQ(x F:Nat)(hx:x<18446744073709551616)(g:x≠0):m? x F=(F+Lib.ctz 64 x) :: m? (x&&&(x-1)) F:=by
 obtain⟨o,G,O,Y⟩:=Ff x hx g;unfold m?;rw[Jy o G O,kL]
 congr 2
 refine GV fun i _=>(Y i).symm
def rI(F:Nat):m? 0 F=[]:=by
 unfold m?;rw[G?.2 (by intro a _;simp)];rfl
def c8(s:BS):List Nat:=m? s.1 0++m? s.2 64
def cA(s:BS)(hs:bF s)(f:Nat):f∈c8 s↔f<128/\bt s f=true:=by
 unfold c8 m? bt;rw[jH,bP,bP];constructor
 ·rintro(⟨a,y,rfl⟩|⟨a,y,rfl⟩)<;>rw[GU,bZ]at y
  ·rw[aD ah,ct];exact⟨ah,y.2⟩
  rw[aA ah,G9];exact⟨ah,y.2⟩
 rintro⟨G,O⟩;by_cases h:f<64
 ·rw[aD h]at O
  exact aJ ⟨f,by rw[GU,bZ];exact⟨h,O⟩,ah⟩
 rw[aA h]at O;exact aI ⟨f-64,by rw[GU,bZ];exact⟨ah,O⟩,ah⟩
def uC(s:BS):c8 s=(List.range 128).filter (bt s):=by
 unfold c8 m?;rw[show(128:Nat)=64+64 from rfl,wM,GX,List.filter_map]
 congr 1
 simp only[ct,List.map_id'];refine GV fun i hi=>?_
 rw[bZ]at hi;unfold bt;rw[aD hi]
def nJ(s:BS):(c8 s).length<=128:=by
 rw[uC];exact bw (List.length_filter_le _ _) ak
section
open Go.RowKit Go.Shelf Go.Proofs Go.Maps Tryz
attribute [local go_sem] Oper.semAt_some
def tr(s:BS)(w:World):
  Cl 154 #[b! s] w fun e I=>e=.returned (.func (.func 227) #[] (bE w.heap.size))/\I=w.alloc (lB s.1 s.2):=by
 simp only[b!];go_enter func154,ntmps154
 go_wp2_with fail
 go_ret
 exact⟨rfl,rfl⟩
def kB.keeps{b:Nat}{w w':World}(h:kB w)(m:0<b)(hb:Below b w w'):kB w':=fun j U=>(hb.cell (p:=(Ad 0 j)) m).trans (h j U)
abbrev j!(s:BS):={f:Nat // f∈c8 s}
def Zm(s:BS)(k:Nat):Nat:=if k=0 then s.1 else s.2
def XX(s:BS)(k:Nat):List Nat:=if k=0 then c8 s else if k=1 then m? s.2 64 else[]
def Jh(s:BS)(k:Nat)(hk:k<2)(w:World):(Instr.index 267 (kM s.1 s.2) (Iv k)).run Tryz.prog w=.ok (Uv ((Zm s k:Nat):Int)) w:=by
 match k,hk with
 |0,_=>exact rm _ _ w
 |1,_=>exact rj _ _ w
def P8(s:BS)(k:Nat)(hk:k<2):XX s k=m? (Zm s k) (k*64)++XX s (k+1):=by
 match k,hk with
 |0,_=>simp[XX,Zm,c8]
 |1,_=>simp[XX,Zm]
def k!(n:Nat)(hn:1<=n)(s:BS)(B b:Nat)(w:World)(hs:bF s)(c0:w.cell? (Ad B 0)=some (Uv s.1))(c1:w.cell? (Ad B 1)=some (Uv s.2))(hT:kB w)(m:0<b)(E:b<=w.heap.size):
  SeqStopsK Fence.wide n Tryz.prog 227 (bE B) (fun x:j! s=>#[Iv x.1]) (Below b) (fun xs=>xs.map Subtype.val=c8 s) (fun pre=>pre.map Subtype.val <+: c8 s) (c8 s).length w:=by
 intro l J Jx W U z hJx p o;have t:=ax c0 U;have C:=ax c1 U;have HT:Hd (kB W):=hT.below U;clear c0 c1 hT;refine callsIn_of_wp func227 rfl trivial ?_ rfl;simp only[ntmps227,kd,bT,eI,Nat.reduceAdd,Nat.reduceSub,rQ,rP,rO,rN,dT,dw]
 gi_wp2
 gi_loopw[6] (fun i wr=>∃(k:Nat) (pre:List (j! s)),k<=2/\i=Iv k/\Hd (pre.map Subtype.val++XX s k=c8 s)/\Hd (J pre wr/\Below b W wr)) (fun i _=>2-(intOf i).toNat)
 case atStart=>exact⟨0,[],ah,rfl,rfl,o,aM _ _⟩
 obtain⟨k,pre,X,rfl,HP,G⟩:=hrel;by_cases v?:k<2;rotate_left
 ·have ig:¬(k:Int)<2:=ah
  have V:k=2:=ah
  subst V
  gi_wp2
  go_end0
  refine⟨⟨_,rfl⟩,.inl ⟨pre,?_,G.a⟩⟩;have:=HP.o;rw[show XX s 2=[] from rfl,gi]at this;exact this
 have ig:(k:Int)<2:=ah
 have Y:=fun w=>Jh s k v? w
 have O:Zm s k<18446744073709551616:=by unfold Zm;split;(· exact hs.lo);exact hs.hi
 obtain⟨y,g⟩:=Ea (Zm s k);rw[<-g]at Y O;have f:=(show Hd _ from g);clear g
 gi_wp2
 gi_loopw[4] (fun L F=>∃(x:Nat) (pr:List (j! s)),x<18446744073709551616/\L=Uv x/\Hd (pr.map Subtype.val++(m? x (k*64)++XX s (k+1))=c8 s)/\Hd (J pr F/\Below b W F)) (fun L _=>(intOf L).toNat)
 case atStart=>exact⟨y,pre,O,rfl,by show _=_;rw[f.o,<-P8 s k v?];exact HP.o,G.o⟩
 obtain⟨x,pr,Q,rfl,K,M⟩:=hrel;by_cases R:x=0
 ·have hzb:((x:Int) !=0)=false:=by simp[R]
  gi_wp2
  go_roundw
  case rel=>exact⟨k+1,pr,ah,h',by have:=K.o;rw[R,rI,dT]at this;exact this,M.o⟩
  simp[intOf];omega
 have hzb:((x:Int) !=0)=true:=by simp;omega
 have v:=JQ x (k*64) Q R;obtain⟨A,_,_,_⟩:=Ff x Q R;obtain⟨c,Z⟩:=Ea (Lib.ctz 64 x);have HTz:Hd (∀W,kB W->Cl 228 #[Uv x] W fun e I=>e=.returned (Iv c)/\I=W):=by rw[Z];exact fun W hT=>Zq x W Q R hT
 rw[<-Z]at v A;have q:k*64+c∈c8 s:=by
  have:=K.o;rw[v]at this;rw[<-this];simp
 have d:pr.length<(c8 s).length:=by
  have:=dv List.length K.o;rw[v]at this;simp at this;omega
 obtain⟨fn,S,u,D,T,hR⟩:=p pr ⟨k*64+c,q⟩ wr M.a d;have N:(Instr.yield l #[Iv ((k:Int)*64+(c:Int))]).run Tryz.prog wr=.ok (.round l fn S u D) wr:=by
  have e:(((k*64+c:Nat):Int))=(k:Int)*64+(c:Int):=ah
  rw[<-e];exact T
 have r:IntKind.u64.wrap ((x:Int)-1)=((x-1:Nat):Int):=by rw[wP];omega
 have hand:=bits_and_u64_nat x (x-1) Q ah;have HTx:Hd (kB wr):=HT.o.keeps m M.A;have a:Hd ((pr++[(⟨k*64+c,q⟩:j! s)]).map Subtype.val++(m? (x&&&(x-1)) (k*64)++XX s (k+1))=c8 s):=by
  show _=_;have:=K.o;rw[v]at this;rw[iq,O5,dj,List.singleton_append,<-dw];exact this
 clear v Z T
 gi_wp2_with (refine⟨trivial,?_⟩;gi_at_call 228;refine(fX.2 (HTz.o _ HTx.o)).mono ?_;rintro e I ⟨rfl,rfl⟩)
 refine hR.mono ?_;rintro e h (⟨rfl,P,j⟩|⟨rfl,H⟩)
 ·gi_wp2
  go_roundw
  case rel=>exact⟨x&&&(x-1),pr++[(⟨k*64+c,q⟩:j! s)],G6 Nat.and_le_left Q,rfl,a,P,M.A.trans j⟩
  have:x&&&(x-1)<=x-1:=Nat.and_le_right;simp[intOf];omega
 gi_wp2
 refine aG (BM rfl _ _ _) rfl ?_;refine⟨⟨_,rfl⟩,.inr ⟨pr++[⟨k*64+c,q⟩],?_,H⟩⟩;exact⟨_,a.o⟩
end
section
open Go.RowKit Go.Shelf Go.Proofs Go.Maps Tryz
attribute [local go_sem] Oper.semAt_some
def As{α:Type}{P:List α->Prop}(h0:P [])(h1:∀l a,P l->P (l++[a]))(l:List α):P l:=by
 have:∀r:List α,P r.reverse:=by
  intro r
  induction r with
  |nil=>exact h0
  |cons a r B=>rw[List.reverse_cons];exact h1 _ _ B
 have:=this l.reverse
 rwa[List.reverse_reverse]at this
def qj(r:RK)(rank:Int)(fs:List Nat):BS:=fs.foldl (fun s f=>if r.2.getD f 0<rank then eP s (cH [f]) else s) (0,0)
def uu(r:RK)(rank:Int):BS:=qj r rank (c8 r.1)
def uv(r:RK)(rank:Int)(fs:List Nat)(f:Nat):qj r rank (fs++[f])=if r.2.getD f 0<rank then eP (qj r rank fs) (cH [f]) else qj r rank fs:=by simp[qj]
def Li(r:RK)(rank:Int):∀(fs:List Nat),(∀f∈fs,f<128)->bF (qj r rank fs):=by
 intro fs;refine As (P:=fun fs=>(∀f∈fs,f<128)->bF (qj r rank fs)) ?_ ?_ fs
 ·intro _;exact(show bF (0,0)from⟨aj,aj⟩)
 intro l f B h;rw[uv];have G:=B fun x E=>h x (by simp[E])
 split
 ·exact gp G (gQ _ fun g m=>by rw[ja.1 m];exact h f ak)
 exact G
def pX{s:BS}(pre:List (j! s)):List Nat:=pre.map Subtype.val
def mY{s:BS}(pre:List (j! s))(x:j! s):pX (pre++[x])=pX pre++[x.1]:=by simp[pX]
def kY{β:Type}{B k:Nat}(o:β->Obj)(hk:k<B):OwnFrom B fun(s:β) W=>W.heap[k]?=some (o s):=fun s W i row z m L=>(m.block k (blt z) (fun e=>by have:=(L k e.symm).1;omega)).trans z
def du{W W':World}(h:Bl W W'):KeepsOthers W W':=⟨h.size,fun k o X _=>(h.block k (blt X)).trans X⟩
def abH(w:World)(v N d s a:Obj):(((((w.alloc v).alloc N).alloc d).alloc s).alloc a).heap[w.heap.size]?=some v/\(((((w.alloc v).alloc N).alloc d).alloc s).alloc a).heap[w.heap.size+1]?=some N/\(((((w.alloc v).alloc N).alloc d).alloc s).alloc a).heap[w.heap.size+1+1]?=some d/\(((((w.alloc v).alloc N).alloc d).alloc s).alloc a).heap[w.heap.size+1+1+1]?=some s/\(((((w.alloc v).alloc N).alloc d).alloc s).alloc a).heap[w.heap.size+1+1+1+1]?=some a:=by
 obtain⟨G,O,Y,K⟩:=qf w v N d s;have z:((((w.alloc v).alloc N).alloc d).alloc s).heap.size=w.heap.size+1+1+1+1:=ak
 have H:=bf ((((w.alloc v).alloc N).alloc d).alloc s) a;rw[z]at H;refine⟨?_,?_,?_,?_,H⟩
 all_goals(rw[ch _ _ _ (by rw[z];omega)];assumption)
def Qa(r:RK)(rank:Int)(w:World)(tF:bF r.1)(hlen:r.2.length=68)(hfs:∀f∈c8 r.1,f<68)(J:kB w):
  Cl 244 #[.agg (vU r).toArray,Iv rank] w (Rb w (b! (uu r rank))):=by
 refine(fX (n:=6)).1 ?_;refine callsIn_of_wp_marks func244 rfl trivial ?_ rfl;simp only[ntmps244,kd,bT,eI,Nat.reduceAdd,Nat.reduceSub,rQ,rP,rO,rN,dT,dw];obtain⟨⟨s1,s2⟩,rs⟩:=r;simp only[vU,eG,dw,dT]at *
 gi_wp2_with (refine⟨trivial,?_⟩;gi_at_call 154;refine(fX.2 (tr (s1,s2) _)).mono ?_;rintro e I ⟨rfl,rfl⟩)
 generalize U:((((w.alloc (.cells (Uv s1 :: Uv s2 :: rs.map Iv).toArray 354)).alloc (.cells #[Iv rank] 3)).alloc eE).alloc eE).alloc (lB s1 s2)=H;have HW:Hd (Bl w H/\H.heap[w.heap.size]?=some (.cells (Uv s1 :: Uv s2 :: rs.map Iv).toArray 354 (0,0))/\H.heap[w.heap.size+1]?=some (fY rank)/\H.heap[w.heap.size+1+1]?=some jc/\H.heap[w.heap.size+1+1+1]?=some jc/\H.heap[w.heap.size+1+1+1+1]?=some (rY s1 s2)):=by
  subst U;exact⟨(dD _ _ _ _ _).alloc (by simp;omega) _,abH _ _ _ _ _ _⟩
 clear U;have oZ:=blt HW.E;have m:0<w.heap.size:=dQ (J 0 aj);have HH:=hid (Aa tF (Aa hlen hfs))
 refine wpIn_rangeFunc_ownF rfl ah (gf:=227) (lb:=#[.pointer (some (Ad (w.heap.size+1+1+1+1) 0))]) rfl trivial (fun M w=>Tryz.call227 M w)
  (k! 5 ah (s1,s2) (w.heap.size+1+1+1+1) w.heap.size H tF ((ae HW.E).1 0) ((ae HW.E).1 1) (J.below HW.a) m HW.a.size) belowK_t (belowK_b HW.a.size) (aM _ _) (fun _=>rfl)
  (fun pre W=>(W.heap[w.heap.size]?=some (.cells (Uv s1 :: Uv s2 :: rs.map Iv).toArray 354 (0,0))/\W.heap[w.heap.size+1]?=some (fY rank)/\W.heap[w.heap.size+1+1]?=some jc/\W.heap[w.heap.size+1+1+1]?=some (.cells #[Uv ((qj ((s1,s2),rs) rank (pX pre)).1:Int),Uv ((qj ((s1,s2),rs) rank (pX pre)).2:Int)] 267 (0,0)))/\Bl w W)
  (fun _ _ _=>False)
  (OwnFrom.and (OwnFrom.and (kY (fun _=>_) ah) (OwnFrom.and (kY (fun _=>_) ah) (OwnFrom.and (kY (fun _=>_) ah) (kY (fun _=>_) ah)))) (ownFrom_below (aF _) HW.a.size))
  (fun _ _ _ _ _ hs _ _=>hs)
  ⟨⟨HW.b,HW.c,HW.d,HW.e⟩,HW.a⟩
  (fun x=>{tmps:=#[.agg (Uv s1 :: Uv s2 :: rs.map Iv).toArray,Iv rank,.pointer (cu w.heap.size),.pointer (cM w.heap.size),.pointer (eD w.heap.size),.pointer (uO w.heap.size),Iv x.1,.pointer (cu w.heap.size),.agg #[Uv s1,Uv s2],.func (.func 227) #[] #[.pointer (some (Ad (w.heap.size+1+1+1+1) 0))],Iv x.1,undef,undef,undef,undef,undef,undef,undef,undef,undef,undef,undef,undef,undef],defers:=[]}) ?assign ?body ?done ?stop
 case assign=>
  intro l x W K hK
  gi_wp2
  exact hK
 case body=>
  rintro l pre ⟨f,V⟩ W ⟨⟨k,b1,b2,b3⟩,hB⟩ _;have Vy:=HH.B f V;have L:(f:Int)<68:=ah
  have hlr:=HH.b;obtain⟨v,t⟩:=La (l:=rs) (i:=f) ah;have k0:W.cell? (Ad w.heap.size (2+f))=some (Iv v):=by
   rw[(ae k).1,de,show 2+f=f+1+1 by omega,ox,ox,bG,t];rfl
  obtain⟨B,y2⟩:=ae b1;obtain⟨z1,z2⟩:=ae b3;obtain⟨u,E⟩:=Ea (qj ((s1,s2),rs) rank (pX pre));have n:bF u:=by rw[E];exact Li _ _ _ fun g m=>by obtain⟨⟨g',hg'⟩,_,rfl⟩:=bP.1 m;have:=HH.B g' hg';simp only;omega
  have Yz:qj ((s1,s2),rs) rank (pX (pre++[(⟨f,V⟩:j! (s1,s2))]))=if v<rank then eP u (cH [f]) else u:=by
   rw[mY,uv,E];simp only[List.getD,t,xa]
  rw[<-E]at b3 z1;have HX:=hid (Aa Yz (Aa k (Aa b1 (Aa b2 b3))));have l3:=blt b3;clear E Yz t k b1 b2 b3
  gi_wp2
  refine wpIn_mono (Q:=fun e a W'=>e=.normal/\a={tmps:=#[.agg (Uv s1 :: Uv s2 :: rs.map Iv).toArray,Iv rank,.pointer (cu w.heap.size),.pointer (cM w.heap.size),.pointer (eD w.heap.size),.pointer (uO w.heap.size),Iv f,.pointer (cu w.heap.size),.agg #[Uv s1,Uv s2],.func (.func 227) #[] #[.pointer (some (Ad (w.heap.size+1+1+1+1) 0))],Iv f,Iv f,.pointer (some (Ad w.heap.size 2)),.pointer (some (Ad w.heap.size (2+f))),Iv v,Iv rank,.bool (decide (v<rank)),undef,undef,undef,undef,undef,undef,undef],defers:=[]}/\W'=W.drew) ?_ ?_
  ·gi_region
   all_goals gi_wp2
  rintro e a W' ⟨rfl,rfl,rfl⟩;clear k0 B y2;by_cases hvr:v<rank;rotate_left
  ·gi_wp2
   refine⟨KeepsOthers.drew _,(aM _ _).drew,⟨HX.b,HX.c,HX.d,?_⟩,hB.drew⟩;rw[HX.a,aA ah];exact HX.D
  have j:Hd (∀X b,X.cell? (Ad b 0)=some (Iv f)->Cl 241 (mH b) X (Rb X (b! (cH [f])))):=fun X b Z=>j6 X b f ah Z
  have O:Hd (∀(X:World) b,X.cell? (Ad b 0)=some (Uv u.1)->X.cell? (Ad b 1)=some (Uv u.2)->X.cell? (Ad b 2)=some (Uv ((cH [f]).1:Int))->X.cell? (Ad b 3)=some (Uv ((cH [f]).2:Int))->Cl 267 (oE b) X (Rb X (b! (eP u (cH [f]))))):=fun X b h0 G h2 Y=>by have:=e8 X b u (cH [f]) n (gQ _ fun g m=>by rw[ja.1 m];omega) h0 G h2 Y;exact this
  have HN:Hd (qj ((s1,s2),rs) rank (pX (pre++[(⟨f,V⟩:j! (s1,s2))]))=eP u (cH [f])):=by show _=_;rw[HX.a,aD hvr]
  obtain⟨o1,rK⟩:=Ea (cH [f]);obtain⟨z,R⟩:=Ea (eP u (cH [f]));rw[<-R]at HN O;rw[<-rK]at j O;clear rK R n;simp only[b!]at j O
  gi_wp2
  refine wpIn_mono (Q:=fun e a W'=>e=.normal/\∃W2,Bl W W2/\W'=(W2.setCell (Ad (w.heap.size+1+1+1) 0) (Uv z.1)).setCell (Ad (w.heap.size+1+1+1) 1) (Uv z.2)) ?_ ?_
  ·gi_region_with (first|(refine⟨trivial,?_⟩;gi_at_call 241;refine(CallsIn.inRound l (fX.2 (j.o _ _ ak))).mono ?_;rintro e T ⟨rfl,A⟩;have q:Hd (Bl W T):=aq ay A;clear z1 z2 A;obtain⟨z1,z2⟩:=ae (aE q.o HX.D))|(refine⟨trivial,?_⟩;gi_at_call 267;refine(CallsIn.inRound l (fX.2 (O.o _ _ ak ak ak ak))).mono ?_;rintro e W2 ⟨rfl,N⟩;have C:Hd (Bl W W2):=aq (aq q.o ay) N;clear z1 z2 N;obtain⟨z1,z2⟩:=ae (aE C.o HX.D)))
   all_goals exact⟨rfl,W2,C.o,rfl⟩
  rintro e a W' ⟨rfl,W2,N,rfl⟩;have hs:=N.size;have y:=aE N HX.D;refine⟨(du N).trans ((KeepsOthers.setCell _ _ _).trans (KeepsOthers.setCell _ _ _)),?_,⟨?_,?_,?_,?_⟩,?_⟩
  ·exact(((N.mono hB.size).setCell (by show _<=w.heap.size+1+1+1;omega) _).setCell (by show _<=w.heap.size+1+1+1;omega) _)
  ·rw[aZ _ _ _ _ (by show w.heap.size≠w.heap.size+1+1+1;omega),aZ _ _ _ _ (by show w.heap.size≠w.heap.size+1+1+1;omega)];exact aE N HX.b
  ·rw[aZ _ _ _ _ (by show w.heap.size+1≠w.heap.size+1+1+1;omega),aZ _ _ _ _ (by show w.heap.size+1≠w.heap.size+1+1+1;omega)];exact aE N HX.c
  ·rw[aZ _ _ _ _ (by show w.heap.size+1+1≠w.heap.size+1+1+1;omega),aZ _ _ _ _ (by show w.heap.size+1+1≠w.heap.size+1+1+1;omega)];exact aE N HX.d
  ·rw[HN.o,aw (aw y _) _]
   rfl
  exact((aq hB N).setCell (by show _<=w.heap.size+1+1+1;omega) _).setCell (by show _<=w.heap.size+1+1+1;omega) _
 case done=>
  rintro D ys W hD hS ⟨⟨k,b1,b2,b3⟩,hB⟩ hK;obtain⟨z,R⟩:=Ea (qj ((s1,s2),rs) rank (pX ys));have HZ:Hd (uu ((s1,s2),rs) rank=z):=by show _=_;rw[R];unfold uu pX;rw[hS]
  rw[<-R]at b3;obtain⟨F,x2⟩:=ae b2;obtain⟨z1,z2⟩:=ae b3;have HX:=hid (Aa b2 b3);have p:w.heap.size+1+1≠w.heap.size+1+1+1:=ah
  clear k b1 b2 b3 R hS
  gi_wp2
  have hK2:((W.setCell (Ad (w.heap.size+1+1) 0) (Uv z.1)).setCell (Ad (w.heap.size+1+1) 1) (Uv z.2)).heap[D]?=some (.deferred (some [])):=((KeepsOthers.setCell _ _ _).trans (KeepsOthers.setCell _ _ _)).same D _ hK rfl;refine⟨ak,.inl ⟨_,_,rfl,run_takeDeferred hK2,?_⟩⟩;have s:((W.setCell (Ad (w.heap.size+1+1) 0) (Uv z.1)).setCell (Ad (w.heap.size+1+1) 1) (Uv z.2)).cell? (Ad (w.heap.size+1+1) 0)=some (Uv z.1):=by rw[(ae (aw (aw HX.a _) _)).1];rfl
  have r1:((W.setCell (Ad (w.heap.size+1+1) 0) (Uv z.1)).setCell (Ad (w.heap.size+1+1) 1) (Uv z.2)).cell? (Ad (w.heap.size+1+1) 1)=some (Uv z.2):=by rw[(ae (aw (aw HX.a _) _)).1];rfl
  have q0:=cell_kept s (grownBy_putObj' _ D (.deferred none)) (fun r e=>by cases e;exact⟨_,hK2,rfl⟩);have q1:=cell_kept r1 (grownBy_putObj' _ D (.deferred none)) (fun r e=>by cases e;exact⟨_,hK2,rfl⟩);have o:Bl w ((W.setCell (Ad (w.heap.size+1+1) 0) (Uv z.1)).setCell (Ad (w.heap.size+1+1) 1) (Uv z.2)):=(hB.setCell (by show _<=w.heap.size+1+1;omega) _).setCell (by show _<=w.heap.size+1+1;omega) _;refine⟨b! z,by simp[results,results244,go_sem,b!,q0,q1],by rw[HZ.o],?_⟩;exact o.trans (belowK_b (w:=w) (aF _) _ D _ _ ah hK2 rfl rfl)
 rintro D c pre W _ _ h _;exact h.elim
end
def KO{σ α:Type}{F:Fence}{n:Nat}{P:Program}{g:Operand}{ps:Array Tmp}{assign body:Code}{Q:Exit->Act->World->Prop}{a:Act}{w:World}
    (q:F.round=none) (h1:1<=n) {gf:Nat} {lb:Array Value} (m:a.eval g=.func (.func gf) #[] lb) (hFg:F.fn gf) (eg:∀args w,(callFunc gf args).run P w=.ok (.enter gf args) w)
    {N4:α->Array Value} (d:∀x,(N4 x).size=ps.size) (I M:σ->World->Prop) (Y:α->σ->World->Prop) (lt:σ->σ->Prop) (N:OwnFrom w.heap.size I) (hIF:OwnFrom w.heap.size M) (U:∀x,OwnFrom w.heap.size (Y x)) {s0:σ} (h0:I s0 w)
    (hit:∀(l:Nat) (K:World->Prop) (W:World),(∀A B,K A->KeepsOthers A B->K B)->(∀s x T,Y x s T->K T->YieldAt F (n-1-1) P l (N4 x) T fun e i=>e=.returned (.bool true)/\(∃C,lt C s/\I C i)/\K i)->I s0 W->K W →
      CallsIn F (n-1) P gf (#[.func (.yield l) #[] #[]]++lb) W fun e i=>(∃v,e=.returned v)/\(∃s,M s i)/\K i)
    (u:α->Act)
    (f:∀(l:Nat) (x:α) (W:World) (K:Act->World->Prop),K (u x) W →
      assign.wpIn (F.inRound l) (n-1-1) P (Exit.then K (fun _ _ _=>False)) {tmps:=(ps.zip (N4 x)).foldl (fun t (p,v)=>t.setIfInBounds p v) a.tmps,defers:=[]} W)
    (H:∀(l:Nat) (s:σ) (x:α) (W:World),Y x s W->body.wpIn (F.inRound l) (n-1-1) P (fun e _ i=>e=.normal/\KeepsOthers W i/\∃C,lt C s/\I C i) (u x) W)
    (G:∀(D:Nat) (s:σ) (W:World),w.heap.size<=D->M s W->W.heap[D]?=some (.deferred (some []))->Q .normal {a with defers:={target:=.collected D,args:=#[]} :: a.defers} W):
    (Code.rangeFunc g ps assign body).wpIn F n P Q a w:=by
  refine wpIn_rangeFunc ?_;intro fn o;rw[q];obtain⟨rec,c⟩:=Ea (fun st pe=>{state:=st,pending:=pe,fn,tmps:=a.tmps,params:=ps,assign,body,defers:=w.heap.size}:LoopState->Option Code->Loop);obtain⟨T,b⟩:∃T,(w.alloc (.deferred (some []))).alloc (.loop (rec .ready none))=T:=⟨_,rfl⟩;have hL1:T.heap[w.heap.size+1]?=some (.loop (rec .ready none)):=by
    rw[<-b];have:=World.alloc_heap_new (w.alloc (.deferred (some []))) (.loop (rec .ready none));rwa[World.size_alloc]at this
  have hK1:T.heap[w.heap.size]?=some (.deferred (some [])):=by
    rw[<-b];exact(ch _ _ _ ak).trans (World.alloc_heap_new w _)
  have hI1:I s0 T:=by rw[<-b];exact N.alloc _ (N.alloc _ h0)
  refine⟨w.heap.size+1,[{target:=.collected w.heap.size,args:=#[]}],T,{target:=.fn (.func gf) lb,args:=#[.func (.yield (w.heap.size+1)) #[] #[]]},T,gf,
    #[.func (.yield (w.heap.size+1)) #[] #[]]++lb,T,?_,?_,?_,?_,fun _=>h1,?_⟩
  · rw[<-b,c];exact run_enterLoop_outer _ _ _ _ _
  · simp only[resolve,m]
    simp[go_sem]
  · intro E y;simp[Target.leads]at y;subst y;exact hFg
  · simp[invoke,go_sem,eg]
  refine(hit (w.heap.size+1) (fun W=>W.heap[w.heap.size+1]?=some (.loop (rec .ready none))/\W.heap[w.heap.size]?=some (.deferred (some []))) T (fun A B h k=>⟨k.same _ _ h.1 rfl,k.same _ _ h.2 rfl⟩) ?_ hI1 ⟨hL1,hK1⟩).mono ?_;rotate_left
  · rintro e r ⟨⟨v,rfl⟩,⟨s,z⟩,hl,X⟩
    exact⟨none,_,by have:=run_endLoop (P:=P) hl (by rw[c];simp);rw[c]at this;exact this,G _ s _ (aF _) (hIF.putObj _ z ah hl rfl) ((World.putObj_heap_other ah).trans X)⟩
  rintro s x W hi ⟨hl,X⟩;have J:w.heap.size+1<W.heap.size:=(bq.1 hl).1;have hy:=run_yield (P:=P) (args:=N4 x) hl (by rw[c];exact d x);rw[c]at hy;refine⟨fn,_,assign,body,hy,roundIn_of_wpIn o (f _ x W _ ⟨_,run_beginRound hl (by rw[c]),?_⟩)⟩;have hl2:(W.putObj (w.heap.size+1) (.loop {rec .ready none with state:=.busy})).heap[w.heap.size+1]?=some (.loop {rec .ready none with state:=.busy}):=World.putObj_heap_same J;have V:(W.putObj (w.heap.size+1) (.loop {rec .ready none with state:=.busy})).heap[w.heap.size]?=some (.deferred (some [])):=(World.putObj_heap_other ah).trans X;refine wpIn_mono (H _ s x _ ((U x).putObj _ hi ah hl rfl)) ?_;rintro e a3 W3 ⟨rfl,j,C,Z,R⟩;have O:=j.same _ _ hl2 rfl;have L:=run_endRound (P:=P) none O;rw[c]at L O;refine⟨_,_,L,rfl,⟨C,Z,N.putObj _ R ah O rfl⟩,?_,?_⟩
  · rw[c];exact World.putObj_heap_same (bq.1 O).1
  exact(World.putObj_heap_other ah).trans (j.same _ _ V rfl)
open Go.RowKit Go.Shelf Go.Proofs Go.Maps Tryz
def jB(w:World)(pb:Nat)(v:Value):Prop:=∃(a:Option Addr) (ps:List Int) (c:Nat),v=.slice a ps.length c/\ps.length<=c/\c<=maxLen/\∀j x,ps[j]?=some x->∃o,a=some (Ad pb o)/\eX x/\w.cell? (Ad pb (o+j))=some (Iv x)
def jB.keep{w w':World}{q:Nat}{v:Value}(h:jB w q v)(hb:∀o u,w.cell? (Ad q o)=some u->w'.cell? (Ad q o)=some u):jB w' q v:=by
 obtain⟨a,ps,c,G,O,Y,K⟩:=h;refine⟨a,ps,c,G,O,Y,fun j x U=>?_⟩;obtain⟨o,e,i,k⟩:=K j x U;exact⟨o,e,i,hb _ _ k⟩
abbrev zW(wt:BS)(pv:Value):Obj:=.cells #[Uv wt.1,Uv wt.2,pv] 323 (0,0)
def N6(x n:Int)(hn:1<=n):∃i:Nat,(i:Int)<n/\(if x.tmod n<0 then x.tmod n+n else x.tmod n)=i:=by
 have G:=Int.tmod_lt_of_pos x (show 0<n by omega);have O:-n<x.tmod n:=by
  rcases Int.le_total 0 x with h|h
  ·have:=Int.tmod_nonneg n h;omega
  have Y:=Int.tmod_lt_of_pos (-x) (show 0<n by omega);rw[Int.neg_tmod]at Y;omega
 split
 ·exact⟨(x.tmod n+n).toNat,ah,ah⟩
 exact⟨(x.tmod n).toNat,ah,ah⟩
def MU(ab q n:Nat)(m:BS)(Q:Value)(w:World)(hn:1<=n)(l:n<=128)(L:w.heap[ab]?=some (zW m Q))(hp:jB w q Q)(P:ab≠q):
  Cl 307 (Ah ab n) w fun e I=>∃(i:Nat) (d:Value),i<n/\e=.returned (Iv i)/\jB I q d/\(I=w/\d=Q∨I=w.setCell (Ad ab 2) d):=by
 obtain⟨F,t⟩:=ae L;have s:=hid L;obtain⟨a,ps,c,rfl,O,Y,K⟩:=hp;have h:Hd (jB w q (.slice a ps.length c)):=⟨a,ps,c,rfl,O,Y,K⟩;clear L;cases ps with
 |nil=>
  go_enter func307,ntmps307
  go_wp2_with fail
  go_ret
  exact⟨0,_,hn,rfl,h.o,aJ ⟨rfl,rfl⟩⟩
 | cons x r=>
  obtain⟨o,rfl,E,p⟩:=K 0 x rfl;obtain⟨i,hi,H⟩:=N6 x n ah;have Z:Hd (∀W,W.heap[q]?=w.heap[q]?->jB W q (.slice (some (Ad q (o+1))) r.length (c-1))):=by
   intro W g;refine⟨_,r,_,rfl,by simp at O;omega,ah,fun j y U=>?_⟩;obtain⟨f,e,i,k⟩:=K (j+1) y (by simpa using U);cases e;exact⟨_,rfl,i,by rw[show o+1+j=o+(j+1)by omega];exact(dC g).trans k⟩
  clear K;simp only[bT,z!]at *;have R:((n:Int)==0)=false:=by simp;omega
  have b:(((r.length+1:Nat):Int)==0)=false:=by simp;omega
  go_enter func307,ntmps307
  go_wp2_with fail
  all_goals
   go_ret
   refine⟨i,ah,?_,_,?_,aI rfl⟩
   ·first|(rw[<-H,aD (i')];rfl)|(rw[<-H,aA ah];rfl)
   first
    |exact Z.o _ (aZ _ _ _ _ (qn P))
    |exact⟨_,[],0,by rw[show r.length=0 by omega];rfl,bB _,bB _,fun j y U=>by simp at U⟩
section
open Go.RowKit Go.Shelf Go.Proofs Go.Maps Tryz
attribute [local go_sem] Oper.semAt_some
def OI(f:Nat):Value:=Iv f
def JW(s:BS)(B:Nat)(w:World)(d:bF s)(c0:w.cell? (Ad B 0)=some (Uv s.1))(c1:w.cell? (Ad B 1)=some (Uv s.2))(J:kB w):
  Cl 339 #[.slice none 0 0,.func (.func 227) #[] (bE B)] w fun e I=>∃v,e=.returned v/\I.ownsRow w.heap.size 3 1 v (c8 s).length ((c8 s).map OI)/\Bl w I:=by
 refine(fX (n:=6)).1 ?_;refine callsIn_of_wp_marks func339 rfl trivial ?_ rfl;simp only[ntmps339,kd,bT,eI,Nat.reduceAdd,Nat.reduceSub,rQ,rP,rO,rN,dT,dw]
 gi_wp2
 have m:0<w.heap.size:=dQ (J 0 aj);have r:=aC w (.cells #[.slice none 0 0] 36)
 refine wpIn_rangeFunc_ownF rfl ah (gf:=227) (lb:=(bE B)) rfl trivial (fun M w=>Tryz.call227 M w)
  (k! 5 ah s B w.heap.size _ d (ax c0 r) (ax c1 r) (J.below r) m ak) belowK_t (belowK_b ak) (aM _ _) (fun _=>rfl)
  (fun pre W=>(∃v,Boxed W w.heap.size 36 v/\W.ownsRow w.heap.size 3 1 v (pX pre).length ((pX pre).map OI)/\pre.length<=128)/\Bl w W)
  (fun _ _ _=>False)
  (OwnFrom.and (Own.from (holdsRow_own w.heap.size w.heap.size 36 3 1 (fun pre=>(pX pre).length) (fun pre=>(pX pre).map OI) (fun pre v=>pre.length<=128)) _) (ownFrom_below (aF _) ak))
  (fun _ _ _ _ _ z _ _=>z)
  ⟨⟨_,Boxed.new w _ _,dF _ _ _ _,ak⟩,r⟩
  (fun x=>{tmps:=#[.slice none 0 0,.func (.func 227) #[] (bE B),.pointer (cu w.heap.size),undef,.slice none 0 0,Iv x.1,.func (.func 227) #[] (bE B),Iv x.1,undef,undef,undef,undef,undef],defers:=[]}) ?assign ?body ?done ?stop
 case assign=>
  intro l x W K A
  gi_wp2
  exact A
 case body=>
  rintro l pre ⟨f,X⟩ W ⟨⟨v,t,u,hl⟩,C⟩ P;obtain⟨L,hi,G,O,E⟩:=cY sP;have H:(pX pre).length<128:=by have:=nJ s;simp[pX];omega
  have Z:=t.cell
  gi_wp2_with (gi_at_builtin;refine wpListIn_append_own _ rfl _ _ 36 rfl w.heap.size 3 L (Iv 0) 1 8 underlying36 hi G O E rfl aj _ _ _ rfl (u.alloc _) (Ad W.heap.size 0) 1 1 [Iv f] rfl rfl (cell_one_new _ _ _) (by simp[Value.oneCell']) (by unfold maxLen;omega) ah (by have:=C.size;simp;omega) ?_;intro R S q i _;obtain⟨o,n,rfl⟩:=ownsRow_succ q;obtain⟨b,p,j,V,N⟩:=t.appended aj u C.size (aF _) q i;have y:=b.cell;have Q:=b.frozen)
  refine⟨V,N,⟨_,p,?_,?_⟩,C.trans N⟩
  ·rw[mY,iq,bu];exact j
  have:=nJ s;simp;omega
 case done=>
  rintro D g W U T ⟨⟨v,t,u,hl⟩,C⟩ A;have Z:=t.cell;obtain⟨a,F,rfl⟩:=bS u
  gi_wp2
  refine⟨ak,.inl ⟨_,_,rfl,run_takeDeferred A,?_⟩⟩;have k:pX g=c8 s:=T;refine⟨.slice a (pX g).length F,by simp[results,results339,go_sem],_,rfl,?_,C.trans (belowK_b (w:=w) (aF _) W D _ _ (by simp at U;omega) A rfl rfl)⟩;rw[<-k];exact ownsRow_putObj u _ A rfl
 rintro D c pre W _ _ h _;exact h.elim
def F!(s:BS)(B:Nat)(w:World)(d:bF s)(c0:w.cell? (Ad B 0)=some (Uv s.1))(c1:w.cell? (Ad B 1)=some (Uv s.2))(J:kB w):
  Cl 306 #[.func (.func 227) #[] (bE B)] w fun e I=>∃v,e=.returned v/\I.ownsRow w.heap.size 3 1 v (c8 s).length ((c8 s).map OI)/\Bl w I:=by
 have H:=JW s B w d c0 c1 J;clear c0 c1;go_enter func306,ntmps306
 go_wp2_with (go_at_call 339;refine H.mono ?_;rintro e W ⟨v,rfl,G,O⟩)
 go_ret
 exact⟨v,rfl,G,O⟩
end
section
variable {S:Nat->Prop} {w w':World} {q:Nat}
open Go.RowKit Go.Shelf Go.Proofs Go.Maps Tryz
structure Kx(S:Nat->Prop)(w w':World):Prop where
  os:w'.os=w.os
  tape:w'.tape=w.tape
  output:w'.output=w.output
  size:w.heap.size<=w'.heap.size
  keep:∀k,k<w.heap.size->¬S k->w'.heap[k]?=w.heap[k]?
def Kx.of(h:Bl w w'):Kx S w w':=⟨h.os,h.tape,h.output,h.size,fun k X _=>h.block k X⟩
def Kx.refl(S:Nat->Prop)(w:World):Kx S w w:=Kx.of (aM _ _)
def Kx.trans{u v:World}(h:Kx S u v)(k:Kx S v w):Kx S u w:=
 ⟨k.os.trans h.os,k.tape.trans h.tape,k.output.trans h.output,bw h.size k.size,fun i hi z=>(k.keep i (fD hi h.size) z).trans (h.keep i hi z)⟩
def Kx.mono{a:Nat->Prop}(h:Kx S w w')(hs:∀k,k<w.heap.size->S k->a k):Kx a w w':=⟨h.os,h.tape,h.output,h.size,fun k X J=>h.keep k X fun e=>J (hs k X e)⟩
def Kx.set(h:Kx S w w'){b:Nat}(hb:S b∨w.heap.size<=b)(o:Nat)(v:Value):Kx S w (w'.setCell (Ad b o) v):=
 ⟨h.os,h.tape,h.output,by simpa[World.setCell]using h.size,fun k X J=>(aZ _ _ _ _ (by rintro rfl;rcases hb with hb|hb;(· exact J hb);omega)).trans (h.keep k X J)⟩
def Kx.drewN(h:Kx S w w')(n:Nat):Kx S w (w'.drewN n):=⟨h.os,h.tape,h.output,h.size,h.keep⟩
def Kx.box(h:Kx S w w'){o:Obj}(e:w.heap[q]?=some o)(hq:¬S q):w'.heap[q]?=some o:=(h.keep q (blt e) hq).trans e
def Kx.cell(h:Kx S w w'){o:Nat}{v:Value}(e:w.cell? (Ad q o)=some v)(hq:¬S q):w'.cell? (Ad q o)=some v:=(dC (h.keep q (dQ e) hq)).trans e
def Kx.others(h:Kx S w w')(hs:∀k o,S k->w.heap[k]?=some o->o.isCells=true):KeepsOthers w w':=
 ⟨h.size,fun k o X Z=>h.box X fun e=>by rw[hs k o e X]at Z;cases Z⟩
def Kx.tab(h:Kx S w w')(J:kB w)(hs:¬S 0):kB w':=fun j U=>h.cell (J j U) hs
def Kx.below(h:Kx S w w'){B:Nat}(f:B<=w.heap.size)(hs:∀k,S k->B<=k):Below B w w':=⟨h.os,h.tape,h.output,h.size,fun k X=>h.keep k ah fun e=>by have:=hs k e;omega⟩
def oX{ab:Nat}(h:Kx (·=ab) w w')(o:Nat)(v:Value):Kx (·=ab) w (w'.setCell (Ad ab o) v):=h.set (b:=ab) (aJ rfl) o v
def L4(ab:Nat)(c s:BS)(Q:Value)(w:World)(L:w.heap[ab]?=some (zW c Q))(hi:bF c)(hs:bF s):
  Cl 211 #[.pointer (some (Ad ab 0)),b! s] w fun e I=>(∃v,e=.returned v)/\I.heap[ab]?=some (zW (eP c s) Q)/\Kx (·=ab) w I:=by
 have O:Hd (∀(X:World) b,X.cell? (Ad b 0)=some (Uv c.1)->X.cell? (Ad b 1)=some (Uv c.2)->X.cell? (Ad b 2)=some (Uv s.1)->X.cell? (Ad b 3)=some (Uv s.2)->Cl 267 (oE b) X (Rb X (b! (eP c s)))):=fun X b o G h Y=>e8 X b c s hi hs o G h Y
 obtain⟨z,R⟩:=Ea (eP c s);rw[<-R]at O⊢;have D:=aC w (lB s.1 s.2);have d:=blt L;have j:=hid L;obtain⟨F,y⟩:=ae (aE D L);clear R hi hs L;simp only[b!]at O⊢;go_enter func211,ntmps211
 go_upto_region 1 with(fail)
 generalize g:w.alloc (lB s.1 s.2)=V at D F y⊢;have H:Hd (Bl w V/\V.heap[w.heap.size]?=some (rY s.1 s.2)):=⟨D,by rw[<-g];exact bf _ _⟩;clear g D;obtain⟨B,m⟩:=ae H.A;have P:=blt H.A;have p:w.heap.size≠V.heap.size:=ah
 have l:ab≠V.heap.size:=ah
 have i:=p.symm;have k:=l.symm
 go_region_law (go_simp;refine bA (O.o _ _ ak ak ak ak) ?_;rintro e r ⟨rfl,N⟩;have C:Hd (Bl V r):=aq ay N;clear F y N;obtain⟨F,y⟩:=ae (aE C.o (aE H.a j.o)))
 all_goals
  go_wp2_with fail
  go_end0
  have a:=aE C.o (aE H.a j.o);refine⟨⟨_,rfl⟩,?_,oX (oX (Kx.of (aq H.a C.o)) _ _) _ _⟩;rw[aw (aw a _) _];rfl
def PT(ab q:Nat)(c:BS)(Q:Value)(w:World)(L:w.heap[ab]?=some (zW c Q))(hp:jB w q Q)(P:ab≠q)(hi:bF c)(R:c8 c≠[])(J:kB w):
  Cl 269 (bE ab) w fun e I=>∃x d,x∈c8 c/\e=.returned (Iv x)/\I.heap[ab]?=some (zW (eH c (cH [x])) d)/\jB I q d/\Kx (·=ab) w I:=by
 have HA:Hd (∀s,Cl 154 #[.agg #[Uv c.1,Uv c.2]] s fun e I=>e=.returned (.func (.func 227) #[] (bE s.heap.size))/\I=s.alloc (lB c.1 c.2)):=fun s=>tr c s
 have HC:Hd (∀W B,kB W->W.cell? (Ad B 0)=some (Uv c.1)->W.cell? (Ad B 1)=some (Uv c.2)->Cl 306 #[.func (.func 227) #[] (bE B)] W fun e I=>∃v,e=.returned v/\I.ownsRow W.heap.size 3 1 v (c8 c).length ((c8 c).map OI)/\Bl W I):=fun W B J c0 c1=>F! c B W hi c0 c1 J
 have hl:=nJ c;have hl1:1<=(c8 c).length:=O6.2 R;have G:=hid (Aa L (Aa hp (Aa J hi)));obtain⟨F,y⟩:=ae L;have hla:=blt L;obtain⟨fs,S⟩:=Ea (c8 c);rw[<-S]at HC hl hl1;have D:=hid S;clear L hp J hi R S;go_enter func269,ntmps269
 go_upto_region 2 with(first|(go_at_call 154;refine(HA.o _).mono ?_;rintro e T ⟨rfl,rfl⟩)|(go_at_call 306;refine(HC.o _ _ (G.c.below (aC _ _)) ak ak).mono ?_;rintro e T ⟨v,rfl,ho,hb⟩;obtain⟨va,vc,rfl⟩:=bS ho;have E:=hid (Aa (bJ (B':=w.heap.size) ho ak) (aq (aC _ _) hb));clear ho hb))
 have hA1:=aE E.A G.a;have HP:Hd (Cl 307 (Ah ab fs.length) T fun e I=>∃(i:Nat) (d:Value),i<fs.length/\e=.returned (Iv i)/\jB I q d/\(I=T/\d=Q∨I=T.setCell (Ad ab 2) d)):=MU ab q fs.length c Q T hl1 hl hA1 (G.b.keep fun _ _ h=>ax h E.A) P;have HG:Hd (∃g,va=some (Ad g 0)/\w.heap.size<=g/\∀(j x:Nat),fs[j]?=some x->T.cell? (Ad g j)=some (Iv x)):=by
  have ho:=E.a;rcases ho.2 with⟨_,e⟩|⟨g,C,A,hv,m,_⟩
  ·omega
  simp at hv;refine⟨g,hv.1,m,fun j x U=>?_⟩;have:=ho.cells (g:=g) (by simp[Value.ownBlock,hv.1]) j (OI x) (by rw[bG,U];rfl)
  rwa[gw,ct]at this
 obtain⟨g,rfl,hgw,O⟩:=HG.o;have HGC:=hid O;have A8:=E.A.size;clear HG O hA1 F y
 go_upto_region 3 with(go_at_call 307;refine HP.o.mono ?_;rintro e r ⟨i,d,hi,rfl,k,M⟩;have a:Hd (Kx (·=ab) T r/\r.heap[ab]?=some (zW c d)/\jB r q d):=⟨by rcases M with⟨rfl,_⟩|rfl;(· exact Kx.refl _ _);exact oX (Kx.refl _ _) _ _,by rcases M with⟨rfl,rfl⟩|rfl;(· exact aE E.A G.a);rw[aw (aE E.A G.a) _];rfl,k⟩;obtain⟨x,hx⟩:=La hi;have Z:r.cell? (Ad g i)=some (Iv x):=a.a.cell (HGC.o i x hx) ah;have HX:=hid hx;clear M k hx;have hii:(i:Int)<(fs.length:Int):=ah)
 have N:x<128:=by
  have h:=aL HX.o;rw[D.o]at h;exact((cA c G.C x).1 h).1
 have HO:Hd (∀X b,X.cell? (Ad b 0)=some (Iv x)->Cl 241 (mH b) X (Rb X (b! (cH [x])))):=fun X b Z=>j6 X b x N Z
 have K:Hd (∀X,Cl 153 #[b! c,b! (cH [x])] X (Rb X (b! (eH c (cH [x]))))):=fun X=>jJ c (cH [x]) X G.C (gQ _ (by simpa using N))
 have HZ:Hd (x∈c8 c):=by rw[<-D.o];exact aL HX.o
 obtain⟨o1,f⟩:=Ea (cH [x]);obtain⟨z,R⟩:=Ea (eH c o1);have HE:Hd (eH c (cH [x])=z):=by rw[R,f];exact rfl
 rw[<-f]at HO K;rw[<-R]at K;clear f R Z HX;obtain⟨F,y⟩:=ae a.b;have p:ab≠r.heap.size:=by have:=a.a.size;omega
 have V:=p.symm;have H:∀(o:Obj) (i:Nat),(r.alloc o).cell? (Ad ab i)=(#[Uv c.1,Uv c.2,d]:Array Value)[i]?:=fun o i=>(dC (ch r o _ (blt a.b))).trans (F i)
 simp only[b!]at HO K
 go_region_law (first|(go_simp;refine bA (HO.o _ _ ak) ?_;rintro e W3 ⟨rfl,Y⟩;have t:Hd (Bl r W3):=aq ay Y;clear F y Y;obtain⟨F,y⟩:=ae (aE t.o a.b))|(go_simp;refine bA (K.o _) ?_;rintro e n ⟨rfl,nI⟩;have l:Hd (Bl r n):=aq (aq t.o ay) nI;clear F y nI;obtain⟨F,y⟩:=ae (aE l.o a.b)))
 all_goals
  go_wp2_with fail
  go_ret
  have hA2:=aE l.o a.b;have hk:Kx (·=ab) w ((n.setCell (Ad ab 0) (Uv z.1)).setCell (Ad ab 1) (Uv z.2)):=oX (oX ((Kx.of E.A).trans (a.a.trans (Kx.of l.o))) _ _) _ _
  refine⟨x,d,HZ.o,rfl,?_,?_,hk⟩
  ·rw[aw (aw hA2 _) _,HE.o]
   rfl
  exact a.B.keep fun o u h=>(dC (by rw[aZ _ _ _ _ P.symm,aZ _ _ _ _ P.symm])).trans (ax h l.o)
end
section
variable {d:Option Tmp} {op:Op} {ty:TypeId} {ps:String} {af:Array Edge} {gd:Option (Nat×Bool)}
def tk{P:Program}{md:Region.Mode}{ops:Array Oper}{Q:Exit->Act->World->Prop}{S:World->Prop}(i:Nat){q:Oper}{v:Value}{fuel:Nat}{listed:Array Bool}{a:Act}{w:World}(hi:ops[i]?=some q)
  (hk:(Region.noSelect ops&&Region.free md ops listed i&&(Region.ready md ops listed).contains i)=true)
  (hQ:∀c a w,Q (.panic c) (a.put q.dst v) w->Q (.panic c) a w) (T:YieldsIf P ops S q v a) (hS:S w)
  (h:wpAnyH P md ops Q S fuel (listed.setIfInBounds i true) (a.put q.dst v) w):wpAnyH P md ops Q S (fuel+1) listed a w:=by
 rw[aS,aS]at hk;exact wpAnyH_take hi hk.1.1 hk.1.2 hk.2 hQ T hS h
section
variable {P:Program} {md:Region.Mode} {ops:Array Oper} {Q:Exit->Act->World->Prop} {S:World->Prop} {fuel:Nat} {listed:Array Bool} {a a':Act} {w:World}
theorem tz(i:Nat)(v:Value)(hi:ops[i]?=some ⟨d,op,ty,ps,af,gd⟩:=by rfl)(hk:(Region.noSelect ops&&Region.free md ops listed i&&(Region.ready md ops listed).contains i)=true:=by kernel_rfl)
  (hQ:∀c a w,Q (.panic c) (a.put d v) w->Q (.panic c) a w:=by exact fun _ _ _ h=>h) (y:YieldsIf P ops S ⟨d,op,ty,ps,af,gd⟩ v a) (hS:S w:=by assumption) (ha:a.put d v=a':=by(try simp only[Act.put,cS,dm,cU]);rfl)
  (h:wpAnyH P md ops Q S fuel (listed.setIfInBounds i true) a' w):wpAnyH P md ops Q S (fuel+1) listed a w:=by
 subst ha;exact tk i hi hk hQ y hS h
theorem tq(i:Nat)(v:Value)(hi:ops[i]?=some ⟨d,op,ty,ps,af,gd⟩:=by rfl)(hk:(Region.noSelect ops&&Region.free md ops listed i&&(Region.ready md ops listed).contains i)=true:=by kernel_rfl)
 (hQ:∀c a w,Q (.panic c) (a.put d v) w->Q (.panic c) a w:=by exact fun _ _ _ h=>h) (hw:Region.wanted ⟨d,op,ty,ps,af,gd⟩ (yielded ops a.tmps)=true:=by kernel_rfl)
 (y:∀w,S w->(execOp a.eval ⟨d,op,ty,ps,af,gd⟩).run P w=.ok (.value v) w:=by intro W' aU;clear aB;go_simp) (hS:S w:=by assumption) (ha:a.put d v=a':=by(try simp only[Act.put,cS,dm,cU]);rfl)
 (h:wpAnyH P md ops Q S fuel (listed.setIfInBounds i true) a' w):wpAnyH P md ops Q S (fuel+1) listed a w:=tz i v hi hk hQ (aJ ⟨hw,y⟩) hS ha h
theorem tn(i:Nat)(hi:ops[i]?=some ⟨d,op,ty,ps,af,gd⟩:=by rfl)(hk:(Region.noSelect ops&&Region.free md ops listed i&&(Region.ready md ops listed).contains i)=true:=by kernel_rfl)
 (hQ:∀c a w,Q (.panic c) (a.put d undef) w->Q (.panic c) a w:=by exact fun _ _ _ h=>h) (hw:Region.wanted ⟨d,op,ty,ps,af,gd⟩ (yielded ops a.tmps)=false:=by kernel_rfl) (hS:S w:=by assumption) (ha:a.put d undef=a':=by(try simp only[Act.put,cS,dm,cU]);rfl)
 (h:wpAnyH P md ops Q S fuel (listed.setIfInBounds i true) a' w):wpAnyH P md ops Q S (fuel+1) listed a w:=tz i undef hi hk hQ (aI ⟨hw,rfl⟩) hS ha h
theorem r1(i:Nat)(hi:ops[i]?=some ⟨d,op,ty,ps,af,gd⟩:=by rfl)(hr:Region.ready md ops listed=[i]:=by kernel_rfl)
  (h:∀K:Act->World->Prop,Shut (∀a w,S w->(S w->wpAnyH P md ops Q S fuel (listed.setIfInBounds i true) a w)->K a w)->if Region.wanted ⟨d,op,ty,ps,af,gd⟩ (yielded ops a.tmps)=true then Oper.wp P ⟨d,op,ty,ps,af,gd⟩ a w K Q else K (a.put d undef) w):wpAnyH P md ops Q S (fuel+1) listed a w:=
 wpAnyH_ready hr ak (AllReadyH.cons hi h AllReadyH.nil)
end
def pt{p q:Prop}(hq:q)(h:q->p:=by intro h;(try simp only[Act.put,cS,dm,cU]);exact h):p:=h hq
end
section
variable {o:Oper} {w:World} {a:Act} {id:Nat}
def pP(ops:Array Oper):Bool:=ops.all fun o=>match o.op with | .defer _=>false|_=>true
def yo{ops:Array Oper}(h:pP ops=true){i:Nat}(hi:ops[i]?=some o):∀c,o.op≠.defer c:=by
 intro c e;unfold pP at h;rw[Array.all_eq_true]at h;obtain⟨hl,rfl⟩:=bq.1 hi;have:=h i hl;rw[e]at this;cases this
section
variable {P:Program} {ops:Array Oper} {Q:Exit->Act->World->Prop} {md:Region.Mode} {l n:Nat}
def MA{row:String}{args:Array Value}{R:Value->World->Prop}(h:Rows P row args w R):RowsIn (Fence.wide.inRound l) n P row args w R:=fun c cs _=>by
 obtain⟨v,I,r,s⟩:=h c cs;exact⟨v,I,r,stepsIn_wide.2 s⟩
def xk{K i:Act->World->Prop}(j:∀c,o.op≠.defer c)(A:∀a w,K a w->i a w)(h:o.wp P a w K Q):o.wpIn (Fence.wide.inRound l) n P a w i Q:=by
 refine⟨fun _ _=>trivial,?_⟩;rw[show(Fence.wide.inRound l).round=some l from rfl,Oper.semAt_some l _ _ j];unfold Oper.wp at h;generalize(execOp a.eval o).run P w=r at h;cases r with
 |ok x I=>
  cases x with
  |enter f b=>exact⟨(fun h=>by cases h),CallsIn.inRound l (fX.2 (bA h fun e g H=>by cases e<;>first|exact A _ _ H|exact H))⟩
  |row row b=>exact⟨(fun h=>by cases h),MA (Rows.mono h fun v g H=>A _ _ H)⟩
  |value v=>exact A _ _ h
  |skip=>exact A _ _ h
  |defer d=>exact A _ _ h
  |_=>exact h.elim
 |halt x I=>cases x<;>first|exact h|exact h.elim
def lC(v:pP ops=true)(hQ:¬LetsOut Q):∀(m:Nat) (d:Array Bool) (a:Act) (w:World),wpAny P md ops Q m d a w->wpAnyIn (Fence.wide.inRound l) n P md ops Q m d a w
 |0,_,_,_,h=>h
 | m+1,d,a,w,h=>by
  refine⟨h.1,fun i hi=>?_⟩;have G:=h.2 i hi;unfold wpOp at G;unfold wpOpIn;cases g:ops[i]? with
  |none=>rw[g]at G;exact lC v hQ m _ _ _ G
  | some o=>
   rw[g]at G;simp only at G⊢;split
   ·rename_i M
    rw[aD M]at G;rcases G with G|G
    ·exact xk (yo v g) (fun a w=>lC v hQ m _ a w) G
    exact absurd G.2 hQ
   rename_i M
   rw[aA M]at G;exact⟨fun _ _=>trivial,lC v hQ m _ _ _ G⟩
theorem Zu(S:World->Prop)(k:Nat)(hQ:¬LetsOut Q:=by rintro⟨_,_,h⟩;cases h.1)(hm:P.follows .mixedOrders=true:=by kernel_rfl)(vD:pP ops=true:=by kernel_rfl)(hS:S w.drew)(h:S w.drew->pz P .any ops Q S k ops.size (Array.replicate ops.size false) a w.drew):(Code.region id ops true).wpIn (Fence.wide.inRound l) n P Q a w:=
 wpIn_region_any hm (lC vD hQ _ _ _ _ (y? _ _ _ _ (h hS)))
def rZ(v:pP ops=true)(hQ:¬LetsOut Q):∀(c:List Oper) (a:Act) (w:World),(∀o∈c,o∈ops.toList)->wpList P ops Q c a w->wpListIn (Fence.wide.inRound l) n P ops Q c a w
 |[],_,_,_,h=>h
 | o :: r,a,w,C,h=>by
  have B:=fun a w=>rZ v hQ r a w fun x E=>C x (by simp[E])
  unfold wpList at h;unfold wpListIn;obtain⟨k,X⟩:=i!.1 (C o ak);have g:ops[k]?=some o:=by simpa using X
  split
  ·rename_i M
   rw[aD M]at h;rcases h with h|h
   ·exact xk (yo v g) B h
   exact absurd h.2 hQ
  rename_i M
  rw[aA M]at h;exact⟨fun _ _=>trivial,B _ _ h⟩
theorem aei{l':List Oper}(hQ:¬LetsOut Q:=by rintro⟨_,_,h⟩;first|exact h|cases h.1)(vD:pP l'.toArray=true:=by kernel_rfl)(h:wpList P l'.toArray Q l' a w):(Code.region id l'.toArray false).wpIn (Fence.wide.inRound l) n P Q a w:=
 wpIn_region_lit (rZ vD hQ l' a w (fun _ h=>h) h)
theorem tu{S:World->Prop}{k fuel:Nat}{listed:Array Bool}{a':Act}(i:Nat)(v:Value){d:Option Tmp}{op:Op}{ty:TypeId}{ps:String}{af:Array Edge}{gd:Option (Nat×Bool)}(hi:ops[i]?=some ⟨d,op,ty,ps,af,gd⟩:=by rfl)
  (hk:(decide (i<k)&&Fo md ops k&&Region.noSelect ops&&Region.free md ops listed i&&(Region.ready md ops listed).contains i)=true:=by kernel_rfl)
  (hQ:∀c a w,Q (.panic c) (a.put d v) w->Q (.panic c) a w:=by exact fun _ _ _ h=>h) (y:YieldsIf P ops S ⟨d,op,ty,ps,af,gd⟩ v a) (hS:S w:=by assumption) (ha:a.put d v=a':=by(try simp only[Act.put,cS,dm,cU]);rfl)
  (h:pz P md ops Q S k fuel (listed.setIfInBounds i true) a' w):pz P md ops Q S k (fuel+1) listed a w:=by
 simp only[aS,bm]at hk;obtain⟨⟨⟨⟨h1,h2⟩,h3⟩,h4⟩,h5⟩:=hk;subst ha;exact y! hi h1 h2 (Region.noSelect_spec h3) hQ fuel listed a w (Region.free_spec hi h4) (by simpa using h5) y hS h
end
end
section
variable {x a b:Int}
structure VV where
  any:Bool
  lo:Int
  hi:Int
def VV.wz(a b:VV):Bool:=a.any==b.any&&a.lo==b.lo&&a.hi==b.hi
def VV.nK(a b:VV):VV.wz a b=true↔a=b:=by
 obtain⟨a1,a2,a3⟩:=a;obtain⟨u,x,S⟩:=b;simp[VV.wz,and_assoc]
def VV.fA:VV:=⟨true,0,0⟩
def VV.one(c:Int):VV:=⟨false,c,c⟩
def VV.all:VV:=⟨false,-9223372036854775808,9223372036854775807⟩
abbrev EV:=Option (List VV)
structure VIn(v:VV):Prop where
  lo:-9223372036854775808<=v.lo/\v.lo<=9223372036854775807
  hi:-9223372036854775808<=v.hi/\v.hi<=9223372036854775807
def aQ(x:Int):Bool:=decide (-9223372036854775808<=x)&&decide (x<=9223372036854775807)
def oq(p:Int)(a b:VV):VV:=if p=5 then(if VV.wz a b then a else VV.fA) else⟨a.any,if b.lo<a.lo then b.lo else a.lo,if b.hi>a.hi then b.hi else a.hi⟩
def CY(p:Int):EV->EV->EV
 |none,b=>b
 |some a,none=>some a
 |some a,some b=>some (List.zipWith (oq p) a b)
def Oi(p:Int):EV->EV->Bool
 |none,_=>true
 |some _,none=>false
 |some a,some b=>(List.zip a b).all fun x=>VV.wz (oq p x.1 x.2) x.2
def cI(a:VV)(lo hi:Int):VV:=⟨a.any,if lo>a.lo then lo else a.lo,if hi<a.hi then hi else a.hi⟩
def Ol(a b c d:Int)(f:Bool):VV:=if f then oq 6 (oq 6 (oq 6 (VV.one a) (VV.one b)) (VV.one c)) (VV.one d) else VV.all
def DA(a b:VV):VV:=Ol (a.lo+b.lo) (a.hi+b.hi) (a.lo+b.lo) (a.hi+b.hi) (aQ (a.lo+b.lo)&&aQ (a.hi+b.hi))
def r9(a b:VV):VV:=Ol (a.lo-b.hi) (a.hi-b.lo) (a.lo-b.hi) (a.hi-b.lo) (aQ (a.lo-b.hi)&&aQ (a.hi-b.lo))
def CO(a b:VV):VV:=Ol (a.lo*b.lo) (a.lo*b.hi) (a.hi*b.lo) (a.hi*b.hi) (aQ (a.lo*b.lo)&&aQ (a.lo*b.hi)&&aQ (a.hi*b.lo)&&aQ (a.hi*b.hi))
def jS(a b:VV):Option VV:=
 if b.lo≠b.hi then some VV.all
 else if b.lo=0 then none
 else if b.lo=-1 then some (r9 ⟨false,0,0⟩ a)
 else if 0<b.lo then some ⟨false,a.lo.tdiv b.lo,a.hi.tdiv b.lo⟩
 else some ⟨false,a.hi.tdiv b.lo,a.lo.tdiv b.lo⟩
def cD(h:aQ x=true):wrap64 x=x:=by
 unfold aQ at h;simp only[aS,bm]at h;unfold wrap64;omega
def Ha(x:Int):∃k:Int,wrap64 x=x+k*18446744073709551616:=by
 unfold wrap64;exact⟨-((x+9223372036854775808) / 18446744073709551616),ah⟩
def wrap64_in(x:Int):aQ (wrap64 x)=true:=by
 unfold aQ wrap64;simp only[aS,bm];omega
def QS(hb:aQ b=true)(h0:b≠0):((wrap64 (a*b)).tdiv b==a)=aQ (a*b):=by
 by_cases V:aQ (a*b)=true
 ·rw[V,cD V,Int.mul_tdiv_cancel _ h0];simp
 rw[mF]at V;rw[V,er];intro H;obtain⟨k,X⟩:=Ha (a*b);have R:k≠0:=by
  rintro rfl;have:=wrap64_in (a*b);rw[X]at this;simp at this;rw[this]at V;cases V
 have C:=Int.tmod_add_mul_tdiv (wrap64 (a*b)) b;rw[H,X]at C;have L:(a*b+k*18446744073709551616).tmod b=k*18446744073709551616:=by
  have:=DP b a;omega
 have G:((a*b+k*18446744073709551616).tmod b).natAbs<b.natAbs:=by
  rw[Int.natAbs_tmod];exact DN _ ah
 rw[L]at G;unfold aQ at hb;simp only[aS,bm]at hb;omega
def Co(hx:aQ x=true)(h0:b≠0)(h1:b≠-1):aQ (x.tdiv b)=true:=by
 unfold aQ at hx⊢;simp only[aS,bm]at hx⊢;by_cases D:b=1
 ·subst D;rw[Int.tdiv_one];exact hx
 have O:(x.tdiv b).natAbs<=x.natAbs / 2:=by
  rw[Int.natAbs_tdiv];exact Nat.div_le_div_left ah ah
 omega
def M!(hb:aQ b=true)(h0:b≠0)(h1:b≠-1):(wrap64 ((wrap64 (a*b)).tdiv b)==a)=aQ (a*b):=by
 rw[cD (Co (wrap64_in _) h0 h1)];exact QS hb h0
end
open Go.RowKit Go.Proofs Go.Maps Tryz
def TY(s:ByteArray):List ByteArray:=Lib.goFieldsP Wm.CB s
def Hb(s:ByteArray):(TY s).map (·.data.toList)=Wm.mr [] s.data.toList:=Wm.NZ s
def JP(w:World):PredAtRunes Tryz.prog 122 #[] Wm.CB w:=by
 intro W x E D;refine(Fu x W).mono fun e I h=>?_
 refine⟨h.1.trans (aW ?_),0,h.2⟩;unfold Wm.CB;rw[cR];simp;omega
def ua(ws:List ByteArray):Bool:=match ws with|[]=>true|x :: _=>match x.data.toList with|c :: _=>c==35|[]=>false
def t!(a:Option Addr)(C:Nat)(w:World):
  Cl 78 #[.slice a 0 C] w fun e I=>e=.returned (.bool true)/\I=w:=by
 go_enter func78,ntmps78
 go_wp2
 go_ret
 exact⟨rfl,rfl⟩
def nW(g t len C:Nat)(x:ByteArray)(ws:List ByteArray)(w:World)(hl:((len:Int)==0)=false)(hx:0<x.size)(hm:x.size<=3000)(hW:Ws w g t (x :: ws)):
  Cl 78 #[.slice (some (Ad g t)) len C] w fun e I=>e=.returned (.bool (ua (x :: ws)))/\I=w:=by
 have Z:e' w g t (.string x):=hW.cell 0 x rfl;have b:(0:Int)<len:=by rw[er]at hl;omega
 have e:ua (x :: ws)=((x[0].toNat:Int)==35):=by
  have:=Wm.uI x hx;simp only[ua];rw[this];simp only;rw[cR];simp;constructor
  ·intro h;rw[h];rfl
  intro h;exact UInt8.toNat_inj.1 (by simpa using(by omega:x[0].toNat=35))
 rw[e];go_enter func78,ntmps78
 go_wp2
 go_ret
 exact⟨rfl,rfl⟩
section
variable {n i:Nat} {L:Nat->Bool} {l:List Nat}
section
variable {P:Program} {ops:Array Oper} {Q:Exit->Act->World->Prop} {md:Region.Mode} {S:World->Prop}
def Gx(listed:Array Bool)(i:Nat):Bool:=listed.getD i true
def left(listed:Array Bool)(n:Nat):Nat:=(List.range n).countP fun i=>!Gx listed i
def abK(md:Region.Mode)(ops:Array Oper):Bool:=(List.range ops.size).all fun i=>match ops[i]? with|some o=>o.after.all fun e=>!Region.binds md e||decide (e.on<i)|none=>true
def Lg(d:Array Bool)(i:Nat):Gx (d.setIfInBounds i true)=fun j=>j==i||Gx d j:=by
 funext j
 unfold Gx;by_cases h:j=i
 ·subst h
  by_cases O:j<d.size
  ·simp[O]
  simp[wK (Nat.le_of_not_lt O)]
 rw[getD_set_ne true (fun e=>h e.symm),er.2 h,jg]
def yU{p q:Nat->Bool}{i:Nat}:∀(l:List Nat),l.Nodup->i∈l->p i=true->q i=false->(∀j,j≠i->q j=p j)->l.countP q+1=l.countP p
 |[],_,h,_,_,_=>by cases h
 | x :: l,J,h,G,O,h3=>by
  rw[tN]at J;rw[List.countP_cons,List.countP_cons];by_cases e:x=i
  ·subst e
   rw[G,O];have:l.countP q=l.countP p:=List.countP_congr fun j U=>by rw[h3 j (fun e=>J.1 (e▸U))]
   simp[this]
  have C:i∈l:=by rcases cQ.1 h with h|h;(· exact absurd h.symm e);exact h
  have:=yU l J.2 C G O h3;rw[h3 x e];omega
def Fl{d:Array Bool}(hi:i<n)(h:Gx d i=false):left (d.setIfInBounds i true) n+1=left d n:=by
 unfold left;rw[Lg];exact yU _ List.nodup_range (bZ.2 hi) (by simp[h]) ak (fun j U=>by simp[er.2 U])
def aeJ(J:(Nat->Bool)->Act->World->Prop)(ha:abK md ops=true)(hS:∀L a w,J L a w->S w)
  (step:∀(i:Nat) (o:Oper) (L:Nat->Bool) (a:Act) (w:World),ops[i]?=some o->L i=false->(∀e∈o.after,Region.binds md e=true->L e.on=true)->J L a w->∀K:Act->World->Prop,Shut (∀n I,J (fun j=>j==i||L j) n I->K n I)->if Region.wanted o (yielded ops a.tmps)=true then Oper.wp P o a w K Q else K (a.put o.dst undef) w)
  (done:∀L a w,(∀i,i<ops.size->L i=true)->J L a w->Q .normal a w):
  ∀(m:Nat) (d:Array Bool) (a:Act) (w:World),left d ops.size<=m->J (Gx d) a w->wpAnyH P md ops Q S m d a w:=by
 have B:∀(d:Array Bool),Region.ready md ops d=[]->∀i,i<ops.size->Gx d i=true:=by
  intro d f i
  induction i using Nat.strongRecOn with
  | ind i l=>
   intro hi;cases hl:Gx d i with
   |true=>rfl
   | false=>
    exfalso
    have C:i∈Region.ready md ops d:=by
     refine qI.2 ⟨hl,ops[i],qH hi,fun e H D=>?_⟩;unfold abK at ha;rw[bM]at ha;have G:=ha i (bZ.2 hi);rw[qH hi]at G;simp only[Array.all_eq_true]at G;obtain⟨k,X,rfl⟩:=Array.getElem_of_mem H;have O:=G k X;rw[D]at O;have Y:ops[i].after[k].on<i:=by simpa using O
     have h:=l _ Y (Nat.lt_trans Y hi);unfold Gx at h;rcases iw ops[i].after[k].on d.size with p|p
     ·simp[p]at h⊢;exact h
     exfalso
     unfold Gx at hl;rcases iw i d.size with b|b
     ·omega
     simp[wK b]at hl
    rw[f]at C;cases C
 intro m
 induction m with
 | zero=>
  intro d a w V z
  have Z:∀i,i<ops.size->Gx d i=true:=fun i hi=>by
   cases hl:Gx d i with
   |true=>rfl
   |false=>have:=Fl hi hl;omega
  refine⟨?_,done _ a w Z z⟩;cases f:Region.ready md ops d with
  |nil=>rfl
  |cons x r=>
   exfalso
   have E:x∈Region.ready md ops d:=by rw[f];simp
   obtain⟨G,o,g,_⟩:=qI.1 E;have:=Z x (bq.1 g).1;unfold Gx at this;rw[G]at this;cases this
 | succ m l=>
  intro d a w V z;refine⟨fun f=>done _ a w (B d f) z,fun i hi=>?_⟩;obtain⟨G,o,g,Z⟩:=qI.1 hi;refine wpOp_step g (fun K A=>step i o (Gx d) a w g G (fun e H D=>?_) z K (fun n I c=>A n I ⟨hS _ _ _ c,l _ n I ?_ (by rw[Lg];exact c)⟩))
  ·have:=Z e H D
   unfold Gx;rcases iw e.on d.size with p|p
   ·simp[p]at this⊢;exact this
   simp[wK p]at this
  have:=Fl (bq.1 g).1 G;omega
theorem ad7(J:Act->(Nat->Bool)->Act->World->Prop){fuel:Nat}{listed:Array Bool}{a:Act}{w:World}(ha:abK md ops=true:=by kernel_rfl)(hf:decide (left listed ops.size<=fuel)=true:=by kernel_rfl)(h0:J a (Gx listed) a w)(hS:∀L b v,J a L b v->S v)
  (step:∀(i:Nat) (o:Oper) (L:Nat->Bool) (b:Act) (v:World),ops[i]?=some o->L i=false->(∀e∈o.after,Region.binds md e=true->L e.on=true)->J a L b v->∀K:Act->World->Prop,Shut (∀a' w',J a (fun j=>j==i||L j) a' w'->K a' w')->if Region.wanted o (yielded ops b.tmps)=true then Oper.wp P o b v K Q else K (b.put o.dst undef) v)
  (done:∀L b v,(∀i,i<ops.size->L i=true)->J a L b v->Q .normal b v):wpAnyH P md ops Q S fuel listed a w:=
 aeJ (J a) ha hS step done fuel listed a w (G2 hf) h0
end
def pick(h:(List.range n).all (fun j=>L j||l.contains j)=true)(hi:i<n)(E:L i=false):i∈l:=by
 rw[bM]at h;have:=h i (bZ.2 hi);rw[E,jg]at this
 simpa using this
def n?(h:(List.range n).all (fun j=>L j||l.contains j)=true):(List.range n).all (fun j=>(j==i||L j)||l.contains j)=true:=by
 rw[bM]at h⊢;intro j U;have:=h j U;rw[wN,this,Bool.or_true]
end
section
variable {w W:World} {row:Option Nat} {o rb b:Nat} {s:ByteArray} {bad:Bool}
open Go.RowKit Go.Proofs Go.Maps Tryz
def RdP{α:Type}(w':World)(rb:Nat)(s:ByteArray)(res:Option (α×List UInt8))(val:α->Value)(z:Value->Prop)(e:Ending):Prop:=
 (∃a s',res=some (a,s'.data.toList)/\s'.size<=s.size/\e=.returned (val a)/\cT w' rb s' false)∨(res=none/\∃v s',z v/\e=.returned v/\s'.size<=s.size/\cT w' rb s' true)
def sT(h:w.grownBy W row)(o:Obj):w.grownBy (W.alloc o) row:=h.trans (gJ W o row)
def iQ{o:Obj}(h:(w.alloc o).grownBy W row):w.grownBy W row:=(gJ w o row).trans h
def cT.alloc(h:cT w rb s bad)(o:Obj):cT (w.alloc o) rb s bad:=(ch _ _ _ (bq.1 h).1).trans h
def cT.lt(h:cT w rb s bad):rb<w.heap.size:=(bq.1 h).1
def Jo(lo:Int)(n:Nat):Int:=wrap64 (IntKind.u64.wrap (IntKind.u64.wrap lo+(n:Int)))
def dz{w':World}(h:w.grownBy w' row)(hb:w.heap.size<=b)(v:Value):w.grownBy (w'.setCell (Ad b o) v) row:=
 ⟨h.os,h.tape,h.output,by simpa[World.setCell]using h.size,fun k X L=>(aZ _ _ _ _ (by show k≠b;omega)).trans (h.block k X L)⟩
def cT.far(h:cT w rb s bad)(hb:rb≠b)(v:Value):cT (w.setCell (Ad b o) v) rb s bad:=(aZ _ _ _ _ hb).trans h
def gO(g:w.grownBy W (some rb))(h:cT W rb s bad)(hb:w.heap.size<=b)(P:rb≠b)(a0 a1 a2 a3 a4 a5:Value):cT ((((((W.setCell (Ad b 0) a0).setCell (Ad b 1) a1).setCell (Ad b 2) a2).setCell (Ad b 3) a3).setCell (Ad b 4) a4).setCell (Ad b 5) a5) rb s bad/\w.grownBy ((((((W.setCell (Ad b 0) a0).setCell (Ad b 1) a1).setCell (Ad b 2) a2).setCell (Ad b 3) a3).setCell (Ad b 4) a4).setCell (Ad b 5) a5) (some rb):=
 ⟨(((((h.far P _).far P _).far P _).far P _).far P _).far P _,dz (dz (dz (dz (dz (dz g hb _) hb _) hb _) hb _) hb _) hb _⟩
def sk(l:List UInt8):Option (Vl×List UInt8):=match oJ l with
 |some (lo,r)=>match rc r with
  |some (n,q)=>some (⟨3,lo,Jo lo n,false,0,0⟩,q)
  |none=>none
 |none=>none
def dZ{k:Nat}{cs:Array Value}{t:TypeId}(h:w.heap[k]?=some (cJ cs t))(g:w.grownBy W (some rb))(P:k≠rb):W.heap[k]?=some (cJ cs t):=(g.block k (bq.1 h).1 (by simpa using P)).trans h
def XB{p:Prop}(h:p:=by
 have G:=E.b;have O:=C.a;unfold dJ at G O⊢;cases bad with
 |true=>cases G
 |false=>
  simp only[bN,bR]at G O⊢;unfold sk;rw[G];simp only
  rw[O]):p:=h
def EP(rb:Nat)(s:ByteArray)(bad:Bool)(w:World)(h:cT w rb s bad)(hs:s.size<=60000):
  Cl 294 (bE rb) w fun e I=>RdP I rb s (dJ bad sk s) jk (fun z=>∃v,z=jk v) e/\w.grownBy I (some rb):=by
 have J:=h.lt;have Z:=fun(O:cT (w.alloc (.cells iB 73)) rb s bad)=>oQ rb s bad _ O hs
 have X:=(show Hd _ from Aa Z h);clear h Z;go_enter func294,ntmps294
 go_wp2_with fail
 refine bA (X.a (X.A.alloc _)) ?_;rintro e T ⟨G,u⟩;have eB:=dZ (bf w (.cells iB 73)) u ah;rcases G with⟨lo,P,o,c,rfl,L⟩|⟨o,rfl,P,c,L⟩;rotate_left
 ·have Q:=nA rb P true T L ah
  have f:Hd (dJ bad sk s=none):=by
   show _=_;unfold dJ at o⊢;cases bad with
   |true=>rfl
   |false=>
    simp only[bN,bR]at o⊢;unfold sk;rw[o]
  have E:=(show Hd _ from Aa Q (Aa f.o (Aa (iQ u) eB)));clear Q o u eB L f
  go_wp2_with fail
  refine bA E.a ?_;rintro e r ⟨O,q⟩;have a:=dZ E.C q ah;rcases O with⟨n,m,d,b,rfl,j⟩|⟨d,rfl,m,b,j⟩
  ·cases d
  obtain⟨F,y⟩:=ae a;have C:=(show Hd _ from Aa d (Aa j (Aa q a)));clear d j q a
  go_wp2_with fail
  have t:=gO (E.c.trans C.c) C.b (aF w.heap.size) ah (Iv 3) (Iv 0) (Iv 0) (.bool false) (Iv 0) (Iv 0);refine aG (v:=jk ⟨3,0,0,false,0,0⟩) (by simp[results,results294,go_sem,F,jk]) rfl ?_;exact⟨aI ⟨E.b,_,m,⟨_,rfl⟩,rfl,ah,t.1⟩,t.2⟩
 have Q:=nA rb P false T L ah;have E:=(show Hd _ from Aa Q (Aa o (Aa (iQ u) eB)));clear Q o u eB L
 go_wp2_with fail
 refine bA E.a ?_;rintro e r ⟨O,q⟩;have a:=dZ E.C q ah;rcases O with⟨n,m,d,b,rfl,j⟩|⟨d,rfl,m,b,j⟩
 ·obtain⟨F,y⟩:=ae a
  have C:=(show Hd _ from Aa d (Aa j (Aa q a)));clear d j q a
  go_wp2_with fail
  refine aG (v:=jk ⟨3,lo,Jo lo n,false,0,0⟩) (by simp[results,results294,go_sem,F,jk,Jo]) rfl ?_;have t:=gO (E.c.trans C.c) C.b (aF w.heap.size) ah (Iv 3) (Iv lo) (Iv (Jo lo n)) (.bool false) (Iv 0) (Iv 0);refine⟨aJ ⟨⟨3,lo,Jo lo n,false,0,0⟩,m,?_,ah,rfl,t.1⟩,t.2⟩;exact XB
 obtain⟨F,y⟩:=ae a;have C:=(show Hd _ from Aa d (Aa j (Aa q a)));clear d j q a
 go_wp2_with fail
 have t:=gO (E.c.trans C.c) C.b (aF w.heap.size) ah (Iv 3) (Iv lo) (Iv (wrap64 (IntKind.u64.wrap (IntKind.u64.wrap lo)))) (.bool false) (Iv 0) (Iv 0);refine aG (v:=jk ⟨3,lo,wrap64 (IntKind.u64.wrap (IntKind.u64.wrap lo)),false,0,0⟩) (by simp[results,results294,go_sem,F,jk]) rfl ?_;refine⟨aI ⟨?_,_,m,⟨_,rfl⟩,rfl,ah,t.1⟩,t.2⟩;exact XB
end
open Go.RowKit Go.Proofs Go.Maps Tryz
def Pf(x:Int)(h:eX x):IntKind.i64.wrap x=x:=by
 obtain⟨G,O⟩:=h;simp[IntKind.wrap,IntKind.bits,IntKind.signed];omega
def iF(fl:Nat)(l:List UInt8):Option ((Int×Nat)×List UInt8):=match kC (100000-(fl:Int)) l with
 |some (n,r)=>some ((((fl+n:Nat):Int),fl+n+1),r)
 |none=>none
def Tb(xb rb:Nat)(W:World):Prop:=W.heap[xb]?=some (.cells (bE rb) 274 (0,0))
def Wv(fb xb rb:Nat)(W:World)(fl:Nat):Prop:=W.heap[fb]?=some (fY fl)/\Tb xb rb W/\fl<=100001
def aea(fb xb rb:Nat)(W:World):Prop:=(∃v:Int,W.heap[fb]?=some (fY v))/\Tb xb rb W
def Y4(s:ByteArray)(bad:Bool)(most:Int)(n:Nat)(s':ByteArray)(b:Bool):Prop:=s'.size<=s.size/\((b=false/\dJ bad (kC most) s=some (n,s'.data.toList)/\(n:Int)<=most)∨(b=true/\dJ bad (kC most) s=none/\n=0))
def ub{most:Int}{l r:List UInt8}{n:Nat}(h:kC most l=some (n,r)):(n:Int)<=most:=by
 unfold kC at h;cases Z:rc l with
 |none=>rw[Z]at h;cases h
 |some p=>
  obtain⟨m,q⟩:=p;rw[Z]at h;simp only at h;by_cases C:(m:Int)<=most
  ·rw[aD C]at h;cases h;exact C
  rw[aA C]at h;cases h
def ny(rb:Nat)(s:ByteArray)(bad:Bool)(most:Int)(w:World)(h:cT w rb s bad)(hs:s.size<=60000)(hm:eX most):
  Cl 158 (Ah rb most) w fun e I=>∃(n:Nat) (C:ByteArray) (b:Bool),e=.returned (Iv n)/\Y4 s bad most n C b/\cT I rb C b/\w.grownBy I (some rb):=by
 refine(yc rb s bad most w h hs hm).mono ?_;rintro e I ⟨G,g⟩;rcases G with⟨n,C,o,c,rfl,L⟩|⟨o,rfl,C,c,L⟩
 ·refine⟨n,C,false,rfl,⟨c,aJ ⟨rfl,o,?_⟩⟩,L,g⟩
  unfold dJ at o;cases bad with
  |true=>cases o
  |false=>exact ub o
 exact⟨0,C,true,rfl,⟨c,aI ⟨rfl,o,rfl⟩⟩,L,g⟩
def MO(a xb rb:Nat)(hf:a≠rb)(hx:xb≠rb)(b:a≠xb)(W:World)(fl:Nat)(s:ByteArray)(bad:Bool)(N:Wv a xb rb W fl)(h:cT W rb s bad)(hs:s.size<=60000):
  Cl 290 (nk a xb) W fun e i=>Ou i rb s (dJ bad (iF fl) s) (fun x:Int=>Iv x) (fun z=>∃x,z=Iv x) (Wv a xb rb) (aea a xb rb) e/\Fr (fun j=>j≠rb/\¬(j=a∨j=xb)) W i:=by
 obtain⟨V,p,i3⟩:=N;have c:IntKind.i64.wrap (100000-(fl:Int))=100000-(fl:Int):=by simp[IntKind.wrap,IntKind.bits,IntKind.signed];omega
 have Z:=ny rb s bad (IntKind.i64.wrap (100000-(fl:Int))) W.drew h hs (by rw[c];exact⟨ah,ah⟩);have d:=(show Hd _ from c);clear c;obtain⟨F,y⟩:=ae V;obtain⟨B,y2⟩:=ae p;have f:=(show Hd _ from Aa Z (Aa V p));clear Z V p h;go_enter func290,ntmps290
 go_wp2_with fail
 go_region_held3 (fun I=>I.cell? (Ad a 0)=some (Iv fl)/\I.cell? (Ad xb 0)=some (nV rb)) (go_keep) ((go_at_call 158;refine bA f.a ?_;rintro e T ⟨n,P,u,rfl,X,L,g⟩;have A:=(g.block a (bq.1 f.b).1 (by simpa using hf)).trans f.b;have l:=(g.block xb (bq.1 f.B).1 (by simpa using hx)).trans f.B;obtain⟨C,O⟩:=ae A;obtain⟨r,G⟩:=ae l;have J:n<=100001:=(by rw[d.o]at X;rcases X.2 with⟨_,_,q⟩|⟨_,_,q⟩<;>omega);have M:=(show Hd _ from Aa X (Aa L (Aa g (Aa A l))));clear X L g A l))
 go_wp2_with fail
 go_ret
 have t:∀v,d' (T.setCell (Ad a 0) v) a #[v] 3/\Tb xb rb (T.setCell (Ad a 0) v)/\cT (T.setCell (Ad a 0) v) rb P u/\Fr (fun j=>j≠rb/\¬(j=a∨j=xb)) W (T.setCell (Ad a 0) v):=by
  intro v;obtain⟨_,R,Q,U,w⟩:=M.o;have m:=cW T a 0 v;exact⟨eC U v,(m.block xb (bq.1 w).1 (by simpa using fun e=>b e.symm)).trans w,R.grown m (by simpa using fun e=>hf e.symm),Fr.trans (Fr.trans (Fr.aR (P:=fun j=>j≠rb/\¬(j=a∨j=xb)) (aM W.heap.size W).drew) (Fr.dr (P:=fun j=>j≠rb/\¬(j=a∨j=xb)) Q (fun k _ K=>by simpa using K.1)) (fun _ _ K=>K)) (Fr.dr m (fun k _ K=>by simpa using fun e=>K.2 (aJ e))) (fun _ _ K=>K)⟩
 refine⟨?_,(t _).2.2.2⟩;have k:=M.a;rw[d.o]at k;obtain⟨H,S⟩:=k;rcases S with⟨D,o,Y⟩|⟨D,o,E⟩
 ·subst D
  refine aJ ⟨((fl+n:Nat):Int),fl+n+1,P,?_,H,by simp[Pf (fl+n) (show eX _ from⟨ah,ah⟩)],(t _).2.2.1,?_,(t _).2.1,ah⟩;rotate_left
  ·rw[(t _).1];push_cast;rfl
  unfold dJ at o⊢;cases bad with
  |true=>cases o
  |false=>
   simp only[bN,bR]at o⊢;unfold iF;rw[o]
 subst D;refine aI ⟨?_,_,P,⟨_,rfl⟩,rfl,H,(t _).2.2.1,⟨_,(t _).1⟩,(t _).2.1⟩;unfold dJ at o⊢;cases bad with
 |true=>rfl
 |false=>
  simp only[bN,bR]at o⊢;unfold iF;rw[o]
end Go.Proofs.YtmipbiligijcpaaGreatDoor
