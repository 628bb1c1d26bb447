import Derived.Test.YtmipbiligijcpaaGreatDoorA16
import Derived.Test.YtmipbiligijcpaaGreatDoorA18
namespace Go.Proofs.YtmipbiligijcpaaGreatDoor
set_option linter.all false
set_option maxHeartbeats 4000000
set_option maxRecDepth 100000
open Go.RowKit Go.Proofs Go.Maps
section
variable {W:World} {B rb d c k N:Nat} {rl:List RR} {r:RR} {F:Nat->RA}
abbrev kn(N:Nat)(F:Nat->RA):List RA:=(List.range N).map F
def A1(N k:Nat)(F:Nat->RA)(g:RA->RA):(kn N F).modify k g=kn N fun n=>if n=k then g (F n) else F n:=by
 refine dW fun j=>?_
 rw[GR,bG,bG];by_cases U:j<N
 ·rw[jX U]
  by_cases e:k=j
  ·subst e;simp
  simp[e,qn e]
 rw[bU (by simpa using U)];simp
def L5(N t:Nat)(F:Nat->RA)(x:Nat×Value):vM (kn N F) t x=kn N fun n=>if n=t then((F n).1,(F n).2++[x]) else F n:=A1 N t F _
def SP(N k:Nat)(e:Value):∀(D:List Nat) (F:Nat->RA),D.foldl (fun l t=>vM l k (t,e)) (kn N F)=kn N fun n=>if n=k then((F n).1,(F n).2++D.map fun t=>(t,e)) else F n
 |[],F=>by
  rw[wG];refine eM fun n _=>?_
  split<;>simp
 |t :: D,F=>by
  rw[gx,L5,SP N k e D]
  congr 1
  funext n
  split
  ·rename_i h;simp[h]
  rename_i h;simp[h]
def RT(N:Nat)(x:Nat×Value):∀(D:List Nat) (j:Nat) (F:Nat->RA),D.foldl (fun l t=>vM l t x) (kn N F)=kn N fun n=>((F n).1,(F n).2++(i7 n j D).map fun _=>x)
 |[],j,F=>by
  rw[wG];refine eM fun n _=>?_
  simp[i7]
 |t :: D,j,F=>by
  rw[gx,L5,RT N x D (j+1)]
  congr 1
  funext n
  simp only[i7];by_cases h:n=t
  ·subst h;simp
  have p:¬t=n:=fun e=>h e.symm
  simp[h,p]
def Sys.start{s z:BS}(h:Sys W B rb 2 d c rl)(N:c≠d)(hk:rl[k]?=some r)(hs:r.st=eG s):
  Sys ((W.setCell (Ad rb (k*3)) (Uv z.1)).setCell (Ad rb (k*3+1)) (Uv z.2)) B rb 2 d c (rl.set k ⟨eG z,r.ea,r.ec,r.es⟩):=by
 have l:=(bn.1 hk).1;have keep:∀q,q≠rb->((W.setCell (Ad rb (k*3)) (Uv z.1)).setCell (Ad rb (k*3+1)) (Uv z.2)).heap[q]?=W.heap[q]?:=fun q o=>(aZ _ _ _ _ o).trans (aZ _ _ _ _ o)
 refine⟨?_,h.low,?_,?_,?_⟩
 ·rw[aw (aw h.fB _) _]
  congr 2
  rw[cS,cS]
  congr 1
  have Q:=pH rl k r ⟨[Uv z.1,Uv s.2],r.ea,r.ec,r.es⟩ 0 (Uv z.1) h.len hk ah (by simp[oh,hs,eG,RR.ev]);rw[z!]at Q;rw[Q];have p:=pH (rl.set k ⟨[Uv z.1,Uv s.2],r.ea,r.ec,r.es⟩) k ⟨[Uv z.1,Uv s.2],r.ea,r.ec,r.es⟩ ⟨eG z,r.ea,r.ec,r.es⟩ 1 (Uv z.2) (by intro x E;rcases gN E with E|rfl;(· exact h.len x E);rfl) (by rw[eQ,aD rfl,aD l]) ah (by simp[oh,eG,RR.ev])
  rw[p,w!]
 ·intro x E
  rcases gN E with E|rfl
  ·exact h.len x E
  rfl
 ·intro x E
  have u:W.ownsRow B c 2 x.ev x.es.length (ia x.es):=by
   rcases gN E with E|rfl
   ·exact h.row x E
   exact h.row r (aL hk)
  refine⟨u.1,?_⟩;rcases u.2 with a|⟨g,C,A,G,O,Y,K⟩
  ·exact aJ a
  refine aI ⟨g,C,A,G,O,(keep g ?_).trans Y,K⟩;rintro rfl;rw[h.fB]at Y;simp at Y;exact N Y.2.symm
 intro i j a b hi U I;have f:∀{i:Nat} {a:RR},(rl.set k ⟨eG z,r.ea,r.ec,r.es⟩)[i]?=some a->∃n,rl[i]?=some n/\n.ev=a.ev:=by
  intro i a hi;rw[eQ]at hi;by_cases e:k=i
  ·subst e;rw[aD rfl,aD l]at hi;cases hi;exact⟨r,hk,rfl⟩
  rw[aA e]at hi;exact⟨a,hi,rfl⟩
 obtain⟨n,y,ea⟩:=f hi;obtain⟨m,D,F⟩:=f U;rw[<-ea,<-F];exact h.vH i j n m y D I
def Sys.r?{v v':Value}(h:Sys W B rb 2 d c rl):TF B d c W ((W.setCell (Ad rb (k*3)) v).setCell (Ad rb (k*3+1)) v'):=by
 refine⟨((aM _ _).setCell h.low _).setCell h.low _,fun q cs t f e G O=>?_⟩;have p:q≠rb:=by
  rintro rfl;rw[h.fB]at e;simp at e;exact G e.2.1.symm
 rw[aZ _ _ _ _ p,aZ _ _ _ _ p]
def Iz{st:List Value}(hp:rl.map RR.pr=kn N F)(hk:rl[k]?=some r):(rl.set k ⟨st,r.ea,r.ec,r.es⟩).map RR.pr=kn N fun n=>if n=k then(st,(F n).2) else F n:=by
 have e:(rl.set k ⟨st,r.ea,r.ec,r.es⟩).map RR.pr=(rl.map RR.pr).modify k fun x=>(st,x.2):=by
  refine dW fun j=>?_
  rw[bG,eQ,GR,bG];by_cases s:k=j
  ·subst s
   rw[aD rfl,aD (bn.1 hk).1,hk];simp[RR.pr]
  rw[aA s];cases rl[j]?<;>simp[s]
 rw[e,hp,A1]
def EM(hp:rl.map RR.pr=kn N F)(hk:k<N):∃r,rl[k]?=some r/\r.st=(F k).1/\r.es=(F k).2:=by
 have hl:rl.length=N:=by have:=dv List.length hp;simpa using this
 have h:=dv (fun l=>l[k]?) hp;obtain⟨r,L⟩:=La (l:=rl) (i:=k) ah;simp only[bG,L,kI,jX hk,dG,RR.pr]at h;exact⟨r,L,by rw[<-h],by rw[<-h]⟩
def yd(hp:rl.map RR.pr=kn N F):rl.length=N:=by have:=dv List.length hp;simpa using this
def Cw{m:Nat}(hp:rl.map RR.pr=kn N F)(hF:∀n,n<N->(F n).2.length<=m):∀r∈rl,r.es.length<=m:=by
 intro r L;obtain⟨j,U⟩:=i!.1 L;have hl:=(bn.1 U).1;rw[yd hp]at hl;obtain⟨b,G,_,Y⟩:=EM hp hl;rw[U]at G;cases G;rw[Y];exact hF j hl
end
section
variable {F:Nat->RA} {N m k B rb d c:Nat} {W:World} {rl:List RR} {r:RR}
open Go.RowKit Go.Proofs Go.Maps Tryz
def YT:Ef:=⟨(0,0),(0,0)⟩
def OH:RA:=([Uv 0,Uv 0],[])
def QW(n:SN):Ef:=if jf n then⟨cH [n.var.toNat],(0,0)⟩ else YT
def QV(P:Pm)(n:Nat):RA:=(eG (Pw (P.at n)),(P.qY n).map fun t=>(t,u? (QW (P.at n))))
def upto(F:Nat->RA)(k:Nat)(n:Nat):RA:=if n<k then F n else OH
def Am(F:Nat->RA)(N:Nat):kn N (upto F 0)=List.replicate N OH:=by
 refine BO.2 ⟨ak,fun b D=>?_⟩;obtain⟨n,_,rfl⟩:=bP.1 D;simp[upto]
def D3(F:Nat->RA)(N:Nat):kn N (upto F N)=kn N F:=eM fun n J=>by simp[upto,bZ.1 J]
def D2(hF:∀n,n<N->(F n).2.length<=m):∀n,n<N->(upto F k n).2.length<=m:=by
 intro n J;unfold upto;split
 ·exact hF n J
 simp[OH]
def IJ{P:Pm}(h:cE P){n:SN}(hn:n∈P.nd):∀o∈nD n,o.isVar=true->0<=o.var/\o.var<128:=by
 have t:=h.nv;intro o g b;have y:=h.a n hn;have D:=h.b n hn;unfold nD at g;unfold fm at y D;split at g
 ·rename_i X
  simp at g;subst g;have:=y (by split<;>simp_all) b;omega
 split at g
 ·rename_i X
  simp at g;rcases g with rfl|rfl
  ·have:=y (by split<;>simp_all) b;omega
  have:=D (by simp_all) b;omega
 simp at g
def Sys.deep{B':Nat}(h:Sys W B rb m d c rl)(f:B'<=B):Sys W B' rb m d c rl:=by
 refine⟨h.fB,bw f h.low,h.len,fun r L=>?_,h.vH⟩;have o:=h.row r L;refine⟨o.1,?_⟩;rcases o.2 with a|⟨g,C,A,G,O,Y⟩
 ·exact aJ a
 exact aI ⟨g,C,A,G,bw f O,Y⟩
def Sys.two{s:BS}(h:Sys W B rb 2 d c rl)(hk:rl[k]?=some r)(hs:r.st=eG s):(W.cell? (Ad rb (k*3))=some (Uv s.1)/\W.frozen? (Ad rb (k*3))=false)/\W.cell? (Ad rb (k*3+1))=some (Uv s.2)/\W.frozen? (Ad rb (k*3+1))=false:=
 ⟨h.cell (j:=0) hk (by simp[oh,hs,eG]),h.cell (j:=1) hk (by simp[oh,hs,eG])⟩
def yY{ql:List RR}{st:List Value}{D:List Nat}{e:Value}(hp:ql.map RR.pr=kn N (upto F k))(hk:ql[k]?=some r)(hF:F k=(st,D.map fun t=>(t,e))):D.foldl (fun l t=>vM l k (t,e)) ((ql.set k ⟨st,r.ea,r.ec,r.es⟩).map RR.pr)=kn N (upto F (k+1)):=by
 rw[Iz hp hk,SP];refine eM fun n _=>?_
 by_cases h:n=k
 ·subst h
  simp[upto,OH,hF]
 have:n<k+1↔n<k:=ah
 simp[h,upto,this]
def Q0(g C:Nat)(nl:List NC)(P:Pm)(w:World)(hP:PM w g C nl P)(hO:cE P):
  Cl 221 #[eV g P.nd.length C P.nv] w fun e I=>∃B rl,e=.returned (.tuple #[cK B P.nd.length,Iv P.nv])/\Sys I w.heap.size B 2 393 404 rl/\rl.map RR.pr=kn P.nd.length (QV P)/\Bl w I:=by
 have hN:=hO.most;have Vp:=hO.nv;have HH:=hid (Aa hP hO);have pw:Hd (∀W,Cl 280 #[eV g P.nd.length C P.nv] W fun e I=>∃B rl,e=.returned (cK B P.nd.length)/\Sys I W.heap.size B 2 393 404 rl/\rl.map RR.pr=List.replicate P.nd.length OH/\Bl W I):=fun W=>lK g P.nd.length C P.nv W hN
 have Jq:∀n,n<P.nd.length->(QV P n).2.length<=200:=by
  intro n hn;obtain⟨c,ts,_,_,_,E,hy,_⟩:=hP.nodes hn;have:=(hO.nx ts (aL E)).1;simp[QV,hy];omega
 obtain⟨N,Q⟩:=Ea P.nd.length;obtain⟨nv,FE⟩:∃nv,nv=P.nv:=⟨_,rfl⟩;rw[<-Q]at hN Jq;rw[<-FE]at Vp;rw[<-Q,<-FE]at pw⊢;have m:=hid (Aa Q (Aa FE Jq));clear hP hO Q FE Jq;simp only[eV,cK]at pw⊢;go_enter func221,ntmps221
 go_upto_region 1 with(fail)
 have R:Hd (Bl w ((w.alloc (.cells (cN g N C nv) 86)).alloc (.cells ic 260))/\((w.alloc (.cells (cN g N C nv) 86)).alloc (.cells ic 260)).heap[w.heap.size]?=some (.cells (cN g N C nv) 86 (0,0))/\((w.alloc (.cells (cN g N C nv) 86)).alloc (.cells ic 260)).heap[w.heap.size+1]?=some (.cells ic 260 (0,0))):=⟨aX _ _ _,(aN _ _ _).1,(aN _ _ _).2⟩;generalize(w.alloc (.cells (cN g N C nv) 86)).alloc (.cells ic 260)=W0 at R⊢;obtain⟨x1,y⟩:=ae R.b
 go_upto_region 2 with(go_at_call 280;refine(pw.o _).mono ?_;rintro e T ⟨B,rl,rfl,A8,OL,A⟩;have H1:=hid (Aa A8 (Aa OL A));clear A8 OL A x1 y)
 have d:Hd (Bl w (T.alloc (.cells (bV B N) 260))/\(T.alloc (.cells (bV B N) 260)).heap[w.heap.size]?=some (.cells (cN g N C nv) 86 (0,0))/\(T.alloc (.cells (bV B N) 260)).heap[w.heap.size+1]?=some (.cells ic 260 (0,0))/\(T.alloc (.cells (bV B N) 260)).heap[T.heap.size]?=some (.cells (bV B N) 260 (0,0))/\Sys (T.alloc (.cells (bV B N) 260)) w.heap.size B 2 393 404 rl/\rl.map RR.pr=kn N (upto (QV P) 0)):=by
  have A:=aq H1.B (aC T (.cells (bV B N) 260));have hs:=H1.a.below (aC T (.cells (bV B N) 260));exact⟨aq R.a A,aE A R.b,aE A R.B,bf _ _,hs.deep R.a.size,by rw[H1.b,Am]⟩
 have zK:w.heap.size+1<T.heap.size:=by have:=H1.B.size;have:=blt R.B;omega
 have Yw:B<T.heap.size:=blt H1.a.fB;have ae2:w.heap.size+1<B:=by have:=H1.a.low;have:=blt R.B;omega
 generalize T.alloc (.cells (bV B N) 260)=W2 at d⊢;generalize T.heap.size=sb at d zK Yw⊢;clear H1 R pw;obtain⟨x1,y⟩:=ae d.b
 go_wp2_with fail
 clear x1 y
 go_loopw[13] (fun iv wr=>∃(i:Nat) (ql:List RR),i<=N/\iv=Iv i/\Hd (Sys wr w.heap.size B 2 393 404 ql/\ql.map RR.pr=kn N (upto (QV P) i)/\TF w.heap.size 393 404 W2 wr)) (fun iv _=>N-(intOf iv).toNat)
 case atStart=>exact⟨0,rl,bB _,rfl,d.e,d.E,TF.refl _ _ _ _⟩
 obtain⟨i,ql,hi,rfl,M⟩:=hrel;have lw:=blt (M.B.box d.d aj aj);by_cases J:i<N;rotate_left
 ·have s:¬(i:Int)<N:=ah
  have Vw:i=N:=ah
  have a:=M.B;obtain⟨x1,y⟩:=ae (a.box d.d aj aj);obtain⟨y1,o⟩:=ae (a.box d.b aj aj);obtain⟨z1,z2⟩:=ae (a.box d.c aj aj);have p:w.heap.size+1≠sb:=ah
  have n2:=p.symm;have n3:w.heap.size+1≠w.heap.size:=ah
  clear a
  go_upto_region 11 with fail
  go_region_law fail
  all_goals
   go_wp2_with fail
   have nI:wr.heap[w.heap.size+1]?=some (.cells ic 260 (0,0)):=M.B.box d.c aj aj;have q0:=(ae (aw (o:=0) nI (b? B N))).1;have q1:=(ae (aw (o:=1) (aw (o:=0) nI (b? B N)) iz)).1;have q2:=(ae (aw (o:=2) (aw (o:=1) (aw (o:=0) nI (b? B N)) iz) mI)).1;refine aG (v:=.tuple #[cK B N,Iv nv]) (by simp[results,results221,go_sem,q0,q1,q2,cK]) rfl ⟨B,rfl,ql,?_,?_,?_⟩
   ·exact M.a.keep nI ⟨aj,aj⟩ (fun k hk=>by show(((wr.setCell _ _).setCell _ _).setCell _ _).heap[k]?=_;rw[aZ _ _ _ _ hk,aZ _ _ _ _ hk,aZ _ _ _ _ hk])
   ·rw[M.b,Vw,D3]
   exact((((d.a.trans M.B.low)).setCell (by show _<=w.heap.size+1;omega) _).setCell (by show _<=w.heap.size+1;omega) _).setCell (by show _<=w.heap.size+1;omega) _ |>.drew
 have s:(i:Int)<N:=ah
 have wj:=(HH.a.below d.a).tf M.B aj aj aj aj;obtain⟨nc,ts,hc,LB,u,_,Rq,_⟩:=wj.nodes (by rw[<-m.a];exact J);have cc:=fun j (hj:j<14)=>(mV wj hc j hj)
 have mg:=aL LB;obtain⟨nd,vD⟩:=Ea nc.n;rw[<-vD]at cc LB u mg;simp only[NC.wv,NC.ev]at cc;generalize nc.bj=bj at cc;generalize nc.wa=wa at cc;generalize nc.wl=wl at cc;generalize nc.wc=wc at cc;generalize nc.ea=ea at cc;generalize nc.el=el at cc;generalize nc.ec=ec at cc;have HUS:Hd (∀W,Cl 284 #[.agg (aK bj (.slice wa wl wc) nd (.slice ea el ec))] W (Rb W (b! (Pw nd)))):=fun W=>Pv bj (.slice wa wl wc) (.slice ea el ec) nd W (IJ HH.A mg)
 have DE:Hd (∀W,Cl 282 #[.agg (aK bj (.slice wa wl wc) nd (.slice ea el ec))] W (Rb W (.bool (jf nd)))):=fun W=>(lR bj _ _ nd W (HH.A.kind nd mg).1).mono fun e I hh=>⟨hh.1,by rw[hh.2];exact aC _ _⟩
 have Ma:Hd (jf nd=true->0<=nd.var/\nd.var<8):=fun h=>by
  have:=HH.A.var nd mg (by simpa[jf]using h);have:=HH.A.nv;omega
 obtain⟨us,hus⟩:=Ea (Pw nd);obtain⟨ok,o?⟩:=Ea (jf nd);obtain⟨r,hr,Nx,TB⟩:=EM M.b J;have HR:Hd (ql[i]?=some r/\r.st=eG (0,0)/\QV P i=(eG us,(P.qY i).map fun t=>(t,u? (if ok then⟨cH [nd.var.toNat],(0,0)⟩ else YT)))):=⟨hr,by rw[Nx];simp[upto,OH,eG],by unfold QV QW;rw[u,hus,o?]⟩;have wD:Hd (∀W e ql',PM W g C nl P->Sys W w.heap.size B 2 393 404 ql'->ql'.length=N->w.heap.size<=W.heap.size->(∀r∈ql',r.es.length<=200)->Cl 285 #[cK B N,eV g N C nv,Iv i,Dc e] W fun r I=>(∃v,r=.returned v)/\∃qw,Sys I w.heap.size B 2 393 404 qw/\qw.map RR.pr=(P.qY i).foldl (fun l t=>vM l i (t,u? e)) (ql'.map RR.pr)/\TF w.heap.size 393 404 W I):=by
  intro W e ql' G h2 Y K h5;have:=tp g C nv B w.heap.size i nl P ql' e W G HH.A (by rw[<-m.a];exact J) h2 (by rw[<-m.a];exact Y) K h5;rw[<-m.a]at this;exact this
 have HF:Hd (∀x∈ql.set i ⟨eG us,r.ea,r.ec,r.es⟩,x.es.length<=200):=by
  have hf:=Cw M.b (D2 m.B);intro x E;rcases gN E with E|E
  ·exact hf x E
  rw[E];exact hf r (aL hr)
 have HL:=hid (yd M.b);rw[<-hus]at HUS;rw[<-o?]at DE Ma;obtain⟨kind,var,op,test,⟨ai,av,ac⟩,⟨bi,bv,bc⟩,goal⟩:=nd;obtain⟨d0,d1,d2,d3,d4,d5,d6,d7,d8,d9,d10,d11,d12,d13⟩:=Mr cc;simp only[aK,b!]at HUS DE Ma;simp only[cK,eV,Dc]at wD;clear cc hus o? vD LB hr Nx TB u mg hc wj Rq
 go_upto_region 5 with(fail)
 generalize hV:wr.alloc (.cells #[.string bj,.slice wa wl wc,Iv kind,Iv var,Iv op,Iv test,.bool ai,Iv av,Iv ac,.bool bi,Iv bv,Iv bc,.slice ea el ec,.string goal] 152)=V;have H:Hd (Below wr.heap.size wr V/\V.heap[wr.heap.size]?=some (.cells #[.string bj,.slice wa wl wc,Iv kind,Iv var,Iv op,Iv test,.bool ai,Iv av,Iv ac,.bool bi,Iv bv,Iv bc,.slice ea el ec,.string goal] 152 (0,0))):=by subst hV;exact⟨aC _ _,bf _ _⟩
 clear hV d0 d1 d2 d3 d4 d5 d6 d7 d8 d9 d10 d11 d12 d13;obtain⟨x1,y⟩:=ae (aE H.a (M.B.box d.d aj aj));obtain⟨y1,o⟩:=ae H.A;have hV0:=H.a.size;have p:B≠sb:=ah
 have n2:=p.symm
 go_region_law (go_simp;refine bA (HUS.o _) ?_;rintro e W3 ⟨rfl,Js⟩;have qF:Hd (Bl V W3):=aq ay Js;clear Js x1 y y1 o;obtain⟨x1,y⟩:=ae (aE qF.o (aE H.a (M.B.box d.d aj aj)));obtain⟨y1,o⟩:=ae (aE qF.o H.A);obtain⟨⟨z1,z2⟩,z3,z4⟩:=((M.a.below H.a).below qF.o).two HR.a HR.b)
 all_goals
  have Z:Hd (Sys ((W3.setCell (Ad B (i*3)) (Uv us.1)).setCell (Ad B (i*3+1)) (Uv us.2)) w.heap.size B 2 393 404 (ql.set i ⟨eG us,r.ea,r.ec,r.es⟩)/\TF w.heap.size 393 404 W2 ((W3.setCell (Ad B (i*3)) (Uv us.1)).setCell (Ad B (i*3+1)) (Uv us.2))/\((W3.setCell (Ad B (i*3)) (Uv us.1)).setCell (Ad B (i*3+1)) (Uv us.2)).heap[wr.heap.size]?=some (.cells #[.string bj,.slice wa wl wc,Iv kind,Iv var,Iv op,Iv test,.bool ai,Iv av,Iv ac,.bool bi,Iv bv,Iv bc,.slice ea el ec,.string goal] 152 (0,0))):=by
   have hs:=(M.a.below H.a).below qF.o;have D:=aq H.a qF.o;have a:=hs.r? (k:=i) (v:=Uv us.1) (v':=Uv us.2);exact⟨hs.start aj HR.a HR.b,(M.B.trans (TF.aR D ah)).trans a,a.box (aE qF.o H.A) aj aj⟩
  generalize(W3.setCell (Ad B (i*3)) (Uv us.1)).setCell (Ad B (i*3+1)) (Uv us.2)=W4 at Z⊢;clear qF x1 y y1 o z1 z2 z3 z4;generalize wr.heap.size=nb at Z H⊢
  go_upto_region 7 with fail
  have H5:Hd (Below W4.heap.size W4 (W4.alloc (.cells rX 397))/\(W4.alloc (.cells rX 397)).heap[W4.heap.size]?=some (.cells rX 397 (0,0))/\w.heap.size<=W4.heap.size/\W2.heap.size<=W4.heap.size):=⟨aC _ _,bf _ _,by have:=Z.b.low.size;have:=blt (Z.b.box d.b aj aj);omega,Z.b.low.size⟩;generalize W4.alloc (.cells rX 397)=W5 at H5⊢;have H5':=hid (Aa H5.a H5.c);generalize W4.heap.size=F at H5⊢;obtain⟨x1,y⟩:=ae (aE H5'.a Z.B);have H6:Hd (∀W,Bl W5 W->PM W g C nl P/\Sys W w.heap.size B 2 393 404 (ql.set i ⟨eG us,r.ea,r.ec,r.es⟩)/\w.heap.size<=W.heap.size/\TF w.heap.size 393 404 W2 W/\W.heap[nb]?=some (.cells #[.string bj,.slice wa wl wc,Iv kind,Iv var,Iv op,Iv test,.bool ai,Iv av,Iv ac,.bool bi,Iv bv,Iv bc,.slice ea el ec,.string goal] 152 (0,0))/\W.heap[sb]?=some (.cells (bV B N) 260 (0,0))/\W.heap[w.heap.size]?=some (.cells (cN g N C nv) 86 (0,0))/\W.heap[F]?=some (.cells rX 397 (0,0))):=by
   intro W U;have D:=aq H5'.a U;have a:=Z.b.trans (TF.aR D H5'.A);exact⟨(HH.a.below d.a).tf a aj aj aj aj,Z.a.below D,bw H5'.A D.size,a,aE D Z.B,a.box d.d aj aj,a.box d.b aj aj,aE U H5.b⟩
  have heb:=H5.C;clear Z H5 H5';cases ok
  ·go_upto_region 9 with(go_at_call 282;refine(DE.o _).mono ?_;rintro e W6 ⟨rfl,wh⟩;have GJ:=hid wh;clear wh x1 y)
   obtain⟨L,Jt,oZ,a,_,b2,S,O⟩:=H6.o W6 GJ.o;obtain⟨x1,y⟩:=ae b2;obtain⟨y1,o⟩:=ae S;obtain⟨z1,z2⟩:=ae O;have HBC:Hd (Cl 285 #[.agg (bV B N),.agg (cN g N C nv),Iv i,.agg rX] W6 fun r I=>(∃v,r=.returned v)/\∃qw,Sys I w.heap.size B 2 393 404 qw/\qw.map RR.pr=kn N (upto (QV P) (i+1))/\TF w.heap.size 393 404 W2 I):=by
    refine bA (wD.o W6 YT _ L Jt (by rw[ke];exact HL.o) oZ HF.o) ?_;rintro r I ⟨G,qw,h2,Y,K⟩;exact⟨G,qw,h2,Y.trans (yY M.b HR.a HR.B),a.trans K⟩
   clear L Jt oZ a b2 S O
   go_wp2_with (go_at_call 285;refine HBC.o.mono ?_;rintro e W7 ⟨⟨v,rfl⟩,qw,h7⟩;have H7:=hid h7;clear h7 x1 y y1 o z1 z2)
   go_roundw
   case rel=>exact⟨i+1,qw,J,h',H7.o⟩
   simp[intOf];omega
  have hv:=Ma.o rfl;obtain⟨vn,rfl⟩:∃vn:Nat,var=(vn:Int):=⟨var.toNat,by have:=hv.1;omega⟩;have Ro:vn<128:=by have:=hv.2;omega
  have Tf:Hd (∀X b,X.cell? (Ad b 0)=some (Iv vn)->Cl 241 (mH b) X (Rb X (b! (cH [vn])))):=fun X b hc=>j6 X b vn Ro hc
  have HR2:Hd (QV P i=(eG us,(P.qY i).map fun t=>(t,u? ⟨cH [vn],(0,0)⟩))):=by show _=_;rw[HR.B];simp
  obtain⟨o1,rK⟩:=Ea (cH [vn]);rw[<-rK]at Tf HR2;clear hv Ma rK;simp only[b!]at Tf
  go_upto_region 8 with(go_at_call 282;refine(DE.o _).mono ?_;rintro e W6 ⟨rfl,wh⟩;have GJ:=hid wh;clear wh x1 y)
  have h6:=H6.o W6 GJ.o;obtain⟨x1,y⟩:=ae h6.2.2.2.2.1;clear h6
  go_upto_region 9 with(go_at_call 241;refine(Tf.o _ _ ak).mono ?_;rintro e W7 ⟨rfl,RI⟩;have wE:=hid (aq GJ.o (aq (aC _ _) RI));clear RI x1 y;obtain⟨z1,z2⟩:=ae (H6.o W7 wE.o).2.2.2.2.2.2.2)
  have H8:Hd (PM ((W7.setCell (Ad F 0) (Uv o1.1)).setCell (Ad F 1) (Uv o1.2)) g C nl P/\Sys ((W7.setCell (Ad F 0) (Uv o1.1)).setCell (Ad F 1) (Uv o1.2)) w.heap.size B 2 393 404 (ql.set i ⟨eG us,r.ea,r.ec,r.es⟩)/\w.heap.size<=((W7.setCell (Ad F 0) (Uv o1.1)).setCell (Ad F 1) (Uv o1.2)).heap.size/\TF w.heap.size 393 404 W2 ((W7.setCell (Ad F 0) (Uv o1.1)).setCell (Ad F 1) (Uv o1.2))/\((W7.setCell (Ad F 0) (Uv o1.1)).setCell (Ad F 1) (Uv o1.2)).heap[sb]?=some (.cells (bV B N) 260 (0,0))/\((W7.setCell (Ad F 0) (Uv o1.1)).setCell (Ad F 1) (Uv o1.2)).heap[w.heap.size]?=some (.cells (cN g N C nv) 86 (0,0))/\((W7.setCell (Ad F 0) (Uv o1.1)).setCell (Ad F 1) (Uv o1.2)).heap[F]?=some (.cells #[Uv o1.1,Uv o1.2,Uv 0,Uv 0] 397 (0,0))):=by
   obtain⟨L,Jt,oZ,a,_,b2,S,O⟩:=H6.o W7 wE.o;have keep:∀q,q≠F->((W7.setCell (Ad F 0) (Uv o1.1)).setCell (Ad F 1) (Uv o1.2)).heap[q]?=W7.heap[q]?:=fun q hq=>(aZ _ _ _ _ hq).trans (aZ _ _ _ _ hq)
   have nS:sb≠F:=by rintro rfl;rw[b2]at O;simp at O
   have nP:w.heap.size≠F:=by intro h;rw[<-h,S]at O;simp at O
   refine⟨L.keep fun q cs t f e ht=>keep q ?_,Jt.keep O ⟨aj,aj⟩ keep,?_,?_,(keep _ nS).trans b2,(keep _ nP).trans S,?_⟩
   ·rintro rfl
    rw[O]at e;simp at e;obtain⟨_,rfl,_⟩:=e;rcases ht with h|h<;>exact absurd h aj
   ·simpa using oZ
   ·exact⟨(a.low.setCell (by show _<=F;have:=d.a.size;omega) _).setCell (by show _<=F;have:=d.a.size;omega) _,fun q cs t f e G h2=>(keep q (by have:=(bq.1 e).1;omega)).trans (a.keep q cs t f e G h2)⟩
   rw[aw (aw O _) _];rfl
  clear z1 z2;generalize(W7.setCell (Ad F 0) (Uv o1.1)).setCell (Ad F 1) (Uv o1.2)=W8 at H8⊢;obtain⟨L,Jt,oZ,a,b2,S,O⟩:=H8.o;obtain⟨x1,y⟩:=ae b2;obtain⟨y1,o⟩:=ae S;obtain⟨z1,z2⟩:=ae O;have HBC:Hd (Cl 285 #[.agg (bV B N),.agg (cN g N C nv),Iv i,.agg #[Uv o1.1,Uv o1.2,Uv 0,Uv 0]] W8 fun r I=>(∃v,r=.returned v)/\∃qw,Sys I w.heap.size B 2 393 404 qw/\qw.map RR.pr=kn N (upto (QV P) (i+1))/\TF w.heap.size 393 404 W2 I):=by
   refine bA (wD.o W8 ⟨o1,(0,0)⟩ _ L Jt (by rw[ke];exact HL.o) oZ HF.o) ?_;rintro r I ⟨G,qw,h2,Y,K⟩;exact⟨G,qw,h2,Y.trans (yY M.b HR.a HR2.o),a.trans K⟩
  clear L Jt oZ a b2 S O
  go_wp2_with (go_at_call 285;refine HBC.o.mono ?_;rintro e W9 ⟨⟨v,rfl⟩,qw,h9⟩;have H9:=hid h9;clear h9 x1 y y1 o z1 z2)
  go_roundw
  case rel=>exact⟨i+1,qw,J,h',H9.o⟩
  simp[intOf];omega
end
section
variable {P:Pm} {w:World} {B B' t m n:Nat} {v:Value} {M:List Value}
def uB(P:Pm)(st:Nat->List Value)(E:Nat->Ef)(k n:Nat):RA:=(st n,(List.range k).flatMap fun m=>(i7 n 0 (P.qY m)).map fun _=>(m,u? (E m)))
def FO(P:Pm)(E:Nat->Ef)(N:Nat):kn N (uB P (fun _=>eG (0,0)) E 0)=List.replicate N OH:=by
 refine BO.2 ⟨ak,fun b D=>?_⟩;obtain⟨n,_,rfl⟩:=bP.1 D;simp[uB,OH,eG]
def FP(P:Pm)(st:Nat->List Value)(E:Nat->Ef)(N k:Nat):(P.qY k).foldl (fun l t=>vM l t (k,u? (E k))) (kn N (uB P st E k))=kn N (uB P st E (k+1)):=by
 rw[RT N (k,u? (E k)) (P.qY k) 0];refine eM fun n _=>?_
 simp[uB,kK]
def Fx(n:Nat):∀(j:Nat) (D:List Nat),(i7 n j D).length<=D.length
 |_,[]=>by simp[i7]
 |j,t :: D=>by
  have:=Fx n (j+1) D;simp only[i7];split<;>simp<;>omega
def wk{P:Pm}{st:Nat->List Value}{E:Nat->Ef}(h2:∀m,(P.qY m).length<=2){n:Nat}:∀k,(uB P st E k n).2.length<=2*k
 |0=>by simp[uB]
 |k+1=>by
  have B:=wk h2 (st:=st) (E:=E) (n:=n) k;have G:=Fx n 0 (P.qY k);have Y:=h2 k;simp only[uB,kK,GL,bu,bY,wV,gi,br]at B⊢;omega
def sD(h:cE P)(m:Nat):(P.qY m).length<=2:=by
 unfold Pm.qY;rw[List.getD];cases e:P.nx[m]? with
 |none=>simp
 |some l=>exact(h.nx l (aL e)).1
def ye{w':World}{d c:Nat}(h:w.ownsRow B t m v n M)(hf:TF B' d c w w')(h1:t≠d)(h2:t≠c):w'.ownsRow B t m v n M:=by
 refine⟨h.1,?_⟩;rcases h.2 with a|⟨g,C,A,Q,z,I,N⟩
 ·exact aJ a
 exact aI ⟨g,C,A,Q,z,(hf.keep g _ _ _ I h1 h2).trans I,N⟩
def oR(h:w.ownsRow B t m v n M)(f:B'<=B):w.ownsRow B' t m v n M:=by
 refine⟨h.1,?_⟩;rcases h.2 with a|⟨g,C,A,Q,z,I⟩
 ·exact aJ a
 exact aI ⟨g,C,A,Q,bw f z,I⟩
def rE(P:Pm):P.ex.length<=P.nd.length:=by
 have:=Se P.nd.length P;rw[cP (aF _)]at this;exact this
def Sc(h:∀n∈P.nd,nh (i6 n)):∀x∈P.ex,nh x:=by
 have:=C! P.nd.length P h;rw[cP (aF _)]at this;exact this
def uE{n:SN}(hn:n∈P.nd)(he:JC n=true):i6 n∈P.ex:=by
 have:some (i6 n)∈P.nd.map Bf:=bP.2 ⟨n,hn,by rw[Da,aD he]⟩;exact(VS _ _).2 this
def QZ(ks:List Key)(n:SN):Ef:=⟨yR ks n,DH ks n⟩
def lkS(ks:List Key)(n:Nat):List Value:=eG (if n=0 then jK ks.length else(0,0))
def lkR(P:Pm):Nat->RA:=uB P (lkS P.ex) (fun m=>QZ P.ex (P.at m)) P.nd.length
end
open Go.RowKit Go.Proofs Go.Maps Tryz
def Fp(g C nv:Nat)(S:List NC)(P:Pm)(w:World)(hP:PM w g C S P)(b:cE P)(o:∀n∈P.nd,nh (i6 n)):
  Cl 222 #[eV g P.nd.length C nv] w fun e I=>∃B rl,e=.returned (.tuple #[cK B P.nd.length,Iv P.ex.length])/\Sys I w.heap.size B 2 393 404 rl/\rl.map RR.pr=kn P.nd.length (lkR P)/\Bl w I:=by
 have hN:=b.most;have rB:=b.pos;have hex:=rE P;have HH:=hid (Aa hP (Aa b o));have pw:Hd (∀W,Cl 280 #[eV g P.nd.length C nv] W fun e I=>∃B rl,e=.returned (cK B P.nd.length)/\Sys I W.heap.size B 2 393 404 rl/\rl.map RR.pr=List.replicate P.nd.length OH/\Bl W I):=fun W=>lK g P.nd.length C nv W hN
 have G:Hd (∀W,Bl w W->Cl 286 #[eV g P.nd.length C nv] W fun e I=>∃a c,e=.returned (bH a P.ex.length c)/\I.ownsRow W.heap.size 430 7 (bH a P.ex.length c) P.ex.length (lL P.ex)/\Bl W I):=fun W U=>Bd g C nv S P W (hP.below U) hN o
 obtain⟨N,Q⟩:=Ea P.nd.length;obtain⟨f,Lz⟩:=Ea P.ex;rw[<-Q]at hN rB hex;rw[<-Lz]at hex;rw[<-Q,<-Lz]at G⊢;rw[<-Q]at pw;have HN:=hid (Aa Q Lz);have Ox:Hd (∀W,Cl 208 #[Iv f.length] W (Rb W (b! (jK f.length)))):=fun W=>oF f.length W ah
 obtain⟨up,Rp⟩:=Ea (jK f.length);rw[<-Rp]at Ox;have HU:=hid Rp;clear hP b Q Lz o Rp;simp only[eV,cK,b!]at pw G Ox⊢;go_enter func222,ntmps222
 go_upto_region 1 with(fail)
 have R:Hd (Bl w ((w.alloc (.cells (cN g N C nv) 86)).alloc (.cells ic 260))/\d' ((w.alloc (.cells (cN g N C nv) 86)).alloc (.cells ic 260)) w.heap.size (cN g N C nv) 86/\d' ((w.alloc (.cells (cN g N C nv) 86)).alloc (.cells ic 260)) (w.heap.size+1) ic 260):=⟨aX _ _ _,(aN _ _ _).1,(aN _ _ _).2⟩;generalize(w.alloc (.cells (cN g N C nv) 86)).alloc (.cells ic 260)=W0 at R⊢;obtain⟨F,y⟩:=ae R.b
 go_upto_region 2 with(go_at_call 280;refine(pw.o _).mono ?_;rintro e T ⟨B,rl,rfl,A8,OL,A⟩;have E:=hid (Aa A8 (Aa OL A));clear A8 OL A F y)
 have d:Hd (Bl w (T.alloc (.cells (bV B N) 260))/\d' (T.alloc (.cells (bV B N) 260)) w.heap.size (cN g N C nv) 86/\d' (T.alloc (.cells (bV B N) 260)) (w.heap.size+1) ic 260/\d' (T.alloc (.cells (bV B N) 260)) T.heap.size (bV B N) 260/\Sys (T.alloc (.cells (bV B N) 260)) w.heap.size B 2 393 404 rl/\rl.map RR.pr=kn N (uB P (fun _=>eG (0,0)) (fun m=>QZ f (P.at m)) 0)):=by
  have A:=aq E.B (aC T (.cells (bV B N) 260));have hs:=E.a.below (aC T (.cells (bV B N) 260));exact⟨aq R.a A,aE A R.b,aE A R.B,bf _ _,hs.deep R.a.size,by rw[E.b,FO]⟩
 have zK:w.heap.size+1<T.heap.size:=by have:=E.B.size;have:=blt R.B;omega
 have Yw:B<T.heap.size:=blt E.a.fB;generalize T.alloc (.cells (bV B N) 260)=W2 at d⊢;generalize T.heap.size=K at d zK Yw⊢;clear E R pw;obtain⟨F,y⟩:=ae d.b
 go_upto_region 3 with(go_at_call 286;refine(G.o _ d.a).mono ?_;rintro e W3 ⟨h,kc,rfl,ho3,Y⟩;have H3:=hid (Aa ho3 Y);clear ho3 Y F y)
 obtain⟨s,Jl,ux,_⟩:=EM d.E rB;have OA:Hd (rl[0]?=some s/\s.st=eG (0,0)):=⟨Jl,ux⟩;clear Jl ux;obtain⟨F,y⟩:=ae (aE H3.A d.d);have n1:B≠K:=ah
 have n2:=n1.symm;have adM:(0:Int)<N:=ah
 go_region_law (go_simp;refine bA (Ox.o _) ?_;rintro e W4 ⟨rfl,nI⟩;have TR:Hd (Bl W3 W4):=aq ay nI;clear nI F y;obtain⟨F,y⟩:=ae (aE TR.o (aE H3.A d.d));have z0:=((d.e.below H3.A).below TR.o).two OA.a OA.A;simp only[gU,ct]at z0;obtain⟨⟨z1,z2⟩,z3,z4⟩:=z0)
 all_goals
  have Z:Hd (Bl w ((W4.setCell (Ad B 0) (Uv up.1)).setCell (Ad B 1) (Uv up.2))/\PM ((W4.setCell (Ad B 0) (Uv up.1)).setCell (Ad B 1) (Uv up.2)) g C S P/\((W4.setCell (Ad B 0) (Uv up.1)).setCell (Ad B 1) (Uv up.2)).ownsRow w.heap.size 430 7 (bH h f.length kc) f.length (lL f)/\Sys ((W4.setCell (Ad B 0) (Uv up.1)).setCell (Ad B 1) (Uv up.2)) w.heap.size B 2 393 404 (rl.set 0 ⟨eG up,s.ea,s.ec,s.es⟩)/\(rl.set 0 ⟨eG up,s.ea,s.ec,s.es⟩).map RR.pr=kn N (uB P (lkS f) (fun m=>QZ f (P.at m)) 0)/\d' ((W4.setCell (Ad B 0) (Uv up.1)).setCell (Ad B 1) (Uv up.2)) w.heap.size (cN g N C nv) 86/\d' ((W4.setCell (Ad B 0) (Uv up.1)).setCell (Ad B 1) (Uv up.2)) (w.heap.size+1) ic 260/\d' ((W4.setCell (Ad B 0) (Uv up.1)).setCell (Ad B 1) (Uv up.2)) K (bV B N) 260):=by
   have D:=aq H3.A TR.o;have hs:=d.e.below D;have iX:=hs.r? (k:=0) (v:=Uv up.1) (v':=Uv up.2);have t:=hs.start aj OA.a OA.A (z:=up);simp only[gU,ct]at iX t;have L:=aq d.a D;refine⟨L.trans iX.low,(HH.a.below L).tf iX aj aj aj aj,ye (bp (oR H3.a d.a.size) TR.o) iX aj aj,t,?_,iX.box (aE D d.b) aj aj,iX.box (aE D d.c) aj aj,iX.box (aE D d.d) aj aj⟩;rw[Iz d.E OA.a];refine eM fun n _=>?_
   by_cases h0:n=0
   ·subst h0
    simp[uB,lkS,HU.o]
   simp[uB,lkS,h0]
  generalize(W4.setCell (Ad B 0) (Uv up.1)).setCell (Ad B 1) (Uv up.2)=W5 at Z⊢;clear TR F y z1 z2 z3 z4 H3 d OA Ox;obtain⟨F,y⟩:=ae Z.f
  go_wp2_with fail
  clear F y
  go_loopw[22] (fun iv wr=>∃(i:Nat) (ql:List RR),i<=N/\iv=Iv i/\Hd (Sys wr w.heap.size B 2 393 404 ql/\ql.map RR.pr=kn N (uB P (lkS f) (fun m=>QZ f (P.at m)) i)/\TF w.heap.size 393 404 W5 wr)) (fun iv _=>N-(intOf iv).toNat)
  case atStart=>exact⟨0,_,bB _,rfl,Z.d,Z.e,TF.refl _ _ _ _⟩
  obtain⟨i,ql,hi,rfl,M⟩:=hrel;have Ji:w.heap.size<=wr.heap.size:=bw Z.a.size M.B.low.size;by_cases J:i<N;rotate_left
  ·have ig:¬(i:Int)<N:=ah
   have Vw:i=N:=ah
   have iX:=M.B;have nI:=iX.box Z.g aj aj;obtain⟨F,y⟩:=ae (iX.box Z.G aj aj);obtain⟨z1,z2⟩:=ae nI;have n1:w.heap.size+1≠K:=ah
   have n2:=n1.symm;clear iX
   go_wp2_with fail
   have q0:=(ae (aw (o:=0) nI (b? B N))).1;have l:=(ae (aw (o:=1) (aw (o:=0) nI (b? B N)) iz)).1;have q2:=(ae (aw (o:=2) (aw (o:=1) (aw (o:=0) nI (b? B N)) iz) mI)).1;refine aG (v:=.tuple #[cK B N,Iv f.length]) (by simp[results,results222,go_sem,q0,l,q2,cK]) rfl ⟨B,rfl,ql,?_,?_,?_⟩
   ·exact M.a.keep nI ⟨aj,aj⟩ (fun k X=>by rw[aZ _ _ _ _ X,aZ _ _ _ _ X,aZ _ _ _ _ X])
   ·rw[M.b,Vw,lkR,<-HN.a,<-HN.A]
   exact(((Z.a.trans M.B.low).setCell (by show _<=w.heap.size+1;omega) _).setCell (by show _<=w.heap.size+1;omega) _).setCell (by show _<=w.heap.size+1;omega) _
  have ig:(i:Int)<N:=ah
  have wj:=Z.b.tf M.B aj aj aj aj;obtain⟨nc,ts,hc,x,u,_,Rq,_⟩:=wj.nodes (by rw[<-HN.a];exact J);have cc:=fun j (hj:j<14)=>(mV wj hc j hj)
  have q:=aL x;obtain⟨nd,vD⟩:=Ea nc.n;rw[<-vD]at cc x u q;simp only[NC.wv,NC.ev]at cc;generalize nc.bj=bj at cc;generalize nc.wa=wa at cc;generalize nc.wl=wl at cc;generalize nc.wc=wc at cc;generalize nc.ea=ea at cc;generalize nc.el=el at cc;generalize nc.ec=ec at cc;have p:=ye Z.c M.B aj aj;have Za:Hd (∀W,Bl wr W->Cl 287 #[.agg (aK bj (.slice wa wl wc) nd (.slice ea el ec)),.slice h f.length kc] W (Rb W (b! (yR f nd)))):=fun W U=>qB bj wa wl wc ea el ec nd h kc f W (yv (bp p U)) (by rw[HN.A];exact Sc HH.B) ah (fun he=>⟨HH.B nd q,by rw[HN.A];exact uE q he⟩)
  have HKL:Hd (∀W,Bl wr W->Cl 288 #[.agg (aK bj (.slice wa wl wc) nd (.slice ea el ec)),.slice h f.length kc] W (Rb W (b! (DH f nd)))):=fun W U=>A3 bj wa wl wc ea el ec nd h kc f W (yv (bp p U)) ah (HH.b.kind nd q).1
  have vN:Hd (∀W,Bl wr W->Cl 283 #[cK B N,eV g N C nv,Iv i,Dc ⟨yR f nd,DH f nd⟩] W fun r I=>(∃v,r=.returned v)/\∃qw,Sys I w.heap.size B 2 393 404 qw/\qw.map RR.pr=kn N (uB P (lkS f) (fun m=>QZ f (P.at m)) (i+1))/\TF w.heap.size 393 404 W5 I/\TF w.heap.size 393 404 W I):=by
   intro W U;have:=vg g C nv B w.heap.size i S P ql ⟨yR f nd,DH f nd⟩ W (wj.below U) HH.b (by rw[<-HN.a];exact J) (M.a.below U) (by rw[<-HN.a];exact yd M.b) (bw Ji U.size) (Cw M.b fun n _=>by have:=wk (st:=lkS f) (E:=fun m=>QZ f (P.at m)) (n:=n) (sD HH.b) i;omega);rw[<-HN.a]at this;refine this.mono ?_;rintro r I ⟨h1,qw,O,h3,h4⟩;refine⟨h1,qw,O,?_,(M.B.trans (TF.aR U Ji)).trans h4,h4⟩;rw[h3,M.b,<-FP,u];rfl
  obtain⟨ev,hev⟩:=Ea (yR f nd);obtain⟨kl,Tz⟩:=Ea (DH f nd);rw[<-hev]at Za vN;rw[<-Tz]at HKL vN;obtain⟨kind,var,op,test,⟨ai,av,ac⟩,⟨bi,bv,bc⟩,goal⟩:=nd;obtain⟨d0,d1,d2,d3,d4,d5,d6,d7,d8,d9,d10,d11,d12,d13⟩:=Mr cc;simp only[aK,b!,cK,eV,Dc]at Za HKL vN;clear cc hev Tz vD x u q hc wj Rq p
  go_upto_region 7 with(fail)
  generalize hV:wr.alloc (.cells #[.string bj,.slice wa wl wc,Iv kind,Iv var,Iv op,Iv test,.bool ai,Iv av,Iv ac,.bool bi,Iv bv,Iv bc,.slice ea el ec,.string goal] 152)=V;have H:Hd (Bl wr V/\d' V wr.heap.size #[.string bj,.slice wa wl wc,Iv kind,Iv var,Iv op,Iv test,.bool ai,Iv av,Iv ac,.bool bi,Iv bv,Iv bc,.slice ea el ec,.string goal] 152/\d' V K (bV B N) 260/\d' V w.heap.size (cN g N C nv) 86):=by subst hV;exact⟨aC _ _,bf _ _,aE (aC _ _) (M.B.box Z.G aj aj),aE (aC _ _) (M.B.box Z.f aj aj)⟩
  clear hV d0 d1 d2 d3 d4 d5 d6 d7 d8 d9 d10 d11 d12 d13;have z7:Hd (∀W,TF w.heap.size 393 404 V W->e' W wr.heap.size 0 (.string bj)/\e' W wr.heap.size 1 (.slice wa wl wc)/\e' W wr.heap.size 2 (Iv kind)/\e' W wr.heap.size 3 (Iv var)/\e' W wr.heap.size 4 (Iv op)/\e' W wr.heap.size 5 (Iv test)/\e' W wr.heap.size 6 (.bool ai)/\e' W wr.heap.size 7 (Iv av)/\e' W wr.heap.size 8 (Iv ac)/\e' W wr.heap.size 9 (.bool bi)/\e' W wr.heap.size 10 (Iv bv)/\e' W wr.heap.size 11 (Iv bc)/\e' W wr.heap.size 12 (.slice ea el ec)/\e' W wr.heap.size 13 (.string goal)/\e' W K 0 (b? B N)/\e' W K 1 iz/\e' W K 2 mI/\e' W w.heap.size 0 (ix g N C)/\e' W w.heap.size 1 (Iv nv)):=by
   intro W U;have l:=(ae (U.box H.b aj aj)).1;have q2:=(ae (U.box H.c aj aj)).1;have q3:=(ae (U.box H.C aj aj)).1;exact⟨l 0,l 1,l 2,l 3,l 4,l 5,l 6,l 7,l 8,l 9,l 10,l 11,l 12,l 13,q2 0,q2 1,q2 2,q3 0,q3 1⟩
  have hVs:w.heap.size<=V.heap.size:=bw Ji H.a.size;obtain⟨s0,s1,s2,s3,s4,s5,s6,s7,s8,s9,s10,s11,s12,s13,s14,s15,s16,s17,s18⟩:=z7.o V (TF.refl _ _ _ _)
  go_region_held3 (fun I=>I.cell? (Ad wr.heap.size 0)=some (.string bj)/\I.cell? (Ad wr.heap.size 1)=some (.slice wa wl wc)/\I.cell? (Ad wr.heap.size 2)=some (Iv kind)/\I.cell? (Ad wr.heap.size 3)=some (Iv var)/\I.cell? (Ad wr.heap.size 4)=some (Iv op)/\I.cell? (Ad wr.heap.size 5)=some (Iv test)/\I.cell? (Ad wr.heap.size 6)=some (.bool ai)/\I.cell? (Ad wr.heap.size 7)=some (Iv av)/\I.cell? (Ad wr.heap.size 8)=some (Iv ac)/\I.cell? (Ad wr.heap.size 9)=some (.bool bi)/\I.cell? (Ad wr.heap.size 10)=some (Iv bv)/\I.cell? (Ad wr.heap.size 11)=some (Iv bc)/\I.cell? (Ad wr.heap.size 12)=some (.slice ea el ec)/\I.cell? (Ad wr.heap.size 13)=some (.string goal)/\I.cell? (Ad K 0)=some (b? B N)/\I.cell? (Ad K 1)=some iz/\I.cell? (Ad K 2)=some mI/\I.cell? (Ad w.heap.size 0)=some (ix g N C)/\I.cell? (Ad w.heap.size 1)=some (Iv nv)) (go_keep) ((first|(go_at_call 287;refine(Za.o _ (aq H.a ay)).mono ?_;rintro e X1 ⟨rfl,A⟩;have L:Bl V X1:=aq ay A;have z6:=hid L;obtain⟨p0,p1,p2,p3,p4,p5,p6,p7,p8,p9,p10,p11,p12,p13,p14,p15,p16,p17,p18⟩:=z7.o X1 (TF.aR L hVs);clear A L)|(go_at_call 288;refine(HKL.o _ (aq H.a (aq z6.o ay))).mono ?_;rintro e X2 ⟨rfl,uz⟩;have L:Bl V X2:=aq (aq z6.o ay) uz;have zf:=hid L;obtain⟨o0,o1,o2,o3,o4,o5,o6,o7,o8,o9,o10,o11,o12,o13,o14,o15,o16,o17,o18⟩:=z7.o X2 (TF.aR L hVs);clear uz L)|(go_at_call 283;refine(vN.o _ (aq H.a (aq zf.o ay))).mono ?_;rintro e X3 ⟨⟨v3,rfl⟩,qw,O,h3,h4,h5⟩;have HX3:=hid (Aa O (Aa h3 h4));obtain⟨m0,m1,m2,m3,m4,m5,m6,m7,m8,m9,m10,m11,m12,m13,m14,m15,m16,m17,m18⟩:=z7.o X3 ((TF.aR (aq zf.o ay) hVs).trans h5);clear O h3 h4 h5)))
  all_goals
   go_wp2_with fail
   go_roundw
   case rel=>exact⟨i+1,qw,J,h',HX3.o⟩
   simp[intOf];omega
end Go.Proofs.YtmipbiligijcpaaGreatDoor
