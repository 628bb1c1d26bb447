import Derived.Test.YtmipbiligijcpaaGreatDoorA11
import Derived.Test.YtmipbiligijcpaaGreatDoorA08
namespace Go.Proofs.YtmipbiligijcpaaGreatDoor
set_option linter.all false
set_option maxRecDepth 100000
set_option maxHeartbeats 4000000
section
variable {i b t:Nat} {w:World} {e:PE}
open Go.RowKit Go.Proofs Go.Maps Tryz
def KC.Qn(e:PE)(h:i<8)(w:World):(Instr.index 226 (.agg (KC.aH e).tail.toArray) (Iv i)).run Tryz.prog w=.ok (.agg #[(.bool (e.at i).any),(Iv (e.at i).lo)]) w:=by
 have E:=underlying226;rcases QX h with rfl|rfl|rfl|rfl|rfl|rfl|rfl|rfl<;>simp[Instr.index,tK E,asIntOf,go_sem,KC.aH,PE.at]
def KB.Qn(e:PE)(h:i<8)(w:World):(Instr.index 248 (.agg (KB.aH e).tail.toArray) (Iv i)).run Tryz.prog w=.ok (.agg #[(Iv (e.at i).lo),(Iv (e.at i).hi)]) w:=by
 have E:=underlying248;rcases QX h with rfl|rfl|rfl|rfl|rfl|rfl|rfl|rfl<;>simp[Instr.index,tK E,asIntOf,go_sem,KB.aH,PE.at]
def KC.qtl(h:w.heap[b]?=some (.cells (KC.aH e).toArray t (0,0))):w.rangeAt b 1 (KC.aH e).tail:=fun j v a=>by
 have:=aT h (j+1) v (by simpa using a);rw[ct,wU]at this;exact this
def KB.qtl(h:w.heap[b]?=some (.cells (KB.aH e).toArray t (0,0))):w.rangeAt b 1 (KB.aH e).tail:=fun j v a=>by
 have:=aT h (j+1) v (by simpa using a);rw[ct,wU]at this;exact this
def KC.Qo(h:w.heap[b]?=some (.cells (KC.aH e).toArray t (0,0)))(hi:i<8):w.cell? (Ad b (1+i*2))=some (.bool (e.at i).any)/\w.cell? (Ad b (1+i*2+1))=some (Iv (e.at i).lo):=by
 have F:=(ae h).1;exact⟨by rw[F];exact(de ..).trans (KC.iJ e hi).1,by rw[F];exact(de ..).trans (KC.iJ e hi).2⟩
def KB.Qo(h:w.heap[b]?=some (.cells (KB.aH e).toArray t (0,0)))(hi:i<8):w.cell? (Ad b (1+i*2))=some (Iv (e.at i).lo)/\w.cell? (Ad b (1+i*2+1))=some (Iv (e.at i).hi):=by
 have F:=(ae h).1;exact⟨by rw[F];exact(de ..).trans (KB.iJ e hi).1,by rw[F];exact(de ..).trans (KB.iJ e hi).2⟩
def KC.Ir(a b:VV):Bool:=(a.any==b.any&&a.lo==b.lo)||b.any
def KB.Ir(a b:VV):Bool:=decide (b.lo<=a.lo)&&decide (a.hi<=b.hi)
def KC.KU(a b:VV)(w:World)(ha:dq (bQ a))(hb:dq (bQ b)):Cl 383 #[.agg #[],KC.qv a,KC.qv b] w (Rb w (.bool (KC.Ir a b))):=Jb (.agg #[]) a.any b.any a.lo b.lo w rfl ha.lo hb.lo
def KB.KU(a b:VV)(w:World)(_:dq (bQ a))(_:dq (bQ b)):Cl 390 #[.agg #[],KB.qv a,KB.qv b] w (Rb w (.bool (KB.Ir a b))):=JU (.agg #[]) (bQ a) (bQ b) w rfl
def KC.e4(lo hi:PE):Bool:=if lo.r&&hi.r then(List.range 8).all (fun i=>KC.Ir (lo.at i) (hi.at i)) else !lo.r
def KB.e4(lo hi:PE):Bool:=if lo.r&&hi.r then(List.range 8).all (fun i=>KB.Ir (lo.at i) (hi.at i)) else !lo.r
def acy{p:Prop}(h:p:=by
 have d:=hid (fun i W=>KU (lo.at i) (hi.at i) W (hl i) (hh i));simp only[KC.qv,KB.qv]at d;clear hl hh;obtain⟨c,a⟩:=Ea (e4 lo hi);rw[<-a];obtain⟨u,A⟩:=Ea lo.r;obtain⟨x,N⟩:=Ea hi.r;have y:(aH lo)[0]?=some (.bool u):=by rw[A];rfl
 have Q:(aH hi)[0]?=some (.bool x):=by rw[N];rfl
 have j:Hd (c=if u&&x then(List.range 8).all (fun i=>Ir (lo.at i) (hi.at i)) else !u):=by show _=_;rw[a,A,N];rfl
 clear a A N;have G:=hid (fun i (h:i<8) W=>Qn lo h W);go_enter ac0,acK
 go_upto_region 1 with fail
 have H:Hd ((((w.alloc (.cells (aH lo).toArray aV)).alloc (.cells (aH hi).toArray aV)).heap[w.heap.size]?=some (.cells (aH lo).toArray aV (0,0))/\((w.alloc (.cells (aH lo).toArray aV)).alloc (.cells (aH hi).toArray aV)).heap[w.heap.size+1]?=some (.cells (aH hi).toArray aV (0,0)))/\Bl w ((w.alloc (.cells (aH lo).toArray aV)).alloc (.cells (aH hi).toArray aV))):=⟨aN _ _ _,aX _ _ _⟩;generalize((w.alloc (.cells (aH lo).toArray aV)).alloc (.cells (aH hi).toArray aV))=V at H⊢;have d0:V.cell? (Ad w.heap.size 0)=some (.bool u):=by rw[(ae H.a.1).1];exact(de ..).trans y
 have C:V.cell? (Ad (w.heap.size+1) 0)=some (.bool x):=by rw[(ae H.a.2).1];exact(de ..).trans Q
 clear y Q;cases u
 ·obtain rfl:c=true:=by rw[j.o];rfl
  go_wp2_with fail
  go_ret
  exact⟨rfl,H.A⟩
 ·cases x
  ·obtain rfl:c=false:=by rw[j.o];rfl
   go_wp2_with fail
   go_ret
   exact⟨rfl,H.A⟩
  ·have e:Hd (c=(List.range 8).all (fun i=>Ir (lo.at i) (hi.at i))):=by show _=_;rw[j.o];rfl
   have F:=qtl H.a.1;have lV:w.heap.size+1<V.heap.size:=blt H.a.2
   go_wp2_with (refine wpList_load_mid rfl Uw (.tmp 20) rfl w.heap.size 1 rfl (aH lo).tail _ F Uu rfl au ?_)
   clear d0 C F j
   go_loopw[22] (fun o wr=>∃i:Nat,i<=8/\o=Iv i/\Hd ((List.range i).all (fun i=>Ir (lo.at i) (hi.at i))=true/\Bl V wr)) (fun o _=>8-(intOf o).toNat)
   case atStart=>exact⟨0,ah,rfl,rfl,aM _ _⟩
   case round=>
    obtain⟨i,B,rfl,M⟩:=hrel;by_cases J:i<8
    ·have s:(i:Int)<8:=ah
     have k:=G.o i J;have Ji:=M.A.size;obtain⟨q,v⟩:=Ea (Ir (lo.at i) (hi.at i));have f:=hid (d.o i);rw[<-v]at f;have K:=hid v;clear v;have hm:=AK;have S:=AI
     go_upto_region 6 with fail
     have Z:Hd (Bl wr (wr.alloc (.cells #[(dp (lo.at i)),(dn (lo.at i))] g!))/\(wr.alloc (.cells #[(dp (lo.at i)),(dn (lo.at i))] g!)).heap[wr.heap.size]?=some (.cells #[(dp (lo.at i)),(dn (lo.at i))] g! (0,0))):=⟨aC _ _,bf _ _⟩;generalize wr.alloc (.cells #[(dp (lo.at i)),(dn (lo.at i))] g!)=T at Z⊢;have n:Hd (∀w',Bl T w'->w'.cell? (Ad wr.heap.size 0)=some (dp (lo.at i))/\w'.cell? (Ad wr.heap.size 1)=some (dn (lo.at i))/\w'.cell? (Ad (w.heap.size+1) (1+i*2))=some (dp (hi.at i))/\w'.cell? (Ad (w.heap.size+1) (1+i*2+1))=some (dn (hi.at i))):=by
      intro w' U;have l:=(ae (aE U Z.A)).1;have t:=Qo (aE U (aE Z.a (aE M.A H.a.2))) J;exact⟨l 0,l 1,t.1,t.2⟩
     obtain⟨E,P,m,X⟩:=n.o T (aM _ _);clear k
     go_region_held3 (fun w'=>w'.cell? (Ad wr.heap.size 0)=some (dp (lo.at i))/\w'.cell? (Ad wr.heap.size 1)=some (dn (lo.at i))/\w'.cell? (Ad (w.heap.size+1) (1+i*2))=some (dp (hi.at i))/\w'.cell? (Ad (w.heap.size+1) (1+i*2+1))=some (dn (hi.at i))) (go_keep) (((first|go_at_call 383 | go_at_call 390);refine(f.o _).mono ?_;rintro r z ⟨rfl,D⟩;have L:Bl T z:=aq ay D;have g:=hid L;obtain⟨Y,O,I,R⟩:=n.o z L;clear D L))
     all_goals
      clear E P m X Y O I R;cases q
      ·obtain rfl:c=false:=by rw[e.o];exact fS K.o.symm J
       go_wp2_with fail
       go_ret
       exact⟨rfl,aq H.A (aq M.A (aq Z.a g.o))⟩
      ·go_wp2_with fail
       go_roundw
       case rel=>exact⟨i+1,J,h',by rw[d!,M.a,<-K.o];rfl,aq M.A (aq Z.a g.o)⟩
       case measure=>simp[intOf];omega
    ·have s:¬(i:Int)<8:=ah
     obtain rfl:i=8:=ah
     obtain rfl:c=true:=by rw[e.o];exact M.a
     go_wp2_with fail
     go_ret
     exact⟨rfl,aq H.A M.A⟩):p:=h
open KC in
def KC.yb(lo hi:PE)(w:World)(hl:∀i,dq (bQ (lo.at i)))(hh:∀i,dq (bQ (hi.at i))):
 Cl 273 #[.iface 328 (.agg #[]),.agg (KC.aH lo).toArray,.agg (KC.aH hi).toArray] w (Rb w (.bool (KC.e4 lo hi))):=by exact acy
open KB in
def KB.yb(lo hi:PE)(w:World)(hl:∀i,dq (bQ (lo.at i)))(hh:∀i,dq (bQ (hi.at i))):
 Cl 278 #[.iface 331 (.agg #[]),.agg (KB.aH lo).toArray,.agg (KB.aH hi).toArray] w (Rb w (.bool (KB.e4 lo hi))):=by exact acy
end
open Go.RowKit Go.Proofs Go.Maps Tryz
def zI(nv:Int)(x:Nd):Bool:=!x.reached||decide ((x.vals.length:Int)=nv)
def o!(na:Option Addr)(nc nv:Nat)(B:List Nd)(w:World)(h:cj w na B)(hn:B.length<=60):
  Cl 161 #[.slice na B.length nc,Iv nv] w (Rb w (.bool (B.all (zI (nv:Int))))):=by
 have l:=hid h;clear h;go_enter func161,ntmps161
 go_wp2_with fail
 go_loopw[9] (fun p wr=>∃i:Nat,i<=B.length/\p=Iv i/\Hd ((B.take i).all (zI (nv:Int))=true/\Bl w wr)) (fun p _=>B.length-(intOf p).toNat)
 case atStart=>exact⟨0,bB _,rfl,rfl,aM _ _⟩
 obtain⟨i,hi,rfl,M⟩:=hrel;by_cases J:i<B.length;rotate_left
 ·have s:¬(i:Int)<(B.length:Int):=ah
  go_wp2_with fail
  go_ret
  exact⟨by have G:=M.a;rw[cP ah]at G;rw[G];rfl,M.A⟩
 have s:(i:Int)<(B.length:Int):=ah
 obtain⟨x,E⟩:=La J;obtain⟨b,o,fa,ra,va,fc,rc,vc,rfl,P,Y,c,X,k,u⟩:=l.o.below M.A i x E;have f:=hid E;clear E u;obtain⟨rd,a⟩:=Ea x.reached;have R:Hd (zI (nv:Int) x=(!rd||decide ((x.vals.length:Int)=nv))):=by rw[a];rfl
 rw[<-a]at c;clear a;cases rd
 ·go_wp2_with fail
  go_roundw
  case rel=>exact⟨i+1,J,h',by rw[jG _ f.o,M.a,R.o];rfl,M.A.alloc M.A.size _⟩
  simp[intOf];omega
 by_cases Z:(x.vals.length:Int)=nv
 ·have y:x.vals.length=nv:=ah
  have C:Hd (zI (nv:Int) x=true):=by show _=_;rw[R.o];simp[Z]
  rw[y]at k;clear Z y
  go_wp2_with fail
  go_roundw
  case rel=>exact⟨i+1,J,h',by rw[jG _ f.o,M.a,C.o];rfl,M.A.alloc M.A.size _⟩
  simp[intOf];omega
 have C:Hd (zI (nv:Int) x=false):=by show _=_;rw[R.o];simp[Z]
 have y:(x.vals.length==nv)=false:=by simp;omega
 have Q:((x.vals.length:Int)==(nv:Int))=false:=by simp;omega
 have g:¬x.vals.length=nv:=ah
 go_wp2_with fail
 go_ret
 exact⟨by rw[vp _ f.o C.o];rfl,M.A.alloc M.A.size _⟩
def Rg(v:Vl)(r:Int):VV:=if v.kind=1 then VV.one v.lo else if v.early&&decide (r<=v.rank) then VV.one v.first else VV.fA
def WM{p:Prop}(h:p:=by
 go_enter func234,ntmps234
 go_wp2_with fail
 refine aG (v:=.agg qo) (by simp[results,results234,go_sem]) rfl ⟨rfl,aX _ _ _⟩):p:=h
def Dn(v:Vl)(r:Int)(w:World):
  Cl 234 #[.agg (iy v.kind v.lo v.hi v.early v.first v.rank),Iv r] w (Rb w (KC.qv (Rg v r))):=by
 obtain⟨kind,lo,hi,early,first,rank⟩:=v;simp only[KC.qv,Rg];cases G:(kind==1);rotate_left
 ·have X:kind=1:=by simpa using G
  simp only[aD X];go_enter func234,ntmps234
  go_wp2_with fail
  refine aG (v:=.agg (nQ lo)) (by simp[results,results234,go_sem]) rfl ⟨rfl,aX _ _ _⟩
 have X:¬kind=1:=by simpa using G
 simp only[aA X];cases early
 ·exact WM
 by_cases L:r<=rank
 ·have hd:decide (r<=rank)=true:=by simpa using L
  simp only[hd,Bt,dx];go_enter func234,ntmps234
  go_wp2_with fail
  refine aG (v:=.agg #[.bool false,Iv first]) (by simp[results,results234,go_sem]) rfl ⟨rfl,aX _ _ _⟩
 have hd:decide (r<=rank)=false:=by simpa using L
 simp only[hd,BG,bN,bR];exact WM
section
variable {p:Prop}
open Go.RowKit Go.Proofs Go.Maps Tryz
def Kn(h:p:=by
 go_enter func282,ntmps282
 go_wp2_with fail
 go_ret
 exact⟨rfl,rfl⟩):p:=h
def lR(bj:ByteArray)(wv ev:Value)(n:SN)(w:World)(hk:0<=n.kind):
  Cl 282 #[.agg (aK bj wv n ev)] w fun e I=>e=.returned (.bool (jf n))/\I=w.alloc (.cells (aK bj wv n ev) 152):=by
 obtain⟨kind,var,op,test,⟨g,av,ac⟩,⟨D,bv,bc⟩,goal⟩:=n;simp only at hk;obtain⟨d,hd⟩:=Ea (jf ⟨kind,var,op,test,⟨g,av,ac⟩,⟨D,bv,bc⟩,goal⟩);rw[<-hd];have p:Hd (d=decide (kind<=2)):=hd;clear hd;simp only[aK];cases o:(kind==0);rotate_left
 ·obtain rfl:d=true:=by rw[p.o];simp at o⊢;omega
  exact Kn
 cases G:(kind==1);rotate_left
 ·obtain rfl:d=true:=by rw[p.o];simp at G⊢;omega
  exact Kn
 cases O:(kind==2)
 ·obtain rfl:d=false:=by rw[p.o];simp at o G O⊢;omega
  exact Kn
 obtain rfl:d=true:=by rw[p.o];simp at O⊢;omega
 exact Kn
def nD(n:SN):List ot:=if n.kind=0∨n.kind=3 then[n.a] else if n.kind=1∨n.kind=4 then[n.a,n.b] else[]
def opC(o:ot):List Value:=[.bool o.isVar,Iv o.var,Iv o.const]
def Bo(w:World)(ao:Option Addr)(os:List ot):Prop:=∀j o,os[j]?=some o->∃b q,ao=some (Ad b q)/\w.cell? (Ad b (q+j*3))=some (.bool o.isVar)/\w.cell? (Ad b (q+j*3+1))=some (Iv o.var)/\w.cell? (Ad b (q+j*3+2))=some (Iv o.const)
theorem K0{w:World}{q t:Nat}{os:List ot}(h:w.heap[q]?=some (.cells (os.flatMap opC).toArray t (0,0))):Bo w (some (Ad q 0)) os:=by
 have key:∀(os:List ot) (j:Nat) (o:ot),os[j]?=some o->(os.flatMap opC)[j*3]?=some (.bool o.isVar)/\(os.flatMap opC)[j*3+1]?=some (Iv o.var)/\(os.flatMap opC)[j*3+2]?=some (Iv o.const):=by
  intro os
  induction os with
  |nil=>intro j o h;simp at h
  | cons a r B=>
   intro j o h;cases j with
   |zero=>simp at h;subst h;simp[opC]
   |succ j=>
    have:=B j o (by simpa using h);simp only[bY,opC,dw,dT]at this⊢;rw[show(j+1)*3=j*3+1+1+1 by omega]
    simpa using this
 intro j o U;obtain⟨H,L,R⟩:=key os j o U;obtain⟨F,_⟩:=ae h;exact⟨q,0,rfl,by rw[F];simpa using H,by rw[F];simpa[lA]using L,by rw[F];simpa[lA]using R⟩
def Xv(h:p:=by
 go_enter func329,ntmps329
 go_wp2_with fail
 go_ret
 exact⟨_,rfl,E.a _ _ ak,aX _ _ _⟩):p:=h
def Xu(h:p:=by
 go_enter func329,ntmps329
 go_wp2_with fail
 go_ret
 exact⟨_,rfl,E.A _ _ ak,aX _ _ _⟩):p:=h
def CD(bj:ByteArray)(wv ev:Value)(n:SN)(w:World):
  Cl 329 #[.agg (aK bj wv n ev)] w fun e I=>∃a,e=.returned (.slice a (nD n).length (nD n).length)/\Bo I a (nD n)/\Bl w I:=by
 obtain⟨kind,var,op,test,⟨g,av,ac⟩,⟨D,bv,bc⟩,goal⟩:=n;obtain⟨os,b⟩:=Ea (nD ⟨kind,var,op,test,⟨g,av,ac⟩,⟨D,bv,bc⟩,goal⟩);rw[<-b];have d:=hid b;clear b;simp only[aK];have one:∀(X:World) (q:Nat),q=X.heap.size->Bo (X.alloc (oD g av ac)) (some (Ad q 0)) [⟨g,av,ac⟩]:=fun X q A=>by subst A;exact K0 (bf X _)
 have two:∀(X:World) (q:Nat),q=X.heap.size->Bo (X.alloc (.cells #[.bool g,Iv av,Iv ac,.bool D,Iv bv,Iv bc] 150)) (some (Ad q 0)) [⟨g,av,ac⟩,⟨D,bv,bc⟩]:=fun X q A=>by subst A;exact K0 (bf X _)
 have E:=hid (Aa one two);clear one two;cases c:(kind==0);rotate_left
 ·obtain rfl:os=[⟨g,av,ac⟩]:=by rw[d.o,nD];simp at c;simp[c]
  exact Xv
 cases Y:(kind==3);rotate_left
 ·obtain rfl:os=[⟨g,av,ac⟩]:=by rw[d.o,nD];simp at Y;simp[Y]
  exact Xv
 cases G:(kind==1);rotate_left
 ·obtain rfl:os=[⟨g,av,ac⟩,⟨D,bv,bc⟩]:=by rw[d.o,nD];simp at G;simp[G]
  exact Xu
 cases K:(kind==4)
 ·obtain rfl:os=[]:=by rw[d.o,nD];simp at c Y G K;simp[c,Y,G,K]
  go_enter func329,ntmps329
  go_wp2_with fail
  go_ret
  exact⟨none,rfl,fun j o h=>by simp at h,aC _ _⟩
 obtain rfl:os=[⟨g,av,ac⟩,⟨D,bv,bc⟩]:=by rw[d.o,nD];simp at c Y K;simp[K]
 exact Xu
def tD(k:Key):Array Value:=(xd k.1.1 k.1.2.1 k.1.2.2 k.2.1 k.2.2.1 k.2.2.2.1 k.2.2.2.2)
def D1(h:p:=by
 go_enter func333,ntmps333
 go_wp2_with fail
 go_ret
 exact⟨rfl,aC _ _⟩):p:=h
def N1(k:Key)(v:Int)(w:World):
  Cl 333 #[.agg (tD k),Iv v] w (Rb w (.bool (sO k v))):=by
 obtain⟨⟨g,av,ac⟩,op,D,bv,bc⟩:=k;obtain⟨d,hd⟩:=Ea (sO ((g,av,ac),op,D,bv,bc) v);rw[<-hd];have p:Hd (d=((g&&av==v)||(D&&bv==v))):=hd;clear hd;simp only[tD];cases g
 ·cases D
  ·obtain rfl:d=false:=by rw[p.o];rfl
   exact D1
  obtain rfl:d=(bv==v):=by rw[p.o];simp
  exact D1
 cases h:(av==v);rotate_left
 ·obtain rfl:d=true:=by rw[p.o,h];rfl
  exact D1
 cases D
 ·obtain rfl:d=false:=by rw[p.o,h];rfl
  exact D1
 obtain rfl:d=(bv==v):=by rw[p.o,h];simp
 exact D1
end
open Go.RowKit Go.Proofs Go.Maps Tryz
def Gp(os:List ot):BS:=os.foldl (fun s o=>if o.isVar then eP s (cH [o.var.toNat]) else s) (0,0)
def Pw(n:SN):BS:=Gp (nD n)
def D0(os:List ot)(o:ot):Gp (os++[o])=if o.isVar then eP (Gp os) (cH [o.var.toNat]) else Gp os:=by simp[Gp]
def oT{v:Nat}(h:v<128):bF (cH [v]):=gQ _ fun g m=>by rw[ja.1 m];exact h
def Hj:∀(k:Nat) (os:List ot),(∀o∈os,o.isVar=true->0<=o.var/\o.var<128)->bF (Gp (os.take k))
 |0,os,_=>(show bF (0,0)from⟨aj,aj⟩)
 | k+1,os,h=>by
  have B:=Hj k os h;by_cases X:k<os.length
  ·rw[dS X,D0]
   split
   ·rename_i t
    have:=h _ (eL X) t;exact gp B (oT ah)
   exact B
  rw[cP ah]at B⊢;exact B
def zU{w:World}{q t:Nat}{s:BS}(h:w.heap[q]?=some (.cells #[Uv s.1,Uv s.2] t (0,0)))(z:BS):((w.setCell (Ad q 0) (Uv z.1)).setCell (Ad q 1) (Uv z.2)).heap[q]?=some (.cells #[Uv z.1,Uv z.2] t (0,0)):=by
 rw[aw (aw h _) _];rfl
def Pv(bj:ByteArray)(wv ev:Value)(n:SN)(w:World)(hv:∀o∈nD n,o.isVar=true->0<=o.var/\o.var<128):
  Cl 284 #[.agg (aK bj wv n ev)] w (Rb w (b! (Pw n))):=by
 obtain⟨os,hos⟩:=Ea (nD n);have hlen:os.length<=2:=by rw[hos];unfold nD;split;(· simp);split<;>simp
 have HP:Hd (∀W,Cl 329 #[.agg (aK bj wv n ev)] W fun e I=>∃a,e=.returned (.slice a os.length os.length)/\Bo I a os/\Bl W I):=by rw[hos];exact fun W=>CD bj wv ev n W
 rw[<-hos]at hv;have he:Pw n=Gp os:=by rw[hos];rfl
 rw[he];have l:=hid hv;clear hos he hv;obtain⟨kind,var,op,test,⟨ai,av,ac⟩,⟨bi,bv,bc⟩,goal⟩:=n;simp only[aK]at HP⊢;go_enter func284,ntmps284
 go_upto_region 2 with(fail)
 generalize hW:((w.alloc (.cells #[.string bj,wv,Iv kind,Iv var,Iv op,Iv test,.bool ai,Iv av,Iv ac,.bool bi,Iv bv,Iv bc,ev,.string goal] 152)).alloc eE).alloc eE=W0;have HB:Hd (Bl w W0/\W0.heap[w.heap.size]?=some (.cells #[.string bj,wv,Iv kind,Iv var,Iv op,Iv test,.bool ai,Iv av,Iv ac,.bool bi,Iv bv,Iv bc,ev,.string goal] 152 (0,0))/\W0.heap[w.heap.size+1]?=some jc/\W0.heap[w.heap.size+1+1]?=some jc):=by
  subst hW;obtain⟨e0,e1,e2,_⟩:=qf w (.cells #[.string bj,wv,Iv kind,Iv var,Iv op,Iv test,.bool ai,Iv av,Iv ac,.bool bi,Iv bv,Iv bc,ev,.string goal] 152) eE eE (.cells #[] 0);rw[ch _ _ _ (by simp;try omega)]at e0 e1 e2;exact⟨cq _ _ _ _,e0,e1,e2⟩
 clear hW;obtain⟨F,y⟩:=ae HB.b
 go_wp2_with (go_at_call 329;refine(HP.o _).mono ?_;rintro e W1 ⟨a,rfl,adB,A⟩;have HO:=hid (Aa adB A);clear adB A)
 clear F y;have l2:=blt HB.C;have A8:=HO.A.size;generalize Value.agg #[.string bj,wv,Iv kind,Iv var,Iv op,Iv test,.bool ai,Iv av,Iv ac,.bool bi,Iv bv,Iv bc,ev,.string goal]=sv0
 go_loopw[9] (fun p wr=>∃k:Nat,k<=os.length/\p=Iv k/\Hd (Bl w wr/\wr.heap[w.heap.size+1]?=some jc/\wr.heap[w.heap.size+1+1]?=some (.cells #[Uv ((Gp (os.take k)).1:Int),Uv ((Gp (os.take k)).2:Int)] 267 (0,0))/\Bo wr a os)) (fun p _=>os.length-(intOf p).toNat)
 case atStart=>exact⟨0,bB _,rfl,aq HB.a HO.A,aE HO.A HB.c,aE HO.A HB.C,HO.a⟩
 clear HO A8;obtain⟨k,hk,rfl,M⟩:=hrel;have lw:=blt M.c;by_cases J:k<os.length;rotate_left
 ·have s:¬(k:Int)<(os.length:Int):=ah
  have hke:os.take k=os:=cP ah;obtain⟨z,R⟩:=Ea (Gp os);have b3:=M.c;rw[hke,<-R]at b3;have HZ:=hid R;clear R hke;obtain⟨F,y⟩:=ae b3;obtain⟨B,y2⟩:=ae M.b;have n1:w.heap.size+1≠w.heap.size+1+1:=ah
  go_wp2_with fail
  have v:=M.b;have r0:(wr.setCell (Ad (w.heap.size+1) 0) (Uv z.1)).cell? (Ad (w.heap.size+1) 0)=some (Uv z.1):=by rw[(ae (aw v _)).1];rfl
  have r1:((wr.setCell (Ad (w.heap.size+1) 0) (Uv z.1)).setCell (Ad (w.heap.size+1) 1) (Uv z.2)).cell? (Ad (w.heap.size+1) 1)=some (Uv z.2):=by rw[(ae (aw (aw v _) _)).1];rfl
  refine aG (v:=b! z) (by simp[results,results284,go_sem,b!,r0,r1]) rfl ⟨by rw[HZ.o],?_⟩;exact(M.a.setCell (by show _<=w.heap.size+1;omega) _).setCell (by show _<=w.heap.size+1;omega) _
 have s:(k:Int)<(os.length:Int):=ah
 obtain⟨o,g⟩:=La J;obtain⟨b,q,rfl,c0,Y,c⟩:=M.C k o g;have hov:=l.o o (aL g);have x:Gp (os.take (k+1))=if o.isVar then eP (Gp (os.take k)) (cH [o.var.toNat]) else Gp (os.take k):=by rw[dS J,(bn.1 g).2,D0]
 have Nw:=Hj k os l.o;obtain⟨u,E⟩:=Ea (Gp (os.take k));rw[<-E]at x Nw;obtain⟨oi,ov,oc⟩:=o;simp only at c0 Y c hov x;have f:=hid (Aa x (show wr.heap[w.heap.size+1+1]?=some (rY u.1 u.2)by rw[E];exact M.c));clear E x g;cases oi
 ·go_wp2_with fail
  go_roundw
  case rel=>
   have D:=aC wr (.cells #[.bool false,Iv ov,Iv oc] 150);refine⟨k+1,J,h',aq M.a D,aE D M.b,?_,fun j o U=>by obtain⟨b,q,e,t,C,d2⟩:=M.C j o U;exact⟨b,q,e,ax t D,ax C D,ax d2 D⟩⟩;rw[f.a];exact aE D f.A
  simp[intOf];omega
 obtain⟨h0,G⟩:=hov rfl;obtain⟨m,rfl⟩:∃m:Nat,ov=m:=⟨ov.toNat,ah⟩;have Tf:Hd (∀X b,X.cell? (Ad b 0)=some (Iv m)->Cl 241 (mH b) X (Rb X (b! (cH [m])))):=fun X b Z=>j6 X b m ah Z
 have O:Hd (∀(X:World) b,X.cell? (Ad b 0)=some (Uv u.1)->X.cell? (Ad b 1)=some (Uv u.2)->X.cell? (Ad b 2)=some (Uv ((cH [m]).1:Int))->X.cell? (Ad b 3)=some (Uv ((cH [m]).2:Int))->Cl 267 (oE b) X (Rb X (b! (eP u (cH [m]))))):=fun X b h0 G h2 h3=>by have:=e8 X b u (cH [m]) Nw (oT ah) h0 G h2 h3;exact this
 have HN:Hd (Gp (os.take (k+1))=eP u (cH [m])):=by rw[f.a];rfl
 obtain⟨o1,rK⟩:=Ea (cH [m]);obtain⟨z,R⟩:=Ea (eP u (cH [m]));rw[<-R]at HN O;rw[<-rK]at Tf O;clear rK R Nw;simp only[b!]at Tf O
 go_upto_region 6 with(fail)
 generalize hV:wr.alloc (qp m oc)=V;have H:Hd (Bl wr V/\V.heap[wr.heap.size]?=some (.cells #[.bool true,Iv m,Iv oc] 150 (0,0))):=by subst hV;exact⟨aC _ _,bf _ _⟩
 clear hV c0 Y c;obtain⟨F,y⟩:=ae (aE H.a f.A);obtain⟨B,y2⟩:=ae H.A;have Yr:=H.a.size;have lv:=blt H.A;have n1:w.heap.size+1+1≠V.heap.size:=ah
 have n2:wr.heap.size≠V.heap.size:=ah
 have n3:=n1.symm;have n4:=n2.symm;have ha1:∀(o:Obj) (i:Nat),(V.alloc o).cell? (Ad (w.heap.size+1+1) i)=(#[Uv u.1,Uv u.2]:Array Value)[i]?:=fun o i=>(dY (ch V o _ ah)).trans (F i)
 go_region_law (first|(go_simp;refine bA (Tf.o _ _ ak) ?_;rintro e W1 ⟨rfl,A⟩;have j?:Hd (Bl V W1):=aq ay A;clear F y B y2 A;obtain⟨F,y⟩:=ae (aE j?.o (aE H.a f.A));obtain⟨B,y2⟩:=ae (aE j?.o H.A))|(go_simp;refine bA (O.o _ _ ak ak ak ak) ?_;rintro e r ⟨rfl,N⟩;have ni:Hd (Bl V r):=aq (aq j?.o ay) N;clear F y B y2 N;obtain⟨F,y⟩:=ae (aE ni.o (aE H.a f.A))))
 all_goals
  go_wp2_with fail
  go_roundw
  case rel=>
   have L:=aq H.a ni.o;refine⟨k+1,J,h',((aq M.a L).setCell (by show _<=w.heap.size+1+1;omega) _).setCell (by show _<=w.heap.size+1+1;omega) _,?_,?_,?_⟩
   ·rw[aZ _ _ _ _ (by show w.heap.size+1≠w.heap.size+1+1;omega),aZ _ _ _ _ (by show w.heap.size+1≠w.heap.size+1+1;omega)]
    exact aE L M.b
   ·rw[HN.o]
    exact zU (aE L f.A) z
   intro j o U;obtain⟨b',q',e,t,C,d2⟩:=M.C j o U;have nb:b'≠w.heap.size+1+1:=by
    rintro rfl;rw[(ae f.A).1]at t C;generalize q'+j*3=i at t C
    match i,t,C with
    |0,t,_=>simp at t
    |1,t,_=>simp at t
    |i+2,t,_=>simp at t
   have T:((r.setCell (Ad (w.heap.size+1+1) 0) (Uv z.1)).setCell (Ad (w.heap.size+1+1) 1) (Uv z.2)).heap[b']?=r.heap[b']?:=by rw[aZ _ _ _ _ nb,aZ _ _ _ _ nb]
   exact⟨b',q',e,(dY T).trans (ax t L),(dY T).trans (ax C L),(dY T).trans (ax d2 L)⟩
  simp[intOf];omega
open Go.RowKit Go.Proofs Go.Maps Tryz
def IG(xb sb rb:Nat)(p g:Int)(hs:sb≠rb)(hx:xb≠rb)(W:World)(s:ByteArray)(bad:Bool)(N:po sb xb rb p g W)(h:cT W rb s bad)(c:s.size<=60000):
  Cl 159 (nk xb sb) W fun e i=>S? W i rb s (dJ bad (jL p g) s) e/\Fr (fun j=>j≠rb) W i:=by
 have k:=(bq.1 N.1).1;have Q:=(bq.1 N.2).1;have P:=h.lt;have b:=(show Hd _ from Aa N h);clear N h;go_enter func159,ntmps159
 go_upto_region 1 with(fail)
 obtain⟨d,M⟩:=Ea ((W.alloc (.cells lf 96)));rw[<-M];have r:Bl W d:=by rw[M];exact aC _ _
 have A:=(r.block sb k).trans b.a.1;have l:=(r.block xb Q).trans b.a.2;have t:d' d W.heap.size lf 96:=by rw[M];exact bf _ _
 have D:d.heap.size=W.heap.size+1:=by rw[M];simp
 have f:cT d rb s bad:=by rw[M];exact b.A.alloc _
 have Z:=Ix rb p g s bad d f c;have H:=(show Hd _ from Aa Z (Aa t r));obtain⟨F,y⟩:=ae A;obtain⟨B,o⟩:=ae l;clear A l t f r M Z
 go_wp2_with fail
 refine bA H.a ?_;rintro e T ⟨G,m⟩;obtain⟨x,rfl⟩:=CL G;have R:=m.box H.b (by show _≠_;omega);have E:=(show Hd _ from Aa G m);clear F y B o G m;obtain⟨F,y⟩:=ae R;clear R;simp only[v8]
 go_wp2_with fail
 refine aG (v:=v8 x) (by simp[results,results159,go_sem,F,v8]) rfl ?_;have fa:=YQ T W.heap.size (bH x.fa x.n.facts.length x.fc) (bH x.ra x.n.aO.length x.rc) (.bool x.n.reached) (Iv x.n.rank) (bH x.va x.n.vals.length x.vc);refine⟨E.a.up ah fa (fun j U=>by show j≠_;omega) (by show rb≠_;omega) (aF _) rfl,?_⟩;exact Fr.trans (Fr.trans (Fr.aR H.B) E.A (fun _ _ h=>h)) fa (fun j G O=>by show j≠_;omega)
def Gw:N5:=⟨none,0,none,0,none,0,sG⟩
def E!(a b:List N5):fq (a++b)=fq a++fq b:=by simp[fq]
def E?(vs:List N5)(k j:Nat)(v:N5)(h:vs[k]?=some v)(hj:j<5):(fq vs)[k*5+j]?=(gR v)[j]?:=by
 have G:(gR v)[j]?=some ((gR v)[j]'(by simp[gR];omega)):=bk _;rw[G];exact CM _ k v h j _ G
def I5(n:Nat):(madeCells (Value.agg lf).cells (n*5)).toList=fq (List.replicate n Gw):=by
 rw[show(Value.agg lf).cells=lf from rfl];apply dW;intro j;by_cases U:j<n*5;rotate_left
 ·rw[bU (by simp[madeCells];omega),bU (by rw[jO];simp;omega)]
 have G:(fq (List.replicate n Gw))[j / 5*5+j % 5]?=(gR Gw)[j % 5]?:=E? _ (j / 5) (j % 5) Gw (by rw[mD,aD ah]) ah;rw[show j / 5*5+j % 5=j by omega]at G;rw[G];have E:j % 5<5:=DN _ ah;simp only[madeCells,BD,BA,bG,jX U,kI];show some #[Value.slice none 0 0,.slice none 0 0,.bool false,Iv 0,.slice none 0 0][j % 5]! = _;generalize j % 5=r at E;have:r=0∨r=1∨r=2∨r=3∨r=4:=ah
 rcases this with rfl|rfl|rfl|rfl|rfl<;>rfl
def aaW(M:List N5)(n k:Nat)(x:N5)(hk:M.length=k)(hn:k<n):
  (((((fq (M++List.replicate (n-k) Gw)).set (k*5) (bH x.fa x.n.facts.length x.fc)).set (k*5+1) (bH x.ra x.n.aO.length x.rc)).set (k*5+2) (.bool x.n.reached)).set (k*5+3) (Iv x.n.rank)).set (k*5+4) (bH x.va x.n.vals.length x.vc)=fq ((M++[x])++List.replicate (n-(k+1)) Gw):=by
 have hl:=jO M;rw[hk]at hl;rw[show n-k=(n-(k+1))+1 by omega,dN];simp only[E!,dj];rw[show fq (Gw :: List.replicate (n-(k+1)) Gw)=gR Gw++fq (List.replicate (n-(k+1)) Gw)from rfl,show fq [x]=gR x by simp[fq]];generalize fq (List.replicate (n-(k+1)) Gw)=r;generalize fq M=a at hl;generalize k*5=m at hl;have S:∀(l:List Value) (y:Value),(a++l).set m y=a++l.set 0 y:=fun l y=>set_mid a l m 0 y hl
 rw[S,set_mid _ _ _ _ _ hl,set_mid _ _ _ _ _ hl,set_mid _ _ _ _ _ hl,set_mid _ _ _ _ _ hl];rfl
def l7(M:List N5)(n k j:Nat)(hk:M.length=k)(hn:k<n)(hj:j<5):(fq (M++List.replicate (n-k) Gw))[k*5+j]?=(gR Gw)[j]?:=by
 exact E? _ k j Gw (by rw[fC ah,hk,jh,mD,aD ah]) hj
def blks(x:N5):List Nat:=[x.fv.ownBlock,x.rv.ownBlock,x.vv.ownBlock].filterMap id
def GK(cl:List N5):Prop:=cl.Pairwise (fun a b=>∀i∈blks a,∀j∈blks b,i<j)
def fL.blks{W:World}{B:Nat}{x:N5}(h:fL W B x):∀i∈blks x,B<=i/\i<W.heap.size:=by
 intro i hi;simp only[Go.Proofs.YtmipbiligijcpaaGreatDoor.blks,List.mem_filterMap,id,cQ,gM,ga]at hi;obtain⟨a,y,D⟩:=hi;subst D;rcases y with y|y|y
 ·exact h.f.lt i y.symm
 ·exact h.r.lt i y.symm
 exact h.v.lt i y.symm
def fL.grown{W W':World}{B k:Nat}{x:N5}(h:fL W B x)(m:W.grownBy W' (some k))(hk:∃A f,W.heap[k]?=some (.cells A 96 f)):fL W' B x:=
 ⟨h.f.kept m (ud h.f (fun j U=>by cases U;exact hk) aj),h.r.kept m (ud h.r (fun j U=>by cases U;exact hk) aj),h.v.kept m (ud h.v (fun j U=>by cases U;exact hk) aj),h.ap⟩
def IX{w wr r e:World}{n C k:Nat}{M:List N5}{x:N5}{P:Nat->Prop}{g:List Value}(h:(∀c∈M,fL wr w.heap.size c)/\GK M)(hx:fL r wr.heap.size x)(hf:Fr P wr r)(d:w.heap.size<=wr.heap.size)(hP:∀j,w.heap.size<=j->P j)(m:r.grownBy e (some k))(u:r.ownsRow w.heap.size 96 5 (ix k n C) n g):
  (∀c∈M++[x],fL e w.heap.size c)/\GK (M++[x]):=by
 have X:=fg u k rfl;constructor
 ·intro c Z
  rcases jH.1 Z with Z|Z
  ·exact((h.1 c Z).fr hf hP (aF _)).grown m X
  simp at Z;subst Z;have:=hx.grown m X;exact⟨bJ this.f d,bJ this.r d,bJ this.v d,this.ap⟩
 unfold GK;rw[List.pairwise_append];refine⟨h.2,List.pairwise_singleton _ _,?_⟩;intro a y b D i hi j U;simp at D;subst D;have G:=(h.1 a y).blks i hi;have O:=hx.blks j U;omega
def Ta(w W':World)(rb n:Nat)(s:ByteArray)(bad:Bool)(p g:Int)(e:Ending):Prop:=
  ((∃(cl:List N5) (s':ByteArray) (la:Option Addr) (lc:Nat),dJ bad (bI (f? p g) n ()) s=some ((cl.map N5.n,()),s'.data.toList)/\s'.size<=s.size/\e=.returned (.slice la n lc)/\(la=none->lc=0)/\W'.ownsRow w.heap.size 96 5 (.slice la n lc) n (fq cl)/\(∀c∈cl,fL W' w.heap.size c)/\GK cl/\cT W' rb s' false)∨
   ((bad=true∨dJ bad (bI (f? p g) n ()) s=none)/\e=.returned (.slice none 0 0)/\∃s',s'.size<=s.size/\cT W' rb s' true))
def IE(p g:Int)(xb sb rb n:Nat)(s:ByteArray)(bad:Bool)(w:World)(P:sb≠rb)(l:xb≠rb)(h:cT w rb s bad)(hi:po sb xb rb p g w)(hs:s.size<=60000)(hn:n<=100000000):
  Cl 157 #[.pointer (some (Ad rb 0)),Iv n,.func (.func 159) #[] (nk xb sb)] w fun e i=>
   Ta w i rb n s bad p g e/\Fr (fun j=>j≠rb) w i:=by
 have J:rb<w.heap.size:=(bq.1 h).1;have hsl:=(bq.1 hi.1).1;have Q:=(bq.1 hi.2).1;have HH:=(show Hd _ from Aa h hi);clear h hi;by_cases h0:n=0
 ·subst h0
  go_enter func157,ntmps157
  go_wp2_with fail
  go_ret
  refine⟨?_,Fr.refl _ _⟩;cases bad with
  |false=>exact aJ ⟨[],s,none,0,rfl,aF _,rfl,fun _=>rfl,dF _ _ _ _,(fun c Z=>by cases Z),List.Pairwise.nil,HH.a⟩
  |true=>exact aI ⟨aJ rfl,rfl,s,aF _,HH.a⟩
 obtain⟨i1,hi,D,O,K⟩:=cY Rm;have b:=(show Hd _ from Aa hi (Aa D (Aa O K)));clear hi D O K;have hn0:((n:Int)==0)=false:=by rw[er];omega
 go_enter func157,ntmps157
 go_wp2_with (at_make;refine il _ rfl (.tmp 11) (.tmp 11) 46 rfl w.heap.size 96 i1 (.agg lf) 5 underlying46 b.a b.b b.c .i64 .i64 n n n rfl rfl rfl rfl (by rw[b.C];omega) (by unfold maxLen;omega) ak ?_;intro T h! Y;have E:=(show Hd _ from Aa h! Y);clear h! Y)
 have H:Hd (T.ownsRow w.heap.size 96 5 (b? w.heap.size n) n (fq (([]:List N5)++List.replicate (n-0) Gw))/\cT T rb s bad/\po sb xb rb p g T/\Fr (fun j=>j≠rb) w T):=by
  obtain⟨G,g1⟩:=E.o;rw[I5]at G;refine⟨by simpa using G,HH.a.grown g1 ak,⟨(g1.block _ hsl ak).trans HH.b,(g1.block _ Q ak).trans HH.B⟩,Fr.dr g1 (fun k _ _=>ak)⟩
 clear E
 go_loopw[15] (fun iv wr=>∃(k:Nat) (M:List N5) (m:ByteArray),k<=n/\iv=Iv k/\m.size<=s.size/\Hd (M.length=k)/\Hd (bI (f? p g) k () s.data.toList=some ((M.map N5.n,()),m.data.toList)/\(0<k->bad=false))/\Hd (wr.ownsRow w.heap.size 96 5 (b? w.heap.size n) n (fq (M++List.replicate (n-k) Gw))/\cT wr rb m (if k=0 then bad else false)/\po sb xb rb p g wr/\Fr (fun j=>j≠rb) w wr)/\Hd ((∀c∈M,fL wr w.heap.size c)/\GK M)) (fun iv _=>n-(intOf iv).toNat)
 case atStart=>exact⟨0,[],s,bB _,rfl,aF _,rfl,⟨rfl,(fun h=>ah)⟩,⟨H.a,H.b,H.c,H.C⟩,(fun c Z=>by cases Z),List.Pairwise.nil⟩
 clear H;obtain⟨k,M,m,X,rfl,Ys,f,I,d,HV⟩:=hrel;by_cases J:k<n;rotate_left
 ·obtain rfl:k=n:=ah
  have ig:¬(k:Int)<k:=ah
  have HE:Hd (dJ bad (bI (f? p g) k ()) s=some ((M.map N5.n,()),m.data.toList)):=by
   show _=_;rw[I.A ah];exact I.a
  go_wp2_with fail
  go_ret
  refine⟨aJ ⟨M,m,some (Ad w.heap.size 0),k,HE.o,Ys,rfl,(fun h=>by cases h),?_,HV.a,HV.A,?_⟩,d.C⟩
  ·have:=d.a
   simpa using this
  have:=d.b
  rwa[aA h0]at this
 have ig:(k:Int)<n:=ah
 have Z:=IG xb sb rb p g P l wr m (if k=0 then bad else false) d.c d.b ah;have HC:=(show Hd _ from Z);clear Z
 go_wp2_with fail
 refine bA HC.o ?_;rintro e r ⟨h2,S⟩;have u:=S.own d.a (fun q A=>by simp[Value.ownBlock]at A;subst A;show _≠_;omega);have V:=d.C.trans S (fun q _ A=>A);have Ji:=d.C.size;have ki:po sb xb rb p g r:=⟨S.box d.c.1 P,S.box d.c.2 l⟩;have afe:=S.size;rcases h2 with⟨x,s3,o,oZ,rfl,hvo,L⟩|⟨o,x,s3,rfl,oZ,L⟩
 ·simp only[v8]
  have z:=u.stored (k*5) (bH x.fa x.n.facts.length x.fc);have rA:=z.1.stored (k*5+1) (bH x.ra x.n.aO.length x.rc);have ry:=rA.1.stored (k*5+2) (.bool x.n.reached);have ru:=ry.1.stored (k*5+3) (Iv x.n.rank);have a:=ru.1.stored (k*5+4) (bH x.va x.n.vals.length x.vc);have t:=Aa a.1 ((((z.2.trans rA.2).trans ry.2).trans ru.2).trans a.2);clear z rA ry ru a;rw[aaW M n k x f.o J]at t;have U:e' r w.heap.size (k*5) (.slice none 0 0):=(u.cellAt (k*5+0) ah).trans (l7 M n k 0 f.o J ah);have YD:e' r w.heap.size (k*5+1) (.slice none 0 0):=(u.cellAt (k*5+1) ah).trans (l7 M n k 1 f.o J ah);have hk3:e' r w.heap.size (k*5+2) (.bool false):=(u.cellAt (k*5+2) ah).trans (l7 M n k 2 f.o J ah);have Vv:e' r w.heap.size (k*5+3) (Iv 0):=(u.cellAt (k*5+3) ah).trans (l7 M n k 3 f.o J ah);have Vu:e' r w.heap.size (k*5+4) (.slice none 0 0):=(u.cellAt (k*5+4) ah).trans (l7 M n k 4 f.o J ah);have hfz:=u.frozenAt;have N:=L.grown t.2 (by simp;omega);have R:=(show po sb xb rb p g _ from⟨(t.2.block sb ah (by simp;omega)).trans ki.1,(t.2.block xb ah (by simp;omega)).trans ki.2⟩);have F:=(show(∀c∈M++[x],fL _ w.heap.size c)/\GK (M++[x])from IX HV.o hvo S Ji (fun j=>by show _->_≠_;omega) t.2 u);have W:=V.grown t.2 (fun q A _=>by simp;omega);obtain⟨x1,y⟩:=ae N;have v:(if k=0 then bad else false)=false/\f? p g () m.data.toList=some ((x.n,()),s3.data.toList):=by
   generalize(if k=0 then bad else false)=bb at o;obtain⟨G,h2⟩:=eA o;exact⟨G,by unfold f?;rw[h2]⟩
  have C:=(show Hd _ from Aa v (Aa t.1 (Aa N (Aa R (Aa W F)))));clear v t N R W o L ki u V S F hvo
  go_wp2_with fail
  refine⟨⟨k+1,M++[x],s3,ah,h',ah,by show _=_;rw[bu,f.o];rfl,⟨?_,fun _=>?_⟩,⟨C.b,?_,C.d,C.e⟩,C.E⟩,by simp[intOf];omega⟩
  ·rw[fG,I.a]
   simp only;rw[C.a.2,iq];rfl
  ·by_cases hk0:k=0
   ·have:=C.a.1
    rwa[aD hk0]at this
   exact I.A ah
  rw[aA ah];exact C.c
 simp only[v8];have z:=u.stored (k*5) (bH x.fa x.n.facts.length x.fc);have rA:=z.1.stored (k*5+1) (bH x.ra x.n.aO.length x.rc);have ry:=rA.1.stored (k*5+2) (.bool x.n.reached);have ru:=ry.1.stored (k*5+3) (Iv x.n.rank);have a:=ru.1.stored (k*5+4) (bH x.va x.n.vals.length x.vc);have t:=Aa a.1 ((((z.2.trans rA.2).trans ry.2).trans ru.2).trans a.2);clear z rA ry ru a;have U:e' r w.heap.size (k*5) (.slice none 0 0):=(u.cellAt (k*5+0) ah).trans (l7 M n k 0 f.o J ah);have YD:e' r w.heap.size (k*5+1) (.slice none 0 0):=(u.cellAt (k*5+1) ah).trans (l7 M n k 1 f.o J ah);have hk3:e' r w.heap.size (k*5+2) (.bool false):=(u.cellAt (k*5+2) ah).trans (l7 M n k 2 f.o J ah);have Vv:e' r w.heap.size (k*5+3) (Iv 0):=(u.cellAt (k*5+3) ah).trans (l7 M n k 3 f.o J ah);have Vu:e' r w.heap.size (k*5+4) (.slice none 0 0):=(u.cellAt (k*5+4) ah).trans (l7 M n k 4 f.o J ah);have hfz:=u.frozenAt;have N:=L.grown t.2 (by simp;omega);have W:=V.grown t.2 (fun q A _=>by simp;omega);obtain⟨x1,y⟩:=ae N;have B:dJ bad (bI (f? p g) n ()) s=none:=by
  unfold dJ;cases NR:bad with
  |true=>rfl
  | false=>
   simp only[bN,bR];have v:f? p g () m.data.toList=none:=by
    rw[NR]at o;rcases mT o with h|⟨_,h⟩
    ·simp at h
    unfold f?;rw[h]
   refine qO (f? p g) (k:=k+1) ?_ ah;rw[fG,I.a];simp only;rw[v]
 have C:=(show Hd _ from Aa B (Aa N W));clear B t N W o L ki u V S
 go_wp2_with fail
 go_ret
 exact⟨aI ⟨aI C.a,rfl,s3,ah,C.b⟩,C.B⟩
section
variable {s s1 s2:ByteArray} {F y bad:Bool} {w W' W:World} {rb n B i A:Nat} {p g:Int} {P:Nat->Prop} {t:Option Addr}
open Go.RowKit Go.Proofs Go.Maps Tryz
structure OcK(s:ByteArray)(bad:Bool)(b:UInt8)(s':ByteArray)(b':Bool):Prop where
  sz:s'.size<=s.size
  how:(b'=false/\bad=false/\s.data.toList=b :: s'.data.toList)∨(b'=true/\b=0/\(bad=true∨s.data.toList=[]))
def EN(rb:Nat)(s:ByteArray)(bad:Bool)(w:World)(h:cT w rb s bad)(hs:s.size<=60000):
  Cl 156 (bE rb) w fun e I=>∃(b:UInt8) (C:ByteArray) (m:Bool),e=.returned (.int .u8 (b.toNat:Int))/\OcK s bad b C m/\cT I rb C m/\w.grownBy I (some rb):=by
 refine(qV rb s bad w h hs).mono ?_;rintro e I ⟨G,g⟩;rcases G with⟨b,C,o,c,rfl,L⟩|⟨o,rfl,C,c,L⟩
 ·obtain⟨G,O⟩:=K3 o
  exact⟨b,C,false,rfl,⟨c,aJ ⟨rfl,G,O⟩⟩,L,g⟩
 refine⟨0,C,true,rfl,⟨c,aI ⟨rfl,rfl,?_⟩⟩,L,g⟩;rcases mT o with h|⟨_,h⟩
 ·exact aJ h
 right
 unfold El at h;split at h
 ·cases h
 assumption
def Vb(d:Int):known 0 d=false:=by simp[known]
def Va(p:Int):known p 0=false:=by simp[known]
def Wf{b d:UInt8}(h1:OcK s false b s1 F)(h2:OcK s1 F d s2 y)(hk:known (b.toNat:Int) (d.toNat:Int)=false):gZ s.data.toList=none:=by
 rcases h1.2 with⟨_,_,Q⟩|⟨_,_,Q⟩;rotate_left
 ·rcases Q with Q|Q
  ·cases Q
  rw[Q];rfl
 rw[Q];rcases h2.2 with⟨_,_,z⟩|⟨_,_,z⟩
 ·rw[z]
  unfold gZ;simp only;rw[hk];simp
 rcases z with z|z;rotate_left
 ·rw[z];rfl
 subst z;rcases h1.2 with⟨h,_⟩|⟨_,_,h⟩
 ·cases h
 rcases h with h|h
 ·cases h
 rw[h]at Q;cases Q
def SD{b d:UInt8}(h1:OcK s false b s1 F)(h2:OcK s1 F d s2 y)(hk:known (b.toNat:Int) (d.toNat:Int)=true):y=false/\s.data.toList=b :: d :: s2.data.toList:=by
 rcases h1.2 with⟨_,_,Q⟩|⟨_,e,_⟩
 ·rcases h2.2 with⟨h,_,z⟩|⟨_,e,_⟩
  ·exact⟨h,by rw[Q,z]⟩
  subst e;have:=Va (b.toNat:Int);rw[show(((0:UInt8).toNat:Nat):Int)=0 from rfl]at hk;rw[this]at hk;cases hk
 subst e;have:=Vb (d.toNat:Int);rw[show(((0:UInt8).toNat:Nat):Int)=0 from rfl]at hk;rw[this]at hk;cases hk
def YR(W:World)(b:Nat)(a0 a1 a2:Value):Fr (fun j=>j≠b) W (((W.setCell (Ad b 0) a0).setCell (Ad b 1) a1).setCell (Ad b 2) a2):=
 Fr.trans (Fr.trans (FU _ _ _ _) (FU _ _ _ _) (fun _ _ h=>h)) (FU _ _ _ _) (fun _ _ h=>h)
def LsN(W':World)(B n:Nat)(s:ByteArray)(bad:Bool)(p g:Int)(la:Option Addr)(ll lc:Nat)(s':ByteArray)(b':Bool):Prop:=
 s'.size<=s.size/\((b'=false/\ll=n/\∃cl:List N5,dJ bad (bI (f? p g) n ()) s=some ((cl.map N5.n,()),s'.data.toList)/\W'.ownsRow B 96 5 (.slice la n lc) n (fq cl)/\(∀c∈cl,fL W' B c)/\GK cl)∨(b'=true/\(bad=true∨dJ bad (bI (f? p g) n ()) s=none)/\la=none/\ll=0/\lc=0))
def Ta.one{e:Ending}(h:Ta w W' rb n s bad p g e):
  ∃t i A C m,e=.returned (.slice t i A)/\LsN W' w.heap.size n s bad p g t i A C m/\cT W' rb C m:=by
 rcases h with⟨R,C,t,A,G,O,rfl,Y,K,H,E,U⟩|⟨G,rfl,C,O,Y⟩
 ·exact⟨t,n,A,C,false,rfl,⟨O,aJ ⟨rfl,rfl,R,G,K,H,E⟩⟩,U⟩
 exact⟨none,0,0,C,true,rfl,⟨O,aI ⟨rfl,G,rfl,rfl,rfl⟩⟩,Y⟩
def LsN.fr{w':World}{B':Nat}{C:ByteArray}{m:Bool}(h:LsN w B n s bad p g t i A C m)(hf:Fr P w w')(hp:∀k,B<=k->P k)(f:B'<=B):LsN w' B' n s bad p g t i A C m:=by
 refine⟨h.1,?_⟩;rcases h.2 with⟨G,O,R,Y,K,H,E⟩|h
 ·exact aJ ⟨G,O,R,Y,bJ (hf.own K (fun k X=>hp k (K.lt k X).1)) f,fun c Z=>(H c Z).fr hf hp f,E⟩
 exact aI h
def zg(W:World)(w:World)(rb sb:Nat)(p g:Int)(nv:Value):Prop:=W.heap[w.heap.size]?=some (.cells (bE rb) 274 (0,0))/\W.heap[w.heap.size+1]?=some (.cells iA 51 (0,0))/\W.heap[w.heap.size+2]?=some (.cells #[Iv p,Iv g,nv] 51 (0,0))/\W.heap[sb]?=some (nU p g)/\w.heap.size+3<=sb/\sb<W.heap.size
def zg.fr{sb:Nat}{nv:Value}(h:zg W w rb sb p g nv)(hf:Fr P W W')(hp:∀j,w.heap.size<=j->P j):zg W' w rb sb p g nv:=
 ⟨hf.box h.1 (hp _ ah),hf.box h.2.1 (hp _ ah),hf.box h.2.2.1 (hp _ ah),hf.box h.2.2.2.1 (hp _ (by have:=h.2.2.2.2.1;omega)),h.2.2.2.2.1,fD h.2.2.2.2.2 hf.size⟩
def CtR(w W':World)(rb:Nat)(s:ByteArray)(e:Ending):Prop:=
 (∃(c:Ct) (cl:List N5) (s':ByteArray) (la:Option Addr) (lc:Nat),gZ s.data.toList=some (c,s'.data.toList)/\c.nodes=cl.map N5.n/\e=.returned (.agg #[Iv c.problem,Iv c.bK,.slice la c.nodes.length lc])/\W'.ownsRow w.heap.size 96 5 (bH la c.nodes.length lc) c.nodes.length (fq cl)/\(∀c∈cl,fL W' w.heap.size c)/\GK cl/\cT W' rb s' false)∨
 (gZ s.data.toList=none/\∃(p g:Int) (la:Option Addr) (ll lc:Nat) (s':ByteArray),e=.returned (.agg #[Iv p,Iv g,.slice la ll lc])/\cT W' rb s' true)
def SE{k:Nat}{b d:UInt8}{l v:ByteArray}{C O:Bool}(hs:s.data.toList=b :: d :: s2.data.toList)(hk:known (b.toNat:Int) (d.toNat:Int)=true)(h1:Y4 s2 false 60 k l C)(h2:LsN W B k l C (b.toNat:Int) (d.toNat:Int) t i A v O)(f:w.heap.size<=B)(hr:cT W rb v O):
  CtR w W rb s (.returned (.agg #[Iv b.toNat,Iv d.toNat,.slice t i A])):=by
 cases O with
 |true=>
  refine aI ⟨?_,_,_,t,i,A,v,rfl,hr⟩;rw[hs];unfold gZ;simp only;rw[aD hk];rcases h1.2 with⟨S,Q,_⟩|⟨S,Q,_⟩;rotate_left
  ·rw[show kC 60 s2.data.toList=none from Q]
  subst S;rw[show kC 60 s2.data.toList=some (k,l.data.toList)from Q];simp only;rcases h2.2 with⟨z,_⟩|⟨_,z,_⟩
  ·cases z
  rcases z with z|z
  ·cases z
  rw[show bI (f? (b.toNat:Int) (d.toNat:Int)) k () l.data.toList=none from z]
 | false=>
  rcases h2.2 with⟨_,hl,R,z,N,j,a2⟩|⟨e,_⟩;rotate_left
  ·cases e
  obtain⟨S,a⟩:=eA z;subst S;rcases h1.2 with⟨_,Q,_⟩|⟨e,_⟩;rotate_left
  ·cases e
  have J:=eo _ _ _ _ _ _ _ a;subst hl;refine aJ ⟨⟨(b.toNat:Int),(d.toNat:Int),R.map N5.n⟩,R,v,t,A,?_,rfl,by simp only;rw[J],by simp only;rw[J];exact bJ N f,fun c Z=>?_,a2,hr⟩
  ·rw[hs]
   unfold gZ;simp only;rw[aD hk,show kC 60 s2.data.toList=some (i,l.data.toList)from Q];simp only;rw[a]
  have:=j c Z;exact⟨bJ this.f f,bJ this.r f,bJ this.v f,this.ap⟩
def Iy(rb:Nat)(s:ByteArray)(w:World)(h:cT w rb s false)(hs:s.size<=60000):
  Cl 92 (bE rb) w fun e W'=>CtR w W' rb s e/\Fr (fun j=>j≠rb) w W':=by
 have v?:=h.lt;have HR:=(show Hd (cT w rb s false)from h);clear h;go_enter func92,ntmps92
 go_upto_region 2 with(fail)
 obtain⟨V0,M⟩:=Ea ((((w.alloc (.cells (bE rb) 274)).alloc (.cells iA 51)).alloc (.cells iA 51)));rw[<-M];have lu:V0.heap.size=w.heap.size+3:=by rw[M];simp
 have n:V0.heap[w.heap.size]?=some (.cells (bE rb) 274 (0,0)):=by
  rw[M,ch _ _ _ (by simp;omega),ch _ _ _ ak,bf]
 have m1:V0.heap[w.heap.size+1]?=some (.cells iA 51 (0,0)):=by
  rw[M,ch _ _ _ ak];exact(aN w _ _).2
 have m2:V0.heap[w.heap.size+2]?=some (.cells iA 51 (0,0)):=by
  rw[M];have:=bf ((w.alloc (.cells (bE rb) 274)).alloc (.cells iA 51)) (.cells iA 51)
  simpa using this
 have Jl:cT V0 rb s false:=by rw[M];exact((HR.o.alloc _).alloc _).alloc _
 have hf0:Fr (fun j=>j≠rb) w V0:=by rw[M];exact Fr.aR (cq _ _ _ _)
 have VB:=EN rb s false V0 Jl hs;have H0:=(show Hd _ from Aa VB (Aa n (Aa m1 (Aa m2 hf0))));obtain⟨F,y⟩:=ae n;clear n m1 m2 Jl hf0 M VB
 go_wp2_with fail
 refine bA H0.a ?_;rintro e T ⟨b,P,B,rfl,FL,z,g1⟩;have f1:Fr (fun j=>j≠rb) V0 T:=Fr.dr g1 (fun j _ U=>by simpa using U);have n:=f1.box H0.b (by show _≠_;omega);have m1:=f1.box H0.c (by show _≠_;omega);have m2:=f1.box H0.d (by show _≠_;omega);have Lv:=f1.size;have hb:=rR b;have HA:Hd (∀V,V=T.setCell (Ad (w.heap.size+2) 0) (Iv b.toNat)->V.heap[w.heap.size]?=some (.cells (bE rb) 274 (0,0))/\V.heap[w.heap.size+1]?=some (.cells iA 51 (0,0))/\V.heap[w.heap.size+2]?=some (.cells #[Iv b.toNat,Iv 0,.slice none 0 0] 51 (0,0))/\cT V rb P B/\Fr (fun j=>j≠rb) w V/\V0.heap.size<=V.heap.size):=by
  intro V g;subst g;have fs:=FU T (w.heap.size+2) 0 (Iv b.toNat);exact⟨fs.box n (by show _≠_;omega),fs.box m1 (by show _≠_;omega),eC m2 _,z.fr fs (by show rb≠_;omega),Fr.trans (Fr.trans H0.D f1 (fun _ _ h=>h)) fs (fun j h1 _=>by show j≠_;omega),bw Lv fs.size⟩
 have H1:=(show Hd _ from FL);clear F y n m1 z g1 f1 FL;obtain⟨F,y⟩:=ae m2;clear m2
 go_upto_region 3 with(fail)
 obtain⟨V1,TD⟩:=Ea (T.setCell (Ad (w.heap.size+1+1) 0) (Iv b.toNat));rw[<-TD];have R:=(show Hd _ from HA.o V1 TD);have aeX:=R.E;clear TD HA F y;have OP:=EN rb P B V1 R.d (by have:=H1.o.sz;omega);have C:=(show Hd _ from OP);obtain⟨F,y⟩:=ae R.a;clear OP
 go_wp2_with fail
 refine bA C.o ?_;rintro e r ⟨d,m,o,rfl,YD,hr2,g2⟩;have f2:Fr (fun j=>j≠rb) V1 r:=Fr.dr g2 (fun j _ U=>by simpa using U);have n:=f2.box R.a (by show _≠_;omega);have m1:=f2.box R.b (by show _≠_;omega);have m2:=f2.box R.c (by show _≠_;omega);have K:=f2.size;have hd:=rR d;have HA:Hd (∀V,V=(r.setCell (Ad (w.heap.size+2) 1) (Iv d.toNat)).alloc (df b.toNat d.toNat)->zg V w rb r.heap.size (b.toNat:Int) (d.toNat:Int) (.slice none 0 0)/\cT V rb m o/\Fr (fun j=>j≠rb) w V):=by
  intro V g;subst g;have fs:=FU r (w.heap.size+2) 1 (Iv d.toNat);have c:(r.setCell (Ad (w.heap.size+2) 1) (Iv d.toNat)).heap.size=r.heap.size:=by simp[World.setCell]
  have fb:=Fr.aR (P:=fun _=>True) (aC (r.setCell (Ad (w.heap.size+2) 1) (Iv d.toNat)) (df b.toNat d.toNat));have J:=bf (r.setCell (Ad (w.heap.size+2) 1) (Iv d.toNat)) (df b.toNat d.toNat);rw[c]at J;refine⟨⟨fb.box (fs.box n (by show _≠_;omega)) trivial,fb.box (fs.box m1 (by show _≠_;omega)) trivial,fb.box (eC m2 _) trivial,J,ah,?_⟩,(hr2.fr fs (by show rb≠_;omega)).fr fb trivial,Fr.trans (Fr.trans (Fr.trans R.e f2 (fun _ _ h=>h)) fs (fun j h1 _=>by show j≠_;omega)) fb (fun _ _ _=>trivial)⟩;simp[c]
 have H3:=(show Hd _ from YD);clear F y n m1 hr2 g2 f2 YD C;obtain⟨F,y⟩:=ae m2;clear m2
 go_upto_region 5 with(fail)
 obtain⟨V2,hV2⟩:=Ea ((r.setCell (Ad (w.heap.size+1+1) 1) (Iv d.toNat)).alloc (df b.toNat d.toNat));rw[<-hV2];have f:=(show Hd _ from HA.o V2 hV2);clear hV2 HA R F y;obtain⟨F,y⟩:=ae f.a.2.2.2.1;have zK:w.heap.size+3<=r.heap.size:=ah
 obtain⟨kb,E⟩:∃kb:Bool,known (b.toNat:Int) (d.toNat:Int)=kb:=⟨_,rfl⟩;cases kb with
 |false=>
  go_wp2_with fail
  refine(lM _ _ _).mono ?_;rw[E];rintro e a ⟨rfl,Q⟩;have u:Fr (fun _=>True) V2 a:=Fr.aR (by rw[Q];exact aC _ _);have Y:=f.a.fr u (fun _ _=>trivial);have S:=f.b.fr u trivial;have Jr:=Fr.trans f.B u (fun _ _ _=>trivial);have I:=(show Hd _ from Aa S Jr);clear F y;obtain⟨F,y⟩:=ae Y.1;obtain⟨y3,y4⟩:=ae Y.2.1;obtain⟨x,z2⟩:=ae S;clear Q u Y S Jr;have n1:¬rb=w.heap.size:=ah
  have n2:¬rb=w.heap.size+1:=ah
  have n3:¬w.heap.size+1=rb:=ah
  go_wp2_with fail
  refine aG (v:=.agg iA) (by simp[results,results92,go_sem,y3]) rfl ?_;have fs:=FU a rb 1 (.bool true);have fa:=YR (a.setCell (Ad rb 1) (.bool true)) (w.heap.size+1) (Iv 0) (Iv 0) (.slice none 0 0);have hr:cT (a.setCell (Ad rb 1) (.bool true)) rb m true:=eC I.a _;exact⟨aI ⟨Wf H1.o H3.o E,0,0,none,0,0,m,rfl,hr.fr fa (by show rb≠_;omega)⟩,Fr.trans (Fr.trans I.A fs (fun _ _ h=>h)) fa (fun j h1 h2=>by show j≠_;omega)⟩
 | true=>
  go_wp2_with fail
  refine(lM _ _ _).mono ?_;rw[E];rintro e a ⟨rfl,Q⟩;have u:Fr (fun _=>True) V2 a:=Fr.aR (by rw[Q];exact aC _ _);have Y:=f.a.fr u (fun _ _=>trivial);have S:=f.b.fr u trivial;have Jr:=Fr.trans f.B u (fun _ _ _=>trivial);have I:=(show Hd _ from Aa Y (Aa S Jr));clear F y Q u;obtain⟨F,y⟩:=ae Y.1;clear Y S Jr
  go_upto_region 8 with(fail)
  have Vi:=SD H1.o H3.o E;obtain⟨N,Ys⟩:=Vi;subst N;have Rr:m.size<=60000:=by have:=H1.o.sz;have:=H3.o.sz;omega
  have Z:=fun(V:World) (g:cT V rb m false)=>ny rb m false 60 V g Rr ⟨ah,ah⟩
  have G:=fun(V:World) (k:Nat) (l:ByteArray) (b3:Bool) (hs3:l.size<=60000) (X:k<=60) (g:cT V rb l b3) (hI:po r.heap.size w.heap.size rb (b.toNat:Int) (d.toNat:Int) V)=>IE (b.toNat:Int) (d.toNat:Int) w.heap.size r.heap.size rb k l b3 V ah ah g hI hs3 ah
  have HP:=(show Hd _ from Aa Z (Aa G (Aa I.a (Aa Ys (Aa I.b I.B)))));clear Z G Ys H1 H3 I;have hz4:r.heap.size<a.heap.size:=HP.c.2.2.2.2.2
  go_cut [] from 24 (fun wx=>∃(la:Option Addr) (i A k:Nat) (l s4:ByteArray) (b3 O:Bool),Hd (zg wx w rb r.heap.size (b.toNat:Int) (d.toNat:Int) (.slice la i A)/\Y4 m false 60 k l b3/\LsN wx a.heap.size k l b3 (b.toNat:Int) (d.toNat:Int) la i A s4 O/\cT wx rb s4 O/\Fr (fun j=>j≠rb) w wx/\a.heap.size<=wx.heap.size))
  case first=>
   go_region_law (first|(have _:=I;go_simp;refine(HP.b _ k l b3 hs3 hk8 (by exact I.b) (by exact⟨I.c.2.2.2.1,I.c.1⟩)).mono ?_;rintro e W5 ⟨H,f5⟩;obtain⟨la,i,A,s4,O,rfl,OM,hr5⟩:=H.one;have L:=f5.box I.c.2.2.1 (show _≠_ by omega);obtain⟨x,z2⟩:=ae L;have H5:=(show Hd _ from Aa OM (Aa hr5 f5));clear OM hr5 f5 H L)|(go_simp;refine(HP.a _ (by exact HP.e)).mono ?_;rintro e W4 ⟨k,l,b3,rfl,X,Ly,D⟩;have hf4:Fr (fun j=>j≠rb) a W4:=Fr.trans (Fr.aR (P:=fun j=>j≠rb) (by repeat(first|with_reducible exact aM _ _|with_reducible refine below_drewN ?_ _|with_reducible refine kf ?_))) (Fr.dr D (fun j _ U=>by simpa using U)) (fun _ _ U=>U);have v:=HP.c.fr hf4 (fun j U=>by show j≠rb;omega);have hs3:l.size<=60000:=(by have:=X.1;omega);have hk8:k<=60:=(by rcases X.2 with⟨_,_,q⟩|⟨_,_,q⟩<;>omega);obtain⟨y3,y4⟩:=ae v.1;have I:=(show Hd _ from Aa X (Aa Ly (Aa v hf4)));clear X Ly v hf4 D))
   all_goals
    go_wp2_with fail
    go_meet
    obtain⟨k1,k2,k4⟩:=H5.o;have Vk:=k4.size;have NK:=I.C;have zJ:=NK.size;have f6:Fr (fun j=>j≠rb) W4 W5:=Fr.trans (Fr.aR (P:=fun j=>j≠rb) (by repeat(first|with_reducible exact aM _ _|with_reducible refine below_drewN ?_ _|with_reducible refine kf ?_))) k4 (fun _ _ h=>h);have W:=I.c.fr f6 (fun j U=>by show j≠rb;omega);have t:=FU W5 (w.heap.size+2) 2 (.slice la i A);refine⟨la,i,A,k,l,s4,b3,O,⟨t.box W.1 (by show _≠_;omega),t.box W.2.1 (by show _≠_;omega),eC W.2.2.1 _,t.box W.2.2.2.1 (by show _≠_;omega),W.2.2.2.2.1,fD W.2.2.2.2.2 t.size⟩,I.a,k1.fr t (fun j U=>by show j≠_;omega) zJ,k2.fr t (by show rb≠_;omega),?_,bw (bw zJ Vk) t.size⟩;exact Fr.trans (Fr.trans (Fr.trans HP.E NK (fun _ _ h=>h)) f6 (fun j h1 h2=>h2)) t (fun j h1 _=>by show j≠_;omega)
  obtain⟨la,i,A,k,l,s4,b3,O,p⟩:=hcut
  rename World=>W6
  clear F y;obtain⟨F,y⟩:=ae p.a.2.2.1;obtain⟨y3,y4⟩:=ae p.a.2.1
  go_wp2_with fail
  refine aG (v:=.agg #[Iv b.toNat,Iv d.toNat,.slice la i A]) (by simp[results,results92,go_sem,y3]) rfl ?_;have fa:=YR W6 (w.heap.size+1) (Iv b.toNat) (Iv d.toNat) (.slice la i A);refine⟨SE HP.d E p.b (p.c.fr fa (fun j U=>by show j≠_;omega) (aF _)) ah (p.d.fr fa (by show rb≠_;omega)),?_⟩;exact Fr.trans p.e fa (fun j h1 h2=>by show j≠_;omega)
end
section
variable {s:ByteArray} {p:Prop}
open Go.RowKit Go.Proofs Go.Maps Tryz
def RJ(s p:ByteArray)(w:World):Cl 229 #[.string s,.string p] w fun e I=>e=.returned (.bool (Lib.hasPrefix s.data.toList p.data.toList))/\I=w:=by
 rw[<-Lib.hasPrefix_of_take,<-Lib.size_eq,<-Lib.size_eq];go_enter func229,ntmps229
 go_wp2
 ·rename_i h
  go_ret
  refine⟨?_,rfl⟩;show Ending.returned (Value.bool ((s.extract 0 p.size).toList==p.toList))=_;rw[Lib.extract_toList,Lib.toList_data];simp[h]
 rename_i h
 go_ret
 refine⟨?_,rfl⟩;show Ending.returned (Value.bool false)=_;simp[h]
def Bb{p:ByteArray}(h:Lib.hasPrefix s.data.toList p.data.toList=true):p.size<=s.size:=by
 rw[<-Lib.hasPrefix_raw]at h;simp only[aS,bm]at h;exact h.1
def PG(h:p:=by
 have f:=(show Hd _ from Z);clear Z;go_enter func155,ntmps155
 go_wp2_with (go_at_call 229;refine bA f.o ?_;rintro e T ⟨rfl,rfl⟩)
 go_ret2
 exact⟨rfl,rfl⟩):p:=h
def Sp(s p:ByteArray)(w:World):Cl 155 #[.string s,.string p] w fun e I=>e=.returned (.tuple #[.string (if Lib.hasPrefix s.data.toList p.data.toList=true then s.extract p.size s.size else s),.bool (Lib.hasPrefix s.data.toList p.data.toList)])/\I=w:=by
 have Z:=RJ s p w;obtain⟨b,D⟩:∃b,Lib.hasPrefix s.data.toList p.data.toList=b:=⟨_,rfl⟩;rw[D]at Z⊢;cases b with
 |true=>
  have K:=Bb D;exact PG
 |false=>
  exact PG
def N?(s p:ByteArray)(w:World):Cl 91 #[.string s,.string p] w fun e I=>e=.returned (.tuple #[.string (if Lib.hasPrefix s.data.toList p.data.toList=true then s.extract p.size s.size else s),.bool (Lib.hasPrefix s.data.toList p.data.toList)])/\I=w:=by
  have Z:=Sp s p w;obtain⟨b,D⟩:∃b,Lib.hasPrefix s.data.toList p.data.toList=b:=⟨_,rfl⟩;rw[D]at Z⊢;have f:=(show Hd _ from Z);clear Z
  cases b<;>(
    go_enter func91,ntmps91
    go_wp2_with (go_at_call 155;refine bA f.o ?_;rintro e T ⟨rfl,rfl⟩)
    go_ret2
    exact⟨rfl,rfl⟩)
def vf:ByteArray:=⟨#[87,67,1]⟩
def NN(h:Lib.hasPrefix s.data.toList vf.data.toList=true):s.data.toList=[87,67,1]++(s.extract vf.size s.size).data.toList:=by
 have K:=Bb h;have G:s.data.toList.take 3=[87,67,1]:=by
  have:=List.isPrefixOf_iff_prefix.1 (show[87,67,1].isPrefixOf s.data.toList=true from h);exact(List.prefix_iff_eq_take.1 this).symm
 have O:(s.extract vf.size s.size).data.toList=s.data.toList.drop 3:=by
  rw[<-Lib.toList_data,Lib.extract_toList];exact cP (by rw[List.length_drop];exact aF _)
 rw[O,<-G,wY]
def RE(h:Lib.hasPrefix s.data.toList vf.data.toList=false):dec s.data.toList=none:=by
 unfold dec;split
 ·rename_i r e
  rw[e]at h;simp[Lib.hasPrefix,vf]at h
 rfl
def aa5{r:List UInt8}(h:s.data.toList=[87,67,1]++r)(hl:s.size<=60000):(∀c,gZ r=some (c,[])->kq c=true->dec s.data.toList=some c)/\(∀c,gZ r=some (c,[])->kq c=false->dec s.data.toList=none)/\(∀c b q,gZ r=some (c,b :: q)->dec s.data.toList=none)/\(gZ r=none->dec s.data.toList=none):=by
 have G:s.data.toList.length=s.size:=rfl;rw[h]at G⊢;simp only[dw,dT]at G⊢;have d:(87 :: 67 :: 1 :: r).length<=60000:=ah
 refine⟨fun c Z X=>?_,fun c Z X=>?_,fun c b q Z=>?_,fun Z=>?_⟩<;>(unfold dec;simp only;rw[aD d,Z])
 ·simp only;rw[aD X]
 simp only;rw[X];rfl
def CtK(W:World)(B:Nat)(l:List UInt8)(p g:Int)(la:Option Addr)(ll lc:Nat)(s':ByteArray)(bb:Bool):Prop:=
 (bb=false/\∃cl:List N5,gZ l=some (⟨p,g,cl.map N5.n⟩,s'.data.toList)/\ll=cl.length/\W.ownsRow B 96 5 (.slice la ll lc) ll (fq cl)/\(∀c∈cl,fL W B c)/\GK cl)∨(bb=true/\gZ l=none)
def CtR.one{w W:World}{rb:Nat}{e:Ending}(h:CtR w W rb s e):∃(p g:Int) (t:Option Addr) (i A:Nat) (C:ByteArray) (U:Bool),e=.returned (.agg #[Iv p,Iv g,.slice t i A])/\cT W rb C U/\CtK W w.heap.size s.data.toList p g t i A C U:=by
 rcases h with⟨c,R,C,t,A,Q,z,I,N,m,b,d⟩|⟨Q,p,g,t,i,A,C,I,d⟩;rotate_left
 ·exact⟨p,g,t,i,A,C,true,I,d,aI ⟨rfl,Q⟩⟩
 have hl:c.nodes.length=R.length:=by rw[z];simp
 obtain⟨p,g,B⟩:=c;simp only at z I N hl;subst z;rw[hl]at I N;exact⟨p,g,t,R.length,A,C,false,I,d,aJ ⟨rfl,R,Q,rfl,N,m,b⟩⟩
def DcR(w W':World)(s:ByteArray)(e:Ending):Prop:=
 (∃(c:Ct) (cl:List N5) (la:Option Addr) (lc:Nat),dec s.data.toList=some c/\c.nodes=cl.map N5.n/\e=.returned (.tuple #[.agg #[Iv c.problem,Iv c.bK,.slice la c.nodes.length lc],Iv 0])/\W'.ownsRow w.heap.size 96 5 (bH la c.nodes.length lc) c.nodes.length (fq cl)/\(∀c∈cl,fL W' w.heap.size c)/\GK cl)∨
 (dec s.data.toList=none/\e=.returned (.tuple #[.agg iA,Iv 5]))
def PH(h:p:=by
 have m:=(show Hd _ from J);clear J;go_enter func44,ntmps44
 go_wp2_with (go_at_call 91;refine bA (HC.o _) ?_;rintro e W1 ⟨rfl,rfl⟩)
 refine aG (v:=.tuple #[.agg iA,Iv 5]) (by simp[results,results44,go_sem]) rfl ?_
 exact⟨aI ⟨m.o,rfl⟩,aC _ _⟩):p:=h
def u0(s:ByteArray)(w:World):
  Cl 44 #[.string s] w fun e W'=>DcR w W' s e/\Bl w W':=by
 have hc:=fun W=>N? s vf W
 obtain⟨b,D⟩:∃b,Lib.hasPrefix s.data.toList vf.data.toList=b:=⟨_,rfl⟩;rw[D]at hc;have o:∀W,Cl 91 #[.string s,.string ⟨#[87,67,1]⟩] W fun e w'=>e=.returned (.tuple #[.string (if b=true then s.extract 3 s.size else s),.bool b])/\w'=W:=hc
 have HC:=(show Hd _ from o);clear hc o;cases b with
 |false=>
  have J:=RE D;exact PH
 | true=>
  have T:=NN D;have l:=(show Hd _ from T);clear T;by_cases hlen:s.size<=60000;rotate_left
  ·have hl2:(60000:Int)<(s.size:Int):=ah
   have J:dec s.data.toList=none:=by
    rw[l.o];unfold dec;simp only[dw,dT];rw[aA];intro h;have:=dv List.length l.o;simp only[bu,bT,eI]at this h;have G:s.data.toList.length=s.size:=rfl;omega
   exact PH
  have hl2:¬(60000:Int)<(s.size:Int):=ah
  have hd:=aa5 l.o hlen;have HD:=(show Hd _ from hd);clear hd;have hz:(s.extract 3 s.size).size<=60000:=by
   have:=dv List.length l.o;rw[bu]at this;have G:s.data.toList.length=s.size:=rfl;have O:(s.extract vf.size s.size).data.toList.length=(s.extract 3 s.size).size:=rfl;rw[G,O]at this;omega
  go_enter func44,ntmps44
  go_upto_region 6 with(go_at_call 91;refine bA (HC.o _) ?_;rintro e W1 ⟨rfl,rfl⟩)
  obtain⟨V0,M⟩:=Ea (((w.alloc (.cells iA 51)).alloc (.cells #[.string (s.extract 3 s.size),.bool false] 178)));rw[<-M];have lu:V0.heap.size=w.heap.size+2:=by rw[M];simp
  obtain⟨n,m1⟩:=aN w (.cells iA 51) (.cells #[.string (s.extract 3 s.size),.bool false] 178);rw[<-M]at n m1;have OS:Bl w V0:=by rw[M];exact aX _ _ _
  refine(Iy (w.heap.size+1) (s.extract 3 s.size) V0 m1 hz).mono ?_;rintro e r ⟨O,S⟩;have k0:=S.box n (by show _≠_;omega);have K:=S.size;have N:Bl w r:=OS.trans (S.below ah (fun k X=>by show k≠_;omega));clear M n m1 OS S;obtain⟨p,g,la,i,A,s',U,rfl,L,X⟩:=O.one;have f:=(show Hd _ from Aa X (Aa k0 (Aa L N)));clear O X k0 L N
  go_upto_region 6 with(fail)
  obtain⟨V3,Q⟩:=Ea (r.alloc (.cells #[Iv p,Iv g,.slice la i A] 51));rw[<-Q];have f3:Fr (fun _=>True) r V3:=Fr.aR (by rw[Q];exact aC _ _);have n:=f3.box f.b trivial;have m1:=f.c.fr f3 trivial;have m2:d' V3 r.heap.size #[Iv p,Iv g,.slice la i A] 51:=by rw[Q];exact bf _ _
  have OJ:V3.heap.size=r.heap.size+1:=by rw[Q];simp
  have C:Bl w V3:=f.C.trans (by rw[Q];exact(aC r _).mono ah);have H:=(show Hd _ from Aa n (Aa m1 (Aa m2 (Aa f3 C))));obtain⟨F,y⟩:=ae n;obtain⟨y1,y2⟩:=ae m1;obtain⟨z1,z⟩:=ae m2;clear Q f3 n m1 m2 C;cases U with
  |true=>
   go_wp2_with fail
   refine aG (v:=.tuple #[.agg iA,Iv 5]) (by simp[results,results44,go_sem,F]) rfl ?_;have fa:=YR V3 w.heap.size (Iv 0) (Iv 0) (.slice none 0 0);exact⟨aI ⟨HD.C (by rcases f.a with⟨h,_⟩|⟨_,h⟩;(cases h);exact h),rfl⟩,H.D.trans (fa.below ah (fun k X=>by show k≠_;omega))⟩
  | false=>
   by_cases h0:s'.size=0;rotate_left
   ·have P:=PV (Nat.pos_of_ne_zero h0)
    go_wp2_with fail
    have B:dec s.data.toList=none:=by
     rcases f.a with⟨_,R,h,_⟩|⟨h,_⟩
     ·cases hq:s'.data.toList with
      |nil=>exact absurd (show s'.size=0 by rw[<-Ue,hq];rfl) h0
      |cons a q=>rw[hq]at h;exact HD.c _ _ _ h
     cases h
    refine aG (v:=.tuple #[.agg iA,Iv 5]) (by simp[results,results44,go_sem,F]) rfl ?_;have fa:=YR V3 w.heap.size (Iv 0) (Iv 0) (.slice none 0 0);exact⟨aI ⟨B,rfl⟩,H.D.trans (fa.below ah (fun k X=>by show k≠_;omega))⟩
   have he:s'=⟨#[]⟩:=data_inj (by have:s'.data.toList.length=0:=h0;simpa using dM.1 this);subst he;obtain⟨R,hrc,OO,ku,Z,hap⟩:∃R:List N5,gZ (s.extract 3 s.size).data.toList=some (⟨p,g,R.map N5.n⟩,[])/\i=R.length/\r.ownsRow V0.heap.size 96 5 (.slice la i A) i (fq R)/\(∀c∈R,fL r V0.heap.size c)/\GK R:=by
    rcases f.a with⟨_,h⟩|⟨h,_⟩
    ·exact h
    cases h
   subst OO;have d:py ⟨p,g,R.map N5.n⟩:=ED (by show(s.extract 3 s.size).data.toList.length<=60000;exact hz) hrc;have u:cj V3 la (R.map N5.n):=uo (H.d.own ku (fun _ _=>trivial)) (fun x E=>((Z x E).fr H.d (fun _ _=>trivial) (aF _)).own);have yI:=yG la A ⟨p,g,R.map N5.n⟩ V3 u d;simp only[br]at yI;obtain⟨Y,hO⟩:∃Y,kq ⟨p,g,R.map N5.n⟩=Y:=⟨_,rfl⟩;rw[hO]at yI;have t:=(show Hd _ from Aa yI (Aa hrc (Aa ku (Aa Z (Aa hap hO)))));clear yI hrc ku Z hap d u h0;cases Y with
   | true=>
    go_wp2_with fail
    refine bA t.a ?_;clear F y y1 y2 z1 z;rintro e W4 ⟨rfl,v⟩;have f4:Fr (fun _=>True) V3 W4:=Fr.aR v;obtain⟨F,y⟩:=ae (f4.box H.a trivial);obtain⟨z1,z⟩:=ae (f4.box H.c trivial);have I:=(show Hd _ from f4);clear f4 v
    go_wp2_with fail
    have hz4:=I.o.size;refine aG (v:=.tuple #[.agg #[Iv p,Iv g,.slice la R.length A],Iv 0]) (by simp[results,results44,go_sem,F]) rfl ?_;have fa:=YR W4 w.heap.size (Iv p) (Iv g) (bH la R.length A);have f5:Fr (fun j=>j≠w.heap.size) r _:=Fr.trans (Fr.trans (H.d.mono (fun _ _ _=>trivial)) I.o (fun _ _ _=>trivial)) fa (fun _ _ h=>h);refine⟨aJ ⟨⟨p,g,R.map N5.n⟩,R,la,A,HD.a _ t.b t.E,rfl,ak,?_,fun c hc=>(t.d c hc).fr f5 (fun j hj=>by show j≠_;omega) ah,t.e⟩,?_⟩
    ·simp only[br]
     exact bJ (f5.own t.c (fun k X=>by have:=(t.c.lt k X).1;show k≠_;omega)) ah
    exact(H.D.trans (I.o.below ah (fun _ _=>trivial))).trans (fa.below ah (fun k X=>by show k≠_;omega))
   |false=>
    go_wp2_with fail
    refine bA t.a ?_;clear F y y1 y2 z1 z;rintro e W4 ⟨rfl,v⟩;have f4:Fr (fun _=>True) V3 W4:=Fr.aR v;obtain⟨F,y⟩:=ae (f4.box H.a trivial);obtain⟨z1,z⟩:=ae (f4.box H.c trivial);have I:=(show Hd _ from f4);clear f4 v
    go_wp2_with fail
    have hz4:=I.o.size;refine aG (v:=.tuple #[.agg iA,Iv 5]) (by simp[results,results44,go_sem,F]) rfl ?_;have fa:=YR W4 w.heap.size (Iv 0) (Iv 0) (.slice none 0 0);exact⟨aI ⟨HD.b _ t.b t.E,rfl⟩,(H.D.trans (I.o.below ah (fun _ _=>trivial))).trans (fa.below ah (fun k X=>by show k≠_;omega))⟩
end
end Go.Proofs.YtmipbiligijcpaaGreatDoor
