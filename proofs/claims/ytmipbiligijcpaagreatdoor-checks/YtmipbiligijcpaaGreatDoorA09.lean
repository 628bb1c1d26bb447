import Derived.Test.YtmipbiligijcpaaGreatDoorA06
import Derived.RangeFuncNested
import Derived.RangeFuncBound
import Derived.Shelf.RegionOpen
import Derived.OwnWalkIn
import Derived.LoopNIn
import Derived.Test.YtmipbiligijcpaaGreatDoorA05
import Derived.Test.YtmipbiligijcpaaGreatDoorA07
import Derived.Sort.CutIn
import Derived.Deep.WholeRow
import Derived.Deep.CutRange
namespace Go.Proofs.YtmipbiligijcpaaGreatDoor
set_option linter.all false
set_option maxRecDepth 99999
set_option maxHeartbeats 0
open Go.RowKit Go.Proofs Go.Maps Tryz List Go.Shelf open List renaming length→ζ,toArray→θ open _root_.Array renaming size→δ open World renaming setCell→κ,ownsRow→ρ,cell?→χ,grownBy→ξ,setCells→ψ open Value renaming ownBlock→φ open Value renaming slice→i',bool→j',agg→l',pointer→o' open Obj renaming cells→k' open Ending renaming returned→p' open Option renaming some→B',none→C' open Bool renaming true→O',false→P'
variable {B N R a b f i j k n q t:Nat}{P:Nat->Prop}{W d w:u'}{X:Bool}{c s:z'}{e:Ending}{g:Int}{p:Prop}
section
variable {e:PE}
def KC.Wk(e:PE)(h:i<8)(w:u'):(Instr.index 226 (l' (θ (KC.aU e).tail)) (G i)).run Tryz.prog w=.ok (l' #[(j' (e.at i).any),(G (e.at i).lo)]) w:=by rcases ZV h with rfl|rfl|rfl|rfl|rfl|rfl|rfl|rfl<;>simp[Instr.index,uc (underlying226),asIntOf,go_sem,KC.aU,PE.at]
def KB.Wk(e:PE)(h:i<8)(w:u'):(Instr.index 248 (l' (θ (KB.aU e).tail)) (G i)).run Tryz.prog w=.ok (l' #[(G (e.at i).lo),(G (e.at i).hi)]) w:=by rcases ZV h with rfl|rfl|rfl|rfl|rfl|rfl|rfl|rfl<;>simp[Instr.index,uc (underlying248),asIntOf,go_sem,KB.aU,PE.at]
def KC.qtl(h:w.1[b]?=B' (k' (θ (KC.aU e)) t (0,0))):w.rangeAt b 1 (KC.aU e).tail:=λj v R=>by have:=bG h (j+1) v (I' R);rwa[bW,w8]at this
def KB.qtl(h:w.1[b]?=B' (k' (θ (KB.aU e)) t (0,0))):w.rangeAt b 1 (KB.aU e).tail:=λj v R=>by have:=bG h (j+1) v (I' R);rwa[bW,w8]at this
def KC.qat(h:w.1[b]?=B' (k' (θ (KC.aU e)) t (0,0)))(S:i<8):χ w (O b (1+i*2))=B' (j' (e.at i).any)/\χ w (O b (1+i*2+1))=B' (G (e.at i).lo):=by have E:=(M h).1;exact⟨by rw[E];exact(eu ..).trans (KC.jw e S).1,by rw[E];exact(eu ..).trans (KC.jw e S).2⟩
def KB.qat(h:w.1[b]?=B' (k' (θ (KB.aU e)) t (0,0)))(S:i<8):χ w (O b (1+i*2))=B' (G (e.at i).lo)/\χ w (O b (1+i*2+1))=B' (G (e.at i).hi):=by have E:=(M h).1;exact⟨by rw[E];exact(eu ..).trans (KB.jw e S).1,by rw[E];exact(eu ..).trans (KB.jw e S).2⟩
def KC.Ka(a b:VV):Bool:=(a.any==b.any&&a.lo==b.lo)||b.any
def KB.Ka(a b:VV):Bool:=decide (b.lo<=a.lo)&&decide (a.hi<=b.hi)
def KC.Mz(a b:VV)(w:u')(d:dT (bZ a))(e:dT (bZ b)):Cl 383 #[l' #[],KC.qv a,KC.qv b] w (Rb w (j' (KC.Ka a b))):=KK (l' #[]) a.any b.any a.lo b.lo w rfl d.lo e.lo
def KB.Mz(a b:VV)(w:u')(_:dT (bZ a))(_:dT (bZ b)):Cl 390 #[l' #[],KB.qv a,KB.qv b] w (Rb w (j' (KB.Ka a b))):=Lr (l' #[]) (bZ a) (bZ b) w rfl
def KC.oH(lo hi:PE):Bool:=if lo.r&&hi.r then(range 8).all (λi=>KC.Ka (lo.at i) (hi.at i)) else !lo.r
def KB.oH(lo hi:PE):Bool:=if lo.r&&hi.r then(range 8).all (λi=>KB.Ka (lo.at i) (hi.at i)) else !lo.r
def aei{p:Prop}(h:p:=by
 have g:=hid (λi W=>Mz (lo.at i) (hi.at i) W (hl i) (hh i));simp only[KC.qv,KB.qv]at g;clear hl hh;obtain⟨a,e⟩:=Ea (oH lo hi);rw[<-e];obtain⟨d,l⟩:=Ea lo.r;obtain⟨o,X⟩:=Ea hi.r;have c:(aU lo)[0]?=B' (j' d):=by rw[l];rfl
 have Y:(aU hi)[0]?=B' (j' o):=by rw[X];rfl
 have T:J (a=if d&&o then(range 8).all (λi=>Ka (lo.at i) (hi.at i)) else !d):=by show _=_;rw[e,l,X];rfl
 clear e l X;have f:=hid (λi (h:i<8) W=>Wk lo h W);go_enter aeM,aew;go_upto_region 1 with fail
 generalize u:(w.alloc (k' (θ (aU lo)) cA)).alloc (k' (θ (aU hi)) cA)=V;have B:J ((d' V w.1.size (θ (aU lo)) cA/\d' V (δ w.1+1) (θ (aU hi)) cA)/\Bl w V):=by subst u;exact⟨fC,cG⟩
 clear u;have t:χ V (O w.1.size 0)=B' (j' d):=by rw[(M B.a.1).1];exact(eu ..).trans c
 have b:χ V (O (δ w.1+1) 0)=B' (j' o):=by rw[(M B.a.2).1];exact(eu ..).trans Y
 clear c Y;cases d
 ·obtain rfl:a=O':=by rw[T.o];rfl
  go_wp2;go_ret;exact⟨rfl,B.A⟩
 cases o
 ·obtain rfl:a=P':=by rw[T.o];rfl
  go_wp2;go_ret;exact⟨rfl,B.A⟩
 have e:J (a=(range 8).all (λi=>Ka (lo.at i) (hi.at i))):=by show _=_;rw[T.o];rfl
 have E:=blt B.a.2;go_wp2_with (refine wpList_load_mid rfl abm (.tmp 20) rfl w.1.size 1 rfl (aU lo).tail _ (qtl B.a.1) abk rfl au ?_);clear t b;go_loopw[22] (λy wr=>∃i:Nat,i<=8/\y=G i/\J ((range i).all (λi=>Ka (lo.at i) (hi.at i))=O'/\Bl V wr)) (λy _=>8-(intOf y).toNat)
 ·exact⟨0,I,rfl,rfl,aQ⟩
 obtain⟨i,b,rfl,c⟩:=hrel;by_cases L:i<8;rotate_left
 ·have b:¬(i:Int)<8:=I;obtain rfl:i=8:=I;obtain rfl:a=O':=by rw[e.o];exact c.a
  go_wp2;go_ret;exact⟨rfl,H B.A c.A⟩
 have b:(i:Int)<8:=I;have k:=f.o i L;have z:=c.A.size;obtain⟨q,b⟩:=Ea (Ka (lo.at i) (hi.at i));have Y:=hid (g.o i);rw[<-b]at Y;have g:=hid b;clear b;have d:=Bm;have N:=Bj;go_upto_region 6 with fail
 generalize u:wr.alloc (k' #[(dM (lo.at i)),(dL (lo.at i))] i?)=T;have X:J (Bl wr T/\d' T wr.1.size #[(dM (lo.at i)),(dL (lo.at i))] i?):=by subst u;exact⟨bf,bV⟩
 clear u;have S:J (∀w',Bl T w'->χ w' (O wr.1.size 0)=B' (dM (lo.at i))/\χ w' (O wr.1.size 1)=B' (dL (lo.at i))/\χ w' (O (δ w.1+1) (1+i*2))=B' (dM (hi.at i))/\χ w' (O (δ w.1+1) (1+i*2+1))=B' (dL (hi.at i))):=by intro w' j;have R:=(M (aL j X.A)).1;have F:=qat (aL j (aL X.a (aL c.A B.a.2))) L;exact⟨R 0,R 1,F.1,F.2⟩
 have j:=S.o T aQ;clear k
 go_region_held3 (λw'=>χ w' (O wr.1.size 0)=B' (dM (lo.at i))/\χ w' (O wr.1.size 1)=B' (dL (lo.at i))/\χ w' (O (δ w.1+1) (1+i*2))=B' (dM (hi.at i))/\χ w' (O (δ w.1+1) (1+i*2+1))=B' (dL (hi.at i))) (go_keep) (((first|go_at_call 383 | go_at_call 390);refine D' (Y.o _) λf d=>?_;have b:Bl T f:=H ay d;have D:=hid b;have P:=S.o f b;clear d b))
 all_goals
  clear j P;cases q
  ·obtain rfl:a=P':=by rw[e.o];exact kR g.o.symm L
   go_wp2;go_ret;exact⟨rfl,H B.A (H c.A (H X.a D.o))⟩
  go_wp2;go_roundw
  ·exact⟨i+1,L,f',by rw[c8,c.a,<-g.o];rfl,H c.A (H X.a D.o)⟩
  exact G'):p:=h
open KC in
def KC.yh(lo hi:PE)(w:u')(hl:∀i,dT (bZ (lo.at i)))(hh:∀i,dT (bZ (hi.at i))):
 Cl 273 #[.iface 328 (l' #[]),l' (θ (KC.aU lo)),l' (θ (KC.aU hi))] w (Rb w (j' (KC.oH lo hi))):=aei
open KB in
def KB.yh(lo hi:PE)(w:u')(hl:∀i,dT (bZ (lo.at i)))(hh:∀i,dT (bZ (hi.at i))):
 Cl 278 #[.iface 331 (l' #[]),l' (θ (KB.aU lo)),l' (θ (KB.aU hi))] w (Rb w (j' (KB.oH lo hi))):=aei
end
section
variable {a e:PE} {o:Nat} {L:List A'}
def KC.qPE.su(i:Nat):PE.zero.at i=VV.z:=by unfold PE.at PE.zero;simp
def KB.qPE.su(i:Nat):PE.zero.at i=VV.z:=by unfold PE.at PE.zero;simp
def KC.vT(a b:VV):VV:=if (a.any==b.any&&a.lo==b.lo) then a else VV.gT
def KB.vT(a b:VV):VV:=⟨a.any,min a.lo b.lo,max a.hi b.hi⟩
def KC.Mw(a b:VV)(w:u')(e:dT (bZ a))(c:dT (bZ b)):Cl 387 #[l' #[],KC.qv a,KC.qv b] w (Rb w (KC.qv (KC.vT a b))):=by refine D' (Ph (l' #[]) a.any b.any a.lo b.lo w rfl e.lo c.lo) λd c=>?_;refine⟨?_,c⟩;unfold KC.vT;split<;>rfl
def KB.Mw(a b:VV)(w:u')(_:dT (bZ a))(_:dT (bZ b)):Cl 394 #[l' #[],KB.qv a,KB.qv b] w (Rb w (KB.qv (KB.vT a b))):=PU (l' #[]) (bZ a) (bZ b) w rfl
def KC.lx(a e:PE)(i:Nat):PE:=(range i).foldl (λs k=>s.put k (KC.vT (a.at k) (e.at k))) a
def KB.lx(a e:PE)(i:Nat):PE:=(range i).foldl (λs k=>s.put k (KB.vT (a.at k) (e.at k))) a
def KC.gy(a e:PE)(i:Nat):KC.lx a e (i+1)=(KC.lx a e i).put i (KC.vT (a.at i) (e.at i)):=by simp[KC.lx,nY]
def KB.gy(a e:PE)(i:Nat):KB.lx a e (i+1)=(KB.lx a e i).put i (KB.vT (a.at i) (e.at i)):=by simp[KB.lx,nY]
def KC.wB(a e:PE):∀(i:Nat),i<=8->∀j,i<=j->(KC.lx a e i).at j=a.at j
 |0,_,_,_=>rfl
 |i+1,h,j,hj=>by rw[KC.gy,PE.lg _ I,aA I,KC.wB a e i I j I]
def KB.wB(a e:PE):∀(i:Nat),i<=8->∀j,i<=j->(KB.lx a e i).at j=a.at j
 |0,_,_,_=>rfl
 |i+1,h,j,hj=>by rw[KB.gy,PE.lg _ I,aA I,KB.wB a e i I j I]
def aeh(h:p:=by
 have X:∀k,k<=8->∀i,dT (bZ ((lx a e k).at i)):=by
  intro k;induction k with
  |zero=>exact λ_=>ha
  |succ k B=>
   intro c i;rw[gy,PE.lg _ I];split
   ·exact hj _ _ (ha k) (he k)
   exact B I i
 exact X 8 I):p:=h
open KC in
def KC.ZK(ha:∀i,dT (bZ (a.at i)))(he:∀i,dT (bZ (e.at i)))(hj:∀a b:VV,dT (bZ a)->dT (bZ b)->dT (bZ (KC.vT a b))):∀i,dT (bZ ((KC.lx a e 8).at i)):=aeh
open KB in
def KB.ZK(ha:∀i,dT (bZ (a.at i)))(he:∀i,dT (bZ (e.at i)))(hj:∀a b:VV,dT (bZ a)->dT (bZ b)->dT (bZ (KB.vT a b))):∀i,dT (bZ ((KB.lx a e 8).at i)):=aeh
def KC.Bp(a e:PE):PE:=if a.r then(if e.r then KC.lx a e 8 else a) else e
def KB.Bp(a e:PE):PE:=if a.r then(if e.r then KB.lx a e 8 else a) else e
def KC.jy(w:u')(ao:x')(es:List PE):Prop:=∀j e,es[j]?=B' e->∃b o,ao=B' (O b o)/\w.rangeAt b (o+j*17) (KC.aU e)
def KB.jy(w:u')(ao:x')(es:List PE):Prop:=∀j e,es[j]?=B' e->∃b o,ao=B' (O b o)/\w.rangeAt b (o+j*17) (KB.aU e)
def KC.ig{a:u'}(h:w.rangeAt b o L)(c:Bl w a):a.rangeAt b o L:=λj v R=>ax (h j v R) c
def KB.ig{a:u'}(h:w.rangeAt b o L)(c:Bl w a):a.rangeAt b o L:=λj v R=>ax (h j v R) c
def KC.x8(a e:PE):∀i,(KC.lx a e i).r=a.r
 |0=>rfl
 |i+1=>by rw[KC.gy];exact KC.x8 a e i
def KB.x8(a e:PE):∀i,(KB.lx a e i).r=a.r
 |0=>rfl
 |i+1=>by rw[KB.gy];exact KB.x8 a e i
def aeg(h:p:=by
 have s:=hid (A h (A M9 hj));clear h M9 hj;obtain⟨k,hk⟩:=Ea (ζ es);rw[<-hk]at hn⊢;have o:=hid hk;clear hk;go_enter aeL,aev;go_upto_region 2 with fail
 generalize u:(w.alloc (k' kV cA)).alloc (k' kV cA)=V;have B:J ((V.1[δ w.1]?=B' (k' kV cA (0,0))/\V.1[δ w.1+1]?=B' (k' (θ (aU PE.zero)) cA (0,0)))/\Below w.1.size w V):=by subst u;exact⟨fC,cG⟩
 clear u;go_wp2_with fail;go_loopw[12] (λF wr=>∃(j:Nat) (a:PE),j<=k/\F=G j/\J (a=(es.take j).foldl Bp PE.zero/\(∀i,dT (bZ (a.at i)))/\Below w.1.size w wr/\wr.1[δ w.1]?=B' (k' kV cA (0,0))/\wr.1[δ w.1+1]?=B' (k' (θ (aU a)) cA (0,0)))) (λF _=>k-(intOf F).toNat)
 case atStart=>exact⟨0,PE.zero,bj,rfl,rfl,λi=>by rw[qPE.su];exact⟨aj,aj⟩,B.A,B.a.1,B.a.2⟩
 obtain⟨j,a,hj,rfl,B⟩:=hrel;by_cases E:j<k;rotate_left
 ·have g:¬(j:Int)<k:=I;obtain rfl:j=k:=I;have T:J (a=es.foldl Bp PE.zero):=by show _=_;rw[B.a,o.o,gg]
  have U:=cY (n:=17) B.d rfl;go_wp2_with (first|(refine wpList_load_mid rfl cA (.tmp 5) rfl (δ w.1+1) 0 rfl (aU a) _ (bG B.D) kU rfl au ?_)|(refine wpList_store_mid rfl cA (.tmp 4) (.tmp 44) rfl w.1.size 0 (θ (aU a)) rfl rfl U au (bH _) ?_));have hq:=df (cs:=vx) B.d (vs:=aU a) rfl;have C:=run_loadVar_mid (P:=Tryz.prog) (ψ wr w.1.size 0 (aU a)) w.1.size 0 cA (aU a) _ (bG hq) kU rfl au;refine aC (v:=l' (θ (aU a))) (by simp[results,results271,results276,C,Act.put,asAddr]) rfl ⟨by rw[T.o],dF aF _ _ _ B.c⟩
 have g:(j:Int)<k:=I;obtain⟨e,l⟩:=La (l:=es) (i:=j) (by rw[<-o.o];exact E);obtain⟨b,o,rfl,g⟩:=s.a j e l;have hr:=ig g B.c;have C:=hid (A (B1 Bp PE.zero l) (s.b e (aT l)));clear g l;have l:=cY (n:=17) (cv wr (k' kV cA)) rfl;go_upto_region 5 with(first|(refine wpList_load_mid rfl cA (.tmp 14) rfl b (o+j*17) rfl (aU e) _ hr kU rfl au ?_)|(refine wpList_store_mid rfl cA (.tmp 7) (.tmp 15) rfl wr.1.size 0 (θ (aU e)) rfl rfl l au (bH _) ?_))
 have x:J (Below wr.1.size wr (ψ (wr.alloc (k' kV cA)) wr.1.size 0 (aU e))/\(ψ (wr.alloc (k' kV cA)) wr.1.size 0 (aU e)).1[δ wr.1]?=B' (k' (θ (aU e)) cA (0,0))):=⟨dF aF _ _ _ bf,df (cs:=vx) (cv wr (k' kV cA)) rfl⟩
 try simp only[Act.put]
 generalize(wr.alloc (k' kV cA)).setCells wr.1.size 0 (aU e)=U at x⊢;have z:=B.c.size;have N:δ w.1+1<δ wr.1:=blt B.D;have t:=aL x.a B.d;have o:=aL x.a B.D;have g:=hid (A t (A o (H B.c x.a)));clear t o hr l;obtain⟨D,l⟩:=Ea a.r;obtain⟨o,X⟩:=Ea e.r;have t:χ U (O (δ w.1+1) 0)=B' (j' D):=by rw[(M g.b).1];exact(eu ..).trans (by rw[l];rfl)
 have Y:χ U (O wr.1.size 0)=B' (j' o):=by rw[(M x.A).1];exact(eu ..).trans (by rw[X];rfl)
 have L:J (Bp a e=if D then(if o then lx a e 8 else a) else e):=by show _=_;rw[l,X];rfl
 clear l X;cases D
 ·have l:=cY (n:=17) g.b rfl;go_upto_region 13 with(first|(refine wpList_load_mid rfl cA (.tmp 7) rfl wr.1.size 0 rfl (aU e) _ (bG x.A) kU rfl au ?_)|(refine wpList_store_mid rfl cA (.tmp 5) (.tmp 19) rfl (δ w.1+1) 0 (θ (aU e)) rfl rfl l au (bH _) ?_))
  try simp only[Act.put]
  generalize u:ψ U (δ w.1+1) 0 (aU e)=l;have D:J (Below w.1.size w l/\l.1[δ w.1]?=B' (k' kV cA (0,0))/\l.1[δ w.1+1]?=B' (k' (θ (aU e)) cA (0,0))):=by subst u;exact⟨dF I _ _ _ g.B,(jI _ _ _ _ _ I).trans g.a,df g.b rfl⟩
  clear u;clear t Y;go_wp2_with fail;go_roundw
  case rel=>exact⟨j+1,e,E,f',by rw[C.a,<-B.a,L.o];rfl,C.A,D.a,D.b,D.B⟩
  simp[intOf];omega
 cases o
 ·go_wp2_with fail;go_roundw
  case rel=>exact⟨j+1,a,E,f',by rw[C.a,<-B.a,L.o];rfl,B.b,g.B,g.a,g.b⟩
  simp[intOf];omega
 go_wp2_with (refine wpList_load_mid rfl abm (.tmp 23) rfl wr.1.size 1 rfl (aU e).tail _ (qtl x.A) abk rfl au ?_);obtain⟨l,o⟩:=Ea wr.1.size;rw[<-o]at N x⊢;have u:l<δ U.1:=blt x.A;have l:=hid (A B.a (A B.b L.o));clear o t Y z;go_loopw[25] (λF wr=>∃i:Nat,i<=8/\F=G i/\J (Below w.1.size w wr/\wr.1[δ w.1]?=B' (k' kV cA (0,0))/\wr.1[δ w.1+1]?=B' (k' (θ (aU (lx a e i))) cA (0,0)))) (λF _=>8-(intOf F).toNat)
 case atStart=>exact⟨0,I,rfl,g.B,g.a,g.b⟩
 obtain⟨i,u,rfl,g⟩:=hrel;by_cases L:i<8;rotate_left
 ·have o:¬(i:Int)<8:=I;obtain rfl:i=8:=I;go_wp2_with fail;go_roundw
  case rel=>exact⟨j+1,lx a e 8,E,f',by rw[C.a,<-l.a,l.B];rfl,ZK l.b C.A s.B,g.a,g.b,g.B⟩
  simp[intOf];omega
 have o:(i:Int)<8:=I;have U:=λW=>Wk e L W;have j:=FK;have N:=FI;have o:=hid (λW=>Mw (a.at i) (e.at i) W (l.b i) (C.A i));simp only[KC.qv,KB.qv]at o;have F:=hid (wB a e i u i aF);have j:=hid (gy a e i);generalize vT (a.at i) (e.at i)=l at o j;have l:δ w.1+1<δ wr.1:=blt g.B;go_upto_region 11 with fail
 have X:J (Below w.1.size w (wr.alloc (k' #[(dM (e.at i)),(dL (e.at i))] i?))/\(wr.alloc (k' #[(dM (e.at i)),(dL (e.at i))] i?)).1[δ wr.1]?=B' (k' #[(dM (e.at i)),(dL (e.at i))] i? (0,0))/\(wr.alloc (k' #[(dM (e.at i)),(dL (e.at i))] i?)).1[δ w.1+1]?=B' (k' (θ (aU (lx a e i))) cA (0,0))):=⟨H g.a bf,bV,aL bf g.B⟩;have E:=hid (aL (cz wr (k' #[(dM (e.at i)),(dL (e.at i))] i?)) g.b);generalize wr.alloc (k' #[(dM (e.at i)),(dL (e.at i))] i?)=T at X E⊢;have l:δ wr.1≠δ w.1+1:=I;clear U;refine wp_region_held_drew (S := λW' => Below w.1.size w W' /\ W'.1[δ wr.1]? = B' (k' #[(dM (e.at i)), (dL (e.at i))] i? (0, 0))) au ⟨X.o.1.drew, X.o.2.1⟩ (λaM => ?_);refine tq 0 (G i) ?_;refine tq 1 (.iface g! (l' #[])) ?_;refine tq 2 (G i) ?_;refine tq 3 (o' (B' (O (δ w.1 + 1) 1))) ?_;refine tq 4 (o' (B' (O (δ w.1 + 1) (1 + i * 2)))) ?_;refine tr 6 (l' #[(dM (e.at i)), (dL (e.at i))]) (λW' bN => (M bN.2).1) ?_;refine tq 7 (.func (.method "warrant/rules.join") #[.iface g! (l' #[])] #[]) ?_;refine tq 8 (.func (.method "warrant/rules.join") #[.iface g! (l' #[])] #[]) ?_;refine tq 9 (.iface g! (l' #[])) ?_;refine tq 11 (o' (B' (O (δ w.1 + 1) 1))) ?_;refine r1 5 λK g => ?_;obtain⟨t,Y⟩:=qat X.B L;rw[F.o]at t Y;go_simp;refine g.out _ _ aM (λaM=>?_);clear g K t Y;refine pt ?_;refine r1 10 λK g=>?_;go_simp;refine(o.o _).mono ?_;rintro r s ⟨rfl,o⟩;have D:J (Bl T s):=H ay o;clear o;refine g.out _ _ ⟨H X.a D.o,aL D.o X.b⟩ (λaM=>?_);clear g K;refine pt ?_;refine tq 12 (o' (B' (O (δ w.1+1) (1+i*2)))) ?_;refine r1 13 λK g=>?_;have hj:=aL D.o X.B;obtain⟨t,Y⟩:=qat hj L;obtain⟨_,o⟩:=M hj;go_simp;refine g.out _ _ ⟨((H X.a D.o).setCell (by dsimp only;omega) _).setCell (by dsimp only;omega) _,((aJ l).trans (aJ l)).trans (aL D.o X.b)⟩ (λaM=>?_);clear g K t Y o;refine pt ?_;refine wpAnyH_done au ?_ _;go_wp2_with fail;go_roundw
 case rel=>
  refine⟨i+1,L,f',((H X.a D.o).setCell (by dsimp only;omega) _).setCell (by dsimp only;omega) _,((aJ (by show δ w.1≠δ w.1+1;omega)).trans (aJ (by show δ w.1≠δ w.1+1;omega))).trans (aL D.o E.o),?_⟩;rw[j.o,aq (aq (aL D.o X.B) _) _,sX _ L]
 simp[intOf];omega):p:=h
open KC in
def KC.Bo(f:Option Addr)(c:Nat)(es:List PE)(w:World)(h:KC.jy w f es)(hn:ζ es<=1000)(M9:∀e∈es,∀i,dT (bZ (e.at i)))(hj:∀a b:VV,dT (bZ a)->dT (bZ b)->dT (bZ (KC.vT a b))):
 Cl 271 #[.iface 328 (.agg #[]),.slice f (ζ es) c] w (Rb w (.agg (θ (KC.aU (es.foldl KC.Bp PE.zero))))):=by exact aeg
open KB in
def KB.Bo(f:Option Addr)(c:Nat)(es:List PE)(w:World)(h:KB.jy w f es)(hn:ζ es<=1000)(M9:∀e∈es,∀i,dT (bZ (e.at i)))(hj:∀a b:VV,dT (bZ a)->dT (bZ b)->dT (bZ (KB.vT a b))):
 Cl 276 #[.iface 331 (.agg #[]),.slice f (ζ es) c] w (Rb w (.agg (θ (KB.aU (es.foldl KB.Bp PE.zero))))):=by exact aeg
end
section
def aef(h:p:=by
 have Y:=hid (λW (d:Bl w W)=>Bo ao c es W (λj e l=>by obtain⟨b,o,q,f⟩:=h j e l;exact⟨b,o,q,ig f d⟩) hn M9 hj);clear h M9 hj hn;generalize es.foldl Bp PE.zero=d at Y⊢;generalize ζ es=k at Y⊢;go_enter aeK,aeu;go_upto_region 1 with fail
 generalize u:w.alloc (k' kV cA)=V;have B:J (V.1[δ w.1]?=B' (k' kV cA (0,0))/\Bl w V/\V.1[db]?=B' (k' #[.iface g! (l' #[])] xZ (0,0))):=by subst u;exact⟨bV,bf,aL bf hd⟩
 clear u;clear hd;have W:=M B.B;go_wp2_with (first|((first|go_at_call 271 | go_at_call 276);refine(Y.o V B.b).mono ?_;rintro r j ⟨rfl,g⟩;have f:J (Bl V j):=g;clear g;have U:=cY (n:=17) (aL f.o B.a) rfl)|(refine wpList_store_mid rfl cA (.tmp 3) (.tmp 6) rfl w.1.size 0 (θ (aU d)) rfl rfl U au (bH _) ?_));have g:=df (cs:=vx) (aL f.o B.a) (vs:=aU d) rfl;have C:=run_loadVar_mid (P:=Tryz.prog) (ψ j w.1.size 0 (aU d)) w.1.size 0 cA (aU d) _ (bG g) kU rfl au
 refine aC (v:=l' (θ (aU d))) (by simp[results,results270,results275,C,Act.put,asAddr]) rfl ⟨rfl,dF aF _ _ _ (H B.b f.o)⟩):p:=h
open KC in
def KC.x7(ao:x')(c db:Nat)(es:List PE)(w:u')(hd:w.1[db]?=B' (k' #[.iface 328 (l' #[])] 381 (0,0)))(h:KC.jy w ao es)(hn:ζ es<=1000)(M9:∀e∈es,∀i,dT (bZ (e.at i)))(hj:∀a b:VV,dT (bZ a)->dT (bZ b)->dT (bZ (KC.vT a b))):
 Cl 270 #[i' ao (ζ es) c,o' (B' (O db 0))] w (Rb w (l' (θ (KC.aU (es.foldl KC.Bp PE.zero))))):=by exact aef
open KB in
def KB.x7(ao:x')(c db:Nat)(es:List PE)(w:u')(hd:w.1[db]?=B' (k' #[.iface 331 (l' #[])] 386 (0,0)))(h:KB.jy w ao es)(hn:ζ es<=1000)(M9:∀e∈es,∀i,dT (bZ (e.at i)))(hj:∀a b:VV,dT (bZ a)->dT (bZ b)->dT (bZ (KB.vT a b))):
 Cl 275 #[i' ao (ζ es) c,o' (B' (O db 0))] w (Rb w (l' (θ (KB.aU (es.foldl KB.Bp PE.zero))))):=by exact aef
def aee(h:p:=by
 have Y:=hid (λW=>yh lo hi W hl hh);clear hl hh;generalize oH lo hi=q at Y⊢;go_enter aeJ,aes;go_upto_region 1 with fail
 generalize u:(w.alloc (k' (θ (aU lo)) cA)).alloc (k' (θ (aU hi)) cA)=V;have B:J ((d' V w.1.size (θ (aU lo)) cA/\d' V (δ w.1+1) (θ (aU hi)) cA)/\Bl w V/\d' V db #[.iface g! (l' #[])] xZ):=by subst u;exact⟨fC,cG,aL cG hd⟩
 clear u;clear hd;have W:=M B.B;go_wp2_with (first|(refine wpList_load_mid rfl cA (.tmp 3) rfl w.1.size 0 rfl (aU lo) _ (bG B.a.1) kU rfl au ?_)|(refine wpList_load_mid rfl cA (.tmp 4) rfl (δ w.1+1) 0 rfl (aU hi) _ (bG B.a.2) kU rfl au ?_)|((first|go_at_call 273 | go_at_call 278);refine D' (Y.o _) λc b=>?_;have f:=hid b;clear b));go_ret
 exact⟨rfl,H B.b f.o⟩):p:=h
open KC in
def KC.pn(lo hi:PE)(db:Nat)(w:u')(hd:w.1[db]?=B' (k' #[.iface 328 (l' #[])] 381 (0,0)))(hl:∀i,dT (bZ (lo.at i)))(hh:∀i,dT (bZ (hi.at i))):
 Cl 272 #[l' (θ (KC.aU lo)),l' (θ (KC.aU hi)),o' (B' (O db 0))] w (Rb w (j' (KC.oH lo hi))):=aee
open KB in
def KB.pn(lo hi:PE)(db:Nat)(w:u')(hd:w.1[db]?=B' (k' #[.iface 331 (l' #[])] 386 (0,0)))(hl:∀i,dT (bZ (lo.at i)))(hh:∀i,dT (bZ (hi.at i))):
 Cl 277 #[l' (θ (KB.aU lo)),l' (θ (KB.aU hi)),o' (B' (O db 0))] w (Rb w (j' (KB.oH lo hi))):=aee
end
def An(nv:Int)(x:Nd):Bool:=!x.aD||decide ((ζ x.vals:Int)=nv)
def y5(T:x')(r Q:Nat)(v:List Nd)(w:u')(h:b9 w T v)(K:ζ v<=60):
  Cl 161 #[i' T (ζ v) r,G Q] w (Rb w (j' (v.all (An (Q:Int))))):=by
 have s:=hid h;clear h;go_enter func161,ntmps161;go_wp2;go_loopw[9] (λy wr=>∃i:Nat,i<=ζ v/\y=G i/\J ((v.take i).all (An (Q:Int))=O'/\Bl w wr)) (λy _=>ζ v-(intOf y).toNat)
 ·exact⟨0,bj,rfl,rfl,aQ⟩
 obtain⟨i,S,rfl,e⟩:=hrel;by_cases L:i<ζ v;rotate_left
 ·have b:¬(i:Int)<(ζ v:Int):=I;go_wp2;go_ret;exact⟨by have C:=e.a;rw[cH I]at C;rw[C];rfl,e.A⟩
 have b:(i:Int)<(ζ v:Int):=I;obtain⟨x,F⟩:=La L;obtain⟨a,o,b,l,z,q,rc,b,rfl,T,b,p,b,P,a⟩:=s.o.below e.A i x F;have b:=hid F;clear F a;obtain⟨d,Y⟩:=Ea x.aD;have U:J (An (Q:Int) x=(!d||decide ((ζ x.vals:Int)=Q))):=by rw[Y];rfl
 rw[<-Y]at p;clear Y;cases d
 ·exact aah
 by_cases T:(ζ x.vals:Int)=Q
 ·have c:ζ x.vals=Q:=I;have j:J (An (Q:Int) x=O'):=by show _=_;rw[U.o];simp[T]
  rw[c]at P;clear T c;go_wp2;go_roundw
  ·exact⟨i+1,L,f',by rw[mA _ b.o,e.a,j.o];rfl,e.A.alloc e.A.size _⟩
  exact G'
 have j:J (An (Q:Int) x=P'):=by show _=_;rw[U.o];simp[T]
 have c:(ζ x.vals==Q)=P':=by simp;omega
 have Y:((ζ x.vals:Int)==(Q:Int))=P':=by simp;omega
 have E:¬ζ x.vals=Q:=I;go_wp2;go_ret;exact⟨by rw[vL _ b.o j.o];rfl,e.A.alloc e.A.size _⟩
def Tl(v:Vl)(r:Int):VV:=if v.aG=1 then VV.one v.lo else if v.bJ&&decide (r<=v.rank) then VV.one v.first else VV.gT
def Yh{p:Prop}(h:p:=by
 go_enter func234,ntmps234;go_wp2_with fail
 refine aC (v:=l' qI) (by simp[results,results234,go_sem]) rfl ⟨rfl,cG⟩):p:=h
def D1(v:Vl)(r:Int)(w:u'):
  Cl 234 #[l' #[G v.aG,G v.lo,G v.hi,j' v.bJ,G v.first,G v.rank],G r] w (Rb w (KC.qv (Tl v r))):=by
 obtain⟨x,j,S,bJ,first,a⟩:=v;simp only[KC.qv,Tl];cases C:(x==1);rotate_left
 ·have b:x=1:=I' C;simp only[aB b];go_enter func234,ntmps234;go_wp2;refine aC (v:=l' #[j' P',G j]) (by simp[results234,go_sem]) rfl ⟨rfl,cG⟩
 have b:¬x=1:=I' C;simp only[aA b];cases bJ
 ·exact Yh
 by_cases b:r<=a
 ·have Q:decide (r<=a)=O':=I' b;simp only[Q,ua,c!];go_enter func234,ntmps234;go_wp2;refine aC (v:=l' #[j' P',G first]) (by simp[results234,go_sem]) rfl ⟨rfl,cG⟩
 have Q:decide (r<=a)=P':=I' b;simp only[Q,ur,bO,bU];exact Yh
def Ir(vs:List Vl)(r:Int)(i:Nat):PE:=(range i).foldl (λs k=>s.put k (Tl (vs.getD k ⟨0,0,0,P',0,0⟩) r)) ⟨O',VV.z,VV.z,VV.z,VV.z,VV.z,VV.z,VV.z,VV.z⟩
def yP(E:List Vl)(r:Int)(i:Nat):Ir E r (i+1)=(Ir E r i).put i (Tl (E.getD i ⟨0,0,0,P',0,0⟩) r):=by simp[Ir,nY]
def Vf(rd:Bool)(rk:Int)(vs:List Vl)(r:Int):PE:=if rd&&decide (rk<r) then Ir vs r (ζ vs) else PE.zero
theorem Yg{p:Prop}(h:p:=by
 have f:=M B.o.1;have h:=cY (n:=17) B.o.2.1 rfl;go_wp2_with (refine wpList_store_mid rfl 228 (.tmp 4) (.tmp 17) rfl (w.heap.size+1) 0 (KC.aU PE.zero).toArray rfl rfl h au (KC.bH _) ?_);have o:=df (cs:=[.bool false,.bool false,G 0,.bool false,G 0,.bool false,G 0,.bool false,G 0,.bool false,G 0,.bool false,G 0,.bool false,G 0,.bool false,G 0]) B.o.2.1 (vs:=KC.aU PE.zero) rfl;have C:=run_loadVar_mid (P:=Tryz.prog) (V.setCells (w.heap.size+1) 0 (KC.aU PE.zero)) (w.heap.size+1) 0 228 (KC.aU PE.zero) _ (bG o) underlying228 rfl au
 refine aC (v:=.agg (KC.aU PE.zero).toArray) (by simp[results,results162,C,Act.put,asAddr]) rfl ⟨by rw[d.o],dF I _ _ _ B.o.2.2⟩):p:=h
def mx(a l i:x')(Y q c rc p:Nat)(e:Bool)(rk r:Int)(E:List Vl)(w:u')(h:lk w i E)(K:ζ E<=8):
  Cl 162 #[l' #[i' a Y q,i' l c rc,j' e,G rk,i' i (ζ E) p],G r] w (Rb w (l' (θ (KC.aU (Vf e rk E r))))):=by
 have s:=hid h;clear h;obtain⟨b,z⟩:=Ea (Vf e rk E r);rw[<-z];go_enter func162,ntmps162;go_upto_region 1 with fail
 generalize u:(w.alloc (k' #[i' a Y q,i' l c rc,j' e,G rk,i' i (ζ E) p] 96)).alloc (k' zW 228)=V;have B:J (V.1[δ w.1]?=B' (k' #[i' a Y q,i' l c rc,j' e,G rk,i' i (ζ E) p] 96 (0,0))/\V.1[δ w.1+1]?=B' (k' zW 228 (0,0))/\Bl w V):=by subst u;exact⟨fC.1,fC.2,cG⟩
 clear u;have t:δ w.1+1<δ V.1:=blt B.b;cases e
 ·have d:J (b=PE.zero):=z;clear z;exact Yg
 by_cases W:r<=rk
 ·have Q:decide (rk<r)=false:=by simp;omega
  have d:J (b=PE.zero):=by show _=_;rw[z,Vf,Q];rfl
  clear z Q;exact Yg
 have Q:decide (rk<r)=true:=by simp;omega
 have d:J (b=Ir E r (ζ E)):=by show _=_;rw[z,Vf,Q];rfl
 clear z Q;have f:=M B.a;have j:=cY (n:=17) (cv V (k' zW 228)) rfl;go_upto_region 4 with(refine wpList_store_mid rfl 228 (.tmp 5) (.tmp 18) rfl V.1.size 0 (θ (KC.aU (Ir E r 0))) rfl rfl j au (KC.bH _) ?_)
 have g:J (Below V.1.size V (ψ (V.alloc (k' zW 228)) V.1.size 0 (KC.aU (Ir E r 0)))/\(ψ (V.alloc (k' zW 228)) V.1.size 0 (KC.aU (Ir E r 0))).1[δ V.1]?=B' (k' (θ (KC.aU (Ir E r 0))) 228 (0,0))):=⟨dF aF _ _ _ bf,df (cs:=[j' false,j' false,G 0,j' false,G 0,j' false,G 0,j' false,G 0,j' false,G 0,j' false,G 0,j' false,G 0,j' false,G 0]) (cv V (k' zW 228)) rfl⟩
 try simp only[Act.put]
 generalize(V.alloc (k' zW 228)).setCells V.1.size 0 (KC.aU (Ir E r 0))=U at g⊢;generalize k:δ V.1=e at g t⊢;have D:J (Bl w U/\U.1[δ w.1]?=B' (k' #[i' a Y q,i' l c rc,j' true,G rk,i' i (ζ E) p] 96 (0,0))/\U.1[δ w.1+1]?=B' (k' zW 228 (0,0))/\U.1[e]?=B' (k' (θ (KC.aU (Ir E r 0))) 228 (0,0))):=by rw[<-k]at g⊢;exact⟨H B.B g.a,aL g.a B.a,aL g.a B.b,g.A⟩
 clear f j k;have f:=M D.b;go_wp2_with fail;clear f;go_loopw[22] (λy wr=>∃i:Nat,i<=ζ E/\y=G i/\J (Bl w wr/\wr.1[δ w.1+1]?=B' (k' zW 228 (0,0))/\wr.1[e]?=B' (k' (θ (KC.aU (Ir E r i))) 228 (0,0)))) (λy _=>ζ E-(intOf y).toNat)
 case atStart=>exact⟨0,bj,rfl,D.a,D.c,D.C⟩
 obtain⟨i,S,rfl,c⟩:=hrel;by_cases L:i<ζ E;rotate_left
 ·have a:¬(i:Int)<(ζ E:Int):=I;have g:i=ζ E:=I;rw[g,<-d.o]at c;have h:=cY (n:=17) c.b rfl;go_wp2_with (first|(refine wpList_load_mid rfl 228 (.tmp 5) rfl e 0 rfl (KC.aU b) _ (bG c.B) underlying228 rfl au ?_)|(refine wpList_store_mid rfl 228 (.tmp 4) (.tmp 34) rfl (δ w.1+1) 0 (θ (KC.aU b)) rfl rfl h au (KC.bH _) ?_));have o:=df (cs:=[j' false,j' false,G 0,j' false,G 0,j' false,G 0,j' false,G 0,j' false,G 0,j' false,G 0,j' false,G 0,j' false,G 0]) c.b (vs:=KC.aU b) rfl;have C:=run_loadVar_mid (P:=Tryz.prog) (ψ wr (δ w.1+1) 0 (KC.aU b)) (δ w.1+1) 0 228 (KC.aU b) _ (bG o) underlying228 rfl au;refine aC (v:=l' (θ (KC.aU b))) (by simp[results,results162,C,Act.put,asAddr]) rfl ⟨rfl,dF I _ _ _ c.a⟩
 have a:(i:Int)<(ζ E:Int):=I;have d:i<8:=I;have a:(i:Int)<8:=I;obtain⟨v,R⟩:=La L;obtain⟨b,o,rfl,T,Q,p,b,P,g⟩:=s.o i v R;have t:=ax T c.a;have l:=ax Q c.a;have h:=ax p c.a;have k:=ax b c.a;have F:=ax P c.a;have B:=ax g c.a;have a:J (Ir E r (i+1)=(Ir E r i).put i (Tl v r)):=by show _=_;rw[yP,getD,R];rfl
 have Y:=hid (λW=>D1 v r W);generalize Tl v r=j at a Y;simp only[KC.qv]at Y;clear T Q p b P g R;have j:e<δ wr.1:=blt c.B;go_upto_region 7 with fail
 generalize u:wr.alloc (k' #[G v.aG,G v.lo,G v.hi,j' v.bJ,G v.first,G v.rank] 73)=T;have X:J (Bl wr T/\T.1[δ wr.1]?=B' (k' #[G v.aG,G v.lo,G v.hi,j' v.bJ,G v.first,G v.rank] 73 (0,0))):=by subst u;exact⟨bf,bV⟩
 clear u;clear t l h k F B;have f:=M X.A;go_wp2_with (go_at_call 234;refine(Y.o _).mono ?_;rintro x f ⟨rfl,b⟩;have D:=hid (H X.a b);clear b;have f:=aL D.o c.B;have o:=KC.qat f d;obtain⟨_,u⟩:=M f;have N:=hid f;clear f);go_roundw
 case rel=>
  refine⟨i+1,L,f',((H c.a D.o).setCell (by dsimp only;omega) _).setCell (by dsimp only;omega) _,((aJ (by show δ w.1+1≠e;omega)).trans (aJ (by show δ w.1+1≠e;omega))).trans (aL D.o c.b),?_⟩;rw[a.o,aq (aq N.o _) _,KC.sX _ d]
 simp[intOf];omega
def agw(e:PE)(w:u'):(Instr.field 228 (l' (θ (KC.aU e))) 1).run Tryz.prog w=.ok (l' (θ (KC.aU e).tail)) w:=by simp[Instr.field,uc (underlying228),go_sem,KC.aU,asAgg]
def agv(q:Bool)(l:Int)(w:u'):(Instr.field 225 (l' #[j' q,G l]) 0).run Tryz.prog w=.ok (j' q) w:=by simp[Instr.field,uc (underlying225),go_sem,asAgg]
def erB(vs:List Vl)(said:Int->PE)(i:Nat):Bool:=match vs[i]? with|some v=>!v.bJ||((said v.rank).at i).any|none=>O'
def As(z:x')(x u:Nat)(a:Array A')(E:List Vl)(c:Int->PE)(w:u')(h:lk w z E)(K:ζ E<=8)(b:∀D w,(callFunc u D).run Tryz.prog w=.ok (.enter u D) w)
  (V:∀v∈E,v.bJ=O'->∀W,Bl w W->Cl u (#[G v.rank]++a) W (Rb W (l' (θ (KC.aU (c v.rank)))))):
  Cl 238 #[i' z (ζ E) x,.func (.func u) #[] a] w (Rb w (j' ((range (ζ E)).all (erB E c)))):=by
 have s:=hid (A h V);clear h V;go_enter func238,ntmps238;go_wp2;go_loopw[9] (λy wr=>∃i:Nat,i<=ζ E/\y=G i/\J ((range i).all (erB E c)=O'/\Bl w wr)) (λy _=>ζ E-(intOf y).toNat)
 ·exact⟨0,bj,rfl,rfl,aQ⟩
 obtain⟨i,S,rfl,a⟩:=hrel;by_cases L:i<ζ E;rotate_left
 ·have b:¬(i:Int)<(ζ E:Int):=I;have d:i=ζ E:=I;go_wp2;go_ret;exact⟨by have C:=a.a;rw[d]at C;rw[C];rfl,a.A⟩
 have b:(i:Int)<(ζ E:Int):=I;have d:i<8:=I;obtain⟨v,R⟩:=La L;obtain⟨b,o,rfl,T,Q,p,b,P,e⟩:=s.a i v R;have t:=ax T a.A;have h:=ax Q a.A;have f:=ax p a.A;have g:=ax b a.A;have F:=ax P a.A;have B:=ax e a.A;have U:J (erB E c i=(!v.bJ||((c v.rank).at i).any)):=by show _=_;rw[erB,R]
 have Y:=hid (s.A v (aT R));clear T Q p b P e R;obtain⟨x,j,l,bJ,first,b⟩:=v;simp only at t h f g F B U Y;generalize c b=e at U Y;cases bJ
 ·go_wp2;go_roundw
  ·exact⟨i+1,L,f',by rw[c8,a.a,U.o];rfl,a.A.alloc a.A.size _⟩
  exact G'
 have b:=λW=>agw e W;have c:=λW=>KC.Wk e d W;have k:=λq W=>agv q (e.at i).lo W;have g:=hid (Y.o rfl);obtain⟨q,b⟩:=Ea ((e.at i).any);rw[<-b]at U;simp only[<-b]at c;clear b;cases q
 ·go_wp2_with (refine D' (g.o _ (a.A.alloc a.A.size _)) λf b=>?_;have D:=hid (H (a.A.alloc a.A.size _) b);clear b;simp only[Act.put,cJ,dN,cO]);go_ret;exact⟨by rw[kR U.o L];rfl,D.o⟩
 go_wp2_with (refine D' (g.o _ (a.A.alloc a.A.size _)) λf b=>?_;have D:=hid (H (a.A.alloc a.A.size _) b);clear b;simp only[Act.put,cJ,dN,cO]);go_roundw
 ·exact⟨i+1,L,f',by rw[c8,a.a,U.o];rfl,D.o⟩
 exact G'
section
variable {x:Nd} {g:Nat}
def z70:Array A':=#[Z 0,Z 0]++Array.replicate 68 (G 0)
def ab7:(Tryz.prog.info? 354).map (λi=>(i.zero,i.size,i.bytes))=B' (B' (l' z70),70,560):=au
abbrev RK:=BS×List Int
def wz(r:RK):List A':=fz r.1++r.2.map G
def gP(l:List RK):List A':=l.flatMap wz
def iL{r:RK}(h:ζ r.2=68):ζ (wz r)=70:=by simp[wz,fz,h]
def Fl:∀(l:List RK) (k:Nat) (r:RK) (j:Nat),(∀r∈l,ζ r.2=68)->l[k]?=B' r->j<70->(gP l)[k*70+j]?=(wz r)[j]?
 |[],k,r,j,_,h,_=>by simp at h
 |a::l,0,r,j,d,h,hj=>by simp at h;subst h;simp only[gP,cN,e?,bW];rw[jN (by rw[iL (d a ak)];exact hj)]
 |a::l,k+1,r,j,d,h,hj=>by have B:=Fl l k r j (λx F=>d x (by simp[F])) (I' h) hj;simp only[gP,cN]at B⊢;rw[ek (by rw[iL (d a ak)];omega),iL (d a ak),<-B];congr 1;omega
def Bc:∀(l:List RK) (k:Nat) (r g:RK) (j:Nat) (v:A'),(∀r∈l,ζ r.2=68)->l[k]?=B' r->j<70->wz g=(wz r).set j v->(gP l).set (k*70+j) v=gP (l.set k g)
 |[],k,r,g,j,v,_,h,_,_=>by simp at h
 |a::l,0,r,g,j,v,d,h,f,he=>by simp at h;subst h;simp only[gP,dN,cN,e?,bW];rw[I5 _ _ (by rw[iL (d a ak)];exact f),he]
 |a::l,k+1,r,g,j,v,d,h,f,he=>by have B:=Bc l k r g j v (λx F=>d x (by simp[F])) (I' h) f he;simp only[gP,cO,cN]at B⊢;rw[sk _ _ (by rw[iL (d a ak)];omega),iL (d a ak),<-B];congr 2;omega
def Xo(n:Nat):(replicate n z70.toList).flatten=gP (replicate n ((0,0),replicate 68 0)):=by
 induction n with
 |zero=>rfl
 |succ n B=>rw[gF,oU,B,gF];simp only[gP,cN];congr 1
def P9(l:List Int)(f:Int)(r:Int):List Int:=l.set f.toNat r
def JM(x:Nd)(k:Nat):List Int:=((x.facts.zip x.aW).take k).foldl (λl p=>P9 l p.1 p.2) (replicate 68 0)
def oe(x:Nd):RK:=(ry x,JM x (ζ x.facts))
def V8(S:List (Int×Int)):∀l:List Int,ζ (S.foldl (λl p=>P9 l p.1 p.2) l)=ζ l:=by
 induction S with
 |nil=>intro l;rfl
 |cons p S B=>intro l;rw[iC,B];simp[P9]
def CU(x:Nd)(k:Nat):ζ (JM x k)=68:=by rw[JM,V8];simp
def tT{a b}:=@CU a b
def R!{f r:Int}(Y:x.facts[k]?=B' f)(b:x.aW[k]?=B' r):JM x (k+1)=P9 (JM x k) f r:=by
 have a:(x.facts.zip x.aW)[k]?=B' (f,r):=by rw[u3];exact⟨Y,b⟩
 have X:=(bm.1 a).1;rw[JM,cX X,(bm.1 a).2,uo];rfl
def xM{l:List RK}{r:RK}{v:A'}{r':RK}(d:∀r∈l,ζ r.2=68)(h:W.1[g]?=B' (k' (θ (gP l)) t (0,0)))(a:l[k]?=B' r)(f:j<70)(b:wz r'=(wz r).set j v):(κ W (O g (k*70+j)) v).1[g]?=B' (k' (θ (gP (l.set k r'))) t (0,0)):=by rw[aq h _];congr 2;rw[cJ,Bc l k r r' j v d a f b]
def sP{l:List RK}{r:RK}(d:∀r∈l,ζ r.2=68)(h:W.1[g]?=B' (k' (θ (gP l)) t (0,0)))(a:l[k]?=B' r)(f:j<70):χ W (O g (k*70+j))=(wz r)[j]?/\W.frozen? (O g (k*70+j))=P':=by have E:=M h;exact⟨by rw[E.1,eu,Fl l k r j d a f],E.2 _⟩
def xE{α:Type}{P:α->Prop}{l:List α}{x:α}(h:∀y∈l,P y)(F:P x):∀y∈l.set k x,P y:=by
 intro y B;rcases mZ B with B|rfl
 ·exact h y B
 exact F
def JO(ns:List Nd)(i:Nat):List RK:=((ns.take i).map oe)++replicate (ζ ns-i) ((0,0),replicate 68 0)
def xN(v:List Nd)(i:Nat):∀r∈JO v i,ζ r.2=68:=by
 intro r a;rcases eE.1 a with h|h
 ·obtain⟨x,_,rfl⟩:=cZ.1 h;exact tT
 rw[q! h];simp
def Ml(v:List Nd)(h:i<=ζ v):ζ (JO v i)=ζ v:=by simp[JO];omega
def JN(v:List Nd)(h:i<ζ v):(JO v i)[i]?=B' ((0,0),replicate 68 0):=by rw[JO,ek H',b!,gC,nX I,kH,show ζ v-i=(ζ v-i-1)+1 by omega];rfl
def Sc{v:List Nd}(F:v[i]?=B' x):(JO v i).set i (oe x)=JO v (i+1):=E6 F
def J8(T:x')(b:Nat)(v:List Nd)(w:u')(h:b9 w T v)(Y:∀x∈v,∀f∈x.facts,0<=f/\f<68)(X:∀x∈v,ζ x.facts<=128/\ζ x.aW=ζ x.facts)(K:ζ v<=60):
  Cl 242 #[i' T (ζ v) b] w λe k=>∃g,e=p' (i' (B' (O g 0)) (ζ v) (ζ v))/\k.1[g]?=B' (k' (θ (gP (v.map oe))) 354 (0,0))/\Below w.1.size w k:=by
 obtain⟨p,S,D,P,a⟩:=cQ ab7;have b:J (_/\_/\_/\_):=⟨S,D,P,a⟩;clear S D P a;have s:=hid (A h (A Y X));clear h Y X;go_enter func242,ntmps242;go_wp2_with (at_make;refine j8 _ rfl (.tmp 9) (.tmp 9) 351 rfl w.1.size 354 p _ 70 underlying351 b.a b.b b.c .i64 .i64 (ζ v) (ζ v) (ζ v) rfl rfl rfl rfl (by rw[b.C];omega) (by unfold maxLen;omega) ak ?_;intro t a d;have V:=hid (A a d);clear a d);have o:J (t.1[δ w.1]?=B' (k' (θ (gP (JO v 0))) 354 (0,0))/\Below w.1.size w t):=by have C:=V.a;rw[rQ _ 70 (by simp[Value.cells,z70]) (ζ v)]at C;refine⟨?_,aQ.grown V.A aF (λq e=>by cases e)⟩;rw[(A4 C).1];congr 2;unfold JO;rw[lY,Ez,ej,ri,<-Xo];rfl
 go_loopw[13] (λy wr=>∃i:Nat,i<=ζ v/\y=G i/\J (wr.1[δ w.1]?=B' (k' (θ (gP (JO v i))) 354 (0,0))/\Below w.1.size w wr)) (λy _=>ζ v-(intOf y).toNat)
 ·exact⟨0,bj,rfl,o.o⟩
 obtain⟨i,S,rfl,u⟩:=hrel;by_cases L:i<ζ v;rotate_left
 ·have b:¬(i:Int)<(ζ v:Int):=I;go_wp2;go_ret;refine⟨δ w.1,rfl,?_,u.A⟩;have:=u.a;unfold JO at this;rwa[cH I,show ζ v-i=0 by omega,Cm,gO]at this
 have b:(i:Int)<(ζ v:Int):=I;obtain⟨x,F⟩:=La L;obtain⟨b,o,a,ra,va,fc,rc,vc,rfl,j,r,d,l,z,c⟩:=s.a i x F;have T:=ax j u.A;have Q:=ax r u.A;have p:=ax d u.A;have b:=ax l u.A;have P:=ax z u.A;clear j r d l z;have Y:=s.b x (aT F);have X:=s.B x (aT F);have V:J (∀W,Bl wr W->Cl 241 #[i' a (ζ x.facts) fc] W (Rb W (dh (ry x)))):=by intro W b;have:=Kn a fc (Nc x) W ((ZP c.facts λf h=>(Y f h).1).below (H u.A b)) (λf h=>by obtain⟨g,B,rfl⟩:=cZ.1 h;have:=Y g B;omega) (by simp[Nc];omega);rwa[show(Nc x).length=ζ x.facts by simp[Nc]]at this
 have HX:=hid (A F (A c (A Y X)));have B:=blt u.a;have k:=X.1;clear c Y F X;obtain⟨z,d⟩:=Ea (ry x);rw[<-d]at V;have c:=hid d;clear d;simp only[dh]at V;go_upto_region 6 with(go_at_call 241;refine D' (V.o _ bf) λt l=>?_;have p:=H (cz wr (k' #[i' a (ζ x.facts) fc,i' ra (ζ x.aW) rc,j' x.aD,G x.rank,i' va (ζ x.vals) vc] 96)) l;have r:=aL p u.a;have d:=aL l (cv wr (k' #[i' a (ζ x.facts) fc,i' ra (ζ x.aW) rc,j' x.aD,G x.rank,i' va (ζ x.vals) vc] 96));have U:=sP (j:=0) (xN v i) r (JN v L) I;have X:=sP (j:=1) (xN v i) r (JN v L) I;simp only[gD,wz,fz,cW,getElem?_cons_zero,nj]at U X;have b:=hid (A p (A r d));clear l p r d)
 have B:J (Below w.1.size w (κ (κ t (O w.1.size (i*70)) (Z z.1)) (O w.1.size (i*70+1)) (Z z.2))/\(κ (κ t (O w.1.size (i*70)) (Z z.1)) (O w.1.size (i*70+1)) (Z z.2)).1[δ w.1]?=B' (k' (θ (gP ((JO v i).set i (z,JM x 0)))) 354 (0,0))/\(κ (κ t (O w.1.size (i*70)) (Z z.1)) (O w.1.size (i*70+1)) (Z z.2)).1[δ wr.1]?=B' (k' #[i' a (ζ x.facts) fc,i' ra (ζ x.aW) rc,j' x.aD,G x.rank,i' va (ζ x.vals) vc] 96 (0,0))):=by
  refine⟨((H u.A b.a).setCell aF _).setCell aF _,?_,?_⟩
  ·have V:=xM (j:=0) (v:=Z z.1) (r':=((z.1,0),replicate 68 0)) (xN v i) b.b (JN v L) I (by simp[wz,fz]);rw[gD]at V;have u:=xM (j:=1) (v:=Z z.2) (r:=((z.1,0),replicate 68 0)) (r':=(z,replicate 68 0)) (xE (xN v i) ak) V (by rw[fG,aB rfl,aB (by rw[Ml v S];exact L)]) I (by simp[wz,fz]);rw[Ck]at u;exact u
  rw[aJ H',aJ H'];exact b.B
 clear U X;generalize(κ t (O w.1.size (i*70)) (Z z.1)).setCell (O w.1.size (i*70+1)) (Z z.2)=V at B;have E:=M B.B;go_wp2;clear E;go_loopw[28] (λb D=>∃j:Nat,j<=ζ x.facts/\b=G j/\J (Below w.1.size w D/\D.1[δ w.1]?=B' (k' (θ (gP ((JO v i).set i (z,JM x j)))) 354 (0,0))/\D.1[δ wr.1]?=B' (k' #[i' a (ζ x.facts) fc,i' ra (ζ x.aW) rc,j' x.aD,G x.rank,i' va (ζ x.vals) vc] 96 (0,0)))) (λb _=>ζ x.facts-(intOf b).toNat)
 ·exact⟨0,bj,rfl,B.o⟩
 rename u'=>D
 obtain⟨j,b,rfl,N⟩:=hrel;by_cases F:j<ζ x.facts;rotate_left
 ·have R:¬(j:Int)<(ζ x.facts:Int):=I;go_wp2;go_roundw
  ·
   refine⟨i+1,L,f',?_,N.a⟩;have:=N.b;rw[show j=ζ x.facts by omega,c.o]at this;rw[<-Sc HX.a];exact this
  exact G'
 have R:(j:Int)<(ζ x.facts:Int):=I;have b:ζ x.aW=ζ x.facts:=HX.D;obtain⟨f,Y⟩:=La F;obtain⟨r,hr⟩:=La (l:=x.aW) (i:=j) I;have b:=HX.c f (aT Y);obtain⟨d,rfl⟩:∃d:Nat,f=d:=⟨f.toNat,I⟩;have b:(d:Int)<68:=I;have l:J (nT D a ra va fc rc vc x):=HX.b.below N.a;obtain⟨b2,o2,rfl,cf⟩:=l.o.facts j _ Y;obtain⟨b3,o3,rfl,cr⟩:=l.o.aW j _ hr;have E:=M N.B;have b:((JO v i).set i (z,JM x j))[i]?=B' (z,JM x j):=by rw[fG,aB rfl,aB (by rw[Ml v S];exact L)]
 have R:=xE (x:=(z,JM x j)) (k:=i) (xN v i) (CU x j);obtain⟨u,C⟩:=La (l:=(wz (z,JM x j))) (i:=2+d) (by rw[iL (CU x j)];omega);have U:=sP (j:=2+d) R N.b b I;rw[C]at U;have X:i*70+(2+d)=i*70+2+d:=I;rw[X]at U;have l:=blt N.b;have a:=blt N.B;have a:δ wr.1≠δ w.1:=I
 have p:J (Below w.1.size w (κ D.drew (O w.1.size (i*70+2+d)) (G r))/\(κ D.drew (O w.1.size (i*70+2+d)) (G r)).1[δ w.1]?=B' (k' (θ (gP ((JO v i).set i (z,JM x (j+1))))) 354 (0,0))/\(κ D.drew (O w.1.size (i*70+2+d)) (G r)).1[δ wr.1]?=B' (k' #[i' (B' (O b2 o2)) (ζ x.facts) fc,i' (B' (O b3 o3)) (ζ x.aW) rc,j' x.aD,G x.rank,i' va (ζ x.vals) vc] 96 (0,0))):=by
  refine⟨N.a.drew.setCell aF _,?_,?_⟩;rotate_left
  ·rw[aJ a];exact N.B
  have e:=xM (j:=2+d) (v:=G r) (r':=(z,JM x (j+1))) R (W:=D.drew) N.b b I (by
   rw[R! Y hr];simp only[wz,P9,Int.toNat_natCast]
   rw[sk _ _ (by simp[fz]),show 2+d-ζ (fz z)=d by simp[fz],map_set])
  rw[X,Ck]at e;exact e
 clear Y hr b R C X;go_wp2
 go_region
 all_goals
  go_wp2;go_roundw
  ·exact⟨j+1,F,f',p.o⟩
  exact G'
end
section
attribute [local go_sem] Oper.semAt_some
def NH(s:BS)(w:u'):
  Cl 154 #[dh s] w λe a=>e=p' (.func (.func 227) #[] (di w.1.size))/\a=w.alloc (qH s.1 s.2):=by
 simp only[dh];go_enter func154,ntmps154;go_wp2;go_ret;exact⟨rfl,rfl⟩
def Cf.keeps{d:Nat}{w a:u'}(h:Cf w)(c:0<d)(b:Below d w a):Cf a:=λj f=>(b.cell (p:=(O 0 j)) c).trans (h j f)
abbrev mC(s:BS):={f:Nat // f∈uV s}
def wdK(s:BS)(k:Nat):Nat:=if k=0 then s.1 else s.2
def ZF(s:BS)(k:Nat):List Nat:=if k=0 then uV s else if k=1 then oE s.2 64 else[]
def KR(s:BS)(k:Nat)(a:k<2)(w:u'):(Instr.index 267 (l' #[Z s.1,Z s.2]) (G k)).run Tryz.prog w=.ok (Z ((wdK s k:Nat):Int)) w:=by
 match k,a with
 |0,_=>exact rT _ _ w
 |1,_=>exact rS _ _ w
def R8(s:BS)(k:Nat)(a:k<2):ZF s k=oE (wdK s k) (k*64)++ZF s (k+1):=by
 match k,a with
 |0,_=>simp[ZF,wdK,uV]
 |1,_=>simp[ZF,wdK]
def zG(n:Nat)(K:1<=n)(s:BS)(B d:Nat)(w:u')(y:cL s)(T:χ w (O B 0)=B' (Z s.1))(Q:χ w (O B 1)=B' (Z s.2))(b:Cf w)(K:0<d)(V:d<=δ w.1):
  SeqStopsK Fence.wide n Tryz.prog 227 (di B) (λx:mC s=>#[G x.1]) (Below d) (λD=>D.map Subtype.val=uV s) (λp=>p.map Subtype.val <+: uV s) (ζ (uV s)) w:=by
 intro l c a W j a a E D;have t:=ax T j;have Y:=ax Q j;have X:J (Cf W):=b.below j;clear T Q b;refine callsIn_of_wp func227 rfl trivial ?_ rfl;simp only[ntmps227,kL,cC,gN,Nat.reduceAdd,Nat.reduceSub,IX,IW,IV,IU,ej,cW]
 gi_wp2
 gi_loopw[6] (λi wr=>∃(k:Nat) (p:List (mC s)),k<=2/\i=G k/\J (p.map Subtype.val++ZF s k=uV s)/\J (c p wr/\Below d W wr)) (λi _=>2-(intOf i).toNat)
 case atStart=>exact⟨0,[],I,rfl,rfl,D,aQ⟩
 obtain⟨k,p,a,rfl,Q,N⟩:=hrel;by_cases L:k<2;rotate_left
 ·have e:¬(k:Int)<2:=I;have a:k=2:=I;subst a
  gi_wp2
  go_end0
  refine⟨⟨_,rfl⟩,.inl ⟨p,?_,N.a⟩⟩;have:=Q.o;rw[show ZF s 2=[] from rfl,gO]at this;exact this
 have e:(k:Int)<2:=I;have e:=λw=>KR s k L w;have a:wdK s k<18446744073709551616:=by unfold wdK;split;(· exact y.lo);exact y.hi
 obtain⟨F,z⟩:=Ea (wdK s k);rw[<-z]at e a;have e:=hid z;clear z
 gi_wp2
 gi_loopw[4] (λR q=>∃(x:Nat) (u:List (mC s)),x<18446744073709551616/\R=Z x/\J (u.map Subtype.val++(oE x (k*64)++ZF s (k+1))=uV s)/\J (c u q/\Below d W q)) (λR _=>(intOf R).toNat)
 case atStart=>exact⟨F,p,a,rfl,by show _=_;rw[e.o,<-R8 s k L];exact Q.o,N.o⟩
 obtain⟨x,u,d,rfl,S,j⟩:=hrel;by_cases f:x=0
 ·have C:((x:Int) !=0)=false:=by simp[f]
  gi_wp2
  go_roundw
  case rel=>exact⟨k+1,u,I,f',by have:=S.o;rw[f,r?,ej]at this;exact this,j.o⟩
  simp[intOf];omega
 have C:((x:Int) !=0)=true:=by simp;omega
 have i:=Ll x (k*64) d f;obtain⟨a,_,_,_⟩:=Gc x d f;obtain⟨c,T⟩:=Ea (Lib.ctz 64 x);have o:J (∀W,Cf W->Cl 228 #[Z x] W λe p=>e=p' (G c)/\p=W):=by rw[T];exact λW b=>aaK x W d f b
 rw[<-T]at i a;have h:k*64+c∈uV s:=by have:=S.o;rw[i]at this;rw[<-this];simp
 have L:ζ u<ζ (uV s):=by have:=dZ length S.o;rw[i]at this;simp at this;omega
 obtain⟨g,r,b,a,B,v⟩:=E u ⟨k*64+c,h⟩ wr j.a L;have f:(Instr.yield l #[G ((k:Int)*64+(c:Int))]).run Tryz.prog wr=.ok (.round l g r b a) wr:=by have e:(((k*64+c:Nat):Int))=(k:Int)*64+(c:Int):=I;rw[<-e];exact B
 have E:IntKind.u64.wrap ((x:Int)-1)=((x-1:Nat):Int):=by rw[w6];omega
 have a:=bits_and_u64_nat x (x-1) d I;have a:J (Cf wr):=X.o.keeps K j.A;have P:J ((u++[(⟨k*64+c,h⟩:mC s)]).map Subtype.val++(oE (x&&&(x-1)) (k*64)++ZF s (k+1))=uV s):=by show _=_;have:=S.o;rw[i]at this;rw[eW,map_singleton,ef,singleton_append,<-cW];exact this
 clear i T B
 gi_wp2_with (refine⟨trivial,?_⟩;gi_at_call 228;refine(kI.2 (o.o _ a.o)).mono ?_;rintro e p ⟨rfl,rfl⟩)
 refine v.mono ?_;rintro e o (⟨rfl,b,U⟩|⟨rfl,a⟩)
 ·gi_wp2
  go_roundw
  case rel=>exact⟨x&&&(x-1),u++[(⟨k*64+c,h⟩:mC s)],Nat.lt_of_le_of_lt Nat.and_le_left d,rfl,P,b,j.A.trans U⟩
  have:x&&&(x-1)<=x-1:=Nat.and_le_right;simp[intOf];omega
 gi_wp2
 refine aC (results_none rfl _ _ _) rfl ?_;refine⟨⟨_,rfl⟩,.inr ⟨u++[⟨k*64+c,h⟩],?_,a⟩⟩;exact⟨_,P.o⟩
end
section
variable {nx:List (List Nat)} {R:List Nat}
def GD(n t:Nat):∀(D:List Nat) (j:Nat),fA n j (D++[t])=fA n j D++(if t=n then[j+ζ D] else[])
 |[],j=>by simp[fA]
 |x::r,j=>by
  have B:=GD n t r (j+1);have e:j+1+ζ r=j+(ζ r+1):=I;simp only[cW,fA,B,cC,e];by_cases h:x=n
  ·rw[aB h,aB h];rfl
  rw[aA h,aA h]
def BQ(n:Nat)(l:List Nat):∀(D:List (List Nat)) (j:Nat),dQ n j (D++[l])=dQ n j D++(fA n 0 l).map (λk=>(j+ζ D,k))
 |[],j=>by simp[dQ]
 |x::r,j=>by have B:=BQ n l r (j+1);have e:j+1+ζ r=j+(ζ r+1):=I;simp only[cW,dQ,B,cC,e,ef]
def tD(n:Nat):∀(D:List (List Nat)) (j:Nat) (q:Nat×Nat),q∈dQ n j D->q.1<j+ζ D
 |[],j,q,h=>by simp[dQ]at h
 |x::r,j,q,h=>by
  simp only[dQ,eE,cZ]at h;rcases h with⟨k,_,rfl⟩|h
  ·simp
  have:=tD n r (j+1) q h;simp only[cC];omega
def uO(n:Nat):∀(D:List Nat) (j:Nat),ζ (fA n j D)<=ζ D
 |[],j=>by simp[fA]
 |x::r,j=>by have:=uO n r (j+1);simp only[fA];split<;>simp<;>omega
def rU(n:Nat):∀(D:List (List Nat)) (j:Nat),(∀l∈D,ζ l<=2)->ζ (dQ n j D)<=2*ζ D
 |[],j,_=>by simp[dQ]
 |x::r,j,h=>by have C:=rU n r (j+1) (λl X=>h l (by simp[X]));have a:=uO n x 0;have N:=h x ak;simp only[dQ,bF,b!,cC];omega
def xn(nx:List (List Nat))(i j k:Nat):List (Nat×Nat):=dQ k 0 (nx.take i)++(fA k 0 ((nx.getD i []).take j)).map λq=>(i,q)
def ED{j t:Nat}(S:nx[i]?=B' R)(f:R[j]?=B' t)(k:Nat):xn nx i (j+1) k=xn nx i j k++(if t=k then[(i,j)] else[]):=by
 have e:nx.getD i []=R:=by rw[getD,S];rfl
 have X:=(bm.1 f).1;unfold xn;rw[e,cX X,(bm.1 f).2,GD,eW,ef,gC,nX (rj X)];congr 2;split<;>simp
def LJ(S:nx[i]?=B' R)(k:Nat):xn nx (i+1) 0 k=xn nx i (ζ R) k:=by
 have e:nx.getD i []=R:=by rw[getD,S];rfl
 have X:=(bm.1 S).1;unfold xn;rw[e,gg,cX X,(bm.1 S).2,BQ,lY,gC,nX (rj X)];simp[fA]
def LK(v:List (List Nat))(k:Nat):xn v (ζ v) 0 k=dQ k 0 v:=by rw[xn,gg,lY];simp[fA]
def EC(v:List (List Nat))(k:Nat):xn v 0 0 k=[]:=by simp[xn,fA,dQ]
def VC(h:∀l∈nx,ζ l<=2)(i j k:Nat):ζ (xn nx i j k)<=2*ζ nx+2:=by
 unfold xn;have C:=rU k (nx.take i) 0 (λl X=>h l (uq X));have a:=uO k ((nx.getD i []).take j) 0;have N:ζ ((nx.getD i []).take j)<=2:=by
  refine bD (length_take_le' _ _) ?_;rw[getD];cases e:nx[i]? with
  |none=>simp
  |some l=>exact h l (aT e)
 have d:ζ (nx.take i)<=ζ nx:=length_take_le' _ _;rw[bF,b!];omega
def sh(n:Nat):PE:=⟨n==0,VV.z,VV.z,VV.z,VV.z,VV.z,VV.z,VV.z,VV.z⟩
def EZ(n:Nat):sh (n+1)=PE.zero:=by unfold sh PE.zero;congr 1
end
section
variable {m T p:Nat} {E:List A'} {a:Obj} {r:RR} {F:u'->Prop} {c:List RR}
def CM(b t:Nat):∀(E p c a:List A') (w:u') (o:Nat),o=ζ p->w.1[b]?=B' (k' (θ (p++c++a)) t (0,0))->ζ c=ζ E->(ψ w b o E).1[b]?=B' (k' (θ (p++E++a)) t (0,0))
 |[],p,c,a,w,o,_,h,hl=>by obtain rfl:c=[]:=du.1 hl;simpa[World.setCells]using h
 |v::E,p,[],a,w,o,_,_,hl=>by simp at hl
 |v::E,p,x::c,a,w,o,d,h,hl=>by
  have C:(κ w (O b o) v).1[b]?=B' (k' (θ ((p++[v])++c++a)) t (0,0)):=by rw[aq h];congr 2;rw[cJ,d];congr 1;simp
  have e:=CM b t E (p++[v]) c a (κ w (O b o) v) (o+1) (by simp[d]) C (by simpa using hl);have N:(p++[v])++E++a=p++v::E++a:=ak;rw[N]at e;simpa[World.setCells]using e
def G2:∀(l p z:List A'),ζ z=ζ l->foldl (λ(L:Array A') (x:A'×Nat)=>L.setIfInBounds x.snd x.fst) (θ (p++z)) (l.zipIdx (ζ p))=θ (p++l)
 |[],p,z,h=>by obtain rfl:z=[]:=du.1 h;rfl
 |v::l,p,[],h=>by simp at h
 |v::l,p,y::z,h=>by
  rw[zipIdx_cons,iC];have e:(p++y::z).toArray.setIfInBounds (ζ p) v=θ ((p++[v])++z):=by rw[cJ];congr 1;simp
  have B:=G2 l (p++[v]) z (I' h);rw[bF,fF]at B;show foldl _ ((p++y::z).toArray.setIfInBounds (ζ p) v) _=_;rw[e,B];simp
def G3{l z:List A'}(h:ζ z=ζ l):foldl (λ(L:Array A') (x:A'×Nat)=>L.setIfInBounds x.snd x.fst) (θ z) l.zipIdx=θ l:=G2 l [] z h
def adG{n:Nat}{L:Array A'}(h:w.1[b]?=B' (c7 L t))(K:n<=L.size):w.there b 0 n:=λj f=>by rw[bW];refine⟨?_,(M h).2 j⟩;rw[(M h).1,oQ I];rfl
def scb{o:Nat}{x:Obj}(a:w.1[k]?=B' x)(K:k≠b):(ψ w b o E).1[k]?=B' x:=(jI b E o w k K).trans a
def Sys.acw{X l:u'}{a:Nat}{b:List RR}(h:Sys X B a m T p b)(c:b[k]?=B' r)(a:B<=δ X.1)(F:ξ X l (φ r.ev)):TF B T p X l:=by have l:=h.row r (aT c);refine⟨aQ.grown F a (λq V=>(l.lt q V).1),?_⟩;intro q L t f V C c;refine F.block q (aY.1 V).1 ?_;exact afx
def gS(h:∀V,J (V.1[δ w.1]?=B' a/\Bl w V/\δ V.1=δ w.1+1)->F V):F (w.alloc a):=h _ ⟨bV,bf,ak⟩
def vZ{b:Obj}(h:∀V,J ((V.1[δ w.1]?=B' a/\V.1[δ w.1+1]?=B' b)/\Bl w V/\δ V.1=δ w.1+1+1)->F V):F ((w.alloc a).alloc b):=h _ ⟨fC,cG,ak⟩
def agu{b c:Obj}(h:∀V,J ((V.1[δ w.1]?=B' a/\V.1[δ w.1+1]?=B' b/\V.1[δ w.1+1+1]?=B' c)/\Bl w V/\δ V.1=δ w.1+1+1+1)->F V):F (((w.alloc a).alloc b).alloc c):=h _ ⟨D!,gB,ak⟩
def Xl(h:∀V,J (V.1[δ w.1]?=B' a/\Bl w V)->F V):F (w.alloc a).drew:=h _ ⟨cv w a,(cz w a).drew⟩
def TV{L:List A'}(X:ζ L=ζ E)(h:∀V,J (V.1[δ w.1]?=B' (c7 (θ E) t)/\Bl w V)->F V):F (ψ (w.alloc (k' (θ L) t)) w.1.size 0 E):=h _ ⟨df bV X,dF aF _ _ _ bf⟩
def uA(h:ζ r.st=m):(rz r)[m]?=B' r.ev:=by subst h;simp[rz]
def Sys.lower{f a:Nat}(h:Sys W B a m T p c)(d:f<=B):Sys W f a m T p c:=by
 refine⟨h.lQ,bD d h.low,h.len,λr a=>?_,h.zp⟩;have D:=h.row r a;refine⟨D.1,?_⟩;rcases D.2 with a|⟨g,b,Y,C,c,N⟩
 ·exact aI a
 exact aK ⟨g,b,Y,C,bD d c,N⟩
def Sys.range{a:Nat}(h:Sys W B a m T p c)(b:c[k]?=B' r):W.rangeAt a (k*(m+1)) (rz r):=λ_ _ R=>(h.cell b R).1
def Sys.first{st o:List A'}(h:Sys W B b m T p (⟨st,C',0,[]⟩::c))(U:p≠T)(X:ζ o=m):Sys (ψ W b 0 o) B b m T p (⟨o,C',0,[]⟩::c):=by
 refine⟨?_,h.low,?_,?_,?_⟩
 ·have C:=h.lQ;have e:=h.len ⟨st,C',0,[]⟩ ak;have V:ic (⟨st,C',0,[]⟩::c)=[]++st++(i' C' 0 0::ic c):=by simp[ic,rz,RR.ev]
  have u:ic (⟨o,C',0,[]⟩::c)=[]++o++(i' C' 0 0::ic c):=by simp[ic,rz,RR.ev]
  rw[V]at C;rw[u];exact CM b T o [] st _ W 0 rfl C (e.trans X.symm)
 ·intro r b;rcases dr.1 b with rfl|b
  ·exact X
  exact h.len r (by simp[b])
 ·intro r b;rcases dr.1 b with rfl|b
  ·exact cb
  have D:=h.row r (by simp[b]);refine⟨D.1,?_⟩;rcases D.2 with a|⟨g,b,Y,C,e,N,d⟩
  ·exact aI a
  refine aK ⟨g,b,Y,C,e,(jI _ _ _ _ _ ?_).trans N,d⟩;rintro rfl;exact eh D h.lQ U (by rw[C];rfl)
 intro i j a b c f t;cases i with
 |zero=>simp at c;subst c;exact aI rfl
 |succ i=>
  cases j with
  |zero=>
   simp at f;subst f;rcases h.zp (i+1) 0 a _ (I' c) rfl t with C|C
   ·exact aI C
   exact aK C
  |succ j=>exact h.zp (i+1) (j+1) a b (I' c) (I' f) t
end
def CV(rd:Bool)(vs:List Vl)(i:Nat):PE:=(range i).foldl (λs k=>s.put k ⟨P',(vs.getD k ⟨0,0,0,P',0,0⟩).lo,(vs.getD k ⟨0,0,0,P',0,0⟩).hi⟩) ⟨rd,VV.z,VV.z,VV.z,VV.z,VV.z,VV.z,VV.z,VV.z⟩
def xQ(e:Bool)(E:List Vl)(i:Nat):CV e E (i+1)=(CV e E i).put i ⟨P',(E.getD i ⟨0,0,0,P',0,0⟩).lo,(E.getD i ⟨0,0,0,P',0,0⟩).hi⟩:=by simp[CV,nY]
def J9(a l z:x')(Y q c rc x:Nat)(e:Bool)(rk:Int)(E:List Vl)(w:u')(h:lk w z E)(K:ζ E<=8):
  Cl 165 #[l' #[i' a Y q,i' l c rc,j' e,G rk,i' z (ζ E) x]] w (Rb w (l' (θ (KB.aU (CV e E (ζ E)))))):=by
 have s:=hid h;clear h;go_enter func165,ntmps165;go_upto_region 1 with fail
 generalize u:(w.alloc (k' #[i' a Y q,i' l c rc,j' e,G rk,i' z (ζ E) x] 96)).alloc (k' qL 250)=V;have B:J (V.1[δ w.1]?=B' (k' #[i' a Y q,i' l c rc,j' e,G rk,i' z (ζ E) x] 96 (0,0))/\V.1[δ w.1+1]?=B' (k' qL 250 (0,0))/\Bl w V):=by subst u;exact⟨fC.1,fC.2,cG⟩
 clear u;have f:=M B.a;have j:=cY (n:=17) (cv V (k' qL 250)) rfl;go_upto_region 2 with(refine wpList_store_mid rfl 250 (.tmp 3) (.tmp 8) rfl V.1.size 0 (θ (KB.aU (CV e E 0))) rfl rfl j au (KB.bH _) ?_)
 have g:J (Below V.1.size V (ψ (V.alloc (k' qL 250)) V.1.size 0 (KB.aU (CV e E 0)))/\(ψ (V.alloc (k' qL 250)) V.1.size 0 (KB.aU (CV e E 0))).1[δ V.1]?=B' (k' (θ (KB.aU (CV e E 0))) 250 (0,0))):=⟨dF aF _ _ _ bf,df (cs:=[j' false,G 0,G 0,G 0,G 0,G 0,G 0,G 0,G 0,G 0,G 0,G 0,G 0,G 0,G 0,G 0,G 0]) (cv V (k' qL 250)) rfl⟩
 try simp only[Act.put]
 generalize(V.alloc (k' qL 250)).setCells V.1.size 0 (KB.aU (CV e E 0))=U at g⊢;have b:δ w.1+1<δ V.1:=blt B.b;generalize k:δ V.1=W at g b⊢;have D:J (Bl w U/\U.1[δ w.1]?=B' (k' #[i' a Y q,i' l c rc,j' e,G rk,i' z (ζ E) x] 96 (0,0))/\U.1[δ w.1+1]?=B' (k' qL 250 (0,0))/\U.1[W]?=B' (k' (θ (KB.aU (CV e E 0))) 250 (0,0))):=by rw[<-k]at g⊢;exact⟨H B.B g.a,aL g.a B.a,aL g.a B.b,g.A⟩
 clear f j k;have f:=M D.b;go_wp2_with fail;clear f;go_loopw[12] (λy wr=>∃i:Nat,i<=ζ E/\y=G i/\J (Bl w wr/\wr.1[δ w.1+1]?=B' (k' qL 250 (0,0))/\wr.1[W]?=B' (k' (θ (KB.aU (CV e E i))) 250 (0,0)))) (λy _=>ζ E-(intOf y).toNat)
 case atStart=>exact⟨0,bj,rfl,D.a,D.c,D.C⟩
 obtain⟨i,S,rfl,c⟩:=hrel;by_cases L:i<ζ E;rotate_left
 ·have b:¬(i:Int)<(ζ E:Int):=I;have d:i=ζ E:=I;rw[d]at c;have g:=bG c.B;have U:=cY (n:=17) c.b rfl;obtain⟨d,a⟩:=Ea (CV e E (ζ E));rw[<-a]at g;have h:=hid a;clear a;go_wp2_with (first|(refine wpList_load_mid rfl 250 (.tmp 3) rfl W 0 rfl (KB.aU d) _ g underlying250 rfl au ?_)|(refine wpList_store_mid rfl 250 (.tmp 2) (.tmp 26) rfl (δ w.1+1) 0 (θ (KB.aU d)) rfl rfl U au (KB.bH _) ?_));have a:=df (cs:=[j' false,G 0,G 0,G 0,G 0,G 0,G 0,G 0,G 0,G 0,G 0,G 0,G 0,G 0,G 0,G 0,G 0]) c.b (vs:=KB.aU d) rfl;have C:=run_loadVar_mid (P:=Tryz.prog) (ψ wr (δ w.1+1) 0 (KB.aU d)) (δ w.1+1) 0 250 (KB.aU d) _ (bG a) underlying250 rfl au;refine aC (v:=l' (θ (KB.aU d))) (by simp[results,results165,C,Act.put,asAddr]) rfl ⟨by rw[h.o],dF I _ _ _ c.a⟩
 have b:(i:Int)<(ζ E:Int):=I;have g:i<8:=I;have a:(i:Int)<8:=I;obtain⟨v,R⟩:=La L;obtain⟨b,o,rfl,T,Q,p,b,P,h⟩:=s.o i v R;have t:=ax T c.a;have Y:=ax Q c.a;have k:=ax p c.a;have l:=ax b c.a;have F:=ax P c.a;have B:=ax h c.a;have a:J (CV e E (i+1)=(CV e E i).put i ⟨false,v.lo,v.hi⟩):=by show _=_;rw[xQ,getD,R];rfl
 clear T Q p b P h R;have j:W<δ wr.1:=blt c.B;go_upto_region 5 with fail
 generalize u:wr.alloc (k' #[G v.aG,G v.lo,G v.hi,j' v.bJ,G v.first,G v.rank] 73)=T;have X:J (Bl wr T/\T.1[δ wr.1]?=B' (k' #[G v.aG,G v.lo,G v.hi,j' v.bJ,G v.first,G v.rank] 73 (0,0))):=by subst u;exact⟨bf,bV⟩
 clear u;clear t Y k l F B;have f:=M X.A;have f:=aL X.a c.B;have o:=KB.qat f g;obtain⟨_,d⟩:=M f;have s:δ wr.1≠W:=I;have x:=s.symm;have N:=hid f;clear f;go_wp2_with fail;go_roundw
 case rel=>
  refine⟨i+1,L,f',((H c.a X.a).setCell (by dsimp only;omega) _).setCell (by dsimp only;omega) _,((aJ (by show δ w.1+1≠W;omega)).trans (aJ (by show δ w.1+1≠W;omega))).trans (aL X.a c.b),?_⟩;rw[a.o,aq (aq N.o _) _,<-KB.sX (CV e E i) g ⟨false,v.lo,v.hi⟩]
 simp[intOf];omega
section
attribute [local go_sem] Oper.semAt_some
def A3{α:Type}{P:List α->Prop}(D:P [])(C:∀l a,P l->P (l++[a]))(l:List α):P l:=by
 have:∀r:List α,P r.reverse:=by
  intro r;induction r with
  |nil=>exact D
  |cons a r B=>rw[reverse_cons];exact C _ _ B
 have:=this l.reverse;rwa[reverse_reverse]at this
def qw(r:RK)(rank:Int)(fs:List Nat):BS:=fs.foldl (λs f=>if r.2.getD f 0<rank then oo s (eY [f]) else s) (0,0)
def uM(r:RK)(rank:Int):BS:=qw r rank (uV r.1)
def uN(r:RK)(a:Int)(o:List Nat)(f:Nat):qw r a (o++[f])=if r.2.getD f 0<a then oo (qw r a o) (eY [f]) else qw r a o:=by simp[qw]
def MT(r:RK)(a:Int):∀(o:List Nat),(∀f∈o,f<128)->cL (qw r a o):=by
 intro o;refine A3 (P:=λo=>(∀f∈o,f<128)->cL (qw r a o)) ?_ ?_ o
 ·intro _;exact(show cL (0,0)from⟨aj,aj⟩)
 intro l f B h;rw[uN];have C:=B λx F=>h x (by simp[F]);split
 ·exact rN C (mc _ λg a=>by rw[jg.1 a];exact h f ak)
 exact C
def T0{s:BS}(pre:List (mC s)):List Nat:=pre.map Subtype.val
def GZ{s:BS}(p:List (mC s))(x:mC s):T0 (p++[x])=T0 p++[x.1]:=by simp[T0]
def mQ{β:Type}{B k:Nat}(o:β->Obj)(a:k<B):OwnFrom B λ(s:β) W=>W.1[k]?=B' (o s):=λs W a q y b a=>(b.block k (blt y) (λe=>J' ((a k e.symm).1))).trans y
def iu{W a:u'}(h:Bl W a):KeepsOthers W a:=⟨h.size,λk o a _=>(h.block k (blt a)).trans a⟩
def ac5(w:u')(a f e b c:Obj):(((((w.alloc a).alloc f).alloc e).alloc b).alloc c).1[δ w.1]?=B' a/\(((((w.alloc a).alloc f).alloc e).alloc b).alloc c).1[δ w.1+1]?=B' f/\(((((w.alloc a).alloc f).alloc e).alloc b).alloc c).1[δ w.1+1+1]?=B' e/\(((((w.alloc a).alloc f).alloc e).alloc b).alloc c).1[δ w.1+1+1+1]?=B' b/\(((((w.alloc a).alloc f).alloc e).alloc b).alloc c).1[δ w.1+1+1+1+1]?=B' c:=by obtain⟨C,d,N,d⟩:=qp w a f e b;have y:δ ((((w.alloc a).alloc f).alloc e).alloc b).1=δ w.1+1+1+1+1:=ak;have l:=cv ((((w.alloc a).alloc f).alloc e).alloc b) c;rw[y]at l;refine⟨?_,?_,?_,?_,l⟩;all_goals(rw[bQ (by rw[y];omega)];assumption)
def R?(r:RK)(rank:Int)(w:u')(B:cL r.1)(L:ζ r.2=68)(g:∀f∈uV r.1,f<68)(k:Cf w):
  Cl 244 #[l' (θ (wz r)),G rank] w (Rb w (dh (uM r rank))):=by
 refine(kI (n:=6)).1 ?_;refine callsIn_of_wp_marks func244 rfl trivial ?_ rfl;simp only[ntmps244,kL,cC,gN,Nat.reduceAdd,Nat.reduceSub,IX,IW,IV,IU,ej,cW];obtain⟨⟨s1,s2⟩,rs⟩:=r;simp only[wz,fz,cW,ej]at *
 gi_wp2_with (refine⟨trivial,?_⟩;gi_at_call 154;refine(kI.2 (NH (s1,s2) _)).mono ?_;rintro e t ⟨rfl,rfl⟩)
 generalize j:((((w.alloc (k' (θ (Z s1::Z s2::rs.map G)) 354)).alloc (ia rank)).alloc fY).alloc fY).alloc (qH s1 s2)=c;have b:J (Bl w c/\c.1[δ w.1]?=B' (k' (θ (Z s1::Z s2::rs.map G)) 354 (0,0))/\c.1[δ w.1+1]?=B' (oZ rank)/\c.1[δ w.1+1+1]?=B' jj/\c.1[δ w.1+1+1+1]?=B' jj/\c.1[δ w.1+1+1+1+1]?=B' (vf s1 s2)):=by subst j;exact⟨iw.alloc H' _,ac5 _ _ _ _ _ _⟩
 clear j;have j:=blt b.E;have j:0<δ w.1:=lP (k 0 aj);have s:=hid (A B (A L g))
 refine wpIn_rangeFunc_ownF rfl I (gf:=227) (lb:=#[o' (B' (O (δ w.1+1+1+1+1) 0))]) rfl trivial (λD w=>Tryz.call227 D w)
  (zG 5 I (s1,s2) (δ w.1+1+1+1+1) w.1.size c B ((M b.E).1 0) ((M b.E).1 1) (k.below b.a) j b.a.size) belowK_t (belowK_b b.a.size) aQ (λ_=>rfl)
  (λp W=>(W.1[δ w.1]?=B' (k' (θ (Z s1::Z s2::rs.map G)) 354 (0,0))/\W.1[δ w.1+1]?=B' (oZ rank)/\W.1[δ w.1+1+1]?=B' jj/\W.1[δ w.1+1+1+1]?=B' (k' #[Z ((qw ((s1,s2),rs) rank (T0 p)).1:Int),Z ((qw ((s1,s2),rs) rank (T0 p)).2:Int)] 267 (0,0)))/\Bl w W)
  (λ_ _ _=>False)
  (OwnFrom.and (OwnFrom.and (mQ (λ_=>_) I) (OwnFrom.and (mQ (λ_=>_) I) (OwnFrom.and (mQ (λ_=>_) I) (mQ (λ_=>_) I)))) (ownFrom_below aF b.a.size))
  (λ_ _ _ _ _ y _ _=>y)
  ⟨⟨b.b,b.c,b.d,b.e⟩,b.a⟩
  (λx=>{tmps:=#[l' (θ (Z s1::Z s2::rs.map G)),G rank,o' (dO w.1.size),o' (B' (O (δ w.1+1) 0)),o' (B' (O (δ w.1+1+1) 0)),o' (B' (O (δ w.1+1+1+1) 0)),G x.1,o' (dO w.1.size),l' #[Z s1,Z s2],.func (.func 227) #[] #[o' (B' (O (δ w.1+1+1+1+1) 0))],G x.1,undef,undef,undef,undef,undef,undef,undef,undef,undef,undef,undef,undef,undef],defers:=[]}) ?assign ?body ?done ?stop
 case assign=>
  intro l x W K hK
  gi_wp2
  exact hK
 case body=>
  rintro l p ⟨f,Y⟩ W ⟨⟨b0,b1,o,b3⟩,hB⟩ _;have b:=s.B f Y;have b:(f:Int)<68:=I;have B:=s.b;obtain⟨v,R⟩:=La (l:=rs) (i:=f) I;have U:χ W (O w.1.size (2+f))=B' (G v):=by rw[(M b0).1,eu,show 2+f=f+1+1 by omega,nj,nj,cg,R];rfl
  obtain⟨z,E⟩:=M b1;obtain⟨z1,k⟩:=M b3;obtain⟨u,C⟩:=Ea (qw ((s1,s2),rs) rank (T0 p));have c:cL u:=by rw[C];exact MT _ _ _ λg j=>by obtain⟨⟨q,b⟩,_,rfl⟩:=cZ.1 j;have:=s.B q b;simp only;omega
  have q:qw ((s1,s2),rs) rank (T0 (p++[(⟨f,Y⟩:mC (s1,s2))]))=if v<rank then oo u (eY [f]) else u:=by rw[GZ,uN,C];simp only[getD,R,IL]
  rw[<-C]at b3 z1;have B:=hid (A q (A b0 (A b1 (A o b3))));have D:=blt b3;clear C q R b0 b1 o b3
  gi_wp2
  refine wpIn_mono (Q:=λe a q=>e=.normal/\a={tmps:=#[l' (θ (Z s1::Z s2::rs.map G)),G rank,o' (dO w.1.size),o' (B' (O (δ w.1+1) 0)),o' (B' (O (δ w.1+1+1) 0)),o' (B' (O (δ w.1+1+1+1) 0)),G f,o' (dO w.1.size),l' #[Z s1,Z s2],.func (.func 227) #[] #[o' (B' (O (δ w.1+1+1+1+1) 0))],G f,G f,o' (B' (O w.1.size 2)),o' (B' (O w.1.size (2+f))),G v,G rank,j' (decide (v<rank)),undef,undef,undef,undef,undef,undef,undef],defers:=[]}/\q=W.drew) ?_ ?_
  ·gi_region
   all_goals gi_wp2
  rintro e a q ⟨rfl,rfl,rfl⟩;clear U z E;by_cases z:v<rank;rotate_left
  ·gi_wp2
   refine⟨KeepsOthers.drew _,aQ.drew,⟨B.b,B.c,B.d,?_⟩,hB.drew⟩;rw[B.a,aA I];exact B.D
  have V:J (∀X b,χ X (O b 0)=B' (G f)->Cl 241 (qK b) X (Rb X (dh (eY [f])))):=λX b T=>nM X b f I T;have s:J (∀(X:u') b,χ X (O b 0)=B' (Z u.1)->χ X (O b 1)=B' (Z u.2)->χ X (O b 2)=B' (Z ((eY [f]).1:Int))->χ X (O b 3)=B' (Z ((eY [f]).2:Int))->Cl 267 (xk b) X (Rb X (dh (oo u (eY [f]))))):=λX b D C t N=>by have:=kz X b u (eY [f]) c (mc _ λg j=>by rw[jg.1 j];omega) D C t N;exact this
  have C:J (qw ((s1,s2),rs) rank (T0 (p++[(⟨f,Y⟩:mC (s1,s2))]))=oo u (eY [f])):=by show _=_;rw[B.a,aB z]
  obtain⟨b,g⟩:=Ea (eY [f]);obtain⟨z,b⟩:=Ea (oo u (eY [f]));rw[<-b]at C s;rw[<-g]at V s;clear g b c;simp only[dh]at V s
  gi_wp2
  refine wpIn_mono (Q:=λe a q=>e=.normal/\∃F,Bl W F/\q=κ (κ F (O (δ w.1+1+1+1) 0) (Z z.1)) (O (δ w.1+1+1+1) 1) (Z z.2)) ?_ ?_
  ·gi_region_with (first|(refine⟨trivial,?_⟩;gi_at_call 241;refine(CallsIn.inRound l (kI.2 (V.o _ _ ak))).mono ?_;rintro e t ⟨rfl,g⟩;have c:J (Bl W t):=H ay g;clear z1 k g;obtain⟨z1,k⟩:=M (aL c.o B.D))|(refine⟨trivial,?_⟩;gi_at_call 267;refine(CallsIn.inRound l (kI.2 (s.o _ _ ak ak ak ak))).mono ?_;rintro e F ⟨rfl,X⟩;have j:J (Bl W F):=H (H c.o ay) X;clear z1 k X;obtain⟨z1,k⟩:=M (aL j.o B.D)))
   all_goals exact⟨rfl,F,j.o,rfl⟩
  rintro e a q ⟨rfl,F,X,rfl⟩;have y:=X.size;refine⟨(iu X).trans ((KeepsOthers.setCell _ _ _).trans (KeepsOthers.setCell _ _ _)),?_,⟨?_,?_,?_,?_⟩,?_⟩
  ·exact(((X.mono hB.size).setCell H' _).setCell H' _)
  ·rw[aJ H',aJ H'];exact aL X B.b
  ·rw[aJ H',aJ H'];exact aL X B.c
  ·rw[aJ H',aJ H'];exact aL X B.d
  ·rw[C.o,aq (aq (aL X B.D) _) _];rfl
  exact((H hB X).setCell H' _).setCell H' _
 case done=>
  rintro D c W t u ⟨⟨b0,b1,o,b3⟩,hB⟩ hK;obtain⟨z,b⟩:=Ea (qw ((s1,s2),rs) rank (T0 c));have c:J (uM ((s1,s2),rs) rank=z):=by show _=_;rw[b];unfold uM T0;rw[u]
  rw[<-b]at b3;obtain⟨E,g⟩:=M o;obtain⟨z1,k⟩:=M b3;have B:=hid (A o b3);have s:δ w.1+1+1≠δ w.1+1+1+1:=I;clear b0 b1 o b3 b u
  gi_wp2
  have g:(κ (κ W (O (δ w.1+1+1) 0) (Z z.1)) (O (δ w.1+1+1) 1) (Z z.2)).1[D]?=B' (.deferred (B' [])):=((KeepsOthers.setCell _ _ _).trans (KeepsOthers.setCell _ _ _)).same D _ hK rfl;refine⟨ak,.inl ⟨_,_,rfl,run_takeDeferred g,?_⟩⟩;have b:χ (κ (κ W (O (δ w.1+1+1) 0) (Z z.1)) (O (δ w.1+1+1) 1) (Z z.2)) (O (δ w.1+1+1) 0)=B' (Z z.1):=by rw[(M (aq (aq B.a _) _)).1];rfl
  have r1:χ (κ (κ W (O (δ w.1+1+1) 0) (Z z.1)) (O (δ w.1+1+1) 1) (Z z.2)) (O (δ w.1+1+1) 1)=B' (Z z.2):=by rw[(M (aq (aq B.a _) _)).1];rfl
  have j:=cell_kept b (grownBy_putObj' _ D (.deferred C')) (λr e=>by cases e;exact⟨_,g,rfl⟩);have R:=cell_kept r1 (grownBy_putObj' _ D (.deferred C')) (λr e=>by cases e;exact⟨_,g,rfl⟩);have b:Bl w (κ (κ W (O (δ w.1+1+1) 0) (Z z.1)) (O (δ w.1+1+1) 1) (Z z.2)):=(hB.setCell H' _).setCell H' _;refine⟨dh z,by simp[results244,go_sem,dh,j,R],by rw[c.o],?_⟩;exact b.trans (belowK_b (w:=w) aF _ D _ _ I g rfl rfl)
 rintro D c p W _ _ h _;exact h.elim
end
section
variable {P:Pm} {R:RS} {c:Ct} {x:Nd}
structure Ia(P:Pm)(p:Int)(R:RS):Prop where
  ins:Lv R (ζ P.nd)
  few:P.facts p<=68
  st:∀(n:Nat) (r:BS×List (Nat×Ef)),R[n]?=B' r->∀f,f<128->bt r.1 f=(decide (f<P.facts p)&&P.st p n f)
  P! : ∀(n:Nat) (r:BS×List (Nat×Ef)),R[n]?=B' r->r.2.map Prod.fst=P.P! p n
  ad:∀(n:Nat) (r:BS×List (Nat×Ef)),R[n]?=B' r->∀e∈r.2,∀f,f<128->bt e.2.add f=(decide (f<P.facts p)&&P.ad p e.1 f)
  ps:∀(n:Nat) (r:BS×List (Nat×Ef)),R[n]?=B' r->∀e∈r.2,∀f,f<P.facts p->bt e.2.drop f=!P.ps p n e.1 f
def aat(e:Ef)(s:BS)(f:Nat)(l:Ed e)(Y:f<128):bt (Il e s) f=((bt s f&&!bt e.drop f)||bt e.add f):=by rw[Il,zy,Nu _ _ _ l.drop Y]
def any_congr{α:Type}{l:List α}{f g:α->Bool}(h:∀x∈l,f x=g x):l.any f=l.any g:=by
 induction l with
 |nil=>rfl
 |cons a l B=>rw[q?,q?,h a ak,B λx F=>h x (by simp[F])]
def CN{p:Int}(h:Ia P p R){b:Nat->BS}(g:∀m f,P.facts p<=f->f<128->bt (b m) f=P'){n:Nat}(K:n<ζ P.nd)(Y:f<128):bt (JA R b n) f=(decide (f<P.facts p)&&P.rule p f n λm=>bt (b m) f):=by
 obtain⟨r,a⟩:=La (l:=R) (i:=n) (by rw[h.ins.len];exact K);have l:=(h.ins.each r (aT a)).2.2;have V:JA R b n=saS r.1 r.2 b:=by unfold JA;rw[a]
 rw[V];unfold saS;rw[afP,q?,any_map,h.st n r a f Y];by_cases hF:f<P.facts p
 ·simp only[hF,Cv,dW];unfold Pm.rule;congr 1;rw[<-h.P! n r a,any_map];refine any_congr λe d=>?_;have C:=h.ad n r a e d f Y;have c:=h.ps n r a e d f hF;rw[show decide (f<P.facts p)=O' by simpa using hF,dW]at C;simp only[Function.comp];rw[aat _ _ _ (l e d).1 Y,C,c];simp only[ug];cases P.ad p e.1 f<;>cases P.ps p n e.1 f<;>cases bt (b e.1) f<;>rfl
 simp only[hF,decide_false,rm,iE];rw[any_eq_false];intro e d;have C:=h.ad n r a e d f Y;rw[show decide (f<P.facts p)=P' by simpa using hF,rm]at C;simp only[Function.comp];rw[aat _ _ _ (l e d).1 Y,C,g e.1 f I Y];simp
structure CtS(P:Pm)(c:Ct):Prop where
  few:P.facts c.aE<=68
  len:ζ c.nodes=ζ P.nd
  facts:∀x∈c.nodes,∀f∈x.facts,0<=f/\f<P.facts c.aE
def T1(h:CtS P c)(F:x∈c.nodes):∀g∈Nc x,g<P.facts c.aE:=by intro g a;obtain⟨f,Y,rfl⟩:=cZ.1 a;have:=h.facts x F f Y;omega
def CK(h:CtS P c)(F:x∈c.nodes)(Y:f<128):bt (ry x) f=x.k9 f:=by
 rw[ry,Nd.k9,mV _ _ Y λg a=>by have:=T1 h F g a;have:=h.few;omega];congr 1;rw[eq_iff_iff];constructor
 ·intro d;obtain⟨g,a,e⟩:=cZ.1 d;have:=h.facts x F g a;rw[show(f:Int)=g by omega];exact a
 intro d;exact cZ.2 ⟨f,d,ak⟩
def CJ(h:CtS P c):∀s∈c.nodes.map ry,cL s:=by intro s y;obtain⟨x,F,rfl⟩:=cZ.1 y;exact mc _ λg a=>by have:=T1 h F g a;have:=h.few;omega
def tI(h:CtS P c)(m:Nat)(Y:f<128):bt (wJ (c.nodes.map ry) m) f=sg c f (-1) m:=by
 simp only[sg,Int.reduceNeg,Int.reduceLT,Cv,Bool.true_or,rh];by_cases d:m<ζ c.nodes
 ·have e:wJ (c.nodes.map ry) m=ry (c.at m):=by rw[wJ,Ct.at,getD,getD,cg,bR d];rfl
  rw[e,CK h (zt d) Y]
 have e:wJ (c.nodes.map ry) m=(0,0):=by rw[wJ,getD,dA H'];rfl
 rw[e,zr d,mU];simp[Nd.k9,uK]
def L5(h:CtS P c){m:Nat}{r:Int}(Y:P.facts c.aE<=f):sg c f r m=P':=by
 unfold sg;have:(c.at m).k9 f=P':=by
  rw[Nd.k9,cR];intro d;by_cases X:m<ζ c.nodes
  ·have:=h.facts _ (zt X) _ d;omega
  rw[zr X]at d;cases d
 rw[this];rfl
def RL(h:CtS P c)(v:Ia P c.aE R):E0 R (c.nodes.map ry) (ζ P.nd)=Jt P c:=by
 have a:∀m f,P.facts c.aE<=f->f<128->bt (wJ (c.nodes.map ry) m) f=P':=λm f C b=>by rw[tI h m b];exact L5 h C
 rw[cj,RM];simp only[E0,aaQ,cF,eQ];constructor
 ·intro y f n Y K b;have:=(yq (yX (CJ h) n)).1 (y n K) f (J' h.few);rw[CN v a K (J' h.few),tI h n (J' h.few)]at this;refine this ?_;simp only[Y,Cv,dW];rw[<-b];congr 1;funext m;exact tI h m (J' h.few)
 intro y n K;refine(yq (yX (CJ h) n)).2 λf Y b=>?_;rw[CN v a K Y,bh]at b;rw[tI h n Y];refine y f n (I' b.1) K ?_;rw[<-b.2];congr 1;funext m;exact(tI h m Y).symm
def Sb:∀(S:List (Int×Int)) (l:List Int) (f:Nat),ζ l=68->f<68->(∀p∈S,0<=p.1)->(∀p∈S,p.1≠f)->(S.foldl (λl p=>P9 l p.1 p.2) l)[f]?=l[f]?
 |[],l,f,_,_,_,_=>rfl
 |p::S,l,f,X,Y,D,hn=>by rw[iC,Sb S _ f (by simp[P9,X]) Y (λq a=>D q (by simp[a])) (λq a=>hn q (by simp[a]))];rw[P9,fG,aA];have:=hn p ak;have:=D p ak;omega
def vq:∀(l:List Int) (Y:Int),cU Y l=O'->l.Nodup
 |[],_,_=>xg
 |a::l,Y,h=>by simp only[cU,bh,bq]at h;refine uf.2 ⟨λd=>?_,vq l _ h.2⟩;have:=sQ l (a+1) h.2 a d;omega
def Mj:∀(o y:List Int) (l:List Int) (f:Nat),ζ l=68->f<68->o.Nodup->(∀g∈o,0<=g/\g<68)->ζ y=ζ o->(f:Int)∈o->((o.zip y).foldl (λl p=>P9 l p.1 p.2) l)[f]?=y[o.idxOf (f:Int)]?
 |[],_,_,_,_,_,_,_,_,h=>by cases h
 |a::o,[],_,_,_,_,_,_,X,_=>by simp at X
 |a::o,r::y,l,f,X,Y,c,d,L,hm=>by
  rw[zip_cons_cons,iC];have b:=uf.1 c;by_cases e:a=(f:Int)
  ·rw[Sb _ _ f (by simp[P9,X]) Y (λp U=>(d p.1 (by simp[(of_mem_zip U).1])).1) (λp U c=>b.1 (by rw[e,<-c];exact(of_mem_zip U).1))];subst e;rw[P9,fG,aB ak,aB H'];simp
  have t:(f:Int)∈o:=by rcases dr.1 hm with h|h;(· exact absurd h.symm e);exact h
  rw[Mj o y _ f (by simp[P9,X]) Y b.2 (λg b=>d g (by simp[b])) (I' L) t];have F:(a::o).idxOf (f:Int)=o.idxOf (f:Int)+1:=by rw[idxOf_cons,show(a==(f:Int))=P' by simpa using e];rfl
  rw[F];rfl
structure CtG(P:Pm)(c:Ct):Prop where
  s:CtS P c
  g:c.grade=1
  c:X6 c
def Mi(h:CtG P c)(F:x∈c.nodes)(Y:x.k9 f=O'):(oe x).2.getD f 0=x.nz f:=by
 have d:(f:Int)∈x.facts:=by simpa[Nd.k9]using Y
 have b:=h.s.facts x F;have a:=h.s.few;have a:=h.c.aW h.g x F;have j:f<68:=by have:=b _ d;omega
 unfold oe JM Nd.nz;simp only;rw[cH (by simp[a.1]),getD,getD,Mj x.facts x.aW _ f ak j (vq _ _ (h.c.cU x F)) (λg c=>J' (b g c)) a.1 d]
def abP(r:RK)(a:Int):∀(o:List Nat) (f:Nat),(∀g∈o,g<128)->f<128->bt (qw r a o) f=(decide (f∈o)&&decide (r.2.getD f 0<a)):=by
 intro o;refine A3 (P:=λo=>∀f:Nat,(∀g∈o,g<128)->f<128->bt (qw r a o) f=(decide (f∈o)&&decide (r.2.getD f 0<a))) ?_ ?_ o
 ·intro f _ _;simp[qw,mU]
 intro l g B f h Y;have C:=B f (λx F=>h x (by simp[F])) Y;rw[uN];split
 ·rename_i b;rw[zy,C,mV [g] f Y (λx F=>by rw[jg.1 F];exact h g ak)];by_cases e:f=g
  ·subst e;rw[show decide (r.2.getD f 0<a)=O' from ei b];simp
  simp[e]
 rename_i b;rw[C];by_cases e:f=g
 ·subst e;rw[show decide (r.2.getD f 0<a)=P' from cV b];simp
 simp[e]
def WD(h:CtG P c)(F:x∈c.nodes)(a:Int)(Y:f<128):bt (uM (oe x) a) f=(x.k9 f&&decide (x.nz f<a)):=by
 have B:cL (oe x).1:=CJ h.s _ (AK F);rw[uM,abP _ _ _ f (λg a=>((tp _ B g).1 a).1) Y];have e:(f∈uV (oe x).1)↔x.k9 f=O':=by rw[tp _ B];have:bt (oe x).1 f=x.k9 f:=CK h.s F Y;rw[this];exact⟨λh=>h.2,λh=>⟨Y,h⟩⟩
 cases V:x.k9 f with
 |false=>
  have:decide (f∈uV (oe x).1)=P':=by rw[cR,e,V];simp
  rw[this];rfl
 |true=>
  have:decide (f∈uV (oe x).1)=O':=by rw[ud,e,V]
  rw[this,Mi h F V]
end
section
attribute [local go_sem] Oper.semAt_some
def Vi(ns:List Nd)(rank:Int)(m:Nat):BS:=uM (oe (ns.getD m uK)) rank
def Pp(q t m g N:Nat)(v:List Nd)(k:Int)(w:u')(hq:w.1[q]?=B' (k' #[i' (B' (O g 0)) N N] 351 (0,0)))(D:w.1[t]?=B' (oZ k))(u:w.1[g]?=B' (k' (θ (gP (v.map oe))) 354 (0,0)))(X:ζ v=N)(b:N<=60)(b:m<N)(B:∀x∈v,cL (ry x)/\∀f∈uV (ry x),f<68)(b:Cf w):
  Cl 243 #[G m,o' (B' (O q 0)),o' (B' (O t 0))] w (Rb w (dh (Vi v k m))):=by
 obtain⟨x,F⟩:=La (l:=v) (i:=m) I;have c:=B x (aT F);have e:Vi v k m=uM (oe x) k:=by rw[Vi,getD,F];rfl
 rw[e];have o:∀r∈v.map oe,ζ r.2=68:=λr hr=>by obtain⟨y,_,rfl⟩:=cZ.1 hr;exact tT
 have l:(v.map oe)[m]?=B' (oe x):=by rw[cg,F];rfl
 have f:(m:Int)<N:=I;have T:∀W,Bl w W->W.rangeAt g (m*70) (wz (oe x)):=λW f j v R=>by rw[(sP o (aL f u) l (j:=j) (by have:=(bm.1 R).1;rwa[iL tT]at this)).1];exact R
 have Y:=hid λW f=>R? (oe x) k W c.1 tT c.2 f;obtain⟨z,f⟩:=Ea (uM (oe x) k);rw[<-f]at Y⊢;clear f e l o B c F;have E:=M hq;have y:=M D;have l1:=blt hq;have l2:=blt D;have F:=blt u;have s:q≠δ w.1:=I;have c:t≠δ w.1:=I;have X:=hid b;obtain⟨L,c⟩:=Ea (wz (oe x));have o:ζ L=70:=by rw[c];exact iL tT
 have C:∀W,Bl w W->W.rangeAt g (m*70) L:=by rw[c];exact T
 rw[<-c]at Y;clear T c hq D b u;simp only[dh]at Y;go_enter func243,ntmps243;go_wp2;generalize b:w.alloc fY=V;have B:J (Bl w V/\V.1[δ w.1]?=B' jj):=by subst b;exact⟨bf,bV⟩
 clear b;have U:=ax (E.1 0) B.a;have f:=ax (y.1 0) B.a;have l:=C V B.a;have c:=hid (A U (A f l));clear E y;refine wp_region_held_drew (S:=λr=>χ r (O q 0)=B' (dU g N)/\χ r (O t 0)=B' (G k)/\r.rangeAt g (m*70) L) au ⟨U,f,l⟩ (λb=>?_);clear U f l;refine wpAnyH_take (i:=0) (v:=i' (B' (O g 0)) N N) rfl au au au (λ_ _ _ h=>h) (aI ⟨by rfl,λw u=>by have f:=u;clear C;go_simp⟩) (h') ?_;simp only[Act.put,cJ,dN,cO];refine wpAnyH_take (i:=1) (v:=G m) rfl au au au (λ_ _ _ h=>h) (aI ⟨by rfl,λw u=>by have f:=u;clear C;go_simp⟩) (h') ?_;simp only[Act.put,cJ,dN,cO];refine wpAnyH_take (i:=2) (v:=o' (B' (O g (m*70)))) rfl au au au (λ_ _ _ h=>h) (aI ⟨by rfl,λw u=>by have f:=u;clear C;go_simp⟩) (h') ?_;simp only[Act.put,cJ,dN,cO];refine wpAnyH_take (i:=3) (v:=l' (θ L)) rfl au au au (λ_ _ _ h=>h) (yieldsIf_load_mid (by rfl) _ _ rfl _ _ rfl _ _ (λw u=>u.2.2) underlying354 rfl (by rw[o];kernel_rfl)) (h') ?_;simp only[Act.put,cJ,dN,cO];refine wpAnyH_take (i:=4) (v:=G k) rfl au au au (λ_ _ _ h=>h) (aI ⟨by rfl,λw u=>by have f:=u;clear C;go_simp⟩) (h') ?_;simp only[Act.put,cJ,dN,cO];refine r1 5 λK f=>?_;go_simp;refine D' (Y.o _ (X.o.below (H B.a aQ.drew))) λt l=>?_;have e:=H aQ.drew l;have U:=hid e;clear l e;refine f.out _ _ ⟨ax c.a U.o,ax c.b U.o,λj v R=>ax (c.B j v R) U.o⟩ (λb=>?_);clear f K;refine pt ?_;have W:=M (aL U.o B.A);refine r1 6 λK f=>?_;go_simp;have c:∀(k o:Nat) (v:A'),k<δ w.1->χ t (O k o)=B' v->χ (κ (κ t (O w.1.size 0) (Z z.1)) (O w.1.size 1) (Z z.2)) (O k o)=B' v:=λk o v e h=>(cw ((aJ H').trans (aJ H'))).trans h;refine f.out _ _ ⟨c _ _ _ l1 b.1,c _ _ _ l2 b.2.1,λj v R=>c _ _ _ F (b.2.2 j v R)⟩ (λ_=>?_);refine wpAnyH_done au ?_ _;clear c f b;go_wp2;have v:=aL U.o B.A;have b:χ (κ t (O w.1.size 0) (Z z.1)) (O w.1.size 0)=B' (Z z.1):=by rw[(M (aq v _)).1];rfl
 have r1:χ (κ (κ t (O w.1.size 0) (Z z.1)) (O w.1.size 1) (Z z.2)) (O w.1.size 1)=B' (Z z.2):=by rw[(M (aq (aq v _) _)).1];rfl
 refine aC (v:=dh z) (by simp[results243,go_sem,dh,b,r1]) rfl ⟨rfl,?_⟩;exact((H B.a U.o).setCell aF _).setCell aF _
end
section
variable {g:Nat} {c:List Nat} {β:Type} {v:List Nd}
attribute [local go_sem] Oper.semAt_some
def mkD(D:Nat):Deferred:={target:=.collected D,args:=#[]}
structure IC(B:Nat)(Ds:List Nat)(W:u'):Prop where
  nd:Ds.Nodup
  at_:∀D∈Ds,B<=D/\W.1[D]?=B' (.deferred (B' []))
def IC.nil(B:Nat)(W:u'):IC B [] W:=⟨xg,λD h=>by cases h⟩
def IC.keeps{a:u'}(h:IC B c W)(b:KeepsOthers W a):IC B c a:=⟨h.nd,λD t=>⟨(h.at_ D t).1,b.same D _ (h.at_ D t).2 rfl⟩⟩
def IC.cons{D:Nat}(h:IC B c W)(t:W.1[D]?=B' (.deferred (B' [])))(v:B<=D)(K:D∉c):IC B (D::c) W:=
 ⟨uf.2 ⟨K,h.nd⟩,λE a=>by rcases dr.1 a with rfl|a;(· exact⟨v,t⟩);exact h.at_ E a⟩
def tv{F:Fence}{n:Nat}{P:Program}{g:Func}{r:Array A'}{R:Ending->u'->Prop}{B:Nat}(a:u'->Prop)(b:∀W D,a W->B<=D->W.1[D]?=B' (.deferred (B' []))->a (W.putObj D (.deferred C')))(d:∀W,a W->LeavesInM F n P g r R [] .returning W):∀(c:List Nat) (W:u'),IC B c W->a W->LeavesInM F n P g r R (c.map mkD) .returning W
 |[],W,_,hW=>d W hW
 |D::c,W,h,hW=>by have C:=h.at_ D ak;have e:=uf.1 h.nd;refine⟨ak,.inl ⟨_,_,rfl,run_takeDeferred C.2,?_⟩⟩;refine tv a b d c _ ⟨e.2,λE a=>⟨(h.at_ E (by simp[a])).1,?_⟩⟩ (b W D hW C.1 C.2);rw[World.putObj_heap_other (by rintro rfl;exact e.1 a)];exact(h.at_ E (by simp[a])).2
def MP{f:Nat}(c:List Nat)(t:∀D∈c,D<B):OwnFrom B λ(_:β) W=>IC f c W:=λs W a q y b a=>⟨y.nd,λD d=>⟨(y.at_ D d).1,(b.block D (blt (y.at_ D d).2) (λe=>by have:=(a D e.symm).1;have:=t D d;omega)).trans (y.at_ D d).2⟩⟩
def yt(p:β->Prop):OwnFrom B λ(s:β) (_:u')=>p s:=λ_ _ _ _ y _ _=>y
structure FR(w:u')(rb N g hq:Nat)(ns:List Nd)(W:u'):Prop where
  sys:W.1[δ w.1]?=B' (k' (fe rb N) 260 (0,0))
  res:W.1[δ w.1+1]?=B' (k' #[j' P'] 4 (0,0))
  held:W.1[hq]?=B' (k' #[i' (B' (O g 0)) N N] 351 (0,0))
  row:W.1[g]?=B' (k' (θ (gP (ns.map oe))) 354 (0,0))
  low:Bl w W
def FR.below{d:u'}{c:Nat}(h:FR w c N g b v W)(a:Bl W d):FR w c N g b v d:=⟨aL a h.sys,aL a h.res,aL a h.held,aL a h.row,H h.low a⟩
def FR.own(C:δ w.1+1<B)(h:a<B)(i:g<B):OwnFrom B λ(_:β) W=>FR w b N g a v W:=λs W f b y c d=>
 have k:∀{q:Nat} {o:Obj},W.1[q]?=B' o->q<B->f.1[q]?=B' o:=fun {q _} e a=>(c.block q (blt e) (λe=>J' ((d q e.symm).1))).trans e
 ⟨k y.sys I,k y.res C,k y.held h,k y.row i,ownFrom_below aF I s W f b y.low c d⟩
def FR.put(h:FR w b N g a v W):FR w b N g a v (κ W (O (δ w.1+1) 0) (j' P')):=by
 have k:∀{q:Nat} {L:Array A'} {t:Nat},W.1[q]?=B' (c7 L t)->t≠4->(κ W (O (δ w.1+1) 0) (j' P')).1[q]?=B' (c7 L t):=by intro q L t e U;rw[aJ (by rintro rfl;rw[h.res]at e;simp at e;exact U e.2.symm)];exact e
 exact⟨k h.sys aj,aq h.res _,k h.held aj,k h.row aj,h.low.setCell H' _⟩
def G0{F:Fence}{n:Nat}{B0:Nat}{r:Array A'}{b:Bool}(U:r.getD 4 undef=o' (B' (O (δ w.1+1) 0)))(c:List Nat)(W:u')(d:IC B0 c W)(v:δ w.1+1<B0)(a:Bl w W)(e:W.1[δ w.1+1]?=B' (xj b)):
  LeavesInM F n Tryz.prog Tryz.f170 r (Rb w (j' b)) (c.map mkD) .returning W:=by
 refine tv (B:=B0) (λW=>Bl w W/\W.1[δ w.1+1]?=B' (xj b)) ?_ ?_ c W d ⟨a,e⟩
 ·intro X D ⟨C,a⟩ t c;exact⟨C.trans (belowK_b (w:=w) aF _ D _ _ I c rfl rfl),by rw[World.putObj_heap_other I];exact a⟩
 intro X ⟨C,a⟩;obtain⟨E,_⟩:=M a;have a:=I' U;exact⟨j' b,by simp[results170,go_sem,a,E],rfl,C⟩
def rsB(R:RS)(ns:List Nd)(n f:Nat):Bool:=bt (JA R (Vi ns ((oe (ns.getD n uK)).2.getD f 0)) n) f
def rsN(R:RS)(ns:List Nd)(n:Nat):Bool:=(uV (ry (ns.getD n uK))).all (rsB R ns n)
def zY(R:RS)(ns:List Nd)(N:Nat):Bool:=(range N).all (rsN R ns)
def Se(rb B N nc:Nat)(na:x')(R:RS)(ns:List Nd)(w:u')(v:qz w B rb R)(o:Lv R N)(h:b9 w na ns)(X:ζ ns=N)(Y:∀x∈ns,∀f∈x.facts,0<=f/\f<68)(c:∀x∈ns,ζ x.facts<=128/\ζ x.aW=ζ x.facts)(l:∀x∈ns,cL (ry x)/\∀f∈uV (ry x),f<68)(b:Cf w):
  Cl 170 #[dx rb N,i' na N nc] w (Rb w (j' (zY R ns N))):=by
 have hN:=o.most;have p:J (∀W,Bl w W->Cl 242 #[i' na N nc] W λe w'=>∃g,e=p' (dU g N)/\d' w' g (θ (gP (ns.map oe))) 354/\Below W.1.size W w'):=by intro W j;have:=J8 na nc ns W (h.below j) Y c I;rwa[X]at this
 have U:=hid (A v (A o (A X (A l b))));clear v o h X Y c l b;simp only[dx];refine(kI (n:=6)).1 ?_;refine callsIn_of_wp_marks func170 rfl trivial ?_ rfl;simp only[ntmps170,kL,cC,gN,Nat.reduceAdd,Nat.reduceSub,IX,IW,IV,IU,ej,cW]
 gi_wp2_with (refine⟨trivial,?_⟩;gi_at_call 242;refine(kI.2 (p.o _ cG)).mono ?_;rintro e t ⟨g,rfl,l,c⟩;have b:=hid (A l c);clear l c)
 obtain⟨hq,c⟩:=Ea t.1.size;generalize j:t.alloc (k' #[i' (B' (O g 0)) N N] 351)=F;have HF:J (FR w rb N g hq ns F/\hq<δ F.1):=by subst j;subst c;have e:=bL w (k' (fe rb N) 260) (k' #[j' P'] 4);refine⟨⟨aL bf (aL b.A e.1),aL bf (aL b.A e.2),bV,aL bf b.a,H (H cG b.A) bf⟩,ak⟩
 rw[<-c];clear j c;refine wpIn_loop (λz wr=>∃(k:Nat) (Ds:List Nat) (u6 u7 u8 u9 u10 u16 u17 u18 u19 u20 u21 u22 u23 u24 u25 u26 u27 u28 u29 u30 u31 u32 u33 u34 u35 u36:A'),(k<=N/\J (FR w rb N g hq ns wr/\IC F.1.size Ds wr/\zY R ns k=O'/\δ F.1<=δ wr.1))/\z={tmps:=#[l' (fe rb N),i' na N nc,o' (dO w.1.size),undef,o' (B' (O (δ w.1+1) 0)),o' (B' (O hq 0)),u6,u7,u8,u9,u10,i' na N nc,i' (B' (O g 0)) N N,i' (B' (O g 0)) N N,G N,G k,u16,u17,u18,u19,u20,u21,u22,u23,u24,u25,u26,u27,u28,u29,u30,u31,u32,u33,u34,u35,u36],defers:=Ds.map mkD}) (λz _=>N-(intOf (z.tmps.getD 15 undef)).toNat) ?_ ?_
 ·exact⟨0,[],_,_,_,_,_,_,_,_,_,_,_,_,_,_,_,_,_,_,_,_,_,_,_,_,_,_,⟨bj,HF.a,IC.nil _ _,rfl,aF⟩,rfl⟩
 rintro z wr ⟨k,Ds,u6,u7,u8,u9,u10,u16,u17,u18,u19,u20,u21,u22,u23,u24,u25,u26,u27,u28,u29,u30,u31,u32,u33,u34,u35,u36,⟨b,HK⟩,rfl⟩;by_cases L:k<N;rotate_left
 ·have b:¬(k:Int)<N:=I;have q:k=N:=I;have E:=M HK.a.res
  gi_wp2
  rw[<-q,HK.c];exact G0 (B0:=δ F.1) rfl Ds _ (HK.b.keeps (KeepsOthers.setCell _ _ _)) (J' (blt HF.a.res)) (HK.a.low.setCell H' _) (aq (o:=0) HK.a.res (j' O'))
 have b:(k:Int)<N:=I;obtain⟨x,q⟩:=La (l:=ns) (i:=k) (by rw[U.c];exact L);have c:=U.d x (aT q);have o:∀r∈ns.map oe,ζ r.2=68:=λr hr=>by obtain⟨y,_,rfl⟩:=cZ.1 hr;exact tT
 have l:(ns.map oe)[k]?=B' (oe x):=by rw[cg,q];rfl
 obtain⟨cs,b⟩:=Ea (wz (oe x));have z:ζ cs=70:=by rw[b];exact iL tT
 have r:J (wr.rangeAt g (k*70) cs):=by intro j v E;rw[b]at E;rw[(sP o HK.a.row l (j:=j) (by have:=(bm.1 E).1;rwa[iL tT]at this)).1];exact E
 have j:cs.toArray.all (·.oneCell')=O':=all_oneCell_toArray (by rw[b];intro v E;simp only[wz,fz,cW,ej,dr,cZ]at E;rcases E with rfl|rfl|⟨y,_,rfl⟩<;>rfl);have p:(Tryz.prog.info? 354).map (·.size)=B' (ζ cs):=by rw[z];kernel_rfl
 have HX:=hid (A q (A c (A b (A j p))));clear q c o l b j p;have b:(storeCells (O (δ wr.1+1) 0) cs).run Tryz.prog ((wr.alloc (ia k)).alloc (k' Tryz.zeroCells354 354))=.ok () ((wr.alloc (ia k)).alloc (k' (θ cs) 354)):=by have e:δ (wr.alloc (ia k)).1=δ wr.1+1:=ak;have:=run_storeCells_new (P:=Tryz.prog) (wr.alloc (ia k)) 354 Tryz.zeroCells354 (θ cs) (by rw[kL];exact HX.D) (by rw[Tryz.zeroCells354_size,kL,z]) HX.d;rw[e]at this;simpa using this
 gi_upto_region 4 with(fail)
 refine wpIn_wide.2 ?_;go_wp2_with (refine wpList_load_mid rfl 354 (.tmp 18) rfl g (k*70) rfl cs _ r.o underlying354 rfl HX.D ?_);clear b;generalize b:(wr.alloc (ia k)).alloc (k' (θ cs) 354)=j;have c:J (Below wr.1.size wr j/\j.1[δ wr.1]?=B' (oZ k)/\d' j (δ wr.1+1) (θ cs) 354):=by subst b;exact⟨cG,fC.1,fC.2⟩
 clear b;obtain⟨⟨s1,s2⟩,b⟩:∃s:BS,s=ry x:=⟨_,rfl⟩;have T:χ j (O (δ wr.1+1) 0)=B' (Z s1):=by rw[(M c.B).1,HX.c,wz,oe,<-b];rfl
 have r:χ j (O (δ wr.1+1) 1)=B' (Z s2):=by rw[(M c.B).1,HX.c,wz,oe,<-b];rfl
 have Yb:=hid b;clear b
 gi_wp2_with (refine⟨trivial,?_⟩;gi_at_call 154;refine(kI.2 (NH (s1,s2) _)).mono ?_;rintro e w' ⟨rfl,rfl⟩)
 obtain⟨sb,p⟩:=Ea j.1.size;obtain⟨nb,b⟩:=Ea wr.1.size;generalize q:j.alloc (qH s1 s2)=l;have j:J (Below wr.1.size wr l/\l.1[nb]?=B' (oZ k)/\d' l (nb+1) (θ cs) 354/\l.1[sb]?=B' (vf s1 s2)):=by subst q;subst p;subst b;exact⟨H c.a bf,aL bf c.b,aL bf c.B,bV⟩
 rw[<-p,<-b];clear q p b T r;have b:=blt j.C;have b:=blt j.c;have b:J (FR w rb N g hq ns l/\IC F.1.size Ds l):=⟨HK.a.below j.a,HK.b.keeps (iu j.a)⟩;have q:0<δ w.1:=lP (U.D 0 aj);have p:cL (s1,s2):=by rw[Yb.o];exact HX.b.1
 have c:=b.a.low.size;have r:=bD HK.C j.a.size
 refine wpIn_rangeFunc_ownF rfl I (gf:=227) (lb:=(di sb)) rfl trivial (λxs w=>Tryz.call227 xs w)
  (zG 5 I (s1,s2) sb w.1.size l p ((M j.C).1 0) ((M j.C).1 1) (U.D.below b.a.low) q c) belowK_t (belowK_b c) aQ (λ_=>rfl)
  (λp W=>(FR w rb N g hq ns W/\IC F.1.size Ds W/\W.1[nb]?=B' (oZ k)/\W.1[nb+1]?=B' (k' (θ cs) 354 (0,0))/\(T0 p).all (rsB R ns k)=O')/\δ l.1<=δ W.1)
  (λc _ W=>(c=.ret/\FR w rb N g hq ns W/\IC F.1.size Ds W/\zY R ns N=P')/\δ l.1<=δ W.1)
  (OwnFrom.and (OwnFrom.and (FR.own (J' (blt b.a.res)) (blt b.a.held) (blt b.a.row)) (OwnFrom.and (MP Ds (λD t=>blt (b.A.at_ D t).2)) (OwnFrom.and (mQ (λ_=>_) I) (OwnFrom.and (mQ (λ_=>_) I) (yt _))))) (λs W u q y l hr=>bD y l.size))
  (λc=>OwnFrom.and (OwnFrom.and (yt _) (OwnFrom.and (FR.own (J' (blt b.a.res)) (blt b.a.held) (blt b.a.row)) (OwnFrom.and (MP Ds (λD t=>blt (b.A.at_ D t).2)) (yt _)))) (λs W u q y l hr=>bD y l.size))
  ⟨⟨b.a,b.A,j.b,j.c,rfl⟩,aF⟩
  (λx=>{tmps:=#[l' (fe rb N),i' na N nc,o' (dO w.1.size),undef,o' (B' (O (δ w.1+1) 0)),o' (B' (O hq 0)),o' (B' (O nb 0)),o' (B' (O (nb+1) 0)),G x.1,u9,u10,i' na N nc,i' (B' (O g 0)) N N,i' (B' (O g 0)) N N,G N,G k,j' O',G k,o' (B' (O g (k*70))),l' (θ cs),o' (B' (O (nb+1) 0)),l' #[Z s1,Z s2],.func (.func 227) #[] (di sb),G x.1,u24,u25,u26,u27,u28,u29,u30,u31,u32,u33,u34,u35,u36],defers:=[]}) ?assign ?body ?done ?stop
 case assign=>
  intro l x W K hK
  gi_wp2
  exact hK
 case body=>
  rintro l p ⟨f,Y⟩ W ⟨⟨j,T,b0,b1,q⟩,r⟩ _;have s:f<68:=HX.b.2 f (by rw[<-Yb.o];exact Y);have u:(f:Int)<68:=I;obtain⟨v,E⟩:=La (l:=(oe x).2) (i:=f) (by rw[show(oe x).2.length=68 from tT];exact s);have k0:χ W (O (nb+1) (2+f))=B' (G v):=by rw[(M b1).1,eu,HX.c,wz,show 2+f=f+1+1 by omega];simp[fz,E]
  obtain⟨y1,y2⟩:=M b0;have t1:=M j.sys;have r1:=M j.res;obtain⟨u,V⟩:=Ea (JA R (Vi ns v) k);have y:∀m,cL (Vi ns v m):=by
   intro m;unfold Vi uM;refine MT _ _ _ λz s=>?_;by_cases hm:m<ζ ns
   ·have C:ns.getD m uK∈ns:=by rw[getD,bR hm];exact lX hm
    have:=(U.d _ C).2 z s;omega
   rw[getD,dA I]at s;have:z∈uV (0,0):=s;rw[tp _ ⟨aj,aj⟩]at this;exact this.1
  have z:cL u:=by rw[V];exact RX U.b y k
  have C:J (∀(X:u') (q2:Nat),Below W.1.size W X->d' X q2 #[G v] 3->Cl 226 #[dx rb N,G k,.func (.func 243) #[] (n! hq q2)] X (Rb X (dh u))):=by intro X q2 s hq2;have hF:=j.below s;rw[V];refine A5 rb B N k _ R _ (Vi ns v) X (U.a.below hF.low) U.b L y (λxs w=>Tryz.call243 xs w) λm hm B s=>?_;exact Pp hq q2 m g N ns v B (aL s hF.held) (aL s hq2) (aL s hF.row) U.c hN hm U.d (U.D.below (H hF.low s))
  obtain⟨ok,o⟩:=Ea (bt u f);have HHS:J (∀X,Cl 245 #[dh u,G f] X (Rb X (j' ok))):=by intro X;have:=Xd u f X z I;rwa[acp z I,<-o]at this
  have X:rsB R ns k f=ok:=by rw[rsB,show ns.getD k uK=x by rw[getD,HX.a];rfl,show(oe x).2.getD f 0=v by rw[getD,E];rfl,<-V,o]
  have U:=hid (A j (A T (A b0 (A b1 (A q (A r X))))));have s:=blt b1;have s:δ w.1≠δ W.1:=by have:=blt j.sys;omega
  have s:nb≠δ W.1:=by have:=blt b0;omega
  clear j T b0 b1 q X o V z y E;simp only[dx,dh]at C HHS
  gi_upto_region 8 with(fail)
  clear y1 y2 t1 r1 k0;generalize o:W.alloc (k' #[G v] 3)=V;have B:J (Below W.1.size W V/\d' V W.1.size #[G v] 3):=by subst o;exact⟨bf,bV⟩
  clear o;obtain⟨y1,y2⟩:=M (aL B.a U.c);have t1:=M (aL B.a U.a.sys)
  gi_upto_region 9 with(refine⟨trivial,?_⟩;gi_at_call 226;refine(CallsIn.inRound l (kI.2 (C.o _ _ B.a B.A))).mono ?_;rintro e C ⟨rfl,z⟩;have v:=hid (H B.a z);clear z y1 y2 t1)
  generalize s:C.alloc (qH u.1 u.2)=y;have o:J (Below W.1.size W y/\y.1[δ C.1]?=B' (vf u.1 u.2)):=by subst s;exact⟨H v.o bf,bV⟩
  clear s;obtain⟨y1,y2⟩:=M o.A;generalize δ C.1=y at o y1 y2⊢;cases ok;rotate_left
  ·gi_wp2_with (refine⟨trivial,?_⟩;gi_at_call 245;refine(CallsIn.inRound l (kI.2 (HHS.o _))).mono ?_;rintro e s ⟨rfl,E⟩;have u:=hid (H o.a E);clear E y1 y2)
   refine⟨iu u.o,u.o.mono U.a.low.size,⟨U.a.below u.o,U.b.keeps (iu u.o),aL u.o U.c,aL u.o U.d,?_⟩,bD U.f u.o.size⟩;rw[GZ,all_append,U.e];simp[U.F]
  gi_wp2_with (refine⟨trivial,?_⟩;gi_at_call 245;refine(CallsIn.inRound l (kI.2 (HHS.o _))).mono ?_;rintro e s ⟨rfl,E⟩;have u:=hid (H o.a E);clear E y1 y2;have r1:=M (aL u.o U.a.res))
  refine⟨(iu u.o).trans (KeepsOthers.setCell _ _ _),⟨rfl,(U.a.below u.o).put,(U.b.keeps (iu u.o)).keeps (KeepsOthers.setCell _ _ _),?_⟩,?_⟩;rotate_left
  ·have C:=U.f;have l:=u.o.size;simp[World.setCell];omega
  refine kR (k:=k) ?_ L;rw[rsN,show ns.getD k uK=x by rw[getD,HX.a];rfl,<-Yb.o,kJ];intro l;rw[cF]at l;have:=l f Y;rw[U.F]at this;cases this
 case done=>
  rintro D z W t u ⟨⟨j,T,b0,b1,q⟩,r⟩ hK
  gi_wp2
  have e:((k:Int)+1)=((k+1:Nat):Int):=I;rw[e];have X:zY R ns (k+1)=O':=by rw[zY,c8];have C:=HK.c;unfold zY at C;rw[C];rw[rsN,show ns.getD k uK=x by rw[getD,HX.a];rfl,<-Yb.o,<-u];exact q
  refine⟨?_,?measure⟩
  ·refine⟨k+1,D::Ds,?_⟩
   (repeat apply Exists.intro)
   refine⟨⟨L,j,T.cons hK I (λhm=>J' (blt (b.A.at_ D hm).2)),X,I⟩,rfl⟩
  exact G'
 rintro D c p W t u ⟨⟨rfl,j,T,q⟩,r⟩ hK
 gi_wp2
 rw[show zY R ns N=P' from q];exact G0 (B0:=δ F.1) rfl (D::Ds) W (T.cons hK I (λhm=>J' (blt (b.A.at_ D hm).2))) (J' (blt HF.a.res)) j.low j.res
end
section
variable {P:Pm} {c:Ct}
def Wz(a:Int)(f:Nat):bt (uM (oe uK) a) f=P':=by
 have:uV (oe uK).1=[]:=by show uV (0,0)=[];rw[uV,r?,r?];rfl
 rw[uM,this];exact mU f
def Z7(h:CtG P c)(a:Int)(b:0<=a)(m:Nat){f:Nat}(Y:f<128):bt (Vi c.nodes a m) f=sg c f a m:=by
 have e:sg c f a m=((c.at m).k9 f&&decide ((c.at m).nz f<a)):=by unfold sg;rw[show decide (a<0)=false by simp;omega,iE]
 rw[e];unfold Vi;by_cases d:m<ζ c.nodes
 ·exact WD h (zt d) a Y
 rw[zr d,getD,dA I];show bt (uM (oe uK) a) f=_;rw[Wz];simp[Nd.k9,uK]
def Ot{R:RS}(h:CtG P c)(v:Ia P c.aE R):zY R c.nodes (ζ P.nd)=Dp P c:=by
 rw[cj,S1];simp only[zY,rsN,cF,eQ];have X:∀n f,n<ζ P.nd->f<P.facts c.aE->(c.at n).k9 f=O'->rsB R c.nodes n f=P.rule c.aE f n (sg c f ((c.at n).nz f)):=by intro n f K Y V;have a:=h.s.few;have F:c.at n∈c.nodes:=zt (by rw[h.s.len];exact K);have D:0<=(c.at n).nz f:=V7 h.c h.g;rw[rsB,show c.nodes.getD n uK=c.at n from rfl,Mi h F V,CN v (λm g C d=>by rw[Z7 h _ D m d];exact L5 h.s C) K I];simp only[Y,Cv,dW];congr 1;funext m;exact Z7 h _ D m I
 have b:∀n f,n<ζ P.nd->(f∈uV (ry (c.nodes.getD n uK))↔f<P.facts c.aE/\(c.at n).k9 f=O'):=by
  intro n f K;have F:c.at n∈c.nodes:=zt (by rw[h.s.len];exact K);rw[show c.nodes.getD n uK=c.at n from rfl,tp _ (CJ h.s _ (AK F))];have a:=h.s.few;constructor
  ·rintro⟨C,d⟩;rw[CK h.s F C]at d;have:=h.s.facts _ F (f:Int) (by simpa[Nd.k9]using d);exact⟨I,d⟩
  rintro⟨C,d⟩;exact⟨I,by rw[CK h.s F I];exact d⟩
 constructor
 ·intro y f n Y K U;have V:(c.at n).k9 f=O':=by unfold sg at U;simp only[bh]at U;exact U.1
  rw[<-X n f K Y V];exact y n K f ((b n f K).2 ⟨Y,V⟩)
 intro y n K f d;obtain⟨Y,V⟩:=(b n f K).1 d;rw[X n f K Y V];refine y f n Y K ?_;simp[sg,V]
def xP:∀(l:List Int) (Y:Int),cU Y l=O'->∀g,l.getLast?=B' g->∀x∈l,x<=g
 |[],_,_,g,h,x,hx=>by cases hx
 |[a],_,_,g,h,x,hx=>by simp at h hx;omega
 |a::b::l,Y,c,g,h,x,hx=>by
  simp only[cU,bh,bq]at c;have q:cU (a+1) (b::l)=O':=by simp only[cU,bh,bq];exact c.2
  rw[getLast?_cons_cons]at h;have B:=xP (b::l) _ q g h;rcases dr.1 hx with rfl|hx
  ·have:=sQ (b::l) _ q b ak;have:=B b ak;omega
  exact B x hx
def zC(h:X6 c)(count:Int):c.nodes.all (Lu count)=c.nodes.all λx=>x.facts.all λf=>decide (f<count):=by
 rw[cj];simp only[cF,bq];constructor;rotate_left
 ·intro y x F;unfold Lu;cases X:x.facts.getLast? with
  |none=>rfl
  |some g=>simpa using y x F g (mem_of_getLast? X)
 intro y x F f Y;have C:=y x F;unfold Lu at C;cases X:x.facts.getLast? with
 |none=>rw[getLast?_eq_none_iff]at X;rw[X]at Y;cases Y
 |some g=>rw[X]at C;have:=xP _ _ (h.cU x F) g X f Y;simp at C;omega
end
section
variable {σ α:Type} {U:z'} {b a:Bool} {i:x'}
def N5.fv(x:N5):A':=i' x.fa (ζ x.n.facts) x.fc
def N5.rv(x:N5):A':=i' x.ra (ζ x.n.aW) x.rc
def N5.vv(x:N5):A':=i' x.va (ζ x.n.vals) x.vc
def mf(x:N5):A':=l' (n? x.fa (ζ x.n.facts) x.fc x.ra (ζ x.n.aW) x.rc x.n.aD x.n.rank x.va (ζ x.n.vals) x.vc)
structure eG(W:u')(B:Nat)(x:N5):Prop where
  f:ρ W B 3 1 x.fv (ζ x.n.facts) (x.n.facts.map G)
  r:ρ W B 3 1 x.rv (ζ x.n.aW) (x.n.aW.map G)
  v:ρ W B 73 6 x.vv (ζ x.n.vals) (fh x.n.vals)
  ap:φ x.fv=C'\/φ x.fv≠φ x.rv
def eG.own{x:N5}(h:eG W B x):iB W B x:=by
 refine⟨h.f,h.r,h.v,?_,?_,?_⟩<;>intro e
 ·rcases h.f.2 with⟨C,_⟩|⟨g,c,Y,C,_⟩<;>simp[N5.fv,e]at C;exact C.2
 ·rcases h.r.2 with⟨C,_⟩|⟨g,c,Y,C,_⟩<;>simp[N5.rv,e]at C;exact C.2
 rcases h.v.2 with⟨C,_⟩|⟨g,c,Y,C,_⟩<;>simp[N5.vv,e]at C;exact C.2
def U6(w W':u')(rb:Nat)(s:z')(res:Option (Nd×y'))(e:Ending):Prop:=
 (∃(x:N5) (s':z'),res=B' (x.n,s'.1.1)/\s'.size<=s.size/\e=p' (mf x)/\eG W' w.1.size x/\dq W' rb s' P')\/(res=C'/\∃(x:N5) (s':z'),e=p' (mf x)/\s'.size<=s.size/\dq W' rb s' O')
def ib(_:Unit)(l:y'):Option ((Int×Unit)×y'):=match fH 100000 l with
 |some (n,r)=>B' (((n:Int),()),r)
 |none=>C'
def uC (g:Int) (l:y'):Option (Nd×y'):=match fH (ζ l) l with
  | some (k,r)=>(match bp iI k 0 r with
    |some ((fs,_),q)=>if g=1 then(match bp ib k () q with
        |some ((rs,_),q2)=>B' (⟨fs,rs,P',0,[]⟩,q2)
        |none=>C') else B' (⟨fs,[],P',0,[]⟩,q)
    |none=>C')
  |none=>C'
def Vu(W':u')(B n:Nat)(s:z')(bad:Bool)(step:σ->y'->Option ((Int×σ)×y'))(st:σ)(la:x')(ll lc:Nat)(s':z')(b':Bool):Prop:=
 s'.size<=s.size/\((b'=P'/\ll=n/\∃xs N4,et bad (bp step n st) s=B' ((xs,N4),s'.1.1)/\ρ W' B 3 1 (i' la n lc) n (xs.map G))\/(b'=O'/\(bad=O'\/et bad (bp step n st) s=C')/\la=C'/\ll=0/\lc=0))
def afz(h:p:=by
 rcases h with⟨D,o,b,i,R,C,e,rfl,N,d,l,c⟩|⟨C,rfl,b,e,N,d⟩
 ·exact⟨i,n,R,b,P',rfl,⟨e,aI ⟨rfl,rfl,D,o,C,d⟩⟩,l,g _ _ c⟩
 exact⟨C',0,0,b,O',rfl,⟨e,aK ⟨rfl,C,rfl,rfl,rfl⟩⟩,N,d⟩):p:=h
def NR.one{f:Nat}{c:Bool}{step:σ->y'->Option ((Int×σ)×y')}{st:σ}{Inv:u'->σ->Prop}{hZ:u'->Prop}{e:Ending}(h:NR w d f n s c step st Inv hZ e)(g:∀W st,Inv W st->hZ W):
  ∃i j R b X,e=p' (i' i j R)/\Vu d w.1.size n s c step st i j R b X/\dq d f b X/\hZ d:=by
 exact afz
def aae(h:p:=by
 refine⟨h.1,?_⟩;rcases h.2 with⟨C,b,D,o,N,d⟩|h
 ·subst b;exact aI ⟨C,rfl,D,o,N,Y.own d U⟩
 exact aK h):p:=h
def Vu.fr{step:σ->y'->Option ((Int×σ)×y')}{st:σ}(h:Vu w B n s b step st i j R c X)(Y:Fr P w d)(U:∀k,φ (i' i j R)=B' k->P k):Vu d B n s b step st i j R c X:=by exact aae
def aad(h:p:=by
 rcases h.2 with⟨C,b,D,o,N,d⟩|⟨_,_,N,d,l⟩
 ·subst b;exact d.lt
 intro k b;rw[N]at b
 simp[Value.ownBlock]at b):p:=h
def Vu.lt{step:σ->y'->Option ((Int×σ)×y')}{st:σ}(h:Vu w B n s b step st i j R c X):∀k,φ (i' i j R)=B' k->B<=k/\k<δ w.1:=by exact aad
def SetB(W:u')(w:u')(rb nb:Nat)(p g:Int)(fv rv:A'):Prop:=W.1[δ w.1]?=B' (k' (di rb) 274 (0,0))/\W.1[δ w.1+1]?=B' (ve p g)/\W.1[δ w.1+2]?=B' (k' gH 96 (0,0))/\W.1[nb]?=B' (k' #[fv,rv,j' P',G 0,i' C' 0 0] 96 (0,0))/\δ w.1+3<=nb
def eO{p:y'->Option (α×y')}{a:α×y'}(h:et b p s=B' a):b=P'/\p s.1.1=B' a:=by
 unfold et at h;cases b with
 |true=>cases h
 |false=>exact⟨rfl,h⟩
def mN{p:y'->Option (α×y')}(h:et a p s=C'):a=O'\/(a=P'/\p s.1.1=C'):=by
 unfold et at h;cases a with
 |true=>exact aI rfl
 |false=>exact aK ⟨rfl,h⟩
def rV{p:y'->Option (α×y')}(h:a=O'\/p s.1.1=C'):et a p s=C':=by
 unfold et;cases a with
 |true=>rfl
 |false=>
  rcases h with h|h
  ·cases h
  exact h
def VP(s:z'):ζ s.1.1=s.size:=rfl
def RU{rb p Q c rc:Nat}{K S:z'}{e b1 b2 x:Bool}{a E:x'}(hg:g=1)(C:SmK s e (s.size:Int) k U b1)(R:Vu W B k U b1 iI 0 a Q q K b2)(N:Vu W p k K b2 ib () E c rc S x)(v:δ w.1<=B)(b:∀j,φ (i' a Q q)=B' j->j<p)(t:B<=p)(hr:dq W rb S x):
  U6 w W rb s (et e (uC g) s) (p' (l' #[i' a Q q,i' E c rc,j' P',G 0,i' C' 0 0])):=by
 have f:=bD N.1 (bD R.1 C.1);cases x with
 |true=>
  refine aK ⟨?_,⟨a,q,E,rc,C',0,⟨replicate Q 0,replicate c 0,P',0,[]⟩⟩,S,by simp[mf],f,hr⟩;apply rV;cases hb:e with
  |true=>exact aI rfl
  |false=>
   right;subst hb;unfold uC;rcases C.2 with⟨l,V,_⟩|⟨l,V,_⟩;rotate_left
   ·rw[show fH (ζ s.1.1:Int) s.1.1=C' from V]
   rw[show fH (ζ s.1.1:Int) s.1.1=B' (k,U.1.1)from V];simp only;subst l;rcases R.2 with⟨X,_,o,d,u,_⟩|⟨X,u,_⟩;rotate_left
   ·rcases u with u|u
    ·cases u
    rw[show bp iI k 0 U.1.1=C' from u]
   rw[show bp iI k 0 U.1.1=B' ((o,d),K.1.1)from u];simp only;rw[aB hg];subst X;rcases N.2 with⟨Y,_⟩|⟨_,z,_⟩
   ·cases Y
   rcases z with z|z
   ·cases z
   rw[show bp ib k () K.1.1=C' from z]
 |false=>
  rcases N.2 with⟨_,r,y,e,z,o3⟩|⟨Y,_⟩;rotate_left
  ·cases Y
  obtain⟨X,F⟩:=eO z;subst X;rcases R.2 with⟨_,i,o,d,u,o2⟩|⟨X,_⟩;rotate_left
  ·cases X
  obtain⟨l,h⟩:=eO u;subst l;rcases C.2 with⟨_,V,_⟩|⟨l,_⟩;rotate_left
  ·cases l
  obtain⟨L,T⟩:=eO V;subst L;have P:=dG _ _ _ _ _ _ _ h;have D:=dG _ _ _ _ _ _ _ F;subst i r;refine aI ⟨⟨a,q,E,rc,C',0,⟨o,y,P',0,[]⟩⟩,S,?_,f,by simp[mf,P,D],⟨?_,?_,cb,?_⟩,hr⟩
  ·unfold et uC;simp only[bO,bU];rw[show fH (ζ s.1.1:Int) s.1.1=B' (c,U.1.1)from T];simp only;rw[h];simp only;rw[aB hg,F]
  ·simpa[N5.fv,P]using a! o2 v
  ·simpa[N5.rv,D]using a! o3 (bD v t)
  simp only[N5.fv,N5.rv,P,D];cases R:φ (i' a c q) with
  |none=>exact aI rfl
  |some j=>refine aK (λe=>?_);have:=b j R;have:=(o3.lt j e.symm).1;omega
def RT{p Y:Nat}{j o:Bool}{a:x'}(y:¬g=1)(C:SmK s b (s.size:Int) k U j)(d:Vu W B k U j iI 0 a Y q c o)(v:δ w.1<=B)(r:dq W p c o):
  U6 w W p s (et b (uC g) s) (p' (l' #[i' a Y q,i' C' 0 0,j' P',G 0,i' C' 0 0])):=by
 have f:=bD d.1 C.1;cases o with
 |true=>
  refine aK ⟨?_,⟨a,q,C',0,C',0,⟨replicate Y 0,[],P',0,[]⟩⟩,c,by simp[mf],f,r⟩;apply rV;cases x:b with
  |true=>exact aI rfl
  |false=>
   right;subst x;unfold uC;rcases C.2 with⟨l,V,_⟩|⟨l,V,_⟩;rotate_left
   ·rw[show fH (ζ s.1.1:Int) s.1.1=C' from V]
   rw[show fH (ζ s.1.1:Int) s.1.1=B' (k,U.1.1)from V];simp only;subst l;rcases d.2 with⟨X,_⟩|⟨X,u,_⟩
   ·cases X
   rcases u with u|u
   ·cases u
   rw[show bp iI k 0 U.1.1=C' from u]
 |false=>
  rcases d.2 with⟨_,i,t,d,u,z⟩|⟨X,_⟩;rotate_left
  ·cases X
  obtain⟨l,h⟩:=eO u;subst l;rcases C.2 with⟨_,V,_⟩|⟨l,_⟩;rotate_left
  ·cases l
  obtain⟨L,e⟩:=eO V;subst L;have P:=dG _ _ _ _ _ _ _ h;subst i;refine aI ⟨⟨a,q,C',0,C',0,⟨t,[],P',0,[]⟩⟩,c,?_,f,by simp[mf,P],⟨?_,cb,cb,?_⟩,r⟩
  ·unfold et uC;simp only[bO,bU];rw[show fH (ζ s.1.1:Int) s.1.1=B' (Y,U.1.1)from e];simp only;rw[h];simp only;rw[aA y]
  ·simpa[N5.fv,P]using a! z v
  cases R:φ (N5.fv ⟨a,q,C',0,C',0,⟨t,[],P',0,[]⟩⟩) with
  |none=>exact aI rfl
  |some j=>exact aK (λe=>by simp[N5.rv,Value.ownBlock]at e)
def Vn(W:u')(b o:Nat)(v:A'):Fr (λj=>j≠b) W (κ W (O b o) v):=Fr.dj (bX W b o v) (λj _ f=>I' f)
def qZ{a b c d}:=@Vn a b c d
def Xm(W:u')(b:Nat)(U N a c C:A'):Fr (λj=>j≠b) W (κ (κ (κ (κ (κ W (O b 0) U) (O b 1) N) (O b 2) a) (O b 3) c) (O b 4) C):=
 Fr.trans (Fr.trans (Fr.trans (Fr.trans qZ qZ (λ_ _ h=>h)) qZ (λ_ _ h=>h)) qZ (λ_ _ h=>h)) qZ (λ_ _ h=>h)
def dq.fr{c:u'}{b:Nat}(h:dq w b s a)(Y:Fr P w c)(U:P b):dq c b s a:=(Y.block b h.lt U).trans h
def Fr.box{a:u'}{L:Array A'}{t:TypeId}(Y:Fr P w a)(h:w.1[k]?=B' (c7 L t))(U:P k):a.1[k]?=B' (c7 L t):=(Y.block k (aY.1 h).1 U).trans h
def OS (rb:Nat) (p g:Int) (s:z') (x:Bool) (w:u') (h:dq w rb s x) (y:s.size<=60000):
    Cl 231 #[o' (B' (O rb 0)),l' #[G p,G g]] w λe W'=>U6 w W' rb s (et x (uC g) s) e/\Fr (λj=>j≠rb) w W':=by
  have L:=h.lt;have E:=M h;have T:=λ(V:u') (F:dq V rb s x)=>nH rb s x (s.size:Int) V F y ⟨I,I⟩;have o:=hid (A T h);clear h T;go_enter func231,ntmps231;go_upto_region 1 with(fail)
  obtain⟨b,X⟩:=Ea ((((w.alloc (k' (di rb) 274)).alloc (fL p g)).alloc (k' gH 96)));rw[<-X];have D:δ b.1=δ w.1+3:=by rw[X];simp
  have l:b.1[δ w.1]?=B' (k' (di rb) 274 (0,0)):=by rw[X,bQ H',bQ ak,cv]
  have y:b.1[δ w.1+1]?=B' (ve p g):=by rw[X,bQ ak];exact(bL w _ _).2
  have r:b.1[δ w.1+2]?=B' (k' gH 96 (0,0)):=by rw[X];have:=cv ((w.alloc (k' (di rb) 274)).alloc (fL p g)) (k' gH 96);simpa using this
  have c:dq b rb s x:=by rw[X];exact((o.A.alloc _).alloc _).alloc _
  have f:Below w.1.size w b:=by rw[X];exact gB
  clear E;have E:=M c;have D:=M l;have u:=hid (A l (A y (A r (A c f))));clear l y r c f X
  go_cut [5] from 8 (λc q=>∃(k:Nat) (U:z') (z:Bool),c=G k/\k<=60000/\J (SmK s x (s.size:Int) k U z/\dq q rb U z/\Fr (λj=>j≠rb) b q))
  case first=>
    go_region_law (go_simp;refine(o.a _ (by exact u.d)).mono ?_;rintro e t ⟨k,U,z,rfl,b,hr,g⟩)
    all_goals
      go_wp2_with fail
      go_meet
      exact⟨k,U,z,rfl,(by rcases b.2 with⟨_,_,q⟩|⟨_,_,q⟩<;>omega),b,hr,Fr.trans (Fr.aX (P:=λj=>j≠rb) (by repeat(first|with_reducible exact aQ|with_reducible refine below_drewN ?_ _|with_reducible refine jh ?_))) (Fr.dj g (λj _ f=>by simpa using f)) (λ_ _ f=>f)⟩
  obtain⟨k,U,z,rfl,b,X⟩:=hcut
  rename u'=>t
  clear E D;have T:δ w.1+3<=δ t.1:=by have:=X.B.size;omega
  have l:t.1[δ w.1]?=_:=(X.B.block _ I I).trans u.a;have y:t.1[δ w.1+1]?=_:=(X.B.block _ I I).trans u.b;have r:t.1[δ w.1+2]?=_:=(X.B.block _ I I).trans u.c;have v:=hid (A l (A y r));clear l y r;go_upto_region 4 with(fail)
  obtain⟨q,b⟩:=Ea (((t.alloc (k' gH 96)).alloc (k' #[G 0] 3)));rw[<-b];have c:δ q.1=δ t.1+2:=by rw[b];simp
  have l:Below t.1.size t q:=by rw[b];exact cG
  obtain⟨B,n1⟩:=bL t (k' gH 96) (k' #[G 0] 3);rw[<-b]at B n1;have c:dq q rb U z:=by rw[b];exact(X.b.alloc _).alloc _
  have L:U? w.1.size rb q:=(l.block _ I).trans v.a;have o:SetB q w rb t.1.size p g (i' C' 0 0) (i' C' 0 0):=⟨L,(l.block _ I).trans v.b,(l.block _ I).trans v.B,B,T⟩;have v:Fr (λj=>j≠rb) w q:=Fr.trans (Fr.trans (Fr.aX u.D) X.B (λ_ _ h=>h)) (Fr.aX l) (λ_ _ h=>h)
  have u:=λ(V:u') (F:dq V rb U z) (E:X? (δ t.1+1) w.1.size rb V 0) (r:∀j,(j=δ t.1+1\/j=δ w.1)->j<δ V.1)=>Kh iI (X? (δ t.1+1) w.1.size rb) (afY (δ t.1+1) w.1.size rb) (λj=>j=δ t.1+1\/j=δ w.1) (δ t.1+1) w.1.size rb k U z 0 V
    (λW st s x C y N=>OQ _ _ _ I I I W st s x C y N)
    (λW W' st C y=>⟨(y _ (aI rfl)).trans C.1,(y _ (aK rfl)).trans C.2.1,C.2.2⟩)
    (λW W' C y=>⟨⟨_,(y _ (aI rfl)).trans C.1.choose_spec⟩,(y _ (aK rfl)).trans C.2⟩)
    (λW st C=>⟨⟨_,C.1⟩,C.2.1⟩) r F E (J' X.a.1) I
  have r:=hid (A u (A n1 (A c (A o v))));have D:=M L;clear u o c v L b B n1 l;go_wp2_with fail;refine(r.a _ r.c ⟨r.b,r.d.1,I⟩ (by intro j f;rcases f with rfl|rfl<;>omega)).mono ?_;rintro e F ⟨y,B⟩;obtain⟨fa,fl,L,s2,o,rfl,l,E,R⟩:=y.one (λW st C=>⟨⟨_,C.1⟩,C.2.1⟩);have b:=(B.block t.1.size I ⟨I,I⟩).trans r.d.2.2.2.1;have z1:=M b;have u:J (∀(v:A'),SetB (κ F (O t.1.size 0) v) w rb t.1.size p g v (i' C' 0 0)/\Vu (κ F (O t.1.size 0) v) q.1.size k U z iI 0 fa fl L s2 o/\dq (κ F (O t.1.size 0) v) rb s2 o/\Fr (λj=>j≠rb) w (κ F (O t.1.size 0) v)/\δ q.1<=δ (κ F (O t.1.size 0) v).1):=by intro v;have c:=bX F t.1.size 0 v;have U:=B.size;have z:=(B.block (δ w.1+1) I ⟨I,I⟩).trans r.d.2.1;have p:=(B.block (δ w.1+2) I ⟨I,I⟩).trans r.d.2.2.1;refine⟨⟨(c.block _ I H').trans R.2,(c.block _ I H').trans z,(c.block _ I H').trans p,aq b v,T⟩,l.fr (Fr.dj (P:=λj=>δ q.1<=j) c (λj _ f=>by simp;omega)) (λj f=>(l.lt j f).1),E.grown c H',?_,J' c.size⟩;exact Fr.trans (Fr.trans r.D (B.mono (λj _ (f:j≠rb/\j<δ w.1)=>⟨f.1,I⟩)) (λj C y=>⟨y,C⟩)) (Fr.dj (P:=λj=>j<δ w.1) c (λj _ f=>by simp;omega)) (λj C _=>C)
  clear b l E R B y;go_upto_region 5 with(fail)
  obtain⟨v,p⟩:=Ea (κ F (O t.1.size 0) (i' fa fl L));rw[<-p];have z:=hid (u.o (i' fa fl L));rw[<-p]at z;clear p z1 D;have V:=z.a.1;have e2:=z.a.2.1;have e4:=z.a.2.2.2.1;have D:=M e2;by_cases c:g=1;rotate_left
  · have hL:decide (g=1)=P':=by rw[cR];exact c
    have T:=hid c;clear c;go_wp2_with fail;refine mW.mono ?_;rw[hL];rintro e r ⟨rfl,p⟩;have Y:Bl v r:=by rw[p];exact bf
    have u:Fr (λ_=>True) v r:=Fr.aX Y;have d2:=u.box z.a.2.2.1 trivial;have F:=u.box e4 trivial;have l:=z.c.fr u trivial;have b:=z.b.fr u (λ_ _=>trivial);have R:=Fr.trans z.d u (λ_ _ _=>trivial);have U:δ q.1<=δ r.1:=bD z.D u.size;have B:=hid (A b (A l R));clear D V e2 e4;have D:=M d2;have z1:=M F;clear d2 F l b R u Y p;go_wp2_with fail;refine aC (v:=l' #[i' fa fl L,i' C' 0 0,j' P',G 0,i' C' 0 0]) (by simp[results231,go_sem,D.1]) rfl ?_;have E:=Xm r (δ w.1+1+1) (i' fa fl L) (i' C' 0 0) (j' P') (G 0) (i' C' 0 0);refine⟨RT T.o X.a (B.a.fr E (λj f=>by have:=(B.a.lt j f).1;show j≠_;omega)) I (B.b.fr E H'),?_⟩;exact Fr.trans B.B E (λj C y=>by show j≠_;omega)
  have hL:decide (g=1)=O':=by rw[bq];exact c
  have T:=hid c;clear c;go_wp2_with fail;refine mW.mono ?_;rw[hL];rintro e r ⟨rfl,p⟩;have Y:Bl v r:=by rw[p];exact bf
  have u:Fr (λ_=>True) v r:=Fr.aX Y;have d0:=u.box V trivial;have d2:=u.box z.a.2.2.1 trivial;have F:=u.box e4 trivial;have l:=z.c.fr u trivial;have b:=z.b.fr u (λ_ _=>trivial);have R:=Fr.trans z.d u (λ_ _ _=>trivial);have U:δ q.1<=δ r.1:=bD z.D u.size
  have c:=Ki ib (λ_ _=>True) (λ_=>True) (λ_=>False) rb k s2 o () r
    (λW st s x _ y N=>by
      refine(p7 rb s x W y N).mono ?_;rintro e W' ⟨o,g⟩;refine⟨?_,Fr.dj g (λj _ f=>by simpa using f.1)⟩;rcases o with⟨n,o,r1,q,rfl,v⟩|⟨r1,rfl,o,q,v⟩
      · obtain⟨r,g⟩:=eO r1
        subst r;exact aI ⟨_,(),o,by unfold et ib;simp only[bO,bU];rw[g],q,rfl,v,trivial⟩
      · refine aK ⟨?_,_,o,⟨_,rfl⟩,rfl,q,v,trivial⟩
        apply rV;rcases mN r1 with r|⟨_,r⟩
        · exact aI r
        · right
          unfold ib
          rw[r])
    (λ_ _ _ _ _=>trivial) (λ_ _ _ _=>trivial) (λ_ _ _=>trivial) (λ_ h=>h.elim) l trivial (by have:=X.a.1;have:=z.b.1;omega) I
  have B:=hid (A c (A d2 (A F (A b (A R b.lt)))));clear D V e2 e4;have D:=M d0;clear c d0 d2 F l b R u Y p;go_wp2_with fail;refine bK B.a ?_;rintro e r ⟨s,e⟩;obtain⟨l,c,rc,b,x,rfl,g,b,_⟩:=s.one (λ_ _ _=>trivial);have p:=e.box B.b (show _/\_ from⟨I,λh=>h⟩);have q:=e.box B.c (show _/\_ from⟨I,λh=>h⟩);have o:=e.size;have o:=hid (A p (A q (A g (A b e))));clear D s g b e;have D:=M p;have z1:=M q;have n1:δ w.1+2≠δ t.1:=I;have x:δ t.1≠δ w.1+2:=I;clear p q;go_wp2_with fail;refine aC (v:=l' #[i' fa fl L,i' l c rc,j' P',G 0,i' C' 0 0]) (by simp[results231,go_sem,D.1]) rfl ?_;have E:=Xm (κ r (O t.1.size 1) (i' l c rc)) (δ w.1+1+1) (i' fa fl L) (i' l c rc) (j' P') (G 0) (i' C' 0 0);have b:=Fr.trans (P:=λj=>j≠δ t.1/\j≠δ w.1+1+1) ((Vn r t.1.size 1 (i' l c rc)).mono (λj _ h=>h.1)) E (λj _ h=>h.2);have c:=Fr.trans (P:=λj=>j≠rb/\j≠δ t.1/\j≠δ w.1+1+1) (o.D.mono (λj _ h=>⟨h.1,λh=>h⟩)) b (λj _ h=>h.2);refine⟨RU T.o X.a (B.d.fr c (λj f=>by have:=(B.E j f).1;exact⟨I,I,I⟩)) (o.c.fr b (λj f=>by have:=(o.c.lt j f).1;exact⟨I,I⟩)) I (λj f=>(B.E j f).2) U (o.d.fr b ⟨I,I⟩),?_⟩;exact Fr.trans B.e c (λj C y=>⟨y,I,I⟩)
end
section
variable {σ:Type}
def EF:Vl:=⟨0,0,0,P',0,0⟩
def EI(a b:List Vl):fh (a++b)=fh a++fh b:=by simp[fh]
def EH(E:List Vl)(k j:Nat)(v:Vl)(h:E[k]?=B' v)(f:j<6):(fh E)[k*6+j]?=(eT v)[j]?:=by have C:(eT v)[j]?=B' ((eT v)[j]'(by simp[eT];omega)):=bR _;rw[C];exact CF _ k v h j _ C
def O9(n:Nat):(madeCells (l' jn).cells (n*6)).toList=fh (replicate n EF):=by
 rw[show(l' jn).cells=jn from rfl];apply lV;intro j;by_cases f:j<n*6;rotate_left
 ·rw[dA (by simp[madeCells];omega),dA (by rw[o?];simp;omega)]
 have C:(fh (replicate n EF))[j / 6*6+j % 6]?=(eT EF)[j % 6]?:=EH _ (j / 6) (j % 6) EF (by rw[oV,aB I]) I;rw[show j / 6*6+j % 6=j by omega]at C;rw[C];have c:j % 6<6:=AJ _ I;simp only[madeCells,Cu,Cs,cg,w7 f,m?];show B' jn[j % 6]! = _;generalize j % 6=r at c;have:r=0\/r=1\/r=2\/r=3\/r=4\/r=5:=I;rcases this with rfl|rfl|rfl|rfl|rfl|rfl<;>rfl
def acz(D:List Vl)(n k:Nat)(x:Vl)(a:ζ D=k)(K:k<n):
  ((((((fh (D++replicate (n-k) EF)).set (k*6) (G x.aG)).set (k*6+1) (G x.lo)).set (k*6+2) (G x.hi)).set (k*6+3) (j' x.bJ)).set (k*6+4) (G x.first)).set (k*6+5) (G x.rank)=fh ((D++[x])++replicate (n-(k+1)) EF):=by
 have X:=o? D;rw[a]at X;rw[show n-k=(n-(k+1))+1 by omega,gF];simp only[EI,ef];rw[show fh (EF::replicate (n-(k+1)) EF)=eT EF++fh (replicate (n-(k+1)) EF)from rfl,show fh [x]=eT x by simp[fh]];generalize fh (replicate (n-(k+1)) EF)=r;generalize fh D=a at X;generalize k*6=m at X;have o:∀(l:List A') (y:A'),(a++l).set m y=a++l.set 0 y:=λl y=>xF a l m 0 y X;rw[o,jl X,jl X,jl X,jl X,jl X];rfl
def j?(D:List Vl)(n k j:Nat)(a:ζ D=k)(K:k<n)(f:j<6):(fh (D++replicate (n-k) EF))[k*6+j]?=(eT EF)[j]?:=by exact EH _ k j EF (by rw[ek I,a,kH,oV,aB I]) f
def U7(w W':u')(rb n:Nat)(s:z')(bad:Bool)(step:σ->y'->Option ((Vl×σ)×y'))(st:σ)(Inv:u'->σ->Prop)(hZ:u'->Prop)(e:Ending):Prop:=
  ((∃xs N4 s' la lc,et bad (bp step n st) s=B' ((xs,N4),s'.1.1)/\s'.size<=s.size/\e=p' (i' la n lc)/\(la=C'->lc=0)/\ρ W' w.1.size 73 6 (i' la n lc) n (fh xs)/\dq W' rb s' P'/\Inv W' N4)\/
   ((bad=O'\/et bad (bp step n st) s=C')/\e=p' (i' C' 0 0)/\∃s',s'.size<=s.size/\dq W' rb s' O'/\hZ W'))
def Kg(step:σ->y'->Option ((Vl×σ)×y'))(Inv:u'->σ->Prop)(hZ:u'->Prop)(Own:Nat->Prop)(c u rb n:Nat)(s:z')(bad:Bool)(st:σ)(w:u')
  (KZ:∀(W:u') (st:σ) (s:z') (bad:Bool),Inv W st->dq W rb s bad->s.size<=60000->Cl 293 (n! c u) W λe b=>P0 b rb s (et bad (step st) s) fT (λz=>∃x,z=fT x) Inv hZ e/\Fr (λj=>j≠rb/\¬Own j) W b)
  (hinv:∀(W b:u') (st:σ),Inv W st->(∀j,Own j->b.1[j]?=W.1[j]?)->Inv b st) (M8:∀(W b:u'),hZ W->(∀j,Own j->b.1[j]?=W.1[j]?)->hZ b) (hIB:∀W st,Inv W st->hZ W) (mO:∀j,Own j->j<δ w.1) (h:dq w rb s bad) (hi:Inv w st) (y:s.size<=60000) (K:n<=100000000):
  Cl 292 #[o' (B' (O rb 0)),G n,.func (.func 293) #[] (n! c u)] w λe b=>
   U7 w b rb n s bad step st Inv hZ e/\Fr (λj=>j≠rb/\¬Own j) w b:=by
 have vD:=True.intro;exact aaC
end
section
variable {c:u'}
def iH(p g:Int)(_:Unit)(l:y'):Option ((Vl×Unit)×y'):=match (if p=6 then sU l else kq g l)with
 |some (v,r)=>B' ((v,()),r)
 |none=>C'
def pR(sb xb rb:Nat)(p g:Int)(W:u'):Prop:=W.1[sb]?=B' (ve p g)/\U? xb rb W
def Mr{W:u'}{o u:Nat}{a:Bool}{p g:Int}{q:y'->Option (Vl×y')}(t:∀l,(if p=6 then sU l else kq g l)=q l)(y:o≠b)(F:u≠b)(i:pR o u b p g W)(h:RdP c b s (et a q s) fT (λz=>∃v,z=fT v) e)(d:ξ W c (B' b)):
  P0 c b s (et a (iH p g ()) s) fT (λz=>∃x,z=fT x) (λW (_:Unit)=>pR o u b p g W) (pR o u b p g) e/\Fr (λj=>j≠b/\¬(j=o\/j=u)) W c:=by
 have a:pR o u b p g c:=⟨(d.block o (aY.1 i.1).1 (I' y)).trans i.1,(d.block u (aY.1 i.2).1 (I' F)).trans i.2⟩;refine⟨?_,Fr.dj d (λj _ f=>I' f.1)⟩;rcases h with⟨v,b,C,c,N,d⟩|⟨C,z,b,c,N,d,l⟩
 ·obtain⟨e,k⟩:=eO C;subst e;refine aI ⟨v,(),b,?_,c,N,d,a⟩;simp only[et,iH,bO,bU];rw[t,k]
 refine aK ⟨?_,z,b,c,N,d,l,a⟩;apply rV;rcases mN C with r|⟨_,r⟩
 ·exact aI r
 right;rw[iH,t,r]
def Mp{a:Option (Vl×y')}(h:RdP c b s a fT (λz=>∃v,z=fT v) e):∃v,e=p' (fT v):=by
 rcases h with⟨v,a,C,b,N,d⟩|⟨C,z,a,⟨v,R⟩,N,d,l⟩
 ·exact⟨v,N⟩
 exact⟨v,by rw[N,R]⟩
def Bf{g U:u'}{d:Nat}{a:Option (Vl×y')}(h:RdP g d s a fT (λz=>∃v,z=fT v) e)(f:∀c b,dq g d c b->dq U d c b):RdP U d s a fT (λz=>∃v,z=fT v) e:=by
 rcases h with⟨v,c,C,a,N,d⟩|⟨C,z,c,a,N,d,l⟩
 ·exact aI ⟨v,c,C,a,N,f _ _ d⟩
 exact aK ⟨C,z,c,a,N,d,f _ _ l⟩
def Mq{d:u'}{c:Nat}{a:Option (Vl×y')}(h:RdP d c s a fT (λz=>∃v,z=fT v) e):∃a b,dq d c a b:=by
 rcases h with⟨v,a,C,b,N,d⟩|⟨C,z,a,b,N,d,l⟩
 ·exact⟨_,_,d⟩
 exact⟨_,_,l⟩
def OW(o u D:Nat)(p g:Int)(y:o≠D)(hx:u≠D)(W:u')(s:z')(K:Bool)(i:pR o u D p g W)(h:dq W D s K)(uR:s.size<=60000):
  Cl 293 #[o' (B' (O o 0)),o' (B' (O u 0))] W λe a=>P0 a D s (et K (iH p g ()) s) fT (λz=>∃x,z=fT x) (λW (_:Unit)=>pR o u D p g W) (pR o u D p g) e/\Fr (λj=>j≠D/\¬(j=o\/j=u)) W a:=by
 have d:=(aY.1 i.1).1;have z:=(aY.1 i.2).1;have a:=h.lt;have j:=hid (A i h);clear i h;by_cases U:p=6
 ·have a:(p==6)=O':=by rw[bT];exact U
  have Q:=hid U;clear U;go_enter func293,ntmps293;go_upto_region 1 with(fail)
  obtain⟨S,X⟩:=Ea ((W.alloc (k' jn 73)));rw[<-X];have L:Bl W S:=by rw[X];exact bf
  have r:=(L.block o d).trans j.a.1;have P:=(L.block u z).trans j.a.2;have F:d' S W.1.size jn 73:=by rw[X];exact bV
  have i:dq S D s K:=by rw[X];exact j.A.alloc _
  have T:=FX D s K S i uR;have B:=hid (A T (A F (A L X)));have E:=M r;have y1:=M P;clear r P F i L X T;go_wp2_with fail;refine bK B.a ?_;rintro e t ⟨C,N⟩;obtain⟨v,rfl⟩:=Mp C;have k:=(N.block W.1.size (aY.1 B.b).1 H').trans B.b;have q:ξ W t (B' D):=by have:=B.C;subst this;exact iR N
  have c:=hid (A C q);clear E y1 C N q;have E:=M k;clear k;simp only[fT];go_wp2_with fail;refine aC (v:=fT v) (by simp[results293,go_sem,E.1,fT]) rfl ?_;obtain⟨f,w,Y⟩:=Mq c.a;have R:=λx b h=>gY (rb:=D) (s:=x) (bad:=b) c.A h (xe W.1.size) I (G v.aG) (G v.lo) (G v.hi) (j' v.bJ) (G v.first) (G v.rank);exact Mr (λl=>aB Q.o) y hx j.a (Bf c.a (λx b h=>(R x b h).1)) (R _ _ Y).2
 have a:(p==6)=P':=by rw[b?];exact U
 have Q:=hid U;clear U;go_enter func293,ntmps293;go_upto_region 1 with(fail)
 obtain⟨S,X⟩:=Ea ((W.alloc (k' jn 73)));rw[<-X];have L:Bl W S:=by rw[X];exact bf
 have r:=(L.block o d).trans j.a.1;have P:=(L.block u z).trans j.a.2;have F:d' S W.1.size jn 73:=by rw[X];exact bV
 have i:dq S D s K:=by rw[X];exact j.A.alloc _
 have T:=Kc D s K p g S i uR;have B:=hid (A T (A F (A L X)));have E:=M r;have y1:=M P;clear r P F i L X T;go_wp2_with fail;refine bK B.a ?_;rintro e t ⟨C,N⟩;obtain⟨v,rfl⟩:=Mp C;have k:=(N.block W.1.size (aY.1 B.b).1 H').trans B.b;have q:ξ W t (B' D):=by have:=B.C;subst this;exact iR N
 have c:=hid (A C q);clear E y1 C N q;have E:=M k;clear k;simp only[fT];go_wp2_with fail;refine aC (v:=fT v) (by simp[results293,go_sem,E.1,fT]) rfl ?_;obtain⟨f,w,Y⟩:=Mq c.a;have R:=λx b h=>gY (rb:=D) (s:=x) (bad:=b) c.A h (xe W.1.size) I (G v.aG) (G v.lo) (G v.hi) (j' v.bJ) (G v.first) (G v.rank);exact Mr (λl=>aA Q.o) y hx j.a (Bf c.a (λx b h=>(R x b h).1)) (R _ _ Y).2
end
section
variable {σ:Type} {rk:Nat} {b:Bool} {i:x'} {p:Int} {u:A'}
def lB(g:Int)(l:y'):Option (Nat×y'):=if g=1 then fH 100000 l else B' (0,l)
def uE (p g:Int) (l:y'):Option (Nd×y'):=match lB g l with
  | some (rk,l1)=>(match fH 8 l1 with
    | some (k,l2)=>(match bp (iH p g) k () l2 with
      |some ((vs,_),l3)=>B' (⟨[],[],O',(rk:Int),vs⟩,l3)
      |none=>C')
    |none=>C')
  |none=>C'
def X8(W':u')(B n:Nat)(s:z')(bad:Bool)(step:σ->y'->Option ((Vl×σ)×y'))(st:σ)(la:x')(ll lc:Nat)(s':z')(b':Bool):Prop:=
 s'.size<=s.size/\((b'=P'/\ll=n/\∃xs N4,et bad (bp step n st) s=B' ((xs,N4),s'.1.1)/\ρ W' B 73 6 (i' la n lc) n (fh xs))\/(b'=O'/\(bad=O'\/et bad (bp step n st) s=C')/\la=C'/\ll=0/\lc=0))
def U7.one{f:Nat}{c:Bool}{step:σ->y'->Option ((Vl×σ)×y')}{st:σ}{Inv:u'->σ->Prop}{hZ:u'->Prop}{e:Ending}(h:U7 w d f n s c step st Inv hZ e)(g:∀W st,Inv W st->hZ W):
  ∃i j R b X,e=p' (i' i j R)/\X8 d w.1.size n s c step st i j R b X/\dq d f b X/\hZ d:=by
 exact afz
def X8.fr{step:σ->y'->Option ((Vl×σ)×y')}{st:σ}(h:X8 w B n s b step st i j R c X)(Y:Fr P w d)(U:∀k,φ (i' i j R)=B' k->P k):X8 d B n s b step st i j R c X:=by exact aae
def X8.lt{step:σ->y'->Option ((Vl×σ)×y')}{st:σ}(h:X8 w B n s b step st i j R c X):∀k,φ (i' i j R)=B' k->B<=k/\k<δ w.1:=by exact aad
def pS(W:u')(w:u')(rb:Nat)(p g:Int)(rk:Nat)(vv:A'):Prop:=W.1[δ w.1]?=B' (k' (di rb) 274 (0,0))/\W.1[δ w.1+1]?=B' (ve p g)/\W.1[δ w.1+2]?=B' (k' gH 96 (0,0))/\W.1[δ w.1+3]?=B' (k' #[i' C' 0 0,i' C' 0 0,j' O',G rk,vv] 96 (0,0))/\δ w.1+4<=δ W.1
def pS.fr{b:u'}(h:pS W w a p g rk u)(Y:Fr P W b)(U:∀j,δ w.1<=j->j<δ w.1+4->P j):pS b w a p g rk u:=
 ⟨Y.box h.1 (U _ I I),Y.box h.2.1 (U _ I I),Y.box h.2.2.1 (U _ I I),Y.box h.2.2.2.1 (U _ I I),bD h.2.2.2.2 Y.size⟩
def pS.set{c:Nat}{b:A'}(h:pS W w c p g rk u)(o:Nat)(v:A')(l:#[i' C' 0 0,i' C' 0 0,j' O',G rk,u].setIfInBounds o v=#[i' C' 0 0,i' C' 0 0,j' O',G a,b]):pS (κ W (O (δ w.1+3) o) v) w c p g a b:=by have Y:=Vn W (δ w.1+3) o v;refine⟨Y.box h.1 H',Y.box h.2.1 H',Y.box h.2.2.1 H',?_,bD h.2.2.2.2 Y.size⟩;rw[aq h.2.2.2.1,l]
def RkK(s:z')(bad:Bool)(g:Int)(rk:Nat)(s':z')(b:Bool):Prop:=s'.size<=s.size/\((b=P'/\et bad (lB g) s=B' (rk,s'.1.1))\/(b=O'/\et bad (lB g) s=C'))
def Xw{q k t x:Nat}{U S:z'}{a j o e:Bool}{z:x'}(C:RkK s a g rk U j)(d:SmK U j 8 k c o)(N:X8 W B k c o (iH p g) () z t x S e)(v:δ w.1<=B)(y:dq W q S e):
  U6 w W q s (et a (uE p g) s) (p' (l' #[i' C' 0 0,i' C' 0 0,j' O',G rk,i' z t x])):=by
 have f:=bD N.1 (bD d.1 C.1);cases e with
 |true=>
  refine aK ⟨?_,⟨C',0,C',0,z,x,⟨[],[],O',(rk:Int),replicate t EF⟩⟩,S,by simp[mf],f,y⟩;apply rV;cases K:a with
  |true=>exact aI rfl
  |false=>
   right;subst K;unfold uE;rcases C.2 with⟨l,V⟩|⟨l,V⟩;rotate_left
   ·rw[show lB g s.1.1=C' from V]
   rw[show lB g s.1.1=B' (rk,U.1.1)from V];simp only;subst l;rcases d.2 with⟨X,u,_⟩|⟨X,u,_⟩;rotate_left
   ·rw[show fH 8 U.1.1=C' from u]
   rw[show fH 8 U.1.1=B' (k,c.1.1)from u];simp only;subst X;rcases N.2 with⟨Y,_⟩|⟨_,b,_⟩
   ·cases Y
   rcases b with b|b
   ·cases b
   rw[show bp (iH p g) k () c.1.1=C' from b]
 |false=>
  rcases N.2 with⟨_,r,E,a,b,P⟩|⟨Y,_⟩;rotate_left
  ·cases Y
  obtain⟨X,F⟩:=eO b;subst X;rcases d.2 with⟨_,u,_⟩|⟨X,_⟩;rotate_left
  ·cases X
  obtain⟨l,h⟩:=eO u;subst l;rcases C.2 with⟨_,V⟩|⟨l,_⟩;rotate_left
  ·cases l
  obtain⟨L,i⟩:=eO V;subst L;have D:=dG _ _ _ _ _ _ _ F;subst r;refine aI ⟨⟨C',0,C',0,z,x,⟨[],[],O',(rk:Int),E⟩⟩,S,?_,f,by simp[mf,D],⟨cb,cb,?_,aI rfl⟩,y⟩;rotate_left
  ·simpa[N5.vv,D]using a! P v
  simp only[et,uE,bO,bU];rw[i];simp only;rw[h];simp only;rw[F]
def Q!{p:Prop}(h:p:=by
 obtain⟨rk,U,b1,Vk,Qe,c,hf1⟩:=HA.o;have tF:δ w.1+4<=δ t.1:=Vk.2.2.2.2;have T:=λ(V:u') (hV:dq V rb U b1)=>nH rb U b1 8 V hV (by have:=Qe.1;omega) ⟨I,I⟩
 have KZ:=λ(V:u') (k:Nat) (s2:z') (o:Bool) (KX:s2.size<=60000) (hk:k<=8) (hV:dq V rb s2 o) (hI:pR (δ w.1+1) w.1.size rb p g V) (uR:∀j,(j=δ w.1+1\/j=δ w.1)->j<δ V.1)=>Kg (iH p g) (λW (_:Unit)=>pR (δ w.1+1) w.1.size rb p g W) (pR (δ w.1+1) w.1.size rb p g) (λj=>j=δ w.1+1\/j=δ w.1) (δ w.1+1) w.1.size rb k s2 o () V
  (λW st s bad C h2 N=>OW _ _ _ p g I I W s bad C h2 N)
  (λW W' st C h2=>⟨(h2 _ (aI rfl)).trans C.1,(h2 _ (aK rfl)).trans C.2⟩)
  (λW W' C h2=>⟨(h2 _ (aI rfl)).trans C.1,(h2 _ (aK rfl)).trans C.2⟩)
  (λW st C=>C) uR hV hI KX I
 have HP:=hid (A T (A KZ (A Vk (A Qe (A c hf1)))));have x1:=M Vk.1;clear T KZ Vk Qe c hf1 HA
 go_cut [] from 12 (λwx=>∃(z:x') (vl x k:Nat) (s2 s3:z') (o b3:Bool),J (pS wx w rb p g rk (i' z vl x)/\SmK U b1 8 k s2 o/\X8 wx t.1.size k s2 o (iH p g) () z vl x s3 b3/\dq wx rb s3 b3/\Fr (λj=>j≠rb) w wx/\δ t.1<=δ wx.1))
 case first=>
  go_region_law (first|(have _:=B;go_simp;refine(HP.b _ k s2 o KX hk8 (by exact B.b) (by exact⟨B.c.2.1,B.c.1⟩) (by intro j f;have h9:=B.c.2.2.2.2;rcases f with rfl|rfl<;>(show _<δ W4.1;omega))).mono ?_;rintro e W5 ⟨h5,f5⟩;obtain⟨z,vl,x,s3,b3,rfl,hls,hr5,hi5⟩:=h5.one (λW st C=>C);have TG:=f5.box B.c.2.2.2.1 (show _/\_ from⟨I,I⟩);have z1:=M TG;have H5:=hid (A hls (A hr5 (A hi5 (A f5 TG))));clear hls hr5 hi5 f5 h5 TG)|(go_simp;refine(HP.a _ (by exact HP.e)).mono ?_;rintro e W4 ⟨k,s2,o,rfl,hk,hr4,g4⟩;have hf4:Fr (λj=>j≠rb) t W4:=Fr.trans (Fr.aX (P:=λj=>j≠rb) (by repeat(first|with_reducible exact aQ|with_reducible refine below_drewN ?_ _|with_reducible refine jh ?_))) (Fr.dj g4 (λj _ f=>by simpa using f)) (λ_ _ f=>f);have v:=HP.c.fr hf4 (λj f _=>by show j≠rb;omega);have KX:s2.size<=60000:=(by have:=hk.1;have:=HP.d.1;omega);have hk8:k<=8:=(by rcases hk.2 with⟨_,_,q⟩|⟨_,_,q⟩<;>omega);have y1:=M v.1;have B:=hid (A hk (A hr4 (A v hf4)));clear hk hr4 v hf4 g4))
  all_goals
   go_wp2_with fail
   go_meet
   obtain⟨k1,k2,k3,k4,k5⟩:=H5.o;have afi:=k4.size;have hfr:=B.C;have ach:=hfr.size;have Vj:pS W5 w rb p g rk (i' C' 0 0):=⟨k3.2,k3.1,k4.box B.c.2.2.1 (show _/\_ from⟨I,I⟩),k5,bD (bD tF ach) afi⟩;have R:=Vn W5 (δ w.1+3) 4 (i' z vl x);refine⟨z,vl,x,k,s2,s3,o,b3,Vj.set 4 _ rfl,B.a,?_,k2.fr R (by show rb≠_;omega),?_,bD (bD ach afi) R.size⟩
   ·have hl:X8 W5 t.1.size k s2 o (iH p g) () z vl x s3 b3:=by
     refine⟨k1.1,?_⟩;rcases k1.2 with⟨C,h2,D,N4,N,h4⟩|h
     ·exact aI ⟨C,h2,D,N4,N,a! h4 ach⟩
     exact aK h
    exact hl.fr R (λj f=>by have:=(hl.lt j f).1;show j≠_;omega)
   have f6:Fr (λj=>j≠rb/\j<δ w.1) W4 W5:=Fr.trans (Fr.aX (P:=λj=>j≠rb/\j<δ w.1) (by repeat(first|with_reducible exact aQ|with_reducible refine below_drewN ?_ _|with_reducible refine jh ?_))) (k4.mono (λj _ (f:j≠rb/\j<δ w.1)=>⟨f.1,I⟩)) (λ_ _ h=>h);exact Fr.trans (Fr.trans (Fr.trans HP.E hfr (λ_ _ h=>h)) f6 (λj C h2=>⟨h2,C⟩)) R (λj C _=>by show j≠_;omega)
 obtain⟨z,vl,x,k,s2,s3,o,b3,Y⟩:=hcut
 rename u'=>W6
 clear x1;have x1:=M Y.a.2.2.2.1;have y1:=M Y.a.2.2.1;go_wp2_with fail;refine aC (v:=l' #[i' C' 0 0,i' C' 0 0,j' true,G rk,i' z vl x]) (by simp[results,results233,go_sem,y1.1]) rfl ?_;have E:=Xm W6 (δ w.1+1+1) (i' C' 0 0) (i' C' 0 0) (j' true) (G rk) (i' z vl x);refine⟨Xw HP.d Y.b (Y.c.fr E (λj f=>by have:=(Y.c.lt j f).1;show j≠_;omega)) I (Y.d.fr E (by show rb≠_;omega)),?_⟩
 exact Fr.trans Y.e E (λj C h2=>by show j≠_;omega)):p:=h
def OT(rb:Nat)(p g:Int)(s:z')(bad:Bool)(w:u')(h:dq w rb s bad)(y:s.size<=60000):
  Cl 233 #[o' (B' (O rb 0)),l' #[G p,G g]] w λe W'=>U6 w W' rb s (et bad (uE p g) s) e/\Fr (λj=>j≠rb) w W':=by
 have b:=h.lt;have HR:=(show J (dq w rb s bad)from h);clear h;go_enter func233,ntmps233;go_upto_region 2 with(fail)
 obtain⟨V0,X⟩:=Ea (((((w.alloc (k' (di rb) 274)).alloc (fL p g)).alloc (k' gH 96)).alloc Qt));rw[<-X];have L:pS V0 w rb p g 0 (i' C' 0 0):=by
  rw[X];refine⟨?_,?_,?_,?_,ak⟩
  ·rw[bQ (by first|(simp;done)|(simp;omega)),bQ (by first|(simp;done)|(simp;omega)),bQ ak,cv]
  ·rw[bQ (by first|(simp;done)|(simp;omega)),bQ ak];exact(bL w _ _).2
  ·have:=(bL ((w.alloc (k' (di rb) 274)).alloc (fL p g)) (k' gH 96) Qt).1;simpa using this
  have:=(bL ((w.alloc (k' (di rb) 274)).alloc (fL p g)) (k' gH 96) Qt).2;simpa using this
 have b:dq V0 rb s bad:=by rw[X];exact(((HR.o.alloc _).alloc _).alloc _).alloc _
 have c:Fr (λj=>j≠rb) w V0:=by rw[X];exact Fr.aX iw
 have r:=hid (A L (A b c));have x1:=M L.2.1;clear L b c X;have c:∃b:Bool,decide (g=1)=b:=⟨_,rfl⟩;obtain⟨bg,hL⟩:=c;cases bg
 ·go_wp2_with fail
  refine mW.mono ?_;rw[hL];rintro e t ⟨rfl,l⟩;have u:Fr (λ_=>True) V0 t:=Fr.aX (by rw[l];exact bf);have HA:J (∃rk U b1,pS t w rb p g rk (i' C' 0 0)/\RkK s bad g rk U b1/\dq t rb U b1/\Fr (λj=>j≠rb) w t):=by
   refine⟨0,s,bad,r.a.fr u (λ_ _ _=>trivial),⟨aF,?_⟩,r.b.fr u trivial,Fr.trans r.B u (λ_ _ _=>trivial)⟩;have hg:¬g=1:=j9 hL;cases bad with
   |true=>exact aK ⟨rfl,rfl⟩
   |false=>exact aI ⟨rfl,by unfold et lB;simp only[bO,bU];rw[aA hg]⟩
  clear l u x1;go_upto_region 4 with(fail)
  exact Q!
 go_wp2_with fail;refine mW.mono ?_;rw[hL];rintro e V3 ⟨rfl,l⟩;have u:Fr (λ_=>True) V0 V3:=Fr.aX (by rw[l];exact bf);have b:=r.a.fr u (λ_ _ _=>trivial);have F:=r.b.fr u trivial;have T:=p7 rb s bad V3 F y;have H3:=hid (A T (A b (Fr.trans r.B u (λ_ _ _=>trivial))));clear x1 l u F T;have x1:=M b.1;clear b;go_wp2_with fail
 refine bK H3.a ?_;rintro e F ⟨h2,g2⟩;have hf2:Fr (λj=>j≠rb) V3 F:=Fr.dj g2 (λj _ f=>by simpa using f);have X:=H3.b.fr hf2 (λj f _=>by show j≠rb;omega);obtain⟨rk,U,b1,rfl,Qe,c⟩:∃(rk:Nat) (U:z') (b1:Bool),e=p' (G rk)/\RkK s bad g rk U b1/\dq F rb U b1:=by
  have hg:g=1:=rq hL;have hq:∀l,lB g l=fH 100000 l:=λl=>by unfold lB;rw[aB hg]
  rcases h2 with⟨n,s',r1,r2,r3,L⟩|⟨r1,r3,s',r2,L⟩
  ·obtain⟨hb,r1'⟩:=eO r1;subst hb;exact⟨n,s',false,r3,⟨r2,aI ⟨rfl,by unfold et;simp only[bO,bU];rw[hq,r1']⟩⟩,L⟩
  refine⟨0,s',true,r3,⟨r2,aK ⟨rfl,rV ?_⟩⟩,L⟩;rcases mN r1 with r|⟨_,r⟩
  ·exact aI r
  right;rw[hq,r]
 have HB:J (∀t,t=κ F (O (δ w.1+3) 3) (G rk)->∃rk U b1,pS t w rb p g rk (i' C' 0 0)/\RkK s bad g rk U b1/\dq t rb U b1/\Fr (λj=>j≠rb) w t):=by intro t u;subst u;exact⟨rk,U,b1,X.set 3 _ rfl,Qe,c.fr qZ (by show rb≠_;omega),Fr.trans (Fr.trans H3.B hf2 (λ_ _ h=>h)) qZ (λj C _=>by show j≠_;omega)⟩
 clear x1;have x1:=M X.2.2.2.1;clear hf2 X h2 g2 Qe c;go_upto_region 4 with(fail)
 obtain⟨t,u⟩:=Ea (κ F (O (δ w.1+1+1+1) 3) (G rk));rw[<-u];have HA:=hid (HB.o t u);clear u HB x1;exact Q!
end
section
variable {a p:Int} {n:Nd} {v:Vl}
def nN:Nd:=⟨[],[],P',0,[]⟩
def jQ(p g:Int)(l:y'):Option (Nd×y'):=if p<=4 then uC g l else match fO l with
 |some (true,r)=>uE p g r
 |some (false,r)=>B' (nN,r)
 |none=>C'
def gE(p g:Int)(_:Unit)(l:y'):Option ((Nd×Unit)×y'):=match jQ p g l with
 |some (n,r)=>B' ((n,()),r)
 |none=>C'
def ie (l:y'):Option (Ct×y'):=match l with
  | b::c::q=>if known (b.toNat:Int) (c.toNat:Int)=O' then(match fH 60 q with
      | some (k,q2)=>(match bp (gE (b.toNat:Int) (c.toNat:Int)) k () q2 with
        |some ((ns,_),q3)=>B' (⟨(b.toNat:Int),(c.toNat:Int),ns⟩,q3)
        |none=>C')
      |none=>C') else C'
  |_=>C'
def dec(l:y'):Option Ct:=match l with
  |87::67::1::r=>if ζ l<=60000 then(match ie r with
      |some (c,[])=>if jz c=O' then B' c else C'
      |_=>C') else C'
  |_=>C'
def Md(a:Int)(l:y')(n:Nat)(r:y')(d:a<18446744073709551616):fH a l=B' (n,r)↔l=iA n++r/\(n:Int)<=a:=by
 unfold fH;constructor;rotate_left
 ·rintro⟨C,a⟩;rw[(rF l n r).2 ⟨C,I⟩];simp only;rw[aB a]
 intro h;cases T:rc l with
 |none=>rw[T]at h;cases h
 |some p=>
  have m:=p;rw[T]at h;simp only at h;split at h
  ·rename_i R;simp at h;obtain⟨rfl,rfl⟩:=h;exact⟨(oF.1 T).1,R⟩
  cases h
def ki{a b c d}:=@Md a b c d
def lA{n:Nat}(r:y')(d:a<18446744073709551616)(h:(n:Int)<=a):fH a (iA n++r)=B' (n,r):=(Md a _ n r d).2 ⟨rfl,h⟩
def mJ{x:Int}(r:y')(d:a<18446744073709551616)(D:0<=x)(h:x<=a):fH a (fq x++r)=B' (x.toNat,r):=lA r d I
def VK(x:Int):xx (zig x)=x:=by
 unfold xx zig;by_cases h:0<=x
 ·rw[aB h,aB I];omega
 rw[aA h,aA I];omega
def VB(n:Nat):zig (xx n)=n:=by
 unfold xx zig;by_cases h:n % 2=0
 ·rw[aB h,aB I];omega
 rw[aA h,aA I];omega
def iJ(l:y')(x:Int)(r:y'):iK l=B' (x,r)↔l=ZD x++r/\lr x:=by
 unfold iK ZD;constructor;rotate_left
 ·rintro⟨C,a⟩;obtain⟨N,d⟩:=a;rw[(rF l (zig x) r).2 ⟨C,by unfold zig;split<;>omega⟩];simp only[VK]
 intro h;cases T:rc l with
 |none=>rw[T]at h;cases h
 |some p=>obtain⟨m,q⟩:=p;rw[T]at h;simp at h;obtain⟨rfl,rfl⟩:=h;obtain⟨C,a⟩:=oF.1 T;rw[VB];refine⟨C,?_⟩;unfold xx lr;split<;>omega
def M?(j:Int)(n:Nat)(X:lr j):gL j n=(j+(n:Int)+9223372036854775808) % 18446744073709551616-9223372036854775808:=by have C:=X;simp only[gL,wrap64,IntKind.wrap,IntKind.bits,IntKind.signed];simp
def J6{l r:y'}(h:sU l=B' (v,r))(R:v.lo<=v.hi):l=(ZD v.lo++iA (v.hi-v.lo).toNat)++r:=by
 unfold sU at h;cases K:iK l with
 |none=>rw[K]at h;cases h
 |some p=>
  obtain⟨j,q⟩:=p;rw[K]at h;simp only at h;cases T:rc q with
  |none=>rw[T]at h;cases h
  |some a=>obtain⟨n,F⟩:=a;rw[T]at h;simp at h;obtain⟨rfl,rfl⟩:=h;obtain⟨C,a⟩:=(iJ _ _ _).1 K;obtain⟨N,d⟩:=oF.1 T;simp only at R⊢;rw[M? j n a]at R⊢;obtain⟨l,c⟩:=a;have:((j+(n:Int)+9223372036854775808) % 18446744073709551616-9223372036854775808-j).toNat=n:=I;rw[this,C,N];simp
def Ab{r:y'}(a:v.aG=3)(l:v.bJ=P')(Y:v.first=0)(b:v.rank=0)(R:v.lo<=v.hi)(B:tU v):sU ((ZD v.lo++iA (v.hi-v.lo).toNat)++r)=B' (v,r):=by obtain⟨x,j,S,bJ,first,c⟩:=v;simp only at a l Y b R;subst a l Y b;have X:=B.lo;have V:=B.hi;simp only at X V⊢;rw[sU,(iJ _ j (iA (S-j).toNat++r)).2 ⟨ak,X⟩];simp only;obtain⟨C,a⟩:=X;obtain⟨N,d⟩:=V;rw[(rF _ (S-j).toNat r).2 ⟨rfl,I⟩];simp only;rw[M? j _ ⟨C,a⟩];congr 3;omega
def Rv{b:UInt8}(h:b.toNat=1):b=1:=by apply oS;rw[h];rfl
def aaI{b:UInt8}(h:b.toNat=2):b=2:=by apply oS;rw[h];rfl
def VL{b:UInt8}(h:b.toNat=0):b=0:=by apply oS;rw[h];rfl
def p5{l r:y'}{f:Bool}(h:fO l=B' (f,r)):l=(if f then 1 else 0)::r:=by
 unfold fO at h;cases l with
 |nil=>cases h
 |cons b q=>
  simp only at h;split at h;rotate_left
  ·cases h
  rename_i a;simp at h;obtain⟨rfl,rfl⟩:=h;by_cases C:b.toNat=1
  ·rw[Rv C];rfl
  have D:b.toNat=0:=I;rw[VL D];rfl
def xG{l r:y'}(U:p≠6)(h:kq g l=B' (v,r)):l=jo p g v++r:=by
 unfold kq at h;cases l with
 |nil=>cases h
 |cons b q=>
  simp only at h;by_cases C:b.toNat=1
  ·rw[aB C]at h;cases K:iK q with
   |none=>rw[K]at h;cases h
   |some pp=>obtain⟨x,F⟩:=pp;rw[K]at h;simp at h;obtain⟨rfl,rfl⟩:=h;rw[((iJ _ _ _).1 K).1,Rv C];simp[jo,U]
  rw[aA C]at h;by_cases a:b.toNat=2;rotate_left
  ·rw[aA a]at h;cases h
  rw[aB a]at h;rw[aaI a];by_cases b:g=1;rotate_left
  ·rw[aA b]at h;simp at h;obtain⟨rfl,rfl⟩:=h;simp[jo,U,b]
  rw[aB b]at h;cases Y:fO q with
  |none=>rw[Y]at h;cases h
  |some pp=>
   obtain⟨f,F⟩:=pp;rw[Y]at h;simp only at h;rw[p5 Y];cases f with
   |true=>
    simp only[c!]at h⊢;unfold rD at h;cases K:iK F with
    |none=>rw[K]at h;cases h
    |some s=>
     obtain⟨x,i⟩:=s;rw[K]at h;simp only at h;cases y:fH 100000 i with
     |none=>rw[y]at h;cases h
     |some a=>have k:=a;rw[y]at h;simp at h;obtain⟨rfl,rfl⟩:=h;rw[((iJ _ _ _).1 K).1,((ki I).1 y).1];simp[jo,U,b,fq]
   |false=>simp at h;obtain⟨rfl,rfl⟩:=h;simp[jo,U,b]
def qO{rk:Int}{r:y'}(U:p≠6)(o:eM p g rk v=O')(W:0<=rk)(B:tU v):kq g (jo p g v++r)=B' (v,r):=by
 obtain⟨x,j,S,bJ,first,a⟩:=v;unfold eM at o;rw[aA U]at o;have X:=B.lo;have Y:=B.first;simp only at o X Y;cases bJ with
 |true=>simp[nL]at o;obtain⟨⟨⟨⟨⟨b,C⟩,c⟩,rfl⟩,rfl⟩,rfl⟩:=o;subst b;simp only[jo,U,c!,bU];rw[aA aj];simp only[cW,kq,fO,rD];rw[aA aj,aB aj,aB trivial,aB aj];simp only[show decide ((1:UInt8).toNat=1)=O' from rfl,c!];rw[(iJ _ first (fq a++r)).2 ⟨ak,Y⟩];simp only;rw[mJ r I I I];simp only;congr 3;omega
 |false=>
  simp at o;rcases o with⟨⟨⟨rfl,rfl⟩,rfl⟩,rfl⟩|⟨⟨⟨⟨rfl,rfl⟩,rfl⟩,rfl⟩,rfl⟩
  ·simp only[jo,U,c!,bU,cW,kq];rw[aB aj,(iJ _ j r).2 ⟨rfl,X⟩]
  simp only[jo,U,bU];rw[aA aj];by_cases b:g=1
  ·simp only[b,c!,bO,bU,cW,ej,kq,fO];rw[aA aj,aB aj,aB aj];rfl
  simp only[b,bU,cW,ej,kq];rw[aA aj,aB aj]
def gi{α:Type}(step:Unit->y'->Option ((α×Unit)×y'))(B:α->y')(P:α->Prop)(h:∀l x u r,step () l=B' ((x,u),r)->P x->l=B x++r):∀(n:Nat) (l:y') (D:List α) (u:Unit) (r:y'),bp step n () l=B' ((D,u),r)->(∀x∈D,P x)->l=D.flatMap B++r
 |0,l,D,u,r,a,hP=>by simp[bp]at a;obtain⟨rfl,rfl⟩:=a;rfl
 |n+1,l,D,u,r,a,hP=>by
  rw[bp]at a;cases c:step () l with
  |none=>rw[c]at a;cases a
  |some p=>
   obtain⟨⟨x,R⟩,q⟩:=p;rw[c]at a;simp only at a;cases b:bp step n R q with
   |none=>rw[b]at a;cases a
   |some d=>obtain⟨⟨z,i⟩,F⟩:=d;rw[b]at a;simp at a;obtain⟨rfl,rfl⟩:=a;have C:=gi step B P h n q z i F b (λy B=>hP y (by simp[B]));rw[h l x R q c (hP x ak),C];simp
def ew{α:Type}(step:Unit->y'->Option ((α×Unit)×y'))(B:α->y'):∀(D:List α) (r:y'),(∀x∈D,∀r,step () (B x++r)=B' ((x,()),r))->bp step (ζ D) () (D.flatMap B++r)=B' ((D,()),r)
 |[],r,_=>rfl
 |x::D,r,h=>by rw[cC,bp,cN,ef,h x ak];simp only;rw[ew step B D r (λy B=>h y (by simp[B]))]
def vH:∀(n Y:Nat) (l:y') (o:List Int) (st:Nat) (r:y'),bp iI n Y l=B' ((o,st),r)->l=(eV (Y:Int) o).flatMap fq++r/\cU (Y:Int) o=O'
 |0,Y,l,o,st,r,h=>by simp[bp]at h;obtain⟨⟨rfl,_⟩,rfl⟩:=h;exact⟨rfl,rfl⟩
 |n + 1,Y,l,o,st,r,h=>by
  rw[bp]at h;cases y:iI Y l with
  |none=>rw[y]at h;cases h
  |some p=>
   obtain⟨⟨x,f⟩,q⟩:=p;rw[y]at h;simp only at h;cases b:bp iI n f q with
   |none=>rw[b]at h;cases h
   |some c=>
    have z:=c;rw[b]at h;simp at h;obtain⟨⟨rfl,_⟩,rfl⟩:=h;unfold iI at y;cases hm:fH (100000-(Y:Int)) l with
    |none=>rw[hm]at y;cases y
    |some s=>
     obtain⟨m,i⟩:=s;rw[hm]at y;simp only[fD,eR]at y;obtain⟨⟨rfl,rfl⟩,rfl⟩:=y;obtain⟨C,c⟩:=(ki I).1 hm;obtain⟨N,d⟩:=vH n (Y+m+1) _ _ _ _ b;have e:((Y+m+1:Nat):Int)=((Y+m:Nat):Int)+1:=I;rw[e]at N d;refine⟨?_,?_⟩
     ·have u:fq (((Y+m:Nat):Int)-(Y:Int))=iA m:=by unfold fq;congr 1;omega
      rw[C,N];simp only[eV,cN,ef,u]
     simp only[cU,d,rh,bh,bq];omega
def pI:∀(o:List Int) (Y:Nat) (r:y'),cU (Y:Int) o=O'->∃st,bp iI (ζ o) Y ((eV (Y:Int) o).flatMap fq++r)=B' ((o,st),r)
 |[],Y,r,_=>⟨Y,rfl⟩
 |f::o,Y,r,h=>by
  simp only[cU,bh,bq]at h;obtain⟨⟨C,b⟩,N⟩:=h;have e:f+1=((Y+(f-Y).toNat+1:Nat):Int):=I;rw[e]at N;obtain⟨st,R⟩:=pI o _ r N;refine⟨st,?_⟩;rw[cC,bp];simp only[eV,cN,ef];have y:iI Y (fq (f-(Y:Int))++((eV (f+1) o).flatMap fq++r))=B' ((f,Y+(f-Y).toNat+1),(eV (f+1) o).flatMap fq++r):=by rw[iI,mJ _ I I I];simp only;congr 3;omega
  rw[y];simp only;rw[e,R]
def vi:∀(l:y') (x:Int) (u:Unit) (r:y'),ib () l=B' ((x,u),r)->True->l=fq x++r:=by
 intro l x u r h _;unfold ib at h;cases d:fH 100000 l with
 |none=>rw[d]at h;cases h
 |some p=>have m:=p;rw[d]at h;simp at h;obtain⟨rfl,rfl⟩:=h;rw[((ki I).1 d).1];simp[fq]
def EW:∀(n:Nat) (l:y') (D:List Int) (u:Unit) (r:y'),bp ib n () l=B' ((D,u),r)->D.all rk=O'
 |0,l,D,u,r,h=>by simp[bp]at h;rw[h.1];rfl
 |n + 1,l,D,u,r,h=>by
  rw[bp]at h;cases y:ib () l with
  |none=>rw[y]at h;cases h
  |some p=>
   obtain⟨⟨x,R⟩,q⟩:=p;rw[y]at h;simp only at h;cases a:bp ib n R q with
   |none=>rw[a]at h;cases h
   |some b=>
    obtain⟨⟨z,i⟩,F⟩:=b;rw[a]at h;simp at h;obtain⟨rfl,rfl⟩:=h;have C:=EW n q z i F a;unfold ib at y;cases d:fH 100000 l with
    |none=>rw[d]at y;cases y
    |some s=>have m:=s;rw[d]at y;simp at y;obtain⟨rfl,_⟩:=y;have:=((ki I).1 d).2;rw[qC,C,rh];simp[rk];omega
def xH{l r:y'}(h:uC g l=B' (n,r)):l=setB n++r/\dV g n=O'/\ζ n.facts<=ζ l/\ζ n.aW<=ζ n.facts:=by
 unfold uC at h;cases hm:fH (ζ l:Int) l with
 |none=>rw[hm]at h;cases h
 |some p=>
  obtain⟨k,q⟩:=p;rw[hm]at h;simp only at h;have L:=uB hm;have z:l=iA k++q:=by
   unfold fH at hm;cases T:rc l with
   |none=>rw[T]at hm;cases hm
   |some pp=>
    have m:=pp;rw[T]at hm;simp only at hm;split at hm
    ·simp at hm;obtain⟨rfl,rfl⟩:=hm;exact(oF.1 T).1
    cases hm
  cases Y:bp iI k 0 q with
  |none=>rw[Y]at h;cases h
  |some b=>
   obtain⟨⟨o,st⟩,F⟩:=b;rw[Y]at h;simp only at h;obtain⟨C,i⟩:=vH k 0 q o st F Y;have N:=dG _ _ _ _ _ _ _ Y;by_cases f:g=1;rotate_left
   ·rw[aA f]at h;simp at h;obtain⟨rfl,rfl⟩:=h;refine⟨?_,?_,?_,?_⟩
    ·rw[z,C];simp[setB,N]
    ·have b:cU 0 o=O':=i;simp[dV,eD,f,b]
    ·simp only;omega
    simp
   rw[aB f]at h;cases e:bp ib k () F with
   |none=>rw[e]at h;cases h
   |some s=>
    have y:=s;rw[e]at h;simp at h;obtain⟨rfl,rfl⟩:=h;have d:=gi ib fq (λ_=>True) vi _ _ _ _ _ e (λ_ _=>trivial);have l:=dG _ _ _ _ _ _ _ e;refine⟨?_,?_,?_,?_⟩
    ·rw[z,C,d];simp[setB,N]
    ·have c:=EW _ _ _ _ _ e;have b:cU 0 o=O':=i;simp only[dV,eD,f,c!,b,c,N,l];simp
    ·simp only;omega
    simp only;omega
def DC(f:Int->y')(h:∀x,1<=ζ (f x)):∀(l:List Int),ζ l<=ζ (l.flatMap f)
 |[]=>ak
 |x::l=>by have C:=DC f h l;have a:=h x;simp only[cN,bF,cC];omega
def Ut(n:Nat):1<=ζ (iA n):=by
 by_cases h:n<128
 ·rw[cS h];simp
 rw[lO h];simp
def zX{r:y'}(h:dV g n=O'):uC g (setB n++r)=B' (n,r):=by
 obtain⟨o,y,i,k,E⟩:=n;simp only[dV,bh,gW,bq,h!]at h;obtain⟨⟨⟨⟨rfl,rfl⟩,rfl⟩,C⟩,b⟩:=h;simp only[uC,setB,ef];have X:=Oq C;have hm:fH (ζ (iA (ζ o)++((eV 0 o).flatMap fq++(y.flatMap fq++r))):Int) (iA (ζ o)++((eV 0 o).flatMap fq++(y.flatMap fq++r)))=B' (ζ o,(eV 0 o).flatMap fq++(y.flatMap fq++r)):=by rw[fH,(rF _ (ζ o) _).2 ⟨rfl,I⟩];simp only;rw[aB];have N:=DC fq (λx=>Ut _) (eV 0 o);rw[r6]at N;simp only[bF];omega
 rw[hm];simp only;obtain⟨st,R⟩:=pI o 0 (y.flatMap fq++r) C;rw[show((0:Nat):Int)=0 from rfl]at R;rw[R];simp only;unfold eD at b;by_cases c:g=1;rotate_left
 ·rw[aA c]at b⊢;simp only[h!]at b;subst b;simp
 rw[aB c]at b⊢;simp only[bh,bq]at b
 have d:=ew ib fq y r (λx F r=>by
  have l:=cF.1 b.2 x F;simp only[rk,bh,bq]at l;rw[ib,mJ r I I I];simp only;congr 3
  omega)
 rw[b.1]at d;rw[d]
def JS{l r:y'}(h:uE p g l=B' (n,r))(o:eN p g n=O'):n.aD=O'/\l=zj p g n++r:=by
 unfold uE at h;cases b:lB g l with
 |none=>rw[b]at h;cases h
 |some F=>
  obtain⟨rk,a⟩:=F;rw[b]at h;simp only at h;cases d:fH 8 a with
  |none=>rw[d]at h;cases h
  |some a=>
   obtain⟨k,P⟩:=a;rw[d]at h;simp only at h;cases R:bp (iH p g) k () P with
   |none=>rw[R]at h;cases h
   |some s=>
    obtain⟨⟨E,u⟩,D⟩:=s;rw[R]at h;simp at h;obtain⟨rfl,rfl⟩:=h;refine⟨rfl,?_⟩;simp only[eN,bh]at o;have e:=cF.1 o.2
    have C:=gi (iH p g) (jo p g) (λv=>eM p g (rk:Int) v=O') (λl x u r y hP=>by
     unfold iH at y;by_cases c:p=6
     ·rw[aB c]at y;cases f:sU l with
      |none=>rw[f]at y;cases y
      |some a=>obtain⟨v,q⟩:=a;rw[f]at y;simp at y;obtain⟨rfl,rfl⟩:=y;unfold eM at hP;rw[aB c]at hP;simp only[bh,bq]at hP;rw[J6 f hP.2];simp[jo,c]
     ·rw[aA c]at y;cases f:kq g l with
      |none=>rw[f]at y;cases y
      |some a=>
       obtain⟨v,q⟩:=a;rw[f]at y;simp at y;obtain⟨rfl,rfl⟩:=y
       exact xG c f) _ _ _ _ _ R (λv R=>e v R)
    have c:=dG _ _ _ _ _ _ _ R;have N:=(ki I).1 d;unfold lB at b;by_cases a:g=1
    ·rw[aB a]at b;have d:=(ki I).1 b;rw[d.1,N.1,C];simp[zj,a,c,fq]
    rw[aA a]at b;simp at b;obtain⟨rfl,rfl⟩:=b;rw[N.1,C];simp[zj,a,c]
def aai{p:Prop}(h:p:=by
 by_cases b:g=1
 ·rw[aB b,aB b,mJ _ I I I]
 rw[aA b,aA b];rcases a with h|h
 ·exact absurd h b
 rw[h];rfl):p:=h
def z7{r:y'}(o:eN p g n=O')(b:n.aD=O')(B:dY n):uE p g (zj p g n++r)=B' (n,r):=by
 obtain⟨a,y,i,k,E⟩:=n;simp only[eN,bh,gX,bq,h!,rk]at o;obtain⟨⟨⟨⟨⟨rfl,rfl⟩,W⟩,f⟩,a⟩,e⟩:=o;simp only at b;subst b;simp only[uE,zj,ef];have C:lB g ((if g=1 then fq k else[])++(iA (ζ E)++(E.flatMap (jo p g)++r)))=B' (k.toNat,iA (ζ E)++(E.flatMap (jo p g)++r)):=by unfold lB;exact aai
 rw[C];simp only;rw[lA _ I I];simp only
 rw[ew (iH p g) (jo p g) E r (λv R r=>by
  have j:=(cF.1 e) v R;have d:=B.vals v R;unfold iH;by_cases c:p=6
  ·rw[aB c];unfold eM at j;rw[aB c]at j;simp only[bh,gW,bq]at j;obtain⟨⟨⟨⟨N,a⟩,b⟩,C⟩,t⟩:=j;rw[show jo p g v=ZD v.lo++iA (v.hi-v.lo).toNat by simp[jo,c],Ab N a b C t d]
  ·rw[aA c,qO c j f.1 d])]
 simp only;congr 3;omega
def Fg{l r:y'}(h:jQ p g l=B' (n,r))(o:bA p g n=O'):l=eA p g n++r:=by
 unfold jQ at h;unfold bA at o;by_cases U:p<=4
 ·rw[aB U]at h o;rw[(xH h).1];simp[eA,U]
 rw[aA U]at h o;cases Y:fO l with
 |none=>rw[Y]at h;cases h
 |some F=>
  obtain⟨f,q⟩:=F;rw[Y]at h;rw[p5 Y];cases f with
  |true=>
   simp only at h;have a:n.aD=O':=by
    unfold uE at h;split at h
    ·split at h
     ·split at h
      ·simp at h;rw[<-h.1]
      cases h
     cases h
    cases h
   rw[aB a]at o;obtain⟨_,b⟩:=JS h o;rw[b];simp[eA,U,a]
  |false=>simp at h;obtain⟨rfl,rfl⟩:=h;simp[eA,U,nN]
def xK{r:y'}(o:bA p g n=O')(B:dY n):jQ p g (eA p g n++r)=B' (n,r):=by
 unfold jQ eA;unfold bA at o;by_cases U:p<=4
 ·rw[aB U]at o⊢;rw[aB U];exact zX o
 rw[aA U]at o⊢;rw[aA U];by_cases a:n.aD=O'
 ·rw[aB a]at o⊢;simp only[cW,fO];rw[aB aj];exact z7 o a B
 rw[aA a]at o⊢;simp only[cW,ej,fO];rw[aB aj];obtain⟨a,y,i,k,E⟩:=n;simp only[fX,bh,gW,bq,h!]at o;obtain⟨⟨⟨⟨rfl,rfl⟩,rfl⟩,rfl⟩,rfl⟩:=o;rfl
end
def eG.fr{a:u'}{B f:Nat}{x:N5}(h:eG W B x)(Y:Fr P W a)(hP:∀j,B<=j->P j)(v:f<=B):eG a f x:=
 ⟨a! (Y.own h.f (λk a=>hP k (h.f.lt k a).1)) v,a! (Y.own h.r (λk a=>hP k (h.r.lt k a).1)) v,a! (Y.own h.v (λk a=>hP k (h.v.lt k a).1)) v,h.ap⟩
def U6.up{V g:u'}{c:Nat}{d:z'}{a b:Option (Nd×y')}(h:U6 V W c d a e)(B:δ w.1<=δ V.1)(Y:Fr P W g)(hP:∀j,δ V.1<=j->P j)(f:P c)(y:d.size<=s.size)(i:a=b):U6 w g c s b e:=by
 subst i;rcases h with⟨x,a,C,b,N,d,l⟩|⟨C,x,a,b,N,d⟩
 ·exact aI ⟨x,a,C,bD b y,N,d.fr Y hP B,l.fr Y f⟩
 exact aK ⟨C,x,a,b,bD N y,d.fr Y f⟩
def Dn{c:u'}{b:Nat}{a:Option (Nd×y')}(h:U6 w c b s a e):∃x:N5,e=p' (mf x):=by
 rcases h with⟨x,b,C,a,N,d,l⟩|⟨C,x,b,a,N,d⟩
 ·exact⟨x,N⟩
 exact⟨x,a⟩
def Kd(rb:Nat)(p g:Int)(s:z')(z:Bool)(w:u')(h:dq w rb s z)(hs:s.size<=60000):
  Cl 160 #[o' (B' (O rb 0)),l' #[G p,G g]] w λe l=>U6 w l rb s (et z (jQ p g) s) e/\Fr (λj=>j≠rb) w l:=by
 have L:=h.lt;have d:=(show J (dq w rb s z)from h);clear h;go_enter func160,ntmps160;go_upto_region 1 with(fail)
 obtain⟨S,X⟩:=Ea (((w.alloc (fL p g)).alloc (k' gH 96)));rw[<-X];have D:δ S.1=δ w.1+2:=by rw[X];simp
 obtain⟨Q,y⟩:=bL w (fL p g) (k' gH 96);rw[<-X]at Q y;have b:dq S rb s z:=by rw[X];exact(d.o.alloc _).alloc _
 have a:Fr (λj=>j≠rb) w S:=by rw[X];exact Fr.aX cG
 have W:=hid (A Q (A y (A b a)));have E:=M Q;clear Q y b a X;obtain⟨Y,C⟩:∃b:Bool,decide (p<=4)=b:=⟨_,rfl⟩;cases Y with
 |true=>
  go_wp2_with fail;refine(jZ _ _ _).mono ?_;rw[C];rintro e q ⟨rfl,k⟩;have i:Fr (λ_=>True) S q:=Fr.aX (by rw[k];exact bf);have U:=i.box W.a trivial;have y:=i.box W.b trivial;have c:=W.c.fr i trivial;have P:=i.size;have T:=OS rb p g s z q c hs;have X:=hid (A T (A y (Fr.trans W.C i (λ_ _ _=>trivial))));clear E;have E:=M U;clear U y c T i k;go_wp2_with fail;refine bK X.a ?_;rintro e F ⟨Q,B⟩;obtain⟨x,rfl⟩:=Dn Q;have y:=B.box X.b H';have u:=hid (A Q B);clear E Q B;have E:=M y;clear y;simp only[mf];go_wp2_with fail;refine aC (v:=mf x) (by simp[results160,go_sem,E.1,mf]) rfl ?_;have a:=Xm F (δ w.1+1) (aO x.fa (ζ x.n.facts) x.fc) (aO x.ra (ζ x.n.aW) x.rc) (j' x.n.aD) (G x.n.rank) (aO x.va (ζ x.n.vals) x.vc);refine⟨u.a.up I a (λj f=>by show j≠_;omega) H' aF ?_,?_⟩
  ·have hp:=rq C;unfold et jQ;cases z with
   |true=>rfl
   |false=>simp only[bO,bU];rw[aB hp]
  exact Fr.trans (Fr.trans X.B u.A (λ_ _ h=>h)) a (λj h1 Q=>by show j≠_;omega)
 |false=>
  have K:J ((∀l r,fO l=B' (O',r)->jQ p g l=uE p g r)/\(∀l r,fO l=B' (P',r)->jQ p g l=B' (nN,r))/\(∀l,fO l=C'->jQ p g l=C')):=by have hp:=j9 C;refine⟨λl r h=>?_,λl r h=>?_,λl h=>?_⟩<;>(rw[jQ,aA hp,h])
  go_wp2_with fail;refine(jZ _ _ _).mono ?_;rw[C];rintro e q ⟨rfl,k⟩;have i:Fr (λ_=>True) S q:=Fr.aX (by rw[k];exact bf);have U:=i.box W.a trivial;have y:=i.box W.b trivial;have c:=W.c.fr i trivial;have P:=i.size;have T:=Bv rb s z q c hs;have X:=hid (A T (A U (A y (Fr.trans W.C i (λ_ _ _=>trivial)))));clear E U y c T i k;go_wp2_with fail;refine bK X.a ?_;rintro e F ⟨Q,k⟩;have B:Fr (λj=>j≠rb) q F:=Fr.dj k (λj _ f=>I' f);have U:=B.box X.b H';have y:=B.box X.c H';have R:=Fr.trans X.C B (λ_ _ h=>h);have d:=B.size;clear B k;rcases Q with⟨b,B,i,c,rfl,k⟩|⟨i,rfl,B,c,k⟩;rotate_left
  ·have W:et z (jQ p g) s=C':=by
    apply rV;rcases mN i with h|⟨_,h⟩
    ·exact aI h
    exact aK (K.B _ h)
   have u:=hid (A k (A R W));have E:=M y;clear U y k R i W;go_wp2_with fail;refine aC (v:=mf ⟨C',0,C',0,C',0,nN⟩) (by simp[results160,go_sem,E.1,mf,nN]) rfl ?_;have a:=Xm F (δ w.1+1) (i' C' 0 0) (i' C' 0 0) (j' P') (G 0) (i' C' 0 0);exact⟨aK ⟨u.B,⟨C',0,C',0,C',0,nN⟩,B,rfl,c,u.a.fr a H'⟩,Fr.trans u.b a (λj h1 Q=>by show j≠_;omega)⟩
  obtain⟨rfl,v⟩:=eO i;cases b with
  |true=>
   have T:=OT rb p g B P' F k I;have u:=hid (A T (A y (A R v)));have E:=M U;clear U y k T R i v;go_wp2_with fail;refine bK u.a ?_;rintro e o ⟨N,t⟩;obtain⟨x,rfl⟩:=Dn N;have y:=t.box u.b H';have z:=hid (A N t);clear E N t;have E:=M y;clear y;simp only[mf];go_wp2_with fail;refine aC (v:=mf x) (by simp[results160,go_sem,E.1,mf]) rfl ?_;have a:=Xm o (δ w.1+1) (aO x.fa (ζ x.n.facts) x.fc) (aO x.ra (ζ x.n.aW) x.rc) (j' x.n.aD) (G x.n.rank) (aO x.va (ζ x.n.vals) x.vc);refine⟨z.a.up I a (λj f=>by show j≠_;omega) H' c ?_,?_⟩
   ·unfold et;simp only[bO,bU];rw[K.a _ _ u.C]
   exact Fr.trans (Fr.trans u.c z.A (λ_ _ h=>h)) a (λj h1 Q=>by show j≠_;omega)
  |false=>have u:=hid (A k (A R v));have E:=M y;clear U y k R i v;go_wp2_with fail;refine aC (v:=mf ⟨C',0,C',0,C',0,nN⟩) (by simp[results160,go_sem,E.1,mf,nN]) rfl ?_;have a:=Xm F (δ w.1+1) (i' C' 0 0) (i' C' 0 0) (j' P') (G 0) (i' C' 0 0);refine⟨aI ⟨⟨C',0,C',0,C',0,nN⟩,B,?_,c,rfl,⟨cb,cb,cb,aI rfl⟩,u.a.fr a H'⟩,Fr.trans u.b a (λj h1 Q=>by show j≠_;omega)⟩;simp only[et,bO,bU];rw[K.b _ _ u.B]
def Kk(u o b:Nat)(p g:Int)(y:o≠b)(F:u≠b)(W:u')(s:z')(a:Bool)(i:pR o u b p g W)(h:dq W b s a)(k:s.size<=60000):
  Cl 159 #[o' (B' (O u 0)),o' (B' (O o 0))] W λe c=>U6 W c b s (et a (jQ p g) s) e/\Fr (λj=>j≠b) W c:=by
 have d:=(aY.1 i.1).1;have c:=(aY.1 i.2).1;have f:=h.lt;have f:=hid (A i h);clear i h;go_enter func159,ntmps159;go_upto_region 1 with(fail)
 obtain⟨S,X⟩:=Ea ((W.alloc (k' gH 96)));rw[<-X];have L:Bl W S:=by rw[X];exact bf
 have r:=(L.block o d).trans f.a.1;have R:=(L.block u c).trans f.a.2;have F:d' S W.1.size gH 96:=by rw[X];exact bV
 have D:δ S.1=δ W.1+1:=by rw[X];simp
 have c:dq S b s a:=by rw[X];exact f.A.alloc _
 have T:=Kd b p g s a S c k;have B:=hid (A T (A F L));have E:=M r;have a:=M R;clear r R F c L X T;go_wp2_with fail;refine bK B.a ?_;rintro e t ⟨C,K⟩;obtain⟨x,rfl⟩:=Dn C;have k:=K.box B.b H';have c:=hid (A C K);clear E a C K;have E:=M k;clear k;simp only[mf];go_wp2_with fail;refine aC (v:=mf x) (by simp[results159,go_sem,E.1,mf]) rfl ?_;have a:=Xm t W.1.size (aO x.fa (ζ x.n.facts) x.fc) (aO x.ra (ζ x.n.aW) x.rc) (j' x.n.aD) (G x.n.rank) (aO x.va (ζ x.n.vals) x.vc);refine⟨c.a.up I a (λj f=>by show j≠_;omega) H' aF rfl,?_⟩;exact Fr.trans (Fr.trans (Fr.aX B.B) c.A (λ_ _ h=>h)) a (λj C a=>by show j≠_;omega)
def Io:N5:=⟨C',0,C',0,C',0,nN⟩
def Ga(a b:List N5):dJ (a++b)=dJ a++dJ b:=by simp[dJ]
def F!(E:List N5)(k j:Nat)(v:N5)(h:E[k]?=B' v)(f:j<5):(dJ E)[k*5+j]?=(eB v)[j]?:=by have C:(eB v)[j]?=B' ((eB v)[j]'(by simp[eB];omega)):=bR _;rw[C];exact wI _ k v h j _ C
def Kv(n:Nat):(madeCells (l' gH).cells (n*5)).toList=dJ (replicate n Io):=by
 rw[show(l' gH).cells=gH from rfl];apply lV;intro j;by_cases f:j<n*5;rotate_left
 ·rw[dA (by simp[madeCells];omega),dA (by rw[gR];simp;omega)]
 have C:(dJ (replicate n Io))[j / 5*5+j % 5]?=(eB Io)[j % 5]?:=F! _ (j / 5) (j % 5) Io (by rw[oV,aB I]) I;rw[show j / 5*5+j % 5=j by omega]at C;rw[C];have c:j % 5<5:=AJ _ I;simp only[madeCells,Cu,Cs,cg,w7 f,m?];show B' #[i' C' 0 0,i' C' 0 0,j' P',G 0,i' C' 0 0][j % 5]! = _;generalize j % 5=r at c;have:r=0\/r=1\/r=2\/r=3\/r=4:=I;rcases this with rfl|rfl|rfl|rfl|rfl<;>rfl
def acA(D:List N5)(n k:Nat)(x:N5)(a:ζ D=k)(K:k<n):
  (((((dJ (D++replicate (n-k) Io)).set (k*5) (aO x.fa (ζ x.n.facts) x.fc)).set (k*5+1) (aO x.ra (ζ x.n.aW) x.rc)).set (k*5+2) (j' x.n.aD)).set (k*5+3) (G x.n.rank)).set (k*5+4) (aO x.va (ζ x.n.vals) x.vc)=dJ ((D++[x])++replicate (n-(k+1)) Io):=by
 have X:=gR D;rw[a]at X;rw[show n-k=(n-(k+1))+1 by omega,gF];simp only[Ga,ef];rw[show dJ (Io::replicate (n-(k+1)) Io)=eB Io++dJ (replicate (n-(k+1)) Io)from rfl,show dJ [x]=eB x by simp[dJ]];generalize dJ (replicate (n-(k+1)) Io)=r;generalize dJ D=a at X;generalize k*5=m at X;have o:∀(l:List A') (y:A'),(a++l).set m y=a++l.set 0 y:=λl y=>xF a l m 0 y X;rw[o,jl X,jl X,jl X,jl X];rfl
def lZ(D:List N5)(n k j:Nat)(a:ζ D=k)(K:k<n)(f:j<5):(dJ (D++replicate (n-k) Io))[k*5+j]?=(eB Io)[j]?:=by exact F! _ k j Io (by rw[ek I,a,kH,oV,aB I]) f
def blks(x:N5):List Nat:=[φ x.fv,φ x.rv,φ x.vv].filterMap id
def Eh(cl:List N5):Prop:=cl.Pairwise (λa b=>∀i∈blks a,∀j∈blks b,i<j)
def eG.blks{W:u'}{B:Nat}{x:N5}(h:eG W B x):∀i∈blks x,B<=i/\i<δ W.1:=by
 intro i S;simp only[Go.Proofs.YtmipbiligijcpaaGreatDoor.blks,Ey,id,dr,ke,jf]at S;obtain⟨a,a,b⟩:=S;subst b;rcases a with a|a|a
 ·exact h.f.lt i a.symm
 ·exact h.r.lt i a.symm
 exact h.v.lt i a.symm
def eG.grown{W c:u'}{B k:Nat}{x:N5}(h:eG W B x)(b:ξ W c (B' k))(a:∃Y f,W.1[k]?=B' (k' Y 96 f)):eG c B x:=
 ⟨h.f.kept b (rA h.f (λj f=>by cases f;exact a) aj),h.r.kept b (rA h.r (λj f=>by cases f;exact a) aj),h.v.kept b (rA h.v (λj f=>by cases f;exact a) aj),h.ap⟩
def Kp{w wr F o:u'}{n a k:Nat}{D:List N5}{x:N5}{P:Nat->Prop}{z:List A'}(h:(∀c∈D,eG wr w.1.size c)/\Eh D)(d:eG F wr.1.size x)(Y:Fr P wr F)(B:δ w.1<=δ wr.1)(hP:∀j,δ w.1<=j->P j)(b:ξ F o (B' k))(l:ρ F w.1.size 96 5 (iF k n a) n z):
  (∀c∈D++[x],eG o w.1.size c)/\Eh (D++[x]):=by
 have a:=eI l k rfl;constructor
 ·intro c T;rcases eE.1 T with T|T
  ·exact((h.1 c T).fr Y hP aF).grown b a
  simp at T;subst T;have:=d.grown b a;exact⟨a! this.f B,a! this.r B,a! this.v B,this.ap⟩
 rw[Eh,Qo];refine⟨h.2,Qn _ _,?_⟩;intro a c b b i S j f;simp at b;subst b;have C:=(h.1 a c).blks i S;have a:=d.blks j f;omega
def U8(w W':u')(rb n:Nat)(s:z')(bad:Bool)(p g:Int)(e:Ending):Prop:=
  ((∃(cl:List N5) (s':z') (la:x') (lc:Nat),et bad (bp (gE p g) n ()) s=B' ((cl.map N5.n,()),s'.1.1)/\s'.size<=s.size/\e=p' (i' la n lc)/\(la=C'->lc=0)/\ρ W' w.1.size 96 5 (i' la n lc) n (dJ cl)/\(∀c∈cl,eG W' w.1.size c)/\Eh cl/\dq W' rb s' P')\/
   ((bad=O'\/et bad (bp (gE p g) n ()) s=C')/\e=p' (i' C' 0 0)/\∃s',s'.size<=s.size/\dq W' rb s' O'))
def Kj(p g:Int)(u o W n:Nat)(s:z')(bad:Bool)(w:u')(a:o≠W)(v:u≠W)(h:dq w W s bad)(S:pR o u W p g w)(y:s.size<=60000)(t:n<=100000000):
  Cl 157 #[o' (B' (O W 0)),G n,.func (.func 159) #[] #[o' (B' (O u 0)),o' (B' (O o 0))]] w λe t=>
   U8 w t W n s bad p g e/\Fr (λj=>j≠W) w t:=by
 have L:=(aY.1 h).1;have U:=(aY.1 S.1).1;have R:=(aY.1 S.2).1;have E:=hid (A h S);clear h S;by_cases h0:n=0
 ·subst h0;go_enter func157,ntmps157;go_wp2_with fail;go_ret;refine⟨?_,Fr.refl _ _⟩;cases bad with
  |false=>exact aI ⟨[],s,C',0,rfl,aF,rfl,λ_=>rfl,cb,(λc T=>by cases T),List.Pairwise.nil,E.a⟩
  |true=>exact aK ⟨aI rfl,rfl,s,aF,E.a⟩
 obtain⟨X,S,D,P,b⟩:=cQ yT;have t:=hid (A S (A D (A P b)));clear S D P b;have V:((n:Int)==0)=P':=by rw[b?];omega
 go_enter func157,ntmps157;go_wp2_with (at_make;refine j8 _ rfl (.tmp 11) (.tmp 11) 46 rfl w.1.size 96 X (l' gH) 5 underlying46 t.a t.b t.c .i64 .i64 n n n rfl rfl rfl rfl (by rw[t.C];omega) (by unfold maxLen;omega) ak ?_;intro t b d;have f:=hid (A b d);clear b d);have r:J (ρ t w.1.size 96 5 (dU w.1.size n) n (dJ (([]:List N5)++replicate (n-0) Io))/\dq t W s bad/\pR o u W p g t/\Fr (λj=>j≠W) w t):=by obtain⟨C,N⟩:=f.o;rw[Kv]at C;refine⟨I' C,E.a.grown N ak,⟨(N.block _ U ak).trans E.b,(N.block _ R ak).trans E.B⟩,Fr.dj N (λk _ _=>ak)⟩
 clear f;go_loopw[15] (λy wr=>∃(k:Nat) (D:List N5) (s2:z'),k<=n/\y=G k/\s2.size<=s.size/\J (ζ D=k)/\J (bp (gE p g) k () s.1.1=B' ((D.map N5.n,()),s2.1.1)/\(0<k->bad=P'))/\J (ρ wr w.1.size 96 5 (dU w.1.size n) n (dJ (D++replicate (n-k) Io))/\dq wr W s2 (if k=0 then bad else P')/\pR o u W p g wr/\Fr (λj=>j≠W) w wr)/\J ((∀c∈D,eG wr w.1.size c)/\Eh D)) (λy _=>n-(intOf y).toNat)
 case atStart=>exact⟨0,[],s,bj,rfl,aF,rfl,⟨rfl,(λh=>I)⟩,⟨r.a,r.b,r.c,r.C⟩,(λc T=>by cases T),List.Pairwise.nil⟩
 clear r;obtain⟨k,D,s2,t,rfl,Q,P,f,b,HV⟩:=hrel;by_cases L:k<n;rotate_left
 ·obtain rfl:k=n:=I;have d:¬(k:Int)<k:=I;have t:J (et bad (bp (gE p g) k ()) s=B' ((D.map N5.n,()),s2.1.1)):=by show _=_;rw[f.A I];exact f.a
  go_wp2_with fail;go_ret;refine⟨aI ⟨D,s2,B' (O w.1.size 0),k,t.o,Q,rfl,(λh=>by cases h),?_,HV.a,HV.A,?_⟩,b.C⟩
  ·have:=b.a;simpa using this
  have:=b.b;rwa[aA h0]at this
 have d:(k:Int)<n:=I;have T:=Kk u o W p g a v wr s2 (if k=0 then bad else P') b.c b.b I;have d:=hid T;clear T;go_wp2_with fail;refine bK d.o ?_;rintro e F ⟨h2,B⟩;have l:=B.own b.a (λq T=>by simp[Value.ownBlock]at T;subst T;show _≠_;omega);have Y:=b.C.trans B (λq _ T=>T);have z:=b.C.size;have K:pR o u W p g F:=⟨B.box b.c.1 a,B.box b.c.2 v⟩;have a:=B.size;rcases h2 with⟨x,S,i,r,rfl,hvo,hr⟩|⟨i,x,S,rfl,r,hr⟩
 ·simp only[mf];have d:=l.stored (k*5) (aO x.fa (ζ x.n.facts) x.fc);have r:=d.1.stored (k*5+1) (aO x.ra (ζ x.n.aW) x.rc);have v:=r.1.stored (k*5+2) (j' x.n.aD);have a:=v.1.stored (k*5+3) (G x.n.rank);have t:=a.1.stored (k*5+4) (aO x.va (ζ x.n.vals) x.vc);have R:=A t.1 ((((d.2.trans r.2).trans v.2).trans a.2).trans t.2);clear d r v a t;rw[acA D n k x P.o L]at R;have Q:χ F (O w.1.size (k*5))=B' (i' C' 0 0):=(l.cellAt (k*5+0) I).trans (lZ D n k 0 P.o L I);have y:χ F (O w.1.size (k*5+1))=B' (i' C' 0 0):=(l.cellAt (k*5+1) I).trans (lZ D n k 1 P.o L I);have U:χ F (O w.1.size (k*5+2))=B' (j' P'):=(l.cellAt (k*5+2) I).trans (lZ D n k 2 P.o L I);have V:χ F (O w.1.size (k*5+3))=B' (G 0):=(l.cellAt (k*5+3) I).trans (lZ D n k 3 P.o L I);have N:χ F (O w.1.size (k*5+4))=B' (i' C' 0 0):=(l.cellAt (k*5+4) I).trans (lZ D n k 4 P.o L I);have E:=l.frozenAt;have X:=hr.grown R.2 H';have b:=(show pR o u W p g _ from⟨(R.2.block o I H').trans K.1,(R.2.block u I H').trans K.2⟩);have e:=(show(∀c∈D++[x],eG _ w.1.size c)/\Eh (D++[x])from Kp HV.o hvo B z (λj=>by show _->_≠_;omega) R.2 l);have j:=Y.grown R.2 (λq T _=>by simp;omega);have o:=M X;have c:(if k=0 then bad else P')=P'/\gE p g () s2.1.1=B' ((x.n,()),S.1.1):=by generalize(if k=0 then bad else P')=u at i;obtain⟨C,h2⟩:=eO i;exact⟨C,by rw[gE,h2]⟩
  have u:=hid (A c (A R.1 (A X (A b (A j e)))));clear c R X b j i hr K l Y B e hvo;go_wp2_with fail;refine⟨⟨k+1,D++[x],S,I,f',I,by show _=_;rw[bF,P.o];rfl,⟨?_,λ_=>?_⟩,⟨u.b,?_,u.d,u.e⟩,u.E⟩,by simp[intOf];omega⟩
  ·rw[gZ,f.a];simp only;rw[u.a.2,eW];rfl
  ·by_cases b:k=0
   ·have:=u.a.1;rwa[aB b]at this
   exact f.A I
  rw[aA I];exact u.c
 simp only[mf];have d:=l.stored (k*5) (aO x.fa (ζ x.n.facts) x.fc);have r:=d.1.stored (k*5+1) (aO x.ra (ζ x.n.aW) x.rc);have v:=r.1.stored (k*5+2) (j' x.n.aD);have a:=v.1.stored (k*5+3) (G x.n.rank);have t:=a.1.stored (k*5+4) (aO x.va (ζ x.n.vals) x.vc);have R:=A t.1 ((((d.2.trans r.2).trans v.2).trans a.2).trans t.2);clear d r v a t;have Q:χ F (O w.1.size (k*5))=B' (i' C' 0 0):=(l.cellAt (k*5+0) I).trans (lZ D n k 0 P.o L I);have y:χ F (O w.1.size (k*5+1))=B' (i' C' 0 0):=(l.cellAt (k*5+1) I).trans (lZ D n k 1 P.o L I);have U:χ F (O w.1.size (k*5+2))=B' (j' P'):=(l.cellAt (k*5+2) I).trans (lZ D n k 2 P.o L I);have V:χ F (O w.1.size (k*5+3))=B' (G 0):=(l.cellAt (k*5+3) I).trans (lZ D n k 3 P.o L I);have N:χ F (O w.1.size (k*5+4))=B' (i' C' 0 0):=(l.cellAt (k*5+4) I).trans (lZ D n k 4 P.o L I);have E:=l.frozenAt;have X:=hr.grown R.2 H';have j:=Y.grown R.2 (λq T _=>by simp;omega);have o:=M X;have W:et bad (bp (gE p g) n ()) s=C':=by
  unfold et;cases v:bad with
  |true=>rfl
  |false=>
   simp only[bO,bU];have c:gE p g () s2.1.1=C':=by
    rw[v]at i;rcases mN i with h|⟨_,h⟩
    ·simp at h
    rw[gE,h]
   refine rC (gE p g) (k:=k+1) ?_ I;rw[gZ,f.a];simp only;rw[c]
 have u:=hid (A W (A X j));clear W R X j i hr K l Y B;go_wp2_with fail;go_ret;exact⟨aK ⟨aK u.a,rfl,S,I,u.b⟩,u.B⟩
section
variable {n:Nd} {x p:Int} {v:Vl} {u:Unit} {c:Ct}
def wu{a:Int}{l r:y'}{n:Nat}(h:fH a l=B' (n,r)):ζ r<=ζ l/\n<18446744073709551616:=by
 unfold fH at h;cases T:rc l with
 |none=>rw[T]at h;cases h
 |some p=>
  have m:=p;rw[T]at h;simp only at h;split at h
  ·simp at h;obtain⟨rfl,rfl⟩:=h;obtain⟨C,a⟩:=oF.1 T;rw[C];exact⟨ak,a⟩
  cases h
def xJ{l r:y'}(h:iK l=B' (x,r)):ζ r<=ζ l/\lr x:=by obtain⟨C,a⟩:=(iJ _ _ _).1 h;rw[C];exact⟨ak,a⟩
def GF(h:0<=x)(a:x<=100):lr x:=⟨I,I⟩
def jX:lr 0:=⟨I,I⟩
def afh(x:Int):lr (wrap64 x):=⟨by unfold wrap64;omega,by unfold wrap64;omega⟩
def Wd{l r:y'}(h:sU l=B' (v,r)):ζ r<=ζ l/\tU v:=by
 unfold sU at h;cases K:iK l with
 |none=>rw[K]at h;cases h
 |some p=>
  obtain⟨j,q⟩:=p;rw[K]at h;simp only at h;cases T:rc q with
  |none=>rw[T]at h;cases h
  |some a=>
   obtain⟨n,F⟩:=a;rw[T]at h;simp at h;obtain⟨rfl,rfl⟩:=h;have C:=xJ K;have a:ζ F<=ζ q:=by rw[(oF.1 T).1];simp
   exact⟨I,GF (x:=3) I I,C.2,afh _,jX,jX⟩
def Bd{l r:y'}{f:Bool}(h:fO l=B' (f,r)):ζ r<=ζ l:=by rw[p5 h];simp
def VX{l r:y'}(h:kq g l=B' (v,r)):ζ r<=ζ l/\tU v:=by
 unfold kq at h;cases l with
 |nil=>cases h
 |cons b q=>
  simp only at h;by_cases C:b.toNat=1
  ·rw[aB C]at h;cases K:iK q with
   |none=>rw[K]at h;cases h
   |some pp=>obtain⟨x,F⟩:=pp;rw[K]at h;simp at h;obtain⟨rfl,rfl⟩:=h;have:=xJ K;exact⟨H',GF (x:=1) I I,this.2,jX,jX,jX⟩
  rw[aA C]at h;by_cases a:b.toNat=2;rotate_left
  ·rw[aA a]at h;cases h
  rw[aB a]at h;by_cases c:g=1;rotate_left
  ·rw[aA c]at h;simp at h;obtain⟨rfl,rfl⟩:=h;exact⟨ak,GF (x:=2) I I,jX,jX,jX,jX⟩
  rw[aB c]at h;cases Y:fO q with
  |none=>rw[Y]at h;cases h
  |some pp=>
   obtain⟨f,F⟩:=pp;rw[Y]at h;simp only at h;have j:=Bd Y;cases f with
   |true=>
    simp only[c!]at h;unfold rD at h;cases K:iK F with
    |none=>rw[K]at h;cases h
    |some s=>
     obtain⟨x,i⟩:=s;rw[K]at h;simp only at h;cases y:fH 100000 i with
     |none=>rw[y]at h;cases h
     |some a=>have k:=a;rw[y]at h;simp at h;obtain⟨rfl,rfl⟩:=h;have N:=xJ K;have a:=wu y;have b:=uB y;exact⟨H',GF (x:=2) I I,jX,jX,N.2,⟨by simp only;omega,by simp only;omega⟩⟩
   |false=>simp at h;obtain⟨rfl,rfl⟩:=h;exact⟨H',GF (x:=2) I I,jX,jX,jX,jX⟩
def RG{l r:y'}(h:iH p g () l=B' ((v,u),r)):ζ r<=ζ l/\tU v:=by
 unfold iH at h;by_cases c:p=6
 ·rw[aB c]at h;cases b:sU l with
  |none=>rw[b]at h;cases h
  |some a=>have R:=a;rw[b]at h;simp at h;obtain⟨rfl,rfl⟩:=h;exact Wd b
 rw[aA c]at h;cases b:kq g l with
 |none=>rw[b]at h;cases h
 |some a=>have R:=a;rw[b]at h;simp at h;obtain⟨rfl,rfl⟩:=h;exact VX b
def xL{α:Type}(step:Unit->y'->Option ((α×Unit)×y'))(P:α->Prop)(h:∀l x u r,ζ l<=60000->step () l=B' ((x,u),r)->ζ r<=ζ l/\P x):∀(n:Nat) (l:y') (D:List α) (u:Unit) (r:y'),ζ l<=60000->bp step n () l=B' ((D,u),r)->ζ r<=ζ l/\∀x∈D,P x
 |0,l,D,u,r,X,hr=>by simp[bp]at hr;obtain⟨rfl,rfl⟩:=hr;exact⟨aF,λx F=>by cases F⟩
 |n+1,l,D,u,r,X,hr=>by
  rw[bp]at hr;cases b:step () l with
  |none=>rw[b]at hr;cases hr
  |some p=>
   obtain⟨⟨x,R⟩,q⟩:=p;rw[b]at hr;simp only at hr;cases a:bp step n R q with
   |none=>rw[a]at hr;cases hr
   |some c=>
    obtain⟨⟨z,i⟩,d⟩:=c;rw[a]at hr;simp at hr;obtain⟨rfl,rfl⟩:=hr;have C:=h l x R q X b;have c:=xL step P h n q z i d I a;refine⟨I,?_⟩;intro y B;rcases dr.1 B with rfl|B
    ·exact C.2
    exact c.2 y B
def Fo:∀(o:List Int) (Y:Int),0<=Y->cU Y o=O'->∀f∈o,lr f
 |[],_,_,_,f,hf=>by cases hf
 |a::o,Y,D,h,f,hf=>by
  simp only[cU,bh,bq]at h;rcases dr.1 hf with rfl|hf
  ·exact⟨I,I⟩
  exact Fo o (a+1) I h.2 f hf
def V4{l r:y'}(X:ζ l<=60000)(h:uC g l=B' (n,r)):ζ r<=ζ l/\dY n:=by
 obtain⟨C,a,N,d⟩:=xH h;simp only[dV,bh,bq,h!]at a;obtain⟨⟨⟨⟨N,d⟩,b⟩,c⟩,t⟩:=a;refine⟨(by rw[C];simp),Fo _ 0 I c,?_,(by rw[d];exact jX),(λv R=>by rw[b]at R;cases R),I,I,(by rw[b];simp)⟩;intro f Y;unfold eD at t;by_cases a:g=1
 ·rw[aB a]at t;simp only[bh]at t;have:=cF.1 t.2 f Y;simp only[rk,bh,bq]at this;exact⟨I,I⟩
 rw[aA a]at t;simp only[h!]at t;rw[t]at Y;cases Y
def V!{l r:y'}(X:ζ l<=60000)(h:uE p g l=B' (n,r)):ζ r<=ζ l/\dY n:=by
 unfold uE at h;cases a:lB g l with
 |none=>rw[a]at h;cases h
 |some F=>
  obtain⟨rk,c⟩:=F;rw[a]at h;simp only at h;have b:ζ c<=ζ l/\rk<=100000:=by
   unfold lB at a;by_cases b:g=1
   ·rw[aB b]at a;have:=uB a;exact⟨(wu a).1,I⟩
   rw[aA b]at a;simp at a;obtain⟨rfl,rfl⟩:=a;exact⟨aF,I⟩
  cases d:fH 8 c with
  |none=>rw[d]at h;cases h
  |some a=>
   obtain⟨k,P⟩:=a;rw[d]at h;simp only at h;have j:=wu d;have t:=uB d;cases R:bp (iH p g) k () P with
   |none=>rw[R]at h;cases h
   |some s=>obtain⟨⟨E,u⟩,D⟩:=s;rw[R]at h;simp at h;obtain⟨rfl,rfl⟩:=h;have C:=xL (iH p g) tU (λl x u r _ y=>RG y) _ _ _ _ _ I R;have a:=dG _ _ _ _ _ _ _ R;exact⟨I,(λf Y=>by cases Y),(λf Y=>by cases Y),⟨by simp only;omega,by simp only;omega⟩,C.2,ak,ak,by simp only;omega⟩
def SS:dY nN:=⟨(λf Y=>by cases Y),(λf Y=>by cases Y),jX,(λf Y=>by cases Y),by simp[nN],by simp[nN],by simp[nN]⟩
def R9{l r:y'}(X:ζ l<=60000)(h:jQ p g l=B' (n,r)):ζ r<=ζ l/\dY n:=by
 unfold jQ at h;by_cases U:p<=4
 ·rw[aB U]at h;exact V4 X h
 rw[aA U]at h;cases Y:fO l with
 |none=>rw[Y]at h;cases h
 |some F=>
  obtain⟨f,q⟩:=F;have a:=Bd Y;rw[Y]at h;cases f with
  |true=>simp only at h;have:=V! I h;exact⟨I,this.2⟩
  |false=>simp at h;obtain⟨rfl,rfl⟩:=h;exact⟨a,SS⟩
def xC{l r:y'}(h:gE p g () l=B' ((n,u),r)):jQ p g l=B' (n,r):=by
 unfold gE at h;cases b:jQ p g l with
 |none=>rw[b]at h;cases h
 |some a=>have R:=a;rw[b]at h;simp at h;obtain⟨rfl,rfl⟩:=h;rfl
def Bh{l r:y'}(h:ie l=B' (c,r)):∃(b d:UInt8) (q F:y') (k:Nat) (u:Unit),l=b::d::q/\known (b.toNat:Int) (d.toNat:Int)=O'/\fH 60 q=B' (k,F)/\c.aE=(b.toNat:Int)/\c.grade=(d.toNat:Int)/\bp (gE (b.toNat:Int) (d.toNat:Int)) k () F=B' ((c.nodes,u),r):=by
 unfold ie at h;split at h;rotate_left
 ·cases h
 rename_i b d q;split at h;rotate_left
 ·cases h
 rename_i c;cases a:fH 60 q with
 |none=>rw[a]at h;cases h
 |some p=>
  obtain⟨k,F⟩:=p;rw[a]at h;simp only at h;cases X:bp (gE (b.toNat:Int) (d.toNat:Int)) k () F with
  |none=>rw[X]at h;cases h
  |some e=>obtain⟨⟨v,u⟩,i⟩:=e;rw[X]at h;simp at h;obtain⟨rfl,rfl⟩:=h;exact⟨b,d,q,F,k,u,rfl,c,a,rfl,rfl,X⟩
def FD{l r:y'}(X:ζ l<=60000)(h:ie l=B' (c,r)):zM c:=by obtain⟨b,d,q,F,k,u,rfl,a,c,C,e,a⟩:=Bh h;have f:=gV b;have Q:=gV d;have j:=wu c;have t:=uB c;simp only[cC]at X;have N:=xL (gE (b.toNat:Int) (d.toNat:Int)) dY (λl x u r X y=>R9 X (xC y)) _ _ _ _ _ I a;have d:=dG _ _ _ _ _ _ _ a;exact⟨by rw[C];exact⟨I,I⟩,by rw[e];exact⟨I,I⟩,N.2,I⟩
def FC{l r:y'}(h:ie l=B' (c,r))(o:jz c=O'):[87,67,1]++l=tM c++r:=by obtain⟨b,d,q,F,k,u,rfl,a,f,C,e,a⟩:=Bh h;obtain⟨p,g,v⟩:=c;simp only at C e;subst C e;simp only[jz,bh,bq]at o;have N:=gi (gE (b.toNat:Int) (d.toNat:Int)) (eA (b.toNat:Int) (d.toNat:Int)) (λn=>bA (b.toNat:Int) (d.toNat:Int) n=O') (λl x u r y hP=>Fg (xC y) hP) _ _ _ _ _ a (cF.1 o.2);have d:=dG _ _ _ _ _ _ _ a;rw[((ki I).1 f).1,N];simp only at d;simp[tM,GQ,d]
def wP(h:0<=x)(a:x<=255):((UInt8.ofNat x.toNat).toNat:Int)=x:=by simp only[oW];omega
def xY(r:y')(o:jz c=O')(B:zM c):∃l,tM c++r=[87,67,1]++l/\ie l=B' (c,r):=by
 obtain⟨p,g,v⟩:=c;simp only[jz,bh,bq]at o;obtain⟨⟨b,f⟩,e⟩:=o;have a:=b;simp only[known,bh,gX,bq]at a;have U:((UInt8.ofNat p.toNat).toNat:Int)=p:=wP I I;have c:((UInt8.ofNat g.toNat).toNat:Int)=g:=by
  refine wP ?_ ?_
  ·rcases a.2 with h|h
   ·omega
   have:=h.1;omega
  rcases a.2 with h|h
  ·omega
  have:=h.1;omega
 refine⟨UInt8.ofNat p.toNat::UInt8.ofNat g.toNat::(iA (ζ v)++(v.flatMap (eA p g)++r)),by simp[tM,GQ],?_⟩;simp only[ie,U,c];rw[aB b,lA _ I I];simp only
 rw[ew (gE p g) (eA p g) v r (λn K r=>by
  unfold gE
  rw[xK (cF.1 e n K) (B.nodes n K)])]
def qj{l:y'}(h:dec l=B' c):jz c=O'/\tM c=l/\ζ l<=60000/\zM c:=by
 unfold dec at h;split at h;rotate_left
 ·cases h
 rename_i r;split at h;rotate_left
 ·cases h
 rename_i L;split at h;rotate_left
 ·cases h
 rename_i p T;split at h;rotate_left
 ·cases h
 rename_i o;simp at h;subst h;have:=FC T o;rw[gO]at this;exact⟨o,this.symm,L,FD (by simp only[cC]at L;omega) T⟩
def DW(o:jz c=O')(B:zM c)(L:ζ (tM c)<=60000):dec (tM c)=B' c:=by obtain⟨l,C,a⟩:=xY [] o B;rw[gO]at C;rw[C]at L⊢;simp only[dec,cW,ej]at L⊢;rw[aB L,a];simp only;rw[aB o]
end
section
variable {σ α:Type} {z d:Nat} {b:Bool}
def stepD(last:Int)(l:y'):Option ((Int×Int)×y'):=match fH ((100000:Nat):Int) l with
 |some (d,r)=>B' ((last+1+(d:Int),last+1+(d:Int)),r)
 |none=>C'
def stepX(_:Unit)(l:y'):Option ((Int×Unit)×y'):=match fH ((100000:Nat):Int) l with
 |some (d,r)=>B' (((d:Int),()),r)
 |none=>C'
def stepW(p g:Int)(_:Unit)(l:y'):Option ((Vl×Unit)×y'):=match hY p g l with
 |some (v,r)=>B' ((v,()),r)
 |none=>C'
def G!(g:Int):y'->Option (Nd×y'):=eL (fH ((60000:Nat):Int)) (λk=>eL (bp stepD k (-1)) (λfs=>if g=1 then eL (bp stepX k ()) (λrs=>jP ⟨fs.1,rs.1,P',0,[]⟩) else jP ⟨fs.1,[],P',0,[]⟩))
def vJ(g:Int):y'->Option (Nat×y'):=if g=1 then fH ((100000:Nat):Int) else jP 0
def Hf(p g:Int):y'->Option (Nd×y'):=eL (fH ((1:Nat):Int)) (λy=>if y=0 then jP nN else eL (vJ g) (λrk=>eL (fH ((8:Nat):Int)) (λk=>eL (bp (stepW p g) k ()) (λvs=>jP ⟨[],[],O',(rk:Int),vs.1⟩))))
def pJ(p g:Int):y'->Option (Nd×y'):=if p<=4 then G! g else Hf p g
def dz.snoc{g:Nat}{e o:Bool}{step:σ->y'->Option ((α×σ)×y')}{st f d:σ}{D:List α}{x:α}(C:dz s a b (bp step i st) (D,f) N e)(c:dz s N e (step f) (x,d) g o):dz s a b (bp step (i+1) st) (D++[x],d) g o:=by
 refine⟨bD C.le c.le,c.sz,?_⟩;rw[gZ];rcases c.how with⟨V,u,b⟩|⟨V,u⟩
 ·rcases C.how with⟨_,B,t⟩|⟨K,_⟩
  ·exact aI ⟨V,B,by rw[t];simp only;rw[b]⟩
  rw[u]at K;cases K
 refine aK ⟨V,?_⟩;rcases C.how with⟨K,B,t⟩|⟨K,B⟩
 ·rcases u with u|u
  ·rw[K]at u;cases u
  right;rw[t];simp only;rw[u]
 rcases B with B|B
 ·exact aI B
 right;rw[B]
def dz.cut{k:Nat}{step:σ->y'->Option ((α×σ)×y')}{st:σ}{v:List α×σ}(C:dz s a b (bp step i st) v N O')(c:i<=k)(g:List α×σ):dz s a b (bp step k st) g N O':=by
 refine⟨C.le,C.sz,aK ⟨rfl,?_⟩⟩;rcases C.how with⟨K,_⟩|⟨_,B⟩
 ·cases K
 rcases B with B|B
 ·exact aI B
 exact aK (rC step B c)
def dz.start(b:Bool)(step:σ->y'->Option ((α×σ)×y'))(st:σ)(h:a<=s.size):dz s a b (bp step 0 st) ([],st) a b:=by exact aaf
def Ri{p:Prop}(h:p:=by
 rcases e.how with⟨C,a,N⟩|⟨C,a⟩
 ·exact aI ⟨C,a,by rw[N]⟩
 refine aK ⟨C,?_⟩;rcases a with a|a
 ·exact aI a
 right;rw[a]):p:=h
def dz.stepD(c:Int)(e:dz s N b (fH ((100000:Nat):Int)) d z X):dz s N b (Go.Proofs.YtmipbiligijcpaaGreatDoor.stepD c) (c+1+(d:Int),c+1+(d:Int)) z X:=by refine⟨e.le,e.sz,?_⟩;unfold Go.Proofs.YtmipbiligijcpaaGreatDoor.stepD;exact Ri
def dz.stepX(e:dz s N b (fH ((100000:Nat):Int)) d z X):dz s N b (Go.Proofs.YtmipbiligijcpaaGreatDoor.stepX ()) ((d:Int),()) z X:=by refine⟨e.le,e.sz,?_⟩;unfold Go.Proofs.YtmipbiligijcpaaGreatDoor.stepX;exact Ri
def dz.stepW{p g:Int}{v:Vl}(e:dz s N b (hY p g) v z X):dz s N b (Go.Proofs.YtmipbiligijcpaaGreatDoor.stepW p g ()) (v,()) z X:=by refine⟨e.le,e.sz,?_⟩;unfold Go.Proofs.YtmipbiligijcpaaGreatDoor.stepW;exact Ri
end
section
variable {l:u'} {p y:Int} {T d:x'} {D r c e:Nat} {b:Bool} {o:Obj}
def NBx(W w:u')(p g:Int)(na:x')(nl nc:Nat)(x:N5):Prop:=W.1[δ w.1]?=B' (k' #[G p,G g,i' na nl nc] 51 (0,0))/\W.1[δ w.1+1]?=B' (k' gH 96 (0,0))/\W.1[δ w.1+2]?=B' (k' (n? x.fa (ζ x.n.facts) x.fc x.ra (ζ x.n.aW) x.rc x.n.aD x.n.rank x.va (ζ x.n.vals) x.vc) 96 (0,0))
structure i7(W w:u')(p g:Int)(na:x')(nl nc rb:Nat)(s:z')(x:N5)(a:Nat)(b:Bool):Prop where
  bx:NBx W w p g na nl nc x
  rd:mE W rb s a b
  gr:ξ w W (B' rb)
  ok:eG W (δ w.1+3) x
def i7.lt{x:N5}(h:i7 W w p g T D r c s x a b):δ w.1+3<=δ W.1:=(aY.1 h.bx.2.2).1
def eG.kept{c:u'}{x:N5}(h:eG W B x)(b:ξ W c (B' q))(a:q<B):eG c B x:=
 ⟨h.f.kept b (eo h.f a),h.r.kept b (eo h.r a),h.v.kept b (eo h.v a),h.ap⟩
def i7.call{d:u'}{x:N5}{z:Nat}{X:Bool}(h:i7 W w p g T D r c s x a b)(a:c<δ w.1)(Q:mE d c s z X)(a:ξ W d (B' c)):i7 d w p g T D r c s x z X:=
 ⟨⟨cP h.bx.1 a I,cP h.bx.2.1 a I,cP h.bx.2.2 a I⟩,Q,h.gr.trans a,h.ok.kept a I⟩
def i7.set{x i:N5}(h:i7 W w p g T D r c s x a b)(d:c<δ w.1)(o:Nat)(u:A')(l:#[i' x.fa (ζ x.n.facts) x.fc,i' x.ra (ζ x.n.aW) x.rc,j' x.n.aD,G x.n.rank,i' x.va (ζ x.n.vals) x.vc].setIfInBounds o u=(n? i.fa (ζ i.n.facts) i.fc i.ra (ζ i.n.aW) i.rc i.n.aD i.n.rank i.va (ζ i.n.vals) i.vc))(d:eG W (δ w.1+3) i):i7 (κ W (O (δ w.1+2) o) u) w p g T D r c s i a b:=by refine⟨⟨(aJ H').trans h.bx.1,(aJ H').trans h.bx.2.1,?_⟩,h.rd.far I u,bI h.gr I u,d.kept (bX W (δ w.1+2) o u) I⟩;rw[aq h.bx.2.2,l]
def i7.Ar{d:u'}{x:N5}{q:Option Nat}(h:i7 W w p g T D r e s x a b)(c:e<δ w.1)(c:ξ (W.alloc o) d q)(l:∀k,q=B' k->δ w.1+3<=k):NBx d w p g T D r x/\mE d e s a b/\ξ w d (B' e):=by
 have f:=h.lt;have X:∀k,k<δ w.1+3->d.1[k]?=W.1[k]?:=by intro k b;refine(c.block k H' ?_).trans (bQ I);intro e;have:=l k e.symm;omega
 refine⟨⟨(X _ I).trans h.bx.1,(X _ I).trans h.bx.2.1,(X _ I).trans h.bx.2.2⟩,(X _ I).trans h.rd,?_⟩;have C:=c.size;have a:=h.gr;refine⟨c.os.trans a.os,c.tape.trans a.tape,c.output.trans a.output,by simp at C;omega,λk b z=>?_⟩;exact(X k I).trans (a.block k b z)
def gj{size n:Nat}{v:A'}{D:List A'}(h:ρ w B e size v n D):∀k,φ v=B' k->B<=k:=λk a=>(h.lt k a).1
def PW{a b:Option Nat}(h:a=C'\/a≠b):b=C'\/b≠a:=by
 cases b with
 |none=>exact aI rfl
 |some j=>
  right;intro e;rcases h with h|h
  ·rw[h]at e;cases e
  exact h e.symm
def i7.afV{x:N5}(h:i7 W w p g T D r q s x a b)(c:q<δ w.1)
  (u:ρ l (δ w.1+3) 3 1 (i' d (ζ x.n.facts+1) f) (ζ x.n.facts+1) (x.n.facts.map G++[G y])) (e:ξ (W.alloc (ia y)) l (φ x.fv)) (B:φ (i' d (ζ x.n.facts+1) f)=φ x.fv\/φ (i' d (ζ x.n.facts+1) f)=B' (W.alloc (ia y)).1.size):
  i7 (κ l (O (δ w.1+2) 0) (i' d (ζ x.n.facts+1) f)) w p g T D r q s ⟨d,f,x.ra,x.rc,x.va,x.vc,⟨x.n.facts++[y],x.n.aW,x.n.aD,x.n.rank,x.n.vals⟩⟩ a b:=by
 obtain⟨N,k,j⟩:=h.Ar c e (gj h.ok.f);have c:=h.ok.r.alloc (ia y);have i:=h.ok.v.alloc (ia y);have t:=h.ok.f.alloc (ia y);have o:eG l (δ w.1+3) ⟨d,f,x.ra,x.rc,x.va,x.vc,⟨x.n.facts++[y],x.n.aW,x.n.aD,x.n.rank,x.n.vals⟩⟩:=by
  refine⟨by simpa[N5.fv]using u,c.kept e (PW h.ok.ap),i.kept e (fj i t aj),?_⟩;show(i' d (ζ (x.n.facts++[y])) f).ownBlock=C'\/φ (i' d (ζ (x.n.facts++[y])) f)≠φ x.rv;rw[show(x.n.facts++[y]).length=ζ x.n.facts+1 by simp];rcases B with e|e
  ·rw[e];exact h.ok.ap
  right;rw[e];intro u;have:=(h.ok.r.lt _ u.symm).2;simp at this;omega
 have c:i7 l w p g T D r q s x a b\/True:=aK trivial;refine⟨⟨(aJ H').trans N.1,(aJ H').trans N.2.1,?_⟩,k.far I _,bI j I _,o.kept (bX l (δ w.1+2) 0 (i' d (ζ x.n.facts+1) f)) I⟩;rw[aq N.2.2];simp
def i7.afU{x:N5}(h:i7 W w p g T D r c s x a b)(i:c<δ w.1)
  (q:ρ l (δ w.1+3) 3 1 (i' d (ζ x.n.aW+1) f) (ζ x.n.aW+1) (x.n.aW.map G++[G y])) (e:ξ (W.alloc (ia y)) l (φ x.rv)) (B:φ (i' d (ζ x.n.aW+1) f)=φ x.rv\/φ (i' d (ζ x.n.aW+1) f)=B' (W.alloc (ia y)).1.size):
  i7 (κ l (O (δ w.1+2) 1) (i' d (ζ x.n.aW+1) f)) w p g T D r c s ⟨x.fa,x.fc,d,f,x.va,x.vc,⟨x.n.facts,x.n.aW++[y],x.n.aD,x.n.rank,x.n.vals⟩⟩ a b:=by
 obtain⟨N,k,j⟩:=h.Ar i e (gj h.ok.r);have c:=h.ok.r.alloc (ia y);have i:=h.ok.v.alloc (ia y);have a:=h.ok.f.alloc (ia y);have o:eG l (δ w.1+3) ⟨x.fa,x.fc,d,f,x.va,x.vc,⟨x.n.facts,x.n.aW++[y],x.n.aD,x.n.rank,x.n.vals⟩⟩:=by
  refine⟨a.kept e h.ok.ap,by simpa[N5.rv]using q,i.kept e (fj i c aj),?_⟩;show φ x.fv=C'\/φ x.fv≠φ (i' d (ζ (x.n.aW++[y])) f);rw[show(x.n.aW++[y]).length=ζ x.n.aW+1 by simp];rcases B with e|e
  ·rw[e];exact h.ok.ap
  right;rw[e];intro u;have:=(h.ok.f.lt _ u).2;simp at this;omega
 refine⟨⟨(aJ H').trans N.1,(aJ H').trans N.2.1,?_⟩,k.far I _,bI j I _,o.kept (bX l (δ w.1+2) 1 (i' d (ζ x.n.aW+1) f)) I⟩;rw[aq N.2.2];simp
def i7.aaw{e:u'}{x:N5}{y:Vl}(h:i7 W w p g T D r c s x a b)(i:c<δ w.1)
  (q:ρ e (δ w.1+3) 73 6 (i' d (ζ x.n.vals+1) f) (ζ x.n.vals+1) (fh x.n.vals++eT y)) (l:ξ (W.alloc o) e (φ x.vv)):
  i7 (κ e (O (δ w.1+2) 4) (i' d (ζ x.n.vals+1) f)) w p g T D r c s ⟨x.fa,x.fc,x.ra,x.rc,d,f,⟨x.n.facts,x.n.aW,x.n.aD,x.n.rank,x.n.vals++[y]⟩⟩ a b:=by
 obtain⟨N,k,j⟩:=h.Ar i l (gj h.ok.v);have c:=h.ok.r.alloc o;have i:=h.ok.v.alloc o;have a:=h.ok.f.alloc o;have o:eG e (δ w.1+3) ⟨x.fa,x.fc,x.ra,x.rc,d,f,⟨x.n.facts,x.n.aW,x.n.aD,x.n.rank,x.n.vals++[y]⟩⟩:=by refine⟨a.kept l (fj a i aj),c.kept l (fj c i aj),by simpa[N5.vv,fh]using q,h.ok.ap⟩
 refine⟨⟨(aJ H').trans N.1,(aJ H').trans N.2.1,?_⟩,k.far I _,bI j I _,o.kept (bX e (δ w.1+2) 4 (i' d (ζ x.n.vals+1) f)) I⟩;rw[aq N.2.2];simp
end
section
variable {d:Nat} {b:Bool}
def ZQ:N5:=⟨C',0,C',0,C',0,nN⟩
def i7.start{c:Nat}(p g:Int)(T:x')(D r:Nat)(h:mE w c s a b):i7 (((w.alloc (k' #[G p,G g,i' T D r] 51)).alloc (k' gH 96)).alloc (k' gH 96)) w p g T D r c s ZQ a b:=by
 have L:=(aY.1 h).1;refine⟨⟨?_,?_,?_⟩,?_,gp (gp (gp (pG w _) _) _) _,⟨cb,cb,cb,aI rfl⟩⟩
 ·rw[bQ H',bQ ak,cv]
 ·rw[bQ ak];exact(bL w _ _).2
 ·have:=cv ((w.alloc (k' #[G p,G g,i' T D r] 51)).alloc (k' gH 96)) (k' gH 96);have e:δ ((w.alloc (k' #[G p,G g,i' T D r] 51)).alloc (k' gH 96)).1=δ w.1+2:=ak;rwa[e]at this
 rw[mE,bQ H',bQ H',bQ L];exact h
def NdA(w W':u')(rb:Nat)(s:z')(a:Nat)(bad:Bool)(p:y'->Option (Nd×y'))(e:Ending):Prop:=∃(x:N5) (a':Nat) (Hw:Bool),e=p' (mf x)/\eG W' w.1.size x/\dY x.n/\dz s a bad p x.n a' Hw/\mE W' rb s a' Hw/\ξ w W' (B' rb)
def i7.fin{W:u'}{p:Int}{T:x'}{D r:Nat}{x:N5}{U:Nat}{c:Bool}{q:y'->Option (Nd×y')}(h:i7 W w p g T D r d s x a b)(e:d<δ w.1)(B:dY x.n)(e:dz s U c q x.n a b):
  NdA w (κ (κ (κ (κ (κ W (O (δ w.1+1) 0) (aO x.fa (ζ x.n.facts) x.fc)) (O (δ w.1+1) 1) (aO x.ra (ζ x.n.aW) x.rc)) (O (δ w.1+1) 2) (j' x.n.aD)) (O (δ w.1+1) 3) (G x.n.rank)) (O (δ w.1+1) 4) (aO x.va (ζ x.n.vals) x.vc)) d s U c q (p' (mf x)):=by
 have c:=Xm W (δ w.1+1) (aO x.fa (ζ x.n.facts) x.fc) (aO x.ra (ζ x.n.aW) x.rc) (j' x.n.aD) (G x.n.rank) (aO x.va (ζ x.n.vals) x.vc);refine⟨x,a,b,rfl,h.ok.fr c (λj f=>by show j≠_;omega) I,B,e,c.box h.rd H',?_⟩;exact bI (bI (bI (bI (bI h.gr I _) I _) I _) I _) I _
def Bi{b j k:Nat}{o x:Bool}{D z:List Int}(c:dz s d o (bp stepX j ()) (z,()) b x)(p:j<=k)(f:¬g=1->j=0/\z=[]/\b=d/\x=o)(a:g=1->x=O'\/j=k)(e:d<=s.size):dz s d o (if g=1 then eL (bp stepX k ()) (λy=>jP (⟨D,y.1,P',0,[]⟩:Nd)) else jP ⟨D,[],P',0,[]⟩) ⟨D,z,P',0,[]⟩ b x:=by
 by_cases b:g=1
 ·rw[aB b];rcases a b with h|h
  ·subst h;exact(c.cut p (z,())).bind (dz.ret O' _ c.sz)
  subst h;exact c.bind (dz.ret x _ c.sz)
 rw[aA b];obtain⟨_,rfl,rfl,rfl⟩:=f b;exact dz.ret _ _ e
def Zf(h:p:=by
 cases x with
 |false=>
  by_cases hg:g=1;rotate_left
  ·have fg:(g==1)=P':=by rw[b?];exact hg
   have HG:J (¬g=1):=hg;clear hg;go_wp2;refine aC (v:=mf ⟨fa,q,l,rc,C',0,⟨D,z,P',0,[]⟩⟩) (by simp[results65,go_sem,r1.1,mf]) rfl ?_;exact X.o.fin L B.o (Ap.o (λh=>absurd h HG.o))
  have fg:(g==1)=O':=by rw[bT];exact hg
  have HG:J (g=1):=hg;clear hg;go_wp2_with fail;clear W E y1 r1;refine(eJ rb b 100000 s P' wr X.o.rd HY.C.sz hs I).mono ?_;rintro e W4 ⟨F,C,b4,rfl,Qf,BT,hd5,hg5⟩;have H4:J (i7 W4 w p g T nl r rb s ⟨fa,q,l,rc,C',0,⟨D,z,P',0,[]⟩⟩ C b4):=X.o.call L hd5 hg5;have Vw:J (dz s b P' (fH ((100000:Nat):Int)) F C b4):=BT;clear hd5 hg5 BT;have y1:=M H4.o.bx.2.2;have o:ρ (W4.alloc (ia F)) (δ w.1+3) 3 1 (i' l (ζ z) rc) (ζ z) (z.map G):=H4.o.ok.r.alloc _;have hB:δ w.1+3<=δ (W4.alloc (ia F)).1:=by have:=H4.o.lt;simp;omega
  have hM:ζ z+1<=maxLen/\(ζ z+1)*8<=140737488355328:=by have:=HY.a;simp only[maxLen];omega
  have V:=hid (A o (A hB hM));have HA:J (∀(a9:x') (t:Nat) (W9:u'),ρ W9 (δ w.1+3) 3 1 (i' a9 (ζ z+1) t) (ζ z+1) (z.map G++[G F])->ξ (W4.alloc (ia F)) W9 (φ (i' l (ζ z) rc))->(φ (i' a9 (ζ z+1) t)=φ (i' l (ζ z) rc)\/φ (i' a9 (ζ z+1) t)=B' (W4.alloc (ia F)).1.size)->d' W9 (δ w.1+2) #[i' fa (ζ D) q,i' l (ζ z) rc,j' P',G 0,i' C' 0 0] 96/\i7 (κ W9 (O (δ w.1+2) 1) (i' a9 (ζ z+1) t)) w p g T nl r rb s ⟨fa,q,a9,t,C',0,⟨D,z++[(F:Int)],P',0,[]⟩⟩ C b4):=by intro a9 t W9 o9 g9 w9;exact⟨(H4.o.Ar L g9 (gj H4.o.ok.r)).1.2.2,i7.afU H4.o L o9 g9 w9⟩
  clear o hB hM;go_wp2_with (at_builtin;refine qD _ rfl _ _ 36 rfl (δ w.1+3) 3 i1 (G 0) 1 8 underlying36 HI.a HI.b HI.c HI.C rfl aj (i' l (ζ z) rc) (ζ z) (z.map G) rfl V.a (O W4.1.size 0) 1 1 [G F] rfl rfl (zw W4 _ _) (by intro u hu;simp at hu;subst hu;rfl) V.c V.C V.b ?_;intro v9 W9 o9 g9 _ w9;obtain⟨a9,t,rfl⟩:=aV o9;have H5:=hid (HA.o a9 t W9 o9 g9 w9);clear y1 o9 g9 w9;have y1:=M H5.a);refine⟨⟨j+1,a9,t,z++[(F:Int)],C,b4,I,f',⟨by rw[bF,HY.a];rfl,?_,λh=>absurd HG.o h,HY.C.snoc Vw.o.stepX⟩,H5.A⟩,by simp[intOf];omega⟩;intro f Y;rcases eE.1 Y with Y|Y
  ·exact HY.b f Y
  simp at Y;subst Y;exact⟨I,I⟩
 |true=>
  go_wp2;refine aC (v:=mf ⟨fa,q,l,rc,C',0,⟨D,z,P',0,[]⟩⟩) (by simp[results65,go_sem,r1.1,mf]) rfl ?_
  exact X.o.fin L B.o (Ap.o (λ_=>by first|exact aI rfl|exact aI trivial|simp))):p:=h
def Ze(h:p:=by
 go_wp2;refine aC (v:=mf ⟨fa,q,l,rc,C',0,⟨D,z,P',0,[]⟩⟩) (by simp[results65,go_sem,r1.1,mf]) rfl ?_
 exact X.o.fin L B.o (Ap.o (λ_=>by first|exact aK I|simp))):p:=h
def Ud(p g:Int)(U:p<=4)(T:x')(nl r:Nat)(rb a:Nat)(s:z')(bad:Bool)(w:u')(h:mE w rb s a bad)(Y:a<=s.size)(hs:s.size<=60000):
  Cl 65 #[o' (B' (O rb 0)),l' #[G p,G g,i' T nl r]] w λe b=>NdA w b rb s a bad (G! g) e:=by
 have L:=(aY.1 h).1;have j:J (mE w rb s a bad):=h;clear h;obtain⟨i1,hi,D,c,b⟩:=cQ nQ;have HI:=hid (A hi (A D (A c b)));clear hi D c b;go_enter func65,ntmps65;go_upto_region 2 with(fail)
 obtain⟨b,X⟩:=Ea ((((w.alloc (k' #[G p,G g,i' T nl r] 51)).alloc (k' gH 96)).alloc (k' gH 96)));rw[<-X];have f:J (i7 b w p g T nl r rb s ZQ a bad):=by rw[X];exact i7.start p g T nl r j.o
 clear X;have E:=M f.o.bx.1;go_wp2_with fail;clear E;refine(eJ rb a 60000 s bad b f.o.rd Y hs I).mono ?_;rintro e t ⟨k,N,b1,rfl,b,c,U,b⟩;have j:J (i7 t w p g T nl r rb s ZQ N b1):=f.o.call L U b;have R:J (dz s a bad (fH ((60000:Nat):Int)) k N b1):=c;clear U b c;go_wp2;go_loopw[7,8] (λb y wr=>∃(i:Nat) (fa:x') (q:Nat) (D:List Int) (c:Int) (a2:Nat) (U:Bool),i<=k/\y=G i/\b=G c/\-1<=c/\c<=100001*(i:Int)/\J (ζ D=i/\(∀f∈D,lr f)/\dz s N b1 (bp stepD i (-1)) (D,c) a2 U)/\J (i7 wr w p g T nl r rb s ⟨fa,q,C',0,C',0,⟨D,[],P',0,[]⟩⟩ a2 U)) (λ_ y _=>k-(intOf y).toNat)
 ·exact⟨0,C',0,[],-1,N,b1,I,rfl,rfl,I,I,⟨rfl,(λf Y=>by cases Y),dz.start b1 _ _ R.o.sz⟩,j.o⟩
 obtain⟨i,fa,q,D,c,a2,U,hik,rfl,rfl,b,b,HX,HS⟩:=hrel;have W:=M HS.o.rd;by_cases b:i<k;rotate_left
 ·have iz:¬(i:Int)<k:=I;obtain rfl:i=k:=I;have HF:J (dz s N b1 (bp stepD i (-1)) (D,c) a2 U):=HX.B;go_wp2;clear W;go_loopw[10] (λy wr2=>∃(j:Nat) (l:x') (rc:Nat) (z:List Int) (b:Nat) (x:Bool),j<=i/\y=G j/\J (ζ z=j/\(∀f∈z,lr f)/\(¬g=1->j=0/\z=[]/\b=a2/\x=U)/\dz s a2 U (bp stepX j ()) (z,()) b x)/\J (i7 wr2 w p g T nl r rb s ⟨fa,q,l,rc,C',0,⟨D,z,P',0,[]⟩⟩ b x)) (λy _=>i-(intOf y).toNat)
  ·exact⟨0,C',0,[],a2,U,I,rfl,⟨rfl,(λf Y=>by cases Y),(λ_=>⟨rfl,rfl,rfl,rfl⟩),dz.start U _ _ HX.B.sz⟩,HS.o⟩
  obtain⟨j,l,rc,z,b,x,hjk,rfl,HY,X⟩:=hrel;have W:=M X.o.rd;have E:=M X.o.bx.1;have y1:=M X.o.bx.2.2;have r1:=M X.o.bx.2.1;have B:J (dY ⟨D,z,P',0,[]⟩):=⟨HX.b,HY.b,dR 0 I I,(λv hv=>by cases hv),(by have:=HX.a;simp only;omega),(by have:=HY.a;simp only;omega),ak⟩;have Ap:J ((g=1->x=O'\/j=i)->dz s a bad (G! g) ⟨D,z,P',0,[]⟩ b x):=λhE=>R.o.bind (HF.o.bind (Bi HY.C hjk HY.c hE HX.B.sz));by_cases acm:j<i;rotate_left
  ·have tH:¬(j:Int)<i:=I;exact Ze
  have tH:(j:Int)<i:=I;exact Zf
 have iz:(i:Int)<k:=I;cases U with
 |false=>
  go_wp2_with fail;clear W;refine(eJ rb a2 100000 s P' wr HS.o.rd HX.B.sz hs I).mono ?_;rintro e W2 ⟨d,b,x,rfl,U,U,Z?,GN⟩;have H2:J (i7 W2 w p g T nl r rb s ⟨fa,q,C',0,C',0,⟨D,[],P',0,[]⟩⟩ b x):=HS.o.call L Z? GN;have Vb:J (dz s a2 P' (fH ((100000:Nat):Int)) d b x):=U;clear Z? GN U;have y1:=M H2.o.bx.2.2;have o:ρ (W2.alloc (k' #[G (c+1+(d:Int))] 3)) (δ w.1+3) 3 1 (i' fa (ζ D) q) (ζ D) (D.map G):=H2.o.ok.f.alloc _;have hB:δ w.1+3<=δ (W2.alloc (k' #[G (c+1+(d:Int))] 3)).1:=by have:=H2.o.lt;simp;omega
  have hM:ζ D+1<=maxLen/\(ζ D+1)*8<=140737488355328:=by have:=HX.a;simp only[maxLen];omega
  have V:=hid (A o (A hB hM));have HA:J (∀(a9:x') (t:Nat) (W9:u'),ρ W9 (δ w.1+3) 3 1 (i' a9 (ζ D+1) t) (ζ D+1) (D.map G++[G (c+1+(d:Int))])->ξ (W2.alloc (k' #[G (c+1+(d:Int))] 3)) W9 (φ (i' fa (ζ D) q))->(φ (i' a9 (ζ D+1) t)=φ (i' fa (ζ D) q)\/φ (i' a9 (ζ D+1) t)=B' (W2.alloc (k' #[G (c+1+(d:Int))] 3)).1.size)->d' W9 (δ w.1+2) #[i' fa (ζ D) q,i' C' 0 0,j' P',G 0,i' C' 0 0] 96/\i7 (κ W9 (O (δ w.1+2) 0) (i' a9 (ζ D+1) t)) w p g T nl r rb s ⟨a9,t,C',0,C',0,⟨D++[c+1+(d:Int)],[],P',0,[]⟩⟩ b x):=by intro a9 t W9 o9 g9 w9;exact⟨(H2.o.Ar L g9 (gj H2.o.ok.f)).1.2.2,i7.afV H2.o L o9 g9 w9⟩
  clear o hB hM;go_wp2_with (at_builtin;refine qD _ rfl _ _ 36 rfl (δ w.1+3) 3 i1 (G 0) 1 8 underlying36 HI.a HI.b HI.c HI.C rfl aj (i' fa (ζ D) q) (ζ D) (D.map G) rfl V.a (O W2.1.size 0) 1 1 [G (c+1+(d:Int))] rfl rfl (zw W2 _ _) (by intro u hu;simp at hu;subst hu;rfl) V.c V.C V.b ?_;intro v9 W9 o9 g9 _ w9;obtain⟨a9,t,rfl⟩:=aV o9;have U:=hid (HA.o a9 t W9 o9 g9 w9);clear y1 o9 g9 w9;have y1:=M U.a);refine⟨⟨i+1,a9,t,D++[c+1+(d:Int)],c+1+(d:Int),b,x,I,f',rfl,I,I,⟨by rw[bF,HX.a];rfl,?_,HX.B.snoc (Vb.o.stepD c)⟩,U.A⟩,by simp[intOf];omega⟩;intro f Y;rcases eE.1 Y with Y|Y
  ·exact HX.b f Y
  simp at Y;subst Y;exact⟨I,I⟩
 |true=>
  have HF:J (dz s N b1 (bp stepD k (-1)) (D,c) a2 O'):=HX.B.cut hik _;go_wp2;clear W;go_loopw[10] (λy wr2=>∃(j:Nat) (l:x') (rc:Nat) (z:List Int) (b:Nat) (x:Bool),j<=k/\y=G j/\J (ζ z=j/\(∀f∈z,lr f)/\(¬g=1->j=0/\z=[]/\b=a2/\x=O')/\dz s a2 O' (bp stepX j ()) (z,()) b x)/\J (i7 wr2 w p g T nl r rb s ⟨fa,q,l,rc,C',0,⟨D,z,P',0,[]⟩⟩ b x)) (λy _=>k-(intOf y).toNat)
  ·exact⟨0,C',0,[],a2,O',I,rfl,⟨rfl,(λf Y=>by cases Y),(λ_=>⟨rfl,rfl,rfl,rfl⟩),dz.start O' _ _ HX.B.sz⟩,HS.o⟩
  obtain⟨j,l,rc,z,b,x,hjk,rfl,HY,X⟩:=hrel;have W:=M X.o.rd;have E:=M X.o.bx.1;have y1:=M X.o.bx.2.2;have r1:=M X.o.bx.2.1;have B:J (dY ⟨D,z,P',0,[]⟩):=⟨HX.b,HY.b,dR 0 I I,(λv hv=>by cases hv),(by have:=HX.a;simp only;omega),(by have:=HY.a;simp only;omega),ak⟩;have Ap:J ((g=1->x=O'\/j=k)->dz s a bad (G! g) ⟨D,z,P',0,[]⟩ b x):=λhE=>R.o.bind (HF.o.bind (Bi HY.C hjk HY.c hE HX.B.sz));by_cases acm:j<k;rotate_left
  ·have tH:¬(j:Int)<k:=I;exact Ze
  have tH:(j:Int)<k:=I;exact Zf
end
section
variable {S:Nat} {c b E o g d f r x y z:A'} {U P K D pt:List A'} {s:Array A'}
abbrev pti(i:Nat):List A':=[G (-7-((i / 4:Nat):Int))]
abbrev ptv(i:Nat):List A':=[G (-7-((i / 4:Nat):Int)),G 0,G 0,j' P',G 0,G 0]
abbrev ptn(i:Nat):List A':=[i' C' 0 0,i' C' 0 0,j' P',G (-7-((i / 4:Nat):Int)),i' C' 0 0]
structure BN(W:u')(bb B:Nat)(l1 l4 l5 wn rn:A')(s1 s4 s5:List A'):Prop where
  box:W.1[bb]?=B' (k' (dn l1 l4 l5 wn rn) 32 (0,0))
  r1:ρ W B 36 1 l1 (ζ s1) s1
  r4:ρ W B 71 1 l4 (ζ s4) s4
  r5:ρ W B 46 1 l5 (ζ s5) s5
  m1:∀i v,s1[i]?=B' v->lq W 3 (pti i) v
  m4:∀i v,s4[i]?=B' v->lq W 73 (ptv i) v
  m5:∀i v,s5[i]?=B' v->lq W 96 (ptn i) v
  base:B<=δ W.1
def BN.lt(h:BN W a B c b E o g U P K):a<δ W.1:=(aY.1 h.box).1
def BN.below{e:u'}{d:Nat}(h:BN W d B c b E o g U P K)(a:Bl W e):BN e d B c b E o g U P K:=
 ⟨(a.block _ h.lt).trans h.box,aZ h.r1 a,aZ h.r4 a,aZ h.r5 a,λi v R=>(h.m1 i v R).of_block (λk b=>a.block k ((h.m1 i v R).lt k b)),λi v R=>(h.m4 i v R).of_block (λk b=>a.block k ((h.m4 i v R).lt k b)),λi v R=>(h.m5 i v R).of_block (λk b=>a.block k ((h.m5 i v R).lt k b)),bD h.base a.size⟩
structure NF(B lo hi:Nat)(w W:u'):Prop where
  below:Below B w W
  keep:∀k cur t,w.1[k]?=B' (c7 cur t)->t≠32->t≠36->t≠71->t≠46->((t≠3/\t≠73/\t≠96)\/¬(lo<=k/\k<hi))->W.1[k]?=w.1[k]?
def NF.refl(B j S:Nat)(w:u'):NF B j S w w:=⟨aQ,λ_ _ _ _ _ _ _ _ _=>rfl⟩
def NF.trans{u v:u'}(h:NF B j S u v)(k:NF B j S v w):NF B j S u w:=
 ⟨h.below.trans k.below,λj Y t C a b c d e=>(k.keep j Y t ((h.keep j Y t C a b c d e).trans C) a b c d e).trans (h.keep j Y t C a b c d e)⟩
def Ru(h:p:=by
 rcases e with e|e
 ·exact aI (by first|exact e.1|exact e.2.1|exact e.2.2)
 right;intro u
 exact e ⟨(X.lt k u.symm).1,i k u.symm⟩):p:=h
def mY.nf1(u:mY w W a B s 3 36 r b f U pt x y z)(h:BN w a B b c E o g U P K)(b:B<=a)(X:ρ w j 3 1 r n D)(l:B<=j)(i:∀k,φ r=B' k->k<S):NF B j S w W:=by
 refine⟨u.fr.below h.base (λk f=>⟨I,?_,?_⟩),λk Y t f a b c d e=>?_⟩
 ·intro e;have:=(X.lt k e.symm).1;omega
 ·intro e;have:=(h.r1.lt k e.symm).1;omega
 refine u.keep h.box h.r1 (a! X l) f a (h') ?_;exact Ru
def Zz(h:p:=by
 refine d.of_block (λk b=>?_);obtain⟨Y,T⟩:=d.ty k b
 exact p.keep h.box h.r1 X T aj aj (aI aj)):p:=h
def BN.af9(h:BN w a B c b E o g U P K)(d:ζ U=4*q)(X:ρ w B 3 1 r n D)(p:mY w W a B (dn f b E o g) 3 36 r c f U [G (-7-(q:Int))] x y z)(Q:∀v∈U,∀k,φ v=B' k->some k≠φ r):BN W a B f b E o g (U++[r,x,y,z]) P K:=by
 refine⟨p.box,?_,?_,?_,?_,?_,?_,bD h.base p.fr.size⟩
 ·rw[bF];exact p.row
 ·exact dP h.r4 (λk Y b T=>p.keep h.box h.r1 X T aj aj (aI aj))
 ·exact dP h.r5 (λk Y b T=>p.keep h.box h.r1 X T aj aj (aI aj))
 ·intro i v R;by_cases S:i<ζ U
  ·rw[jN S]at R;have d:=h.m1 i v R;refine d.of_block (λk b=>?_);obtain⟨Y,T⟩:=d.ty k b;exact p.keep h.box h.r1 X T aj aj (aK (Q v (aT R) k b))
  rw[ek I]at R;have a:i-ζ U<4:=by have:=(bm.1 R).1;simpa using this
  have a:i / 4=q:=I;rw[pti,a];exact(p.SW v (aT R)).1
 ·intro i v R;have d:=h.m4 i v R;exact Zz
 intro i v R;have d:=h.m5 i v R;exact Zz
def mY.nf4(u:mY w W a B s 73 71 r c b P pt x y z)(h:BN w a B d c E o g U P K)(b:B<=a)(X:ρ w j 73 6 r n D)(l:B<=j)(i:∀k,φ r=B' k->k<S):NF B j S w W:=by
 refine⟨u.fr.below h.base (λk f=>⟨I,?_,?_⟩),λk Y t f a b c d e=>?_⟩
 ·intro e;have:=(X.lt k e.symm).1;omega
 ·intro e;have:=(h.r4.lt k e.symm).1;omega
 refine u.keep h.box h.r4 (a! X l) f a (h') ?_;exact Ru
def Zy(h:p:=by
 refine d.of_block (λk b=>?_);obtain⟨Y,T⟩:=d.ty k b
 exact p.keep h.box h.r4 X T aj aj (aI aj)):p:=h
def BN.af8{b:Nat}{a:A'}(h:BN w b B c d E o g U P K)(e:ζ P=4*q)(X:ρ w B 73 6 r n D)(p:mY w W b B (dn c a E o g) 73 71 r d a P [G (-7-(q:Int)),G 0,G 0,j' P',G 0,G 0] x y z)(Q:∀v∈P,∀k,φ v=B' k->some k≠φ r):BN W b B c a E o g U (P++[r,x,y,z]) K:=by
 refine⟨p.box,?_,?_,?_,?_,?_,?_,bD h.base p.fr.size⟩
 ·exact dP h.r1 (λk Y b T=>p.keep h.box h.r4 X T aj aj (aI aj))
 ·rw[bF];exact p.row
 ·exact dP h.r5 (λk Y b T=>p.keep h.box h.r4 X T aj aj (aI aj))
 ·intro i v R;have d:=h.m1 i v R;exact Zy
 ·intro i v R;by_cases S:i<ζ P
  ·rw[jN S]at R;have d:=h.m4 i v R;refine d.of_block (λk b=>?_);obtain⟨Y,T⟩:=d.ty k b;exact p.keep h.box h.r4 X T aj aj (aK (Q v (aT R) k b))
  rw[ek I]at R;have a:i-ζ P<4:=by have:=(bm.1 R).1;simpa using this
  have a:i / 4=q:=I;rw[ptv,a];exact(p.SW v (aT R)).1
 intro i v R;have d:=h.m5 i v R;exact Zy
def mY.nf5(u:mY w W a B s 96 46 r E f K pt x y z)(h:BN w a B c b E o g U P K)(b:B<=a)(X:ρ w j 96 5 r n D)(l:B<=j)(i:∀k,φ r=B' k->k<S):NF B j S w W:=by
 refine⟨u.fr.below h.base (λk f=>⟨I,?_,?_⟩),λk Y t f a b c d e=>?_⟩
 ·intro e;have:=(X.lt k e.symm).1;omega
 ·intro e;have:=(h.r5.lt k e.symm).1;omega
 refine u.keep h.box h.r5 (a! X l) f a (h') ?_;exact Ru
def ZA(h:p:=by
 refine d.of_block (λk a=>?_);obtain⟨Y,T⟩:=d.ty k a
 exact p.keep h.box h.r5 X T aj aj (aI aj)):p:=h
def BN.af7(h:BN w a B c b E o g U P K)(d:ζ K=4*q)(X:ρ w B 96 5 r n D)(p:mY w W a B (dn c b f o g) 96 46 r E f K [i' C' 0 0,i' C' 0 0,j' P',G (-7-(q:Int)),i' C' 0 0] x y z)(Q:∀v∈K,∀k,φ v=B' k->some k≠φ r):BN W a B c b f o g U P (K++[r,x,y,z]):=by
 refine⟨p.box,?_,?_,?_,?_,?_,?_,bD h.base p.fr.size⟩
 ·exact dP h.r1 (λk Y a T=>p.keep h.box h.r5 X T aj aj (aI aj))
 ·exact dP h.r4 (λk Y a T=>p.keep h.box h.r5 X T aj aj (aI aj))
 ·rw[bF];exact p.row
 ·intro i v R;have d:=h.m1 i v R;exact ZA
 ·intro i v R;have d:=h.m4 i v R;exact ZA
 intro i v R;by_cases S:i<ζ K
 ·rw[jN S]at R;have d:=h.m5 i v R;refine d.of_block (λk a=>?_);obtain⟨Y,T⟩:=d.ty k a;exact p.keep h.box h.r5 X T aj aj (aK (Q v (aT R) k a))
 rw[ek I]at R;have d:i-ζ K<4:=by have:=(bm.1 R).1;simpa using this
 have a:i / 4=q:=I;rw[ptn,a];exact(p.SW v (aT R)).1
end
