import Derived.Test.YtmipbiligijcpaaGreatDoorA09
import Derived.Test.YtmipbiligijcpaaGreatDoorA12
import Derived.Deep.CutBlock
namespace Go.Proofs.YtmipbiligijcpaaGreatDoor
set_option linter.all false
set_option maxRecDepth 99999
set_option maxHeartbeats 0
open Go.RowKit Go.Proofs Go.Maps Tryz List open List renaming length→ζ,toArray→θ open _root_.Array renaming size→δ open World renaming setCell→κ,ownsRow→ρ,cell?→χ open Value renaming slice→i',bool→j',agg→l',string→m',pointer→o',tuple→t' open Obj renaming cells→k' open Ending renaming returned→p' open Option renaming some→B',none→C' open Bool renaming true→O',false→P'
variable {i k:Nat}{l:List Nat}{p:Prop}{w:u'}
structure NN(nv:Nat)(n:SN):Prop where
  aG:0<=n.aG/\n.aG<=6
  var:n.aG<=2->0<=n.var/\n.var<nv
  a:n.aG=0\/n.aG=1\/n.aG=3\/n.aG=4->yu nv n.a
  b:n.aG=1\/n.aG=4->yu nv n.b
def afI(n:SN)(vals:List Int):Int:=if n.aG=4/\ru n.test (opW vals n.a) (opW vals n.b)=P' then 1 else 0
structure Fit(pl:List PN)(ps:List (bE×Nat))(nv:Nat):Prop where
  O7:∀p∈pl,NN nv p.n
  edge:∀(j:Nat) (p:PN) (vals:List Int),pl[j]?=B' p->p.n.aG≠6->∃t:Nat,(jb ps p.nc j)[(afI p.n vals).toNat]?=B' (t:Int)/\t<ζ pl
section
variable {s:z'}
def s7(h:og [] [] (BH s)=C'):kW s=.P5:=by rw[kW,h];split<;>rfl
def PS.WC{w W b:u'}{k:Nat}{Q:A'}{E:List bE}{a:Option Nat}{V:List PN}{D:List RC}(h:PS w s k Q E a V D W)(Y:RF w.1.size a W b):Bl w b:=by exact afA
def QT {p:Prop} (h:p:=by
 go_wp2_with fail;refine(JB (s.extract fr k) _ WX).mono ?_;rintro e F ⟨v,rfl,mO,TN⟩;have p:J (PS w s k (i' T nl nc) E vb V D F):=Q.o.below TN;have hvA:∀q,vb=B' q->q<δ wr.1:=λq hq=>(Q.o.rp.Ei q hq).2;have hwz:δ w.1<δ wr.1:=Q.o.rp.lt;have Vv:J (∀q,vb=B' q->q<δ wr.1):=hvA;clear hvA;obtain⟨R,Ep⟩:∃R,Ig (s.extract fr k)=R:=⟨_,rfl⟩;have K:vO R:=Ep▸Jc _ WX;have Ao:∀y∈R,0<y.size:=by rw[<-Ep];exact λy B=>(xo _ y B).2
 rw[Ep]at mO l;clear Ep
 match R,K,Ao,l,mO with
 |[],K,Ao,l,mO=>obtain⟨a,c,rfl⟩:=aV mO;go_wp2_with fail;exact⟨⟨k+1,k+1,T,nl,nc,E,vb,V,D,Be,I,I,f',f',⟨l.a,l.A⟩,p.o.next⟩,by simp[intOf];omega⟩
 |w0::r,K,Ao,l,mO=>
  obtain⟨h,cap,hv,hA,i,hcm,TR⟩:=G1 mO;subst hv;have b:J (Ws F h 0 (w0::r)):=TR;have hw0:=Ao w0 ak;have hw3:=K.word w0 ak;have hc0:=TR.cell 0 w0 rfl;rw[gD]at hc0;have Vh:=Jy w0 r hw0;clear Ao TR;have hl0:(((ζ r+1:Nat):Int)==0)=false:=by rw[b?];omega
  have hl1:(0:Int)<((ζ r+1:Nat):Int):=I;cases h35:((w0[0].toNat:Int)==35)with
  |true=>rw[h35]at Vh;have C:J (kQ (w0::r)=true):=Vh;clear Vh;go_wp2_with fail;exact⟨⟨k+1,k+1,T,nl,nc,E,vb,V,D,Be,I,I,f',f',⟨l.a,by rw[l.A,og,C.o];rfl⟩,p.o.next⟩,by simp[intOf];omega⟩
  |false=>
   rw[h35]at Vh;have C:J (kQ (w0::r)=false):=Vh;clear Vh;have hci:=Ur w0 hw0;cases h58:((w0[w0.size-1].toNat:Int)==58)with
   |true=>
    rw[h58]at hci;have Y:J (r8 w0=true):=hci;clear hci;have hlx:(w0.extract 0 (w0.size-1)).size<=3000:=by rw[IJ];omega
    have HLE:J (jA w0=w0.extract 0 (w0.size-1)):=S! w0 hw0 Y.o;have ago:=hcm;unfold maxLen at ago
    match r,K,l,mO,i,b,C,hl0,hl1 with
    | [],K,l,mO,i,b,C,hl0,hl1=>
     clear mO;go_wp2_with fail;refine(km hlx).mono ?_;rintro e F ⟨rfl,rfl⟩;cases j:Wm.nm (w0.extract 0 (w0.size-1))with
     |false=>have Yc:J (kW s=Pr.P5):=s7 (by rw[l.A];exact xX C.o (Gi Y.o (by rw[HLE.o];exact j)));go_wp2_with fail;go_ret2;refine⟨p.o.low,?_⟩;rw[Yc.o];exact rfl
     |true=>
      have Yc:J (kW s=Pr.P5):=s7 (by rw[l.A];exact xX C.o ((Gh Y.o (by rw[HLE.o];exact j)).no rfl));go_wp2_with fail
      all_goals
       refine(ZE w.1.size (δ w.1+1) _ _ (i' T nl nc) (i' C' 0 0) E vb _ p.o.rp).mono ?_;rintro e o ⟨m,X,S,t,rfl,d,Xh,u,TH⟩;cases t with
       |true=>exact absurd d.o (by simp[gw])
       |false=>have HB3:J (Bl w o):=p.o.WC u;simp only[aH];clear Xh u TH;go_wp2_with fail;go_ret2;refine⟨HB3.o.alloc HB3.o.size _,?_⟩;rw[Yc.o];exact rfl
    |x::g,K,l,mO,i,b,C,hl0,hl1=>
     clear mO;have i4:¬cap=1:=by simp at i;omega
     go_wp2_with fail;refine(km hlx).mono ?_;rintro e F ⟨rfl,rfl⟩;cases j:Wm.nm (w0.extract 0 (w0.size-1))with
     |false=>have Yc:J (kW s=Pr.P5):=s7 (by rw[l.A];exact xX C.o (Gi Y.o (by rw[HLE.o];exact j)));go_wp2_with fail;go_ret2;refine⟨p.o.low,?_⟩;rw[Yc.o];exact rfl
     |true=>
      have f:J (pQ E (w0::x::g) (x::g) (w0.extract 0 (w0.size-1)) 1):=HLE.o▸Gh Y.o (by rw[HLE.o];exact j);go_wp2_with fail;have hAv:some h≠vb:=λe=>by have:=Vv.o h e.symm;omega
      have acr:δ w.1+1<=δ F.1:=by have:=p.o.rp.lt;omega
      refine(Mc w.1.size (δ w.1+1) h 1 (cap-1) (i' T nl nc) (i' C' 0 0) E vb (x::g) F K.tail (by have:=p.o.Jf;omega) acr I p.o.rp b.o.tail hAv).mono ?_;rintro e o ⟨m,X,S,t,rfl,d,Xh,u,TH⟩;cases t with
      |false=>have Yc:J (kW s=Pr.P5):=s7 (by rw[l.A];exact xX C.o (f.o.no (by simpa using d.o)));have HB3:J (Bl w o):=p.o.WC u;simp only[aH];clear Xh u TH;go_wp2_with fail;go_ret2;refine⟨HB3.o.alloc HB3.o.size _,?_⟩;rw[Yc.o];exact rfl
      |true=>
       have P:J (gw E (x::g)=B' (m,S)):=by show _=_;simpa using d.o
       have HY:J (ζ S<=3*(k+1)):=by have h1:=Dq E (w0::x::g);rw[(f.o.yes m S P.o).2.2.2.1]at h1;have:=p.o.Jf;show _<=_;omega
       have Va:J (PS w s (k+1) (i' T nl nc) S X V D o):=p.o.call Xh u TH HY.o;have HW3:J (Ws o h 1 (x::g)):=(b.o.tail).rf p.o.rp hAv u;have HAv:J (some h≠X):=TH.ne b.o.lt hAv;have KZ:ζ D<=k:=p.o.Uu;obtain⟨vv,BU,Vg,z⟩:=Va.o.rp.box;have hx1:=M BU;have hBz:δ w.1<δ o.1:=Va.o.rp.lt;have hBn:δ w.1≠δ o.1:=I;have ags:δ o.1≠δ w.1:=I;have HH:=hid (Ce (i' (B' (O h 1)) (ζ g+1) (cap-1)) {m with bu:=w0.extract 0 (w0.size-1)} rfl Va.o);have TI:ζ D+1<=maxLen:=by unfold maxLen;omega
       have GJ:(ζ D+1)*168<=140737488355328:=I;clear Xh u TH BU Vg z;simp only[aH]at HH⊢;go_wp2_with fail
       go_region_law (refine ET rfl (.tmp 86) (.tmp 88) 105 rfl (δ w.1+1) 111 i0 _ 13 168 underlying105 HI.a HI.b HI.c HI.C rfl aj (i' T nl nc) (ζ D) (sJ D) (by simp[Act.eval,Act.put]) HH.a (O (δ o.1+1) 0) 1 1 _ (by simp[Act.eval,Act.put]) rfl HH.b HH.c TI GJ HH.C ?_;intro v4 W4 U W;have GM:=pH W;clear W;obtain⟨a4,c4,rfl⟩:=aV U;obtain⟨vv4,M!⟩:=Va.o.kept GM;have x41:=M M!)
       all_goals
        go_wp2_with fail;have N:=Mn (wa:=B' (O h 1)) (wl:=(ζ g+1)) (wc:=(cap-1)) f.o P.o;refine⟨⟨k+1,k+1,a4,ζ D+1,c4,S,X,V++[Sw E (w0::x::g)],D++[⟨{m with bu:=w0.extract 0 (w0.size-1)},B' (O h 1),(ζ g+1),(cap-1)⟩],Be,I,I,f',f',⟨l.a,by rw[l.A,Ms C.o f.o P.o]⟩,?_⟩,by simp[intOf];omega⟩;exact PS.add (Va.o.below ((aQ.alloc aF _).alloc ak _)) GM (by rw[bF,A6];exact U) ⟨N.1,⟨h,1,rfl,by rw[N.2];exact(HW3.o.alloc _).alloc _⟩,by rw[N.2];rfl⟩ (λa ha=>by cases ha;exact HAv.o) I
   |false=>
    rw[h58]at hci;have Y:J (r8 w0=false):=hci;clear hci;have f:J (pQ E (w0::r) (w0::r) emp 0):=Ky Y.o;go_wp2_with fail;have hAv:some h≠vb:=λe=>by have:=Vv.o h e.symm;omega
    have acr:δ w.1+1<=δ F.1:=by have:=p.o.rp.lt;omega
    refine(Mc w.1.size (δ w.1+1) h 0 cap (i' T nl nc) (i' C' 0 0) E vb (w0::r) F K (by have:=p.o.Jf;omega) acr I p.o.rp b.o hAv).mono ?_;rintro e o ⟨m,X,S,t,rfl,d,Xh,u,TH⟩;cases t with
    |false=>have Yc:J (kW s=Pr.P5):=s7 (by rw[l.A];exact xX C.o (f.o.no (by simpa using d.o)));have HB3:J (Bl w o):=p.o.WC u;simp only[aH];clear Xh u TH;go_wp2_with fail;go_ret2;refine⟨HB3.o.alloc HB3.o.size _,?_⟩;rw[Yc.o];exact rfl
    |true=>
     have P:J (gw E (w0::r)=B' (m,S)):=by show _=_;simpa using d.o
     have HY:J (ζ S<=3*(k+1)):=by have h1:=Dq E (w0::r);rw[(f.o.yes m S P.o).2.2.2.1]at h1;have:=p.o.Jf;show _<=_;omega
     have Va:J (PS w s (k+1) (i' T nl nc) S X V D o):=p.o.call Xh u TH HY.o;have HW3:J (Ws o h 0 (w0::r)):=(b.o).rf p.o.rp hAv u;have HAv:J (some h≠X):=TH.ne b.o.lt hAv;have KZ:ζ D<=k:=p.o.Uu;obtain⟨vv,BU,Vg,z⟩:=Va.o.rp.box;have hx1:=M BU;have hBz:δ w.1<δ o.1:=Va.o.rp.lt;have hBn:δ w.1≠δ o.1:=I;have ags:δ o.1≠δ w.1:=I;have HH:=hid (Ce (i' (B' (O h 0)) (ζ r+1) cap) {m with bu:=emp} rfl Va.o);have TI:ζ D+1<=maxLen:=by unfold maxLen;omega
     have GJ:(ζ D+1)*168<=140737488355328:=I;clear Xh u TH BU Vg z;simp only[aH]at HH⊢;go_wp2_with fail
     go_region_law (refine ET rfl (.tmp 86) (.tmp 88) 105 rfl (δ w.1+1) 111 i0 _ 13 168 underlying105 HI.a HI.b HI.c HI.C rfl aj (i' T nl nc) (ζ D) (sJ D) (by simp[Act.eval,Act.put]) HH.a (O (δ o.1+1) 0) 1 1 _ (by simp[Act.eval,Act.put]) rfl HH.b HH.c TI GJ HH.C ?_;intro v4 W4 U W;have GM:=pH W;clear W;obtain⟨a4,c4,rfl⟩:=aV U;obtain⟨vv4,M!⟩:=Va.o.kept GM;have x41:=M M!)
     all_goals
      go_wp2_with fail;have N:=Mn (wa:=B' (O h 0)) (wl:=(ζ r+1)) (wc:=cap) f.o P.o;refine⟨⟨k+1,k+1,a4,ζ D+1,c4,S,X,V++[Sw E (w0::r)],D++[⟨{m with bu:=emp},B' (O h 0),(ζ r+1),cap⟩],Be,I,I,f',f',⟨l.a,by rw[l.A,Ms C.o f.o P.o]⟩,?_⟩,by simp[intOf];omega⟩
      exact PS.add (Va.o.below ((aQ.alloc aF _).alloc ak _)) GM (by rw[bF,A6];exact U) ⟨N.1,⟨h,0,rfl,by rw[N.2];exact(HW3.o.alloc _).alloc _⟩,by rw[N.2];rfl⟩ (λa ha=>by cases ha;exact HAv.o) I):p:=h
def JI(s:z')(w:u')(y:s.size<=3000):
  Cl 38 #[m' s] w (U4 w (kW s)):=by
 have N:decide (3000<(s.size:Int))=false:=by rw[cR];omega
 obtain⟨i0,S,D,P,a⟩:=cQ ab8;have HI:J (Tryz.prog.info? 111=B' i0/\i0.zero=B' (l' #[i' C' 0 0,m' ⟨#[]⟩,m' ⟨#[]⟩,G 0,G 0,G 0,m' ⟨#[]⟩,G 0,G 0,m' ⟨#[]⟩,G 0,m' ⟨#[]⟩,m' ⟨#[]⟩])/\i0.size=13/\i0.bytes=168):=⟨S,D,P,a⟩;clear S D P a;go_enter func38,ntmps38;go_wp2_with fail;go_loopw[5,6] (λf i wr=>∃(k fr:Nat) (T:x') (nl nc:Nat) (E:List bE) (vb:Option Nat) (V:List PN) (D:List RC) (q:List z'),k<=s.size+1/\fr<=k/\i=G k/\f=G fr/\J (tX s k fr q/\og [] [] (BH s)=og E V (q.map Ig))/\J (PS w s k (i' T nl nc) E vb V D wr)) (λ_ i _=>s.size+1-(intOf i).toNat)
 case atStart=>
  refine⟨0,0,C',0,0,[],C',[],[],MV s,I,I,rfl,rfl,⟨KO s,rfl⟩,?_⟩;refine⟨⟨⟨i' C' 0 0,bV,cb,rfl⟩,xg⟩,cb,⟨rfl,λj c p h=>by simp at h⟩,ak,aQ.alloc aF _,ak,ak⟩
 obtain⟨k,fr,T,nl,nc,E,vb,V,D,q,a,r,rfl,rfl,a,Q⟩:=hrel;by_cases R:k<=s.size;rotate_left
 ·obtain rfl:k=s.size+1:=I;have j:¬((s.size+1:Nat):Int)<=(s.size:Int):=I;have b:decide (((s.size+1:Nat):Int)<=(s.size:Int))=false:=cV j;have b:q=[]:=by have:=a.a;unfold tX at this;rw[aA I]at this;exact this
  subst b;have t:J (og [] [] (BH s)=B' (V,E)):=by show _=_;rw[a.A];rfl
  obtain⟨vv,BU,Vg,z⟩:=Q.o.rp.box;obtain⟨f,x,rfl⟩:=aV Vg;have l:=Q.o.row;have L:=Q.o.z6.len;by_cases v:ζ D=0\/60<ζ D\/8<ζ E
  ·have K:J (kW s=Pr.prg):=MB y t.o (by unfold hU;rw[<-L];rcases v with h|h|h<;>simp<;>omega);obtain⟨b,b,b⟩:=aV l;simp only[Value.slice.injEq]at b;obtain⟨rfl,rfl,rfl⟩:=b;have d:=hid (O! w.1.size T f C' (ζ D) nc (ζ E) x 0 0 wr BU v);clear BU Vg z l v;go_wp2_with fail;refine bK d.o ?_;rintro e C ⟨rfl,rfl⟩;go_wp2_with fail;go_ret2;refine⟨Q.o.low,?_⟩;rw[K.o];exact rfl
  obtain⟨g,u,b,d,p⟩:=E! l I;simp only[Value.slice.injEq]at b;obtain⟨rfl,rfl,rfl⟩:=b;have b:=hid (Kw w.1.size g nc (ζ E) x f D wr BU p I I I);have o:J (hU V E=P8 D):=by show _=_;unfold hU;rw[Gf Q.o.z6.rel I,<-L];have h1:decide (ζ E<=8)=true:=ei I;have f:decide (0<ζ D)=true:=ei I;have N:decide (ζ D<=60)=true:=ei I;rw[h1,f,N];rfl
  have U:J (0<ζ D):=by show 0<ζ D;omega
  clear BU Vg z l v p;go_wp2_with fail;refine bK b.o ?_;rintro e C ⟨rfl,f,b⟩;have i:J (Bl w C):=Q.o.WC b.MI;cases g:P8 D with
  |false=>have K:J (kW s=Pr.prg):=MB y t.o (by rw[o.o,g]);clear f;go_wp2_with fail;go_ret2;refine⟨i.o,?_⟩;rw[K.o];exact rfl
  |true=>have K:J (kW s=Pr.ok V E):=Wp y t.o (by rw[o.o,g]);obtain⟨y,l,C⟩:=f g;have l:=hid (SA Q.o d U.o g C b i.o);clear f C b;go_wp2_with fail;go_ret2;rw[K.o];exact l.o
 have j:(k:Int)<=(s.size:Int):=I;by_cases b:∃h:k<s.size,((s[k].toNat:Int)==10)=false
 ·obtain⟨L,d⟩:=b;have iz:(k:Int)<(s.size:Int):=I;have hb':((s[k].toNat:Int) !=10)=true:=by simp only[bne,d];rfl
  have B:J (tX s (k+1) fr q):=Tq s k fr q L r d a.a;go_wp2_with fail;exact⟨⟨k+1,fr,T,nl,nc,E,vb,V,D,q,I,I,f',rfl,⟨B.o,a.A⟩,Q.o.next⟩,by simp[intOf];omega⟩
 have afl:∀h:k<s.size,((s[k].toNat:Int)==10)=true:=by
  intro h;cases e:((s[k].toNat:Int)==10)with
  |true=>rfl
  |false=>exact absurd ⟨h,e⟩ b
 obtain⟨Be,d,b⟩:=Tp s k fr q R r afl a.a;have l:J (tX s (k+1) (k+1) Be/\og [] [] (BH s)=og E V (Ig (s.extract fr k)::Be.map Ig)):=⟨b,by rw[a.A,d];rfl⟩;have a:(fr:Int)<=k:=I;clear d b;by_cases a:k=s.size
 ·have iz:¬(k:Int)<(s.size:Int):=I;have b:decide ((k:Int)<(s.size:Int))=false:=cV iz;have WX:(s.extract fr k).size<=3000:=by rw[IJ];omega
  clear a;exact QT
 have L:k<s.size:=I;have iz:(k:Int)<(s.size:Int):=I;have hb':((s[k].toNat:Int) !=10)=false:=by simp only[bne,afl L];rfl
 have WX:(s.extract fr k).size<=3000:=by rw[IJ];omega
 exact QT
def JJ(s:z')(w:u'):Cl 38 #[m' s] w (U4 w (kW s)):=by
 by_cases h:3000<s.size
 ·have e:kW s=Pr.P5:=by rw[kW,aB h]
  rw[e];refine F' (Fc s w (by rw[bq];omega)) ?_;exact⟨aQ,rfl⟩
 exact JI s w I
end
section
variable {b:u'} {D:List RC}
def QQ(m:RN)(v:Int):Bool:=(decide (0<m.ops)&&m.a.var==v)||(decide (1<m.ops)&&m.b.var==v)
def EN{p:Prop}(h:p:=by
 subst e;go_enter func185,ntmps185;go_wp2;go_ret
 exact⟨rfl,bf⟩):p:=h
def Oc(P:A')(m:RN)(v:Int)(w:u'):
  Cl 185 #[l' (aH P m),G v] w (Rb w (j' (QQ m v))):=by
 obtain⟨d,Q⟩:=Ea (QQ m v);rw[<-Q];have B:=hid Q;clear Q;obtain⟨a,S,a,⟨f,b,y⟩,⟨D,X,c⟩,a,b,g⟩:=m;simp only[aH];cases C:decide (0<a)
 ·cases b:decide (1<a)
  ·have e:d=P':=by rw[B.o];simp only[QQ,C,b];rfl
   exact EN
  have e:d=(D==v):=by rw[B.o];simp only[QQ,C,b,rm,dW,iE]
  exact EN
 cases N:(f==v);rotate_left
 ·have e:d=O':=by rw[B.o];simp only[QQ,C,N,dW,Bool.true_or]
  exact EN
 cases b:decide (1<a)
 ·have e:d=P':=by rw[B.o];simp only[QQ,C,b,N];rfl
  exact EN
 have e:d=(D==v):=by rw[B.o];simp only[QQ,C,b,N,ur,dW,iE]
 exact EN
structure DP(w:u')(pb:Nat)(cl:List RC)(nx:List (List Nat))(nv:Nat):Prop where
  box:∃g cap va vc xb xc,w.1[pb]?=B' (k' #[i' (B' (O g 0)) (ζ cl) cap,i' va nv vc,i' (B' (O xb 0)) (ζ cl) xc] 107 (0,0))/\mX w g cap cl/\∀(j:Nat) (l:List Nat),nx[j]?=B' l->∃ea ec,χ w (O xb j)=B' (aO ea (ζ l) ec)/\cE w ea (l.map Int.ofNat)
  len:ζ nx=ζ cl
def mX.below{g a:Nat}(h:mX w g a D)(c:Bl w b):mX b g a D:=by obtain⟨Y,C,a⟩:=h;exact⟨Y,(c.block _ (aY.1 C).1).trans C,a⟩
def DP.below{N Q:Nat}{v:List (List Nat)}(h:DP w N D v Q)(a:Bl w b):DP b N D v Q:=by obtain⟨g,b,z,x,u,q,C,c,N⟩:=h.box;refine⟨⟨g,b,z,x,u,q,(a.block _ (aY.1 C).1).trans C,c.below a,λj l f=>?_⟩,h.len⟩;obtain⟨b,B,c,i⟩:=N j l f;exact⟨b,B,ax c a,i.below a⟩
end
section
variable {n:Nat} {v:List (List Nat)}
def aam{p:Prop}(h:p:=by
 split
 ·rw[B,cC,cW,show j+1+ζ r=j+(ζ r+1)by omega]
 rw[B,cC,show j+1+ζ r=j+(ζ r+1)by omega]):p:=h
def BO(n t:Nat):∀(D:List Nat) (j:Nat),fA n j (D++[t])=fA n j D++(if t=n then[j+ζ D] else[])
 |[],j=>by simp[fA]
 |x::r,j=>by have B:=BO n t r (j+1);simp only[cW,fA];exact aam
def yU(n:Nat)(l:List Nat):∀(D:List (List Nat)) (j:Nat),dQ n j (D++[l])=dQ n j D++(fA n 0 l).map (λk=>(j+ζ D,k))
 |[],j=>by simp[dQ]
 |x::r,j=>by simp only[cW,dQ];rw[yU n l r (j+1),ef,cC,show j+1+ζ r=j+(ζ r+1)by omega]
def uP(n:Nat):∀(D:List Nat) (j:Nat),ζ (fA n j D)<=ζ D
 |[],j=>by simp[fA]
 |x::r,j=>by have:=uP n r (j+1);simp only[fA];split<;>simp<;>omega
def uQ(n:Nat):∀(D:List (List Nat)) (j:Nat),(∀l∈D,ζ l<=2)->ζ (dQ n j D)<=2*ζ D
 |[],j,_=>by simp[dQ]
 |x::r,j,h=>by have C:=uQ n r (j+1) (λl X=>h l (by simp[X]));have a:=uP n x 0;have N:=h x ak;simp only[dQ,bF,b!,cC];omega
def BM{w:u'}{B:Nat}{a:x'}{c:Nat}{D:List Int}(h:ρ w B 3 1 (i' a n c) (ζ D) (D.map G)):cE w a D:=by
 intro j x f;have r:=(bm.1 f).1;rcases h.2 with⟨_,e⟩|⟨g,a,Y,R,_⟩
 ·omega
 simp at R;obtain⟨rfl,rfl,rfl⟩:=R;have:=h.cells (g:=g) rfl j (G x) (by simp[f]);rw[eX]at this;exact⟨g,0,rfl,this⟩
def kX(n:Nat)(nx:List (List Nat))(i k:Nat):List Nat:=(dQ n 0 (nx.take i)).map Prod.fst++(fA n 0 ((nx.getD i []).take k)).map (λ_=>i)
def td{k t:Nat}(S:v[i]?=B' l)(a:l[k]?=B' t):kX n v i (k+1)=kX n v i k++(if t=n then[i] else[]):=by
 have X:=(bm.1 a).1;have e:v.getD i []=l:=by rw[getD,S];rfl
 unfold kX;rw[e,cX X,(bm.1 a).2,BO,eW,ef];congr 2;split<;>simp
def abz(S:v[i]?=B' l):kX n v i (ζ l)=kX n v (i+1) 0:=by
 have X:=(bm.1 S).1;have e:v.getD i []=l:=by rw[getD,S];rfl
 unfold kX;rw[e,gg,cX X,(bm.1 S).2,yU,eW,lY];simp[fA,gC,nX (rj X)]
def vk(N:Nat)(p:Int)(n:Nat)(D:List RC)(v:List (List Nat))(Q:Nat)(w:u')(h:DP w N D v Q)(T:ζ D<=60)(d:∀l∈v,ζ l<=2)(W:(p==2)=P')(a:(p==4)=P')(K:n<100):
  Cl 118 #[o' (B' (O N 0)),G p,G n] w λe b=>∃a c,e=p' (i' a (ζ ((dQ n 0 v).map Prod.fst)) c)/\cE b a (((dQ n 0 v).map Prod.fst).map Int.ofNat)/\Bl w b:=by
 obtain⟨N,S,a,P,b⟩:=cQ nQ;have p:J (_/\_/\_/\_):=⟨S,a,P,b⟩;clear S a P b;obtain⟨g,a,z,x,u,q,a,b,F⟩:=h.box;have L:=h.len;have s:=hid (A a (A F (A d h)));clear a b F h d;go_enter func118,ntmps118;go_wp2;go_loopw[7,8] (λb y wr=>∃(i:Nat) (j:x') (r:Nat),i<=ζ D/\y=G i/\b=i' j (ζ (kX n v i 0)) r/\J (ρ wr w.1.size 3 1 (i' j (ζ (kX n v i 0)) r) (ζ (kX n v i 0)) ((kX n v i 0).map λ(x:Nat)=>G x)/\Bl w wr)) (λ_ y _=>ζ D-(intOf y).toNat)
 ·exact⟨0,C',0,bj,rfl,rfl,by simp[kX,dQ,fA];exact cb,aQ⟩
 obtain⟨i,j,r,S,rfl,rfl,g⟩:=hrel;have E:=M ((g.A.block _ (aY.1 s.a).1).trans s.a);by_cases L:i<ζ D;rotate_left
 ·have d:i=ζ D:=I;have a:¬((i:Int)<(ζ D:Int)):=I;go_wp2;have U:kX n v i 0=(dQ n 0 v).map Prod.fst:=by rw[kX,cH I,lY];simp[fA]
  subst d;rw[U]at g;refine aC (v:=i' j (ζ (kX n v (ζ D) 0)) r) (by simp[results118,go_sem]) rfl ?_;rw[U];simp only[b!];exact⟨j,⟨r,rfl⟩,BM (by have Y:=g.a;simp at Y⊢;exact Y),g.A⟩
 have a:(i:Int)<(ζ D:Int):=I;obtain⟨l,X⟩:=La (l:=v) (i:=i) I;have a:=s.c l (aT X);have f:=hid X;clear X;go_wp2;go_loopw[7,9] (λb a wr=>∃(k:Nat) (j:x') (r:Nat),k<=ζ l/\a=G k/\b=i' j (ζ (kX n v i k)) r/\J (ρ wr w.1.size 3 1 (i' j (ζ (kX n v i k)) r) (ζ (kX n v i k)) ((kX n v i k).map λ(x:Nat)=>G x)/\Bl w wr)) (λ_ a _=>ζ l-(intOf a).toNat)
 ·exact⟨0,j,r,bj,rfl,rfl,g⟩
 clear E;obtain⟨k,j,r,a,rfl,rfl,g⟩:=hrel;have E:=M ((g.A.block _ (aY.1 s.a).1).trans s.a);obtain⟨a,B,V,u⟩:=s.b i l f.o;have a:=ax V g.A;have a:=hid u;clear V u;by_cases d:k<ζ l;rotate_left
 ·have q:k=ζ l:=I;have R:¬((k:Int)<(ζ l:Int)):=I;go_wp2;go_roundw
  ·
   subst q;rw[abz f.o]at g⊢;exact⟨i+1,j,r,L,f',rfl,g⟩
  exact G'
 have R:(k:Int)<(ζ l:Int):=I;obtain⟨t,U⟩:=La d;obtain⟨b,o,rfl,c⟩:=cE.below a.o g.A k (t:Int) (by simp[U]);have b:=hid U;clear U;have a:ζ (kX n v i k)<=200:=by have:=uQ n (v.take i) 0 (λl X=>s.c l (uq X));have:=uP n ((v.getD i []).take k) 0;simp only[kX,bF,b!,gC]at *;omega
 cases a:((t:Int)==(n:Int))
 ·go_wp2;go_roundw
  ·exact⟨k+1,j,r,d,f',by rw[td f.o b.o,aA (by simp at a;omega),gO],by rw[td f.o b.o,aA (by simp at a;omega),gO];exact g.o⟩
  exact G'
 have c:=g.a;have V:=hid g.a;go_wp2_with (at_builtin;(refine gu rfl _ _ 36 rfl w.1.size 3 N (G 0) 1 8 underlying36 p.a p.b p.c p.C rfl aj (i' j (ζ (kX n v i k)) r) (ζ (kX n v i k)) ((kX n v i k).map λ(x:Nat)=>G x) rfl (World.ownsRow.alloc V.o _) (O wr.1.size 0) 1 1 [G i] rfl rfl pN (by intro u C;simp at C;subst C;rfl) (by simp only[maxLen];omega) I (by have:=g.A.size;simp;omega) ?_);intro U l c F _;obtain⟨i,h,rfl⟩:=aV c;have W:=hid (A c F);clear c F E);go_roundw
 ·
  refine⟨k+1,i,h,d,f',?_,?_,?_⟩
  ·rw[td f.o b.o,aB (by simp at a;omega),bF,fF]
  ·rw[td f.o b.o,aB (by simp at a;omega),bF,fF,eW];exact W.a
  exact(g.A.alloc g.A.size _).grown W.A (by have:=g.A.size;simp;omega) (λq e=>(World.ownsRow.lt V.o q e).1)
 exact G'
end
section
variable {l:List DK} {a:x'}
def O7(d:DK)(l:List DK):Bool:=l.all λx=>decide (x≠d)
def MK(d:DK)(l:List DK):O7 d l=O'↔d∉l:=by simp only[O7,cF,bq];exact⟨λh Q=>h d Q rfl,λh x F e=>h (e▸F)⟩
def F9{d x:DK}{k:Nat}(h:l[k]?=B' x):O7 d (l.take (k+1))=(O7 d (l.take k)&&decide (x≠d)):=by have X:=(bm.1 h).1;rw[cX X,(bm.1 h).2];simp[O7]
def lK(l:List DK):List A':=l.flatMap e6
def K?(l:List DK)(x:DK):lK (l++[x])=lK l++e6 x:=by simp[lK]
def Hb:∀(l:List DK) (k:Nat) (x:DK),l[k]?=B' x->∀j u,(e6 x)[j]?=B' u->(lK l)[k*5+j]?=B' u
 |[],k,x,h,j,u,hu=>by simp at h
 |y::r,0,x,h,j,u,hu=>by simp at h;subst h;have f:=(bm.1 hu).1;rw[show lK (y::r)=e6 y++lK r by simp[lK],e?,bW,jN (by simpa[e6]using f)];exact hu
 |y::r,k+1,x,h,j,u,hu=>by rw[show lK (y::r)=e6 y++lK r by simp[lK],show(k+1)*5+j=5+(k*5+j)by omega,ek (by simp[e6])];simp only[e6,cC,gN,bW];rw[show 5+(k*5+j)-(1+1+1+1+1)=k*5+j by omega];exact Hb r k x (I' h) j u hu
def qM(a b:z'):a=b↔a.toList=b.toList:=⟨λh=>by rw[h],λh=>data_inj (by rw[dp,dp]at h;exact h)⟩
def AH(w:u')(a:x')(l:List DK):Prop:=∀(j:Nat) (x:DK),l[j]?=B' x->∃b o,a=B' (O b o)/\∀i u,(e6 x)[i]?=B' u->χ w (O b (o+j*5+i))=B' u
def AH.below{b:u'}(h:AH w a l)(c:Bl w b):AH b a l:=by intro j x f;obtain⟨b,o,e,T⟩:=h j x f;exact⟨b,o,e,λi u C=>ax (T i u C) c⟩
def AH.own{B n c:Nat}(h:ρ w B 301 5 (i' a n c) n (lK l))(K:ζ l=n):AH w a l:=by
 intro j x f;have r:=(bm.1 f).1;rcases h.2 with⟨_,e⟩|⟨g,a,Y,R,_⟩
 ·omega
 simp at R;obtain⟨rfl,rfl⟩:=R;refine⟨g,0,rfl,λi u C=>?_⟩;have:=h.cells (g:=g) rfl (j*5+i) u (Hb l j x f i u C);rw[eX]at this;rw[e9];exact this
def ou(cl:List RC)(i:Nat):List DK:=ze ((cl.take i).map λc=>mr c.n)
def T9{D:List RC}{i:Nat}{c:RC}(h:D[i]?=B' c):ou D (i+1)=eF (ou D i) (mr c.n):=by have X:=(bm.1 h).1;rw[ou,ze,cX X,(bm.1 h).2,eW,uo];rfl
def DJ(D:List RC)(i:Nat):ζ (ou D i)<=ζ D:=by have:=Nj ((D.take i).map λc=>mr c.n);simp only[b!,gC]at this;unfold ou;omega
def acb:(Tryz.prog.info? 301).map (λi=>(i.zero,i.size,i.bytes))=B' (B' (l' #[m' emp,m' emp,m' emp,G 0,G 0]),5,64):=au
def Mm(P:A')(m:RN)(w:u'):
  Cl 183 #[l' (aH P m)] w λe a=>∃(U b S:z') (c R:Int) (t:Bool),e=p' (t' #[l' (xm U b S c R),j' t])/\J (mr m=if t then B' (U,b,S,c,R) else C')/\Bl w a:=by
 refine(Ow P m w).mono ?_;rintro e a ⟨rfl,a⟩;cases Q:mr m with
 |none=>exact⟨_,_,_,_,_,P',rfl,rfl,a⟩
 |some d=>exact⟨_,_,_,_,_,O',rfl,rfl,a⟩
def xS(N:Nat)(D:List RC)(v:List (List Nat))(Q:Nat)(w:u')(h:DP w N D v Q)(T:ζ D<=60):
  Cl 116 (di N) w λe b=>∃a c,e=p' (i' a (ζ (ou D (ζ D))) c)/\AH b a (ou D (ζ D))/\Bl w b:=by
 obtain⟨i0,S,a,P,b⟩:=cQ acb;have HI:J (_/\_/\_/\_):=⟨S,a,P,b⟩;clear S a P b;obtain⟨g,a,z,x,u,q,a,b,F⟩:=h.box;have s:=hid (A a (A b h));clear a b F h;go_enter func116,ntmps116;go_wp2;go_loopw[3,4] (λa y wr=>∃(i n:Nat) (oa:x') (r:Nat),i<=ζ D/\y=G i/\a=i' oa n r/\n<=60/\J (n=ζ (ou D i))/\J (ρ wr w.1.size 301 5 (i' oa n r) n (lK (ou D i))/\Bl w wr)) (λ_ y _=>ζ D-(intOf y).toNat)
 ·exact⟨0,0,C',0,bj,rfl,rfl,I,rfl,cb,aQ⟩
 obtain⟨i,n,oa,r,S,rfl,rfl,Pq,K,x⟩:=hrel;have E:=M ((x.A.block _ (aY.1 s.a).1).trans s.a);by_cases L:i<ζ D;rotate_left
 ·have d:i=ζ D:=I;have a:¬((i:Int)<(ζ D:Int)):=I;go_wp2;subst d;refine aC (v:=i' oa n r) (by simp[results116,go_sem]) rfl ?_;exact⟨oa,⟨r,by rw[K.o]⟩,AH.own x.a K.o.symm,x.A⟩
 have a:(i:Int)<(ζ D:Int):=I;obtain⟨X,b⟩:=La (l:=D) (i:=i) I;have Y:=(s.b.below x.A).cells i X b;have v:=Y 0 I;have z:=Y 1 I;have F:=Y 2 I;have j:=Y 3 I;have L:=Y 4 I;have y:=Y 5 I;have q:=Y 6 I;have o:=Y 7 I;have k:=Y 8 I;have a:=Y 9 I;have C:=Y 10 I;have p:=Y 11 I;have u:=Y 12 I;simp only[aH,eu,getElem?_cons_zero,nj,gD]at v z F j L y q o k a C p u;have f:=hid b;clear b Y;go_wp2_with (go_at_call 183;refine(Mm X.wv X.n _).mono ?_;rintro e d ⟨U,c,S,s,R,t,rfl,X,(b:J _)⟩);generalize g:(d.alloc (k' (xm U c S s R) 301))=V;have B:J (Bl wr V/\d' V d.1.size (xm U c S s R) 301/\δ w.1<=δ d.1):=by subst g;exact⟨b.o.alloc b.o.size _,bV,by have:=b.o.size;have:=x.A.size;omega⟩
 clear g E v z F j L y q o k a C p u;generalize δ d.1=a at B;go_loopw[6,7] (λb j q=>∃(k:Nat),k<=n/\j=G k/\b=j' (t&&O7 (U,c,S,s,R) ((ou D i).take k))/\J (Bl V q)) (λ_ j _=>n-(intOf j).toNat)
 ·exact⟨0,bj,rfl,by simp[O7],aQ⟩
 obtain⟨k,b,rfl,rfl,E⟩:=hrel
 rename u'=>q
 have y:J (d' q a (xm U c S s R) 301):=(E.o.block _ (aY.1 B.b).1).trans B.b;by_cases a:k<n
 ·have j:(k:Int)<n:=I;obtain⟨⟨g,l,u,W,v⟩,Q⟩:∃d,(ou D i)[k]?=B' d:=⟨_,bR (J' K.o)⟩;obtain⟨b,o,rfl,Y⟩:=((AH.own x.a K.o.symm).below (H B.a E.o)) k _ Q;have T:=Y 0 _ rfl;have a:=Y 1 _ rfl;have p:=Y 2 _ rfl;have a:=Y 3 _ rfl;have P:=Y 4 _ rfl;simp only[gD]at T;have a:=hid Q;clear Y Q;have p:=M y.o;cases o:(t&&O7 (U,c,S,s,R) ((ou D i).take k))
  ·go_wp2
   go_region
   go_wp2;go_roundw
   ·exact⟨k+1,I,f',by rw[F9 a.o,<-um,o];rfl,E.o.drew⟩
   exact G'
  have d:g.toList≠U.toList\/(g.toList=U.toList/\l.toList≠c.toList)\/(g.toList=U.toList/\l.toList=c.toList/\u.toList≠S.toList)\/(g.toList=U.toList/\l.toList=c.toList/\u.toList=S.toList/\W≠s)\/(g.toList=U.toList/\l.toList=c.toList/\u.toList=S.toList/\W=s/\v≠R)\/(g.toList=U.toList/\l.toList=c.toList/\u.toList=S.toList/\W=s/\v=R):=by by_cases N:g.toList=U.toList<;>by_cases F:l.toList=c.toList<;>by_cases b:u.toList=S.toList<;>by_cases C:W=s<;>by_cases z:v=R<;>simp[N,F,b,C,z]
  have z:(t&&O7 (U,c,S,s,R) ((ou D i).take (k+1)))=decide ((g,l,u,W,v)≠(U,c,S,s,R)):=by rw[F9 a.o,<-um,o,dW]
  rcases d with C|⟨C,a⟩|⟨C,a,N⟩|⟨C,a,N,d⟩|⟨C,a,N,d,l⟩|⟨C,a,N,d,l⟩
  all_goals
   go_wp2
   go_region
   go_wp2;go_roundw
   ·
    refine⟨k+1,I,f',?_,E.o.drew⟩;rw[z];congr 1;simp[qM, *]
   exact G'
 have a:k=n:=I;have j:¬((k:Int)<n):=I
 subst a;have a:(ou D i).take k=ou D i:=cH (J' K.o);rw[a];have v:J (ou D (i+1)=if t&&O7 (U,c,S,s,R) (ou D i) then ou D i++[(U,c,S,s,R)] else ou D i):=by
  show _=_;rw[T9 f.o,X.o];cases t with
  |false=>rfl
  |true=>
   simp only[c!,eF,dW];by_cases d:(U,c,S,s,R)∈ou D i
   ·rw[aB d,aA (by rw[MK];exact λh=>h d)]
   rw[aA d,aB ((MK _ _).2 d)]
 have gb:J (Bl wr q):=H B.a E.o;have a:J (ρ q w.1.size 301 5 (i' oa k r) k (lK (ou D i))):=aZ x.a gb.o;have p:=M y.o;cases o:(t&&O7 (U,c,S,s,R) (ou D i))
 ·go_wp2;go_roundw
  ·exact⟨i+1,k,oa,r,I,f',rfl,Pq,by rw[v.o,o];exact K,by rw[v.o,o];exact⟨a.o,H x.A gb.o⟩⟩
  exact G'
 have b:=gb.o.size;have b:=x.A.size;have b:=DJ D (i+1);rw[v.o,o,aB rfl,bF,fF,<-K.o]at b;have b:J (∀(j:Nat) (u:A'),(e6 (U,c,S,s,R))[j]?=B' u->χ (q.alloc (k' (xm U c S s R) 301)) (((O q.1.size 0):Addr).add j)=B' u):=by intro j u f;rw[eX,bW,AL];simpa[e6]using f
 go_wp2_with (at_builtin;refine gu rfl _ _ 203 rfl w.1.size 301 i0 _ 5 64 underlying203 HI.a HI.b HI.c HI.C rfl aj (i' oa k r) k (lK (ou D i)) rfl (a.o.alloc _) (O q.1.size 0) 1 1 (e6 (U,c,S,s,R)) rfl rfl b.o (by intro u C;simp[e6]at C;rcases C with rfl|rfl|rfl|rfl|rfl<;>rfl) (by simp only[maxLen];omega) I H' ?_;intro U l b F _;obtain⟨d,c,rfl⟩:=aV b;have W:=hid (A b F);clear b F p);go_roundw
 ·
  refine⟨i+1,k+1,d,c,I,f',rfl,I,?_,?_,?_⟩
  ·show k+1=_;rw[v.o,o,aB rfl,bF,fF,<-K.o]
  ·rw[v.o,o,aB rfl,K?];exact W.a
  exact((H x.A gb.o).alloc I _).grown W.A H' (λq e=>(World.ownsRow.lt a.o q e).1)
 exact G'
end
section
variable {D:List RC} {c:RC}
def mX.zH{w:u'}{g a:Nat}(h:mX w g a D)(a:D[k]?=B' c):
  χ w (O g (k*13))=B' c.wv/\χ w (O g (k*13+1))=B' (m' c.n.bu)/\χ w (O g (k*13+2))=B' (m' c.n.does)/\χ w (O g (k*13+3))=B' (G c.n.target) /\
  χ w (O g (k*13+4))=B' (G c.n.a.var)/\χ w (O g (k*13+5))=B' (G c.n.a.c)/\χ w (O g (k*13+6))=B' (m' c.n.a.word)/\χ w (O g (k*13+7))=B' (G c.n.b.var) /\
  χ w (O g (k*13+8))=B' (G c.n.b.c)/\χ w (O g (k*13+9))=B' (m' c.n.b.word)/\χ w (O g (k*13+10))=B' (G c.n.ops)/\χ w (O g (k*13+11))=B' (m' c.n.sign)/\χ w (O g (k*13+12))=B' (m' c.n.bB):=by
 have T:=h.cells k c a;exact⟨T 0 I,T 1 I,T 2 I,T 3 I,T 4 I,T 5 I,T 6 I,T 7 I,T 8 I,T 9 I,T 10 I,T 11 I,T 12 I⟩
def ky:Nat->List RC->List Nat
 |_,[]=>[]
 |j,c::r=>if 0<=c.n.target then j::ky (j+1) r else ky (j+1) r
def B6(c:RC):∀(D:List RC) (j:Nat),ky j (D++[c])=ky j D++(if 0<=c.n.target then[j+ζ D] else[])
 |[],j=>by simp[ky]
 |x::r,j=>by have B:=B6 c r (j+1);simp only[cW,ky];exact aam
def jD(h:D[i]?=B' c):ky 0 (D.take (i+1))=ky 0 (D.take i)++(if 0<=c.n.target then[i] else[]):=by have X:=(bm.1 h).1;rw[cX X,(bm.1 h).2,B6,gC,nX (rj X),bW]
def Hc(D:List RC):∀(d i:Nat),ky 0 (D.take i) <+: ky 0 (D.take (i+d))
 |0,i=>fE
 |d+1,i=>by
  refine(Hc D d i).trans ?_;by_cases h:i+d<ζ D
  ·rw[<-e9,jD (bR h)];exact I8 _ _
  rw[<-e9,cH I,cH I];exact fE
def He(D:List RC):∀(i:Nat),ζ (ky 0 (D.take i))<=i
 |0=>by simp[ky]
 |i+1=>by
  have B:=He D i;by_cases h:i<ζ D
  ·rw[jD (bR h)];split<;>simp<;>omega
  rw[cH I];rw[cH I]at B;omega
def XC(h:D[i]?=B' c)(U:0<=c.n.target)(a:k=ζ (ky 0 (D.take i))):(ky 0 D)[k]?=B' i:=by have X:=(bm.1 h).1;have C:=Hc D (ζ D-(i+1)) (i+1);rw[show i+1+(ζ D-(i+1))=ζ D by omega,gg,jD h,aB U]at C;obtain⟨r,b⟩:=C;rw[<-b,a,ef,ek aF];simp
def Iz(cl:List RC)(nv f:Nat):Int×Int:=if f<nv then((f:Int),-1) else match (ky 0 cl)[f-nv]? with|some i=>(match cl[i]? with|some c=>(c.n.target,(i:Int))|none=>(-1,-1))|none=>(-1,-1)
def nB(N f:Nat)(D:List RC)(v:List (List Nat))(Q:Nat)(w:u')(h:DP w N D v Q)(T:ζ D<=60)(R:Q<=8)(Y:f<=1000):
  Cl 184 #[o' (B' (O N 0)),G f] w (Rb w (t' #[G (Iz D Q f).1,G (Iz D Q f).2])):=by
 obtain⟨g,a,z,x,u,q,a,b,F⟩:=h.box;have s:=hid (A a (A b h));clear b F h;have E:=M a;clear a;by_cases a:f<Q
 ·have b:(f:Int)<Q:=I;have e:Iz D Q f=((f:Int),-1):=by rw[Iz,aB a]
  rw[e];go_enter func184,ntmps184;go_wp2;go_ret2;exact⟨rfl,aQ⟩
 have b:¬((f:Int)<Q):=I;go_enter func184,ntmps184;go_wp2;clear E;go_loopw[6,7] (λj y wr=>∃(i k:Nat),i<=ζ D/\y=G i/\k=Q+ζ (ky 0 (D.take i))/\k<=f/\j=G k/\J (Bl w wr)) (λ_ y _=>ζ D-(intOf y).toNat)
 ·exact⟨0,Q,bj,rfl,by simp[ky],I,rfl,aQ⟩
 obtain⟨i,k,S,rfl,h,c,rfl,g⟩:=hrel;have E:=M ((g.o.block _ (aY.1 s.a).1).trans s.a);by_cases L:i<ζ D;rotate_left
 ·have d:i=ζ D:=I;have b:¬((i:Int)<(ζ D:Int)):=I;have e:Iz D Q f=(-1,-1):=by subst d;rw[gg]at h;rw[Iz,aA a,dA I]
  go_wp2;go_ret2;exact⟨by first|rfl|(rw[e];rfl)|simp[e],g.o⟩
 have b:(i:Int)<(ζ D:Int):=I;obtain⟨X,b⟩:=La (l:=D) (i:=i) I;obtain⟨-,-,-,d,-⟩:=(s.b.below g.o).zH b;have d:=hid b;clear b;by_cases U:X.n.target<0
 ·go_wp2;go_roundw
  ·exact⟨i+1,k,I,f',by rw[jD d.o,aA I,gO];exact h,c,rfl,g⟩
  exact G'
 have c:¬(X.n.target<0):=U;cases o:((k:Int)==(f:Int))
 ·go_wp2;go_roundw
  ·exact⟨i+1,k+1,I,f',by rw[jD d.o,aB I,bF,fF];omega,by simp at o;omega,f',g⟩
  exact G'
 have e:Iz D Q f=(X.n.target,(i:Int)):=by simp at o;rw[Iz,aA a,XC d.o I (k:=f-Q) I];simp only[d.o]
 go_wp2;go_ret2;exact⟨by first|rfl|(rw[e];rfl)|simp[e],g.o⟩
def fcD(cl:List RC)(nv:Nat)(p:Int):Nat:=if p=1 then nv+ζ (ky 0 cl) else if p=2 then nv else(ou cl (ζ cl)).length
def xR(N:Nat)(p:Int)(D:List RC)(v:List (List Nat))(Q:Nat)(w:u')(h:DP w N D v Q)(T:ζ D<=60)(R:Q<=8):
  Cl 74 #[o' (B' (O N 0)),G p] w (Rb w (G (fcD D Q p:Nat))):=by
 obtain⟨g,a,z,x,u,q,a,b,F⟩:=h.box;have s:=hid (A a (A b h));clear b F h;have E:=M a;clear a;by_cases Y:p=1;rotate_left
 ·by_cases W:p=2
  ·subst W;have e:fcD D Q 2=Q:=rfl;rw[e];go_enter func74,ntmps74;go_wp2;go_ret;exact⟨rfl,aQ⟩
  have e:fcD D Q p=ζ (ou D (ζ D)):=by rw[fcD,aA Y,aA W]
  rw[e];have a:(p==1)=P':=by simp[Y]
  have o:(p==2)=P':=by simp[W]
  have K:=DJ D (ζ D);go_enter func74,ntmps74;go_wp2_with (go_at_call 116;refine(xS N D v Q _ s.B T).mono ?_;rintro e t ⟨a,c,rfl,a,l⟩);go_ret;exact⟨rfl,l⟩
 subst Y;have e:fcD D Q 1=Q+ζ (ky 0 D):=rfl;rw[e];go_enter func74,ntmps74;go_wp2;clear E;go_loopw[5,6] (λj y wr=>∃(i k:Nat),i<=ζ D/\y=G i/\k=Q+ζ (ky 0 (D.take i))/\k<=100/\j=G k/\J (Bl w wr)) (λ_ y _=>ζ D-(intOf y).toNat)
 ·exact⟨0,Q,bj,rfl,by simp[ky],I,rfl,aQ⟩
 obtain⟨i,k,S,rfl,e,c,rfl,a⟩:=hrel;have E:=M ((a.o.block _ (aY.1 s.a).1).trans s.a);have b:=He D i;by_cases L:i<ζ D;rotate_left
 ·have d:i=ζ D:=I;have b:¬((i:Int)<(ζ D:Int)):=I;subst d;rw[gg]at e;go_wp2;go_ret;exact⟨by show p' (G _)=_;simp,a.o⟩
 have b:(i:Int)<(ζ D:Int):=I;obtain⟨X,b⟩:=La (l:=D) (i:=i) I;obtain⟨-,-,-,d,-⟩:=(s.b.below a.o).zH b;have f:=hid b;clear b;by_cases U:0<=X.n.target
 ·go_wp2;go_roundw
  ·exact⟨i+1,k+1,I,f',by rw[jD f.o,aB U,bF,fF];omega,I,f',a⟩
  exact G'
 go_wp2;go_roundw
 ·exact⟨i+1,k,I,f',by rw[jD f.o,aA U,gO];exact e,c,rfl,a⟩
 exact G'
end
def Vo(m:RN)(y:DK):Bool:=match mr m with|some x=>decide (x=y)|none=>P'
def ZY(m:RN)(y:DK):Bool:=decide (0<=m.target)&&(y.2.2.2.1==m.target||y.2.2.2.2==m.target)
def L3{p:Prop}(h:p:=by
 go_wp2_with fail
 go_region
 go_wp2_with fail;go_ret2
 exact⟨rfl,(H B.a (H g.a gb.o)).drew⟩):p:=h
def uF(N i f:Nat)(D:List RC)(v:List (List Nat))(Q:Nat)(w:u')(h:DP w N D v Q)(T:ζ D<=60)(X:RC)(y:DK)(S:D[i]?=B' X)(Y:(ou D (ζ D))[f]?=B' y):
  Cl 186 #[o' (B' (O N 0)),G i,G f] w (Rb w (t' #[j' (Vo X.n y),j' (ZY X.n y)])):=by
 obtain⟨g,a,z,x,u,q,b,c,F⟩:=h.box;have d:=(bm.1 S).1;have j:=(bm.1 Y).1;have K:=DJ D (ζ D);have a:(i:Int)<(ζ D:Int):=I;have a:(f:Int)<(ζ (ou D (ζ D)):Int):=I;have s:=hid (A b (A c (A h (A S Y))));clear c F h b S Y;obtain⟨u,o⟩:=Ea (ZY X.n y);obtain⟨C,L⟩:=Ea (Vo X.n y);rw[<-o,<-L];have z:=hid (A o L);clear o L;go_enter func186,ntmps186;go_upto_region 2 with(go_at_call 116;refine(xS N D v Q _ s.c T).mono ?_;rintro e t ⟨a,c,rfl,x,l⟩;have r:=hid (A x l);clear l)
 have E:=M ((r.A.block _ (aY.1 s.a).1).trans s.a);have b:=(s.b.below r.A).zH s.d;go_upto_region 3 with(fail)
 generalize g:(t.alloc (sA X.wa X.wl X.wc X.n.bu X.n.does X.n.target X.n.a.var X.n.a.c X.n.a.word X.n.b.var X.n.b.c X.n.b.word X.n.ops X.n.sign X.n.bB))=V;have B:J (Bl w V/\AH V a (ou D (ζ D))/\d' V t.1.size #[i' X.wa X.wl X.wc,m' X.n.bu,m' X.n.does,G X.n.target,G X.n.a.var,G X.n.a.c,m' X.n.a.word,G X.n.b.var,G X.n.b.c,m' X.n.b.word,G X.n.ops,m' X.n.sign,m' X.n.bB] 111):=by subst g;exact⟨r.A.alloc r.A.size _,AH.below r.a (aQ.alloc aF _),bV⟩
 clear g E b;generalize δ t.1=a at B;have E:=M B.B;go_upto_region 4 with(go_at_call 183;refine(Mm X.wv X.n _).mono ?_;rintro e F ⟨c,d,h,i,R,t,rfl,w,l⟩;have j:=hid l;clear l E)
 generalize a:(F.alloc (k' (xm c d h i R) 301))=U;have g:J (Bl V U/\d' U F.1.size (xm c d h i R) 301):=by subst a;exact⟨j.o.alloc j.o.size _,bV⟩
 clear a;generalize δ F.1=a at g;obtain⟨S,j,l,W,k⟩:=y;obtain⟨b,o,rfl,Y⟩:=(B.b.below g.a) f _ s.D;have T:=Y 0 _ rfl;have Q:=Y 1 _ rfl;have p:=Y 2 _ rfl;have f:=Y 3 _ rfl;have P:=Y 4 _ rfl;simp only[gD]at T;have s:=M g.A;have r:=hid (A f P);clear Y
 go_cut [12] from 23 to 37 (λv q=>v=j' C/\J (q=U\/q=U.drew))
 case first=>
  have a:C=if t then decide ((c,d,h,i,R)=(S,j,l,W,k)) else P':=by rw[z.A,Vo,w.o];cases t<;>rfl
  cases t
  ·subst a;go_wp2
   go_region
   go_wp2
   go_meet
   exact⟨rfl,aK rfl⟩
  have o:c.toList≠S.toList\/(c.toList=S.toList/\d.toList≠j.toList)\/(c.toList=S.toList/\d.toList=j.toList/\h.toList≠l.toList)\/(c.toList=S.toList/\d.toList=j.toList/\h.toList=l.toList/\i≠W)\/(c.toList=S.toList/\d.toList=j.toList/\h.toList=l.toList/\i=W/\R≠k)\/(c.toList=S.toList/\d.toList=j.toList/\h.toList=l.toList/\i=W/\R=k):=by by_cases N:c.toList=S.toList<;>by_cases c:d.toList=j.toList<;>by_cases b:h.toList=l.toList<;>by_cases C:i=W<;>by_cases t:R=k<;>simp[N,c,b,C,t]
  have b:=hid a;clear a;rcases o with C|⟨C,a⟩|⟨C,a,N⟩|⟨C,a,N,d⟩|⟨C,a,N,d,l⟩|⟨C,a,N,d,l⟩
  all_goals
   go_wp2
   go_region
   go_wp2
   go_meet
   refine⟨?_,aK rfl⟩;rw[b.o];congr 1;simp[qM, *]
 obtain⟨rfl,b⟩:=hcut;clear s T Q p f P
 rename u'=>q
 have p:Bl U q:=by
  rcases b.o with e|e
  ·rw[e];exact aQ
  rw[e];exact aQ.drew
 have f:=ax r.a p;have P:=ax r.A p;have E:=M ((p.block _ (by have:=(aY.1 B.B).1;have:=g.a.size;omega)).trans ((g.a.block _ (aY.1 B.B).1).trans B.B));have gb:=hid p;have x:J (u=(decide (0<=X.n.target)&&(W==X.n.target||k==X.n.target))):=z.a;clear p;by_cases U:0<=X.n.target;rotate_left
 ·obtain rfl:u=P':=by rw[x.o];simp[U]
  have hF:(0<=X.n.target)=False:=I' U;have R:decide (0<=X.n.target)=P':=I' U;exact L3
 cases C:(W==X.n.target);rotate_left
 ·obtain rfl:u=O':=by rw[x.o,C];simp[U]
  exact L3
 cases a:(k==X.n.target)
 ·obtain rfl:u=P':=by rw[x.o,C,a];simp
  exact L3
 obtain rfl:u=O':=by rw[x.o,C,a];simp[U]
 exact L3
def vm(N:Nat)(p:Int)(n:Nat)(D:List RC)(v:List (List Nat))(Q:Nat)(w:u')(h:DP w N D v Q)(l:List Nat)(X:v[n]?=B' l)(T:ζ D<=60)(U:p=2\/p=4):
  Cl 118 #[o' (B' (O N 0)),G p,G n] w λe b=>∃a c,e=p' (aO a (ζ l) c)/\cE b a (l.map Int.ofNat)/\Bl w b:=by
 obtain⟨g,a,z,x,u,q,a,d,F⟩:=h.box;have L:=h.len;obtain⟨b,B,V,u⟩:=F n l X;have k:=(bm.1 X).1;have c:(n:Int)<(ζ D:Int):=I;have E:=M a;have s:=hid u;clear d F h a X u;rcases U with rfl|rfl
 all_goals
  go_enter func118,ntmps118;go_wp2;refine aC (v:=i' b (ζ l) B) (by simp[results118,go_sem]) rfl ?_;exact⟨b,B,rfl,s.o,aQ⟩
def Ox(m:RN):Bool:=m.does.toList==[114,101,116,117,114,110]
def Rn(h:p:=by
 rw[V];go_enter func117,ntmps117;go_wp2_with (go_at_call 184;refine(B.o _ s.B).mono ?_;rintro e t ⟨rfl,l⟩;have r:=hid l;clear l);go_ret
 exact⟨rfl,r.o⟩):p:=h
def adP(f n:Nat)(N:Nat)(D:List RC)(v:List (List Nat))(Q:Nat)(w:u')(h:DP w N D v Q)(T:ζ D<=60)(R:Q<=8)(Y:f<=1000):
  Cl 117 #[o' (B' (O N 0)),G 1,G f,G n,G (-1)] w (Rb w (j' (decide (n=0)&&decide ((Iz D Q f).2<0)))):=by
 obtain⟨g,a,z,x,u,q,a,c,F⟩:=h.box;have s:=hid (A a (A c h));have E:=M a;clear c F h a;obtain⟨d,a⟩:=Ea (Iz D Q f);rw[<-a];have B:J (∀W,DP W N D v Q->Cl 184 #[o' (B' (O N 0)),G f] W (Rb W (t' #[G d.1,G d.2]))):=by rw[a];exact λW j=>nB N f D v Q W j T R Y
 clear a;by_cases K:n=0;rotate_left
 ·have V:(decide (n=0)&&decide (d.2<0))=P':=by simp[K]
  have u:((n:Int)==0)=P':=by simp;omega
  exact Rn
 subst K;by_cases P:d.2<0
 ·have V:(decide ((0:Nat)=0)&&decide (d.2<0))=O':=by simp[P]
  exact Rn
 have V:(decide ((0:Nat)=0)&&decide (d.2<0))=P':=by simp[P]
 have hF:(d.2<0)=False:=I' P;exact Rn
def aa4(f n m:Nat)(N:Nat)(D:List RC)(v:List (List Nat))(Q:Nat)(w:u')(h:DP w N D v Q)(T:ζ D<=60)(R:Q<=8)(Y:f<=1000):
  Cl 117 #[o' (B' (O N 0)),G 1,G f,G n,G m] w (Rb w (j' ((Iz D Q f).2==(m:Int)))):=by
 obtain⟨g,a,z,x,u,q,a,b,F⟩:=h.box;have s:=hid (A a (A b h));have E:=M a;clear b F h a;have hF:((m:Int)<0)=False:=ak;go_enter func117,ntmps117;go_wp2_with (go_at_call 184;refine(nB N f D v Q _ s.B T R Y).mono ?_;rintro e t ⟨rfl,l⟩;clear E;have E:=M ((l.block _ (aY.1 s.a).1).trans s.a);have r:=hid l;clear l);go_ret;exact⟨rfl,r.o⟩
def adO(f n:Nat)(b:Int)(N:Nat)(D:List RC)(v:List (List Nat))(Q:Nat)(w:u')(h:DP w N D v Q)(T:ζ D<=60)(R:Q<=8)(X:RC)(K:D[n]?=B' X):
  Cl 117 #[o' (B' (O N 0)),G 2,G f,G n,G b] w (Rb w (j' (QQ X.n (f:Int)))):=by
 obtain⟨g,a,z,x,u,q,a,b,F⟩:=h.box;have s:=hid (A a (A b h));have E:=M a;clear b F h a;have r:=s.b.zH K;have k:=(bm.1 K).1;have a:(n:Int)<(ζ D:Int):=I;clear K;go_enter func117,ntmps117;go_wp2_with (go_at_call 185;refine(Oc X.wv X.n (f:Int) _).mono ?_;rintro e t ⟨rfl,(r:J _)⟩);go_ret;exact⟨rfl,r.o⟩
def Rm(h:p:=by
 go_enter func117,ntmps117;go_wp2;go_ret
 exact⟨rfl,aQ⟩):p:=h
def adN(f n:Nat)(N:Nat)(D:List RC)(v:List (List Nat))(Q:Nat)(w:u')(h:DP w N D v Q)(T:ζ D<=60)(R:Q<=8):
  Cl 117 #[o' (B' (O N 0)),G 3,G f,G n,G (-1)] w (Rb w (j' (decide (n=0)))):=by
 obtain⟨g,a,z,x,u,q,a,b,F⟩:=h.box;have s:=hid (A a (A b h));have E:=M a;clear b F h a;by_cases K:n=0
 ·subst K;exact Rm
 have V:decide (n=0)=P':=by simp[K]
 have u:((n:Int)==0)=P':=by simp;omega
 rw[V];exact Rm
def Zr(h:p:=by
 go_wp2_with (go_at_call 186;refine(uF N m f D v Q _ s.B T X y d B).mono ?_;rintro e t ⟨rfl,(r:J _)⟩);go_ret
 exact⟨rfl,r.o⟩):p:=h
def aa3(f n m:Nat)(N:Nat)(D:List RC)(v:List (List Nat))(Q:Nat)(w:u')(h:DP w N D v Q)(T:ζ D<=60)(R:Q<=8)(X:RC)(y:DK)(d:D[m]?=B' X)(B:(ou D (ζ D))[f]?=B' y):
  Cl 117 #[o' (B' (O N 0)),G 3,G f,G n,G m] w (Rb w (j' (ZY X.n y))):=by
 obtain⟨g,a,z,x,u,q,a,b,F⟩:=h.box;have s:=hid (A a (A b h));have E:=M a;clear b F h a;have hF:((m:Int)<0)=False:=ak;go_enter func117,ntmps117;exact Zr
def adM(f n:Nat)(b:Int)(N:Nat)(D:List RC)(v:List (List Nat))(l:Nat)(w:u')(h:DP w N D v l)(T:ζ D<=60)(R:l<=8)(X:RC)(y:DK)(c:D[n]?=B' X)(B:(ou D (ζ D))[f]?=B' y):
  Cl 117 #[o' (B' (O N 0)),G 4,G f,G n,G b] w (Rb w (j' (Ox X.n||(ZY X.n y&&!Vo X.n y)))):=by
 obtain⟨g,g,z,x,u,q,g,hr,F⟩:=h.box;have s:=hid (A g (A hr h));have E:=M g;clear hr F h g;have q:=hid c;have r:=s.b.zH c;have g:=(bm.1 c).1;have g:(n:Int)<(ζ D:Int):=I;clear c;obtain⟨c,o⟩:=Ea (ZY X.n y);obtain⟨g,L⟩:=Ea (Vo X.n y);obtain⟨rt,C⟩:=Ea (Ox X.n);have p:J (∀W,DP W N D v l->Cl 186 #[o' (B' (O N 0)),G n,G f] W (Rb W (t' #[j' g,j' c]))):=by rw[o,L];exact λW hW=>uF N n f D v l W hW T X y q.o B
 rw[<-o,<-L,<-C];unfold Ox at C;clear o L B;cases rt
 ·have q:=C.symm;clear C;cases c
  all_goals
   go_enter func117,ntmps117;go_wp2_with (go_at_call 186;refine(p.o _ s.B).mono ?_;rintro e t ⟨rfl,(r:J _)⟩);go_ret;exact⟨rfl,r.o⟩
 have q:=C.symm;clear C;exact Rm
def aa8(f n m:Nat)(N:Nat)(D:List RC)(v:List (List Nat))(Q:Nat)(w:u')(h:DP w N D v Q)(T:ζ D<=60)(R:Q<=8)(Y:f<=1000)(X:RC)(K:D[m]?=B' X):
  Cl 119 #[o' (B' (O N 0)),G 1,G f,G n,G m] w (Rb w (j' (X.n.target !=(Iz D Q f).1))):=by
 obtain⟨g,a,z,x,u,q,a,b,F⟩:=h.box;have s:=hid (A a (A b h));have E:=M a;clear b F h a;have b:=hid K;have k:=(bm.1 K).1;have a:(m:Int)<(ζ D:Int):=I;clear K;go_enter func119,ntmps119;go_wp2_with (go_at_call 184;refine(nB N f D v Q _ s.B T R Y).mono ?_;rintro e t ⟨rfl,l⟩;clear E;have E:=M ((l.block _ (aY.1 s.a).1).trans s.a);obtain⟨-,-,-,i,-⟩:=(s.b.below l).zH b.o;have r:=hid l;clear l);go_ret;exact⟨rfl,r.o⟩
def aa7(f n:Nat)(b:Int)(N:Nat)(D:List RC)(v:List (List Nat))(Q:Nat)(w:u')(h:DP w N D v Q)(T:ζ D<=60)(R:Q<=8)(X:RC)(K:D[n]?=B' X):
  Cl 119 #[o' (B' (O N 0)),G 2,G f,G n,G b] w (Rb w (j' (X.n.target !=(f:Int)))):=by
 obtain⟨g,a,z,x,u,q,a,b,F⟩:=h.box;have s:=hid (A a (A b h));have E:=M a;clear b F h a;have r:=s.b.zH K;have k:=(bm.1 K).1;have a:(n:Int)<(ζ D:Int):=I;clear K;go_enter func119,ntmps119;go_wp2;go_ret;exact⟨rfl,aQ⟩
def aa6(f n m:Nat)(N:Nat)(D:List RC)(v:List (List Nat))(Q:Nat)(w:u')(h:DP w N D v Q)(T:ζ D<=60)(R:Q<=8)(X:RC)(y:DK)(d:D[m]?=B' X)(B:(ou D (ζ D))[f]?=B' y):
  Cl 119 #[o' (B' (O N 0)),G 3,G f,G n,G m] w (Rb w (j' (!Vo X.n y))):=by
 obtain⟨g,a,z,x,u,q,a,b,F⟩:=h.box;have s:=hid (A a (A b h));have E:=M a;clear b F h a;go_enter func119,ntmps119;exact Zr
def aa5(f n:Nat)(b:Int)(N:Nat)(D:List RC)(v:List (List Nat))(Q:Nat)(w:u')(h:DP w N D v Q)(T:ζ D<=60)(R:Q<=8)(X:RC)(y:DK)(d:D[n]?=B' X)(B:(ou D (ζ D))[f]?=B' y):
  Cl 119 #[o' (B' (O N 0)),G 4,G f,G n,G b] w (Rb w (j' (!Vo X.n y))):=by
 obtain⟨g,a,z,x,u,q,a,b,F⟩:=h.box;have s:=hid (A a (A b h));have E:=M a;clear b F h a;go_enter func119,ntmps119;go_wp2_with (go_at_call 186;refine(uF N n f D v Q _ s.B T X y d B).mono ?_;rintro e t ⟨rfl,(r:J _)⟩);go_ret;exact⟨rfl,r.o⟩
section
variable {m:Nat}
def Ee(w:u')(a:x')(l:List Bool):Prop:=∀(j:Nat) (x:Bool),l[j]?=B' x->∃b o,a=B' (O b o)/\χ w (O b (o+j))=B' (j' x)
def Ee.below{w b:u'}{a:x'}{l:List Bool}(h:Ee w a l)(d:Bl w b):Ee b a l:=by intro j x f;obtain⟨b,o,e,c⟩:=h j x f;exact⟨b,o,e,ax c d⟩
def hit(ad ps:Nat->Bool)(ths:List Bool)(m:Nat):Bool:=ad m||(ps m&&ths.getD m P')
def AE(F:Nat->Bool)(h:l[k]?=B' m):(l.take (k+1)).any F=((l.take k).any F||F m):=by have X:=(bm.1 h).1;rw[cX X,(bm.1 h).2];simp
def NA(F:Nat->Bool)(h:l[k]?=B' m)(Y:F m=O'):l.any F=O':=any_eq_true.2 ⟨m,aT h,Y⟩
def Zq{p:Prop}(h:p:=by
 go_roundw
 case rel=>exact⟨k+1,I,f',by rw[AE _ r.o,h.a,X.o];rfl,H h.A u.o⟩
 simp[intOf];omega):p:=h
def pY(N:Nat)(p:Int)(f n:Nat)(d:x')(i:Nat)(g:List Bool)(L?:Bool)(ad S:Nat->Bool)(l:List Nat)(D:List RC)(v:List (List Nat))(Q:Nat)(w:u')(h:DP w N D v Q)(x:Ee w d g)(L:ζ g=ζ D)(T:ζ D<=60)(u:ζ l<=1000)(V:∀m∈l,m<ζ D)
  (R:∀W,DP W N D v Q->Cl 117 #[o' (B' (O N 0)),G p,G f,G n,G (-1)] W (Rb W (j' L?)))
  (b:∀W,DP W N D v Q->Cl 118 #[o' (B' (O N 0)),G p,G n] W λe u=>∃a c,e=p' (aO a (ζ l) c)/\cE u a (l.map Int.ofNat)/\Bl W u)
  (a:∀W m,DP W N D v Q->m∈l->Cl 117 #[o' (B' (O N 0)),G p,G f,G n,G m] W (Rb W (j' (ad m))))
  (B:∀W m,DP W N D v Q->m∈l->Cl 119 #[o' (B' (O N 0)),G p,G f,G n,G m] W (Rb W (j' (S m)))):
  Cl 75 #[o' (B' (O N 0)),G p,G f,G n,i' d (ζ D) i] w (Rb w (j' (L?||l.any (hit ad S g)))):=by
 have s:=hid (A h (A x (A L (A V (A R (A b (A a B)))))));clear h x L V R b a B;cases L?;rotate_left
 ·rw[Bool.true_or];go_enter func75,ntmps75;go_wp2_with (go_at_call 117;refine(s.e _ s.a).mono ?_;rintro e t ⟨rfl,a⟩);go_ret;exact⟨rfl,a⟩
 rw[iE];go_enter func75,ntmps75;go_wp2_with (first|(go_at_call 117;refine(s.e _ s.a).mono ?_;rintro e t ⟨rfl,a⟩;have r:=hid a;clear a)|(go_at_call 118;refine(s.f _ (s.a.below r.o)).mono ?_;rintro e F ⟨i,R,rfl,i,X⟩;have j:=hid (A i (H r.o X));clear i X));go_loopw[13] (λy wr=>∃k:Nat,k<=ζ l/\y=G k/\J ((l.take k).any (hit ad S g)=P'/\Bl F wr)) (λy _=>ζ l-(intOf y).toNat)
 case atStart=>exact⟨0,bj,rfl,rfl,aQ⟩
 obtain⟨k,a,rfl,h⟩:=hrel;have gb:J (Bl w wr):=H j.A h.A;by_cases L:k<ζ l;rotate_left
 ·have q:k=ζ l:=I;have a:¬((k:Int)<(ζ l:Int)):=I;have t:J (l.any (hit ad S g)=P'):=by have:=h.a;rwa[q,gg]at this
  go_wp2;go_ret;exact⟨by rw[t.o];rfl,gb.o⟩
 have a:(k:Int)<(ζ l:Int):=I;obtain⟨m,d⟩:=La L;obtain⟨b,o,rfl,c⟩:=cE.below j.a h.A k (m:Int) (by simp[d]);have a:=s.d m (aT d);have a:(m:Int)<(ζ D:Int):=I;have r:=hid d;clear d;obtain⟨d,P⟩:=Ea (ad m);obtain⟨i,a⟩:=Ea (S m);have T:J (∀W,DP W N D v Q->Cl 117 #[o' (B' (O N 0)),G p,G f,G n,G m] W (Rb W (j' d))):=by rw[P];exact λW j=>s.g W m j (aT r.o)
 have o:J (∀W,DP W N D v Q->Cl 119 #[o' (B' (O N 0)),G p,G f,G n,G m] W (Rb W (j' i))):=by rw[a];exact λW j=>s.G W m j (aT r.o)
 obtain⟨f,b⟩:=La (l:=g) (i:=m) (J' s.c);have X:J (hit ad S g m=(d||(i&&f))):=by show _=_;rw[hit,getD,b,<-P,<-a];rfl
 obtain⟨j,j,rfl,j⟩:=(s.b.below gb.o) m f b;have Y:=hid (A c j);clear b P a j;cases d;rotate_left
 ·have t:J (l.any (hit ad S g)=O'):=NA _ r.o (by rw[X.o];rfl);go_wp2_with (first|(go_at_call 117;refine(T.o _ (s.a.below gb.o)).mono ?_;rintro e C ⟨rfl,z⟩;clear c;have c:=ax Y.a z;have K:=hid z;clear z)|(go_at_call 119;refine(o.o _ (s.a.below (H gb.o K.o))).mono ?_;rintro e U ⟨rfl,E⟩;have u:=hid (H K.o E);clear E c));go_ret;exact⟨by rw[t.o];rfl,H gb.o u.o⟩
 cases i
 ·go_wp2_with (first|(go_at_call 117;refine(T.o _ (s.a.below gb.o)).mono ?_;rintro e C ⟨rfl,z⟩;clear c;have c:=ax Y.a z;have K:=hid z;clear z)|(go_at_call 119;refine(o.o _ (s.a.below (H gb.o K.o))).mono ?_;rintro e U ⟨rfl,E⟩;have u:=hid (H K.o E);clear E c));exact Zq
 cases f
 ·go_wp2_with (first|(go_at_call 117;refine(T.o _ (s.a.below gb.o)).mono ?_;rintro e C ⟨rfl,z⟩;clear c;have c:=ax Y.a z;have K:=hid z;clear z)|(go_at_call 119;refine(o.o _ (s.a.below (H gb.o K.o))).mono ?_;rintro e U ⟨rfl,E⟩;clear c;have c:=ax Y.a (H K.o E);have j:=ax Y.A (H K.o E);have u:=hid (H K.o E);clear E));exact Zq
 have t:J (l.any (hit ad S g)=O'):=NA _ r.o (by rw[X.o];rfl);go_wp2_with (first|(go_at_call 117;refine(T.o _ (s.a.below gb.o)).mono ?_;rintro e C ⟨rfl,z⟩;clear c;have c:=ax Y.a z;have K:=hid z;clear z)|(go_at_call 119;refine(o.o _ (s.a.below (H gb.o K.o))).mono ?_;rintro e U ⟨rfl,E⟩;clear c;have c:=ax Y.a (H K.o E);have j:=ax Y.A (H K.o E);have u:=hid (H K.o E);clear E));go_ret;exact⟨by rw[t.o];rfl,H gb.o u.o⟩
end
section
variable {W:u'} {P u v wv:A'} {m:RN} {z d va j:x'} {F c e q vn vc r:Nat} {a b x y:VV}
structure wt(w W:u')(wv:A')(m:RN)(va:x')(vn vc:Nat)(a b x y:VV):Prop where
  low:Bl w W
  b0:W.1[δ w.1]?=B' (k' (aH wv m) 111 (0,0))
  b1:W.1[δ w.1+1]?=B' (k' (dI va vn vc) 133 (0,0))
  b2:W.1[δ w.1+1+1]?=B' (k' (cT a.any a.lo a.hi) 138 (0,0))
  b3:W.1[δ w.1+1+1+1]?=B' (k' (cT b.any b.lo b.hi) 138 (0,0))
  b4:W.1[δ w.1+1+1+1+1]?=B' kN
  b5:W.1[δ w.1+1+1+1+1+1]?=B' (k' #[j' O',i' C' 0 0] 133 (0,0))
  b6:W.1[δ w.1+1+1+1+1+1+1]?=B' (k' (cT x.any x.lo x.hi) 138 (0,0))
  b7:W.1[δ w.1+1+1+1+1+1+1+1]?=B' (k' (cT y.any y.lo y.hi) 138 (0,0))
def wt.aaL{d:Nat}{c:u'}(h:wt w W P m z F d a b x y)(e:Bl w c)(k:∀q o,q<=δ w.1+1+1+1+1+1+1+1->W.1[q]?=B' o->c.1[q]?=B' o):wt w c P m z F d a b x y:=
 ⟨e,k _ _ I h.b0,k _ _ I h.b1,k _ _ I h.b2,k _ _ I h.b3,k _ _ I h.b4,k _ _ I h.b5,k _ _ I h.b6,k _ _ I h.b7⟩
def wt.below{e:u'}(h:wt w W P m z F c a b x y)(d:Bl W e):wt w e P m z F c a b x y:=
 h.aaL (H h.low d) λ_ _ _ e=>(d.block _ (aY.1 e).1).trans e
def GO{b:Nat}{z:A'}(h:q≠b):(κ (κ (κ W (O b 0) u) (O b 1) v) (O b 2) z).1[q]?=W.1[q]?:=by rw[aJ h,aJ h,aJ h]
def acS{z:A'}(h:Bl w W)(a:δ w.1<=q):Bl w (κ (κ (κ W (O q 0) u) (O q 1) v) (O q 2) z):=((h.setCell a _).setCell a _).setCell a _
def wt.aaT(h:wt w W P m d F c a b x y)(z:VV):wt w (κ (κ (κ W (O (δ w.1+1+1+1+1+1+1) 0) (j' z.any)) (O (δ w.1+1+1+1+1+1+1) 1) (G z.lo)) (O (δ w.1+1+1+1+1+1+1) 2) (G z.hi)) P m d F c a b z y:=by have k:∀{q:Nat} {o:Obj},q≠δ w.1+1+1+1+1+1+1->W.1[q]?=B' o->(κ (κ (κ W (O (δ w.1+1+1+1+1+1+1) 0) (j' z.any)) (O (δ w.1+1+1+1+1+1+1) 1) (G z.lo)) (O (δ w.1+1+1+1+1+1+1) 2) (G z.hi)).1[q]?=B' o:=λa e=>(GO a).trans e;exact⟨acS h.low I,k I h.b0,k I h.b1,k I h.b2,k I h.b3,k I h.b4,k I h.b5,mP h.b6 _ _ _,k I h.b7⟩
def wt.aaS(h:wt w W P m d F c a b x y)(z:VV):wt w (κ (κ (κ W (O (δ w.1+1+1+1+1+1+1+1) 0) (j' z.any)) (O (δ w.1+1+1+1+1+1+1+1) 1) (G z.lo)) (O (δ w.1+1+1+1+1+1+1+1) 2) (G z.hi)) P m d F c a b x z:=by have k:∀{q:Nat} {o:Obj},q≠δ w.1+1+1+1+1+1+1+1->W.1[q]?=B' o->(κ (κ (κ W (O (δ w.1+1+1+1+1+1+1+1) 0) (j' z.any)) (O (δ w.1+1+1+1+1+1+1+1) 1) (G z.lo)) (O (δ w.1+1+1+1+1+1+1+1) 2) (G z.hi)).1[q]?=B' o:=λa e=>(GO a).trans e;exact⟨acS h.low I,k I h.b0,k I h.b1,k I h.b2,k I h.b3,k I h.b4,k I h.b5,k I h.b6,mP h.b7 _ _ _⟩
def wt.cells(h:wt w W wv m va vn vc a b x y):=A (M h.b0) (A (M h.b2) (A (M h.b3) (A (M h.b4) (A (M h.b5) (A (M h.b6) (M h.b7))))))
def wt.cut{f:Bool}{j S l u:Int}(h:J (wt w W P m z F c a b x y)):Cl 297 #[l' #[j' f,G j,G S],G l,G u] W λe d=>e=p' (l' #[j' (cK ⟨f,j,S⟩ l u).any,G (cK ⟨f,j,S⟩ l u).lo,G (cK ⟨f,j,S⟩ l u).hi])/\J (wt w d P m z F c a b x y):=
 (Fw ⟨f,j,S⟩ l u W).mono λ_ _ V=>⟨V.1,h.o.below V.2⟩
def wt.ret(h:wt w W P m z F c a b x y)(L a:A'):χ (κ W (O (δ w.1+1+1+1+1) 0) L) (O (δ w.1+1+1+1+1) 0)=B' L/\χ (κ (κ W (O (δ w.1+1+1+1+1) 0) L) (O (δ w.1+1+1+1+1) 1) a) (O (δ w.1+1+1+1+1) 1)=B' a/\Bl w (κ (κ W (O (δ w.1+1+1+1+1) 0) L) (O (δ w.1+1+1+1+1) 1) a):=
 ⟨by rw[(M (aq h.b4 _)).1];rfl,by rw[(M (aq (aq h.b4 _) _)).1];rfl,(h.low.setCell H' _).setCell H' _⟩
def XG{a:z'}{l:y'}(h:a.1.1=l):a=⟨θ l⟩:=data_inj h
def oL.dec{v:VV}(h:oL v)(n:¬v.hi=-9223372036854775808):wrap64 (v.hi-1)=v.hi-1:=by have:=h.lo;have:=h.hi;unfold wrap64;omega
def oL.inc{v:VV}(h:oL v)(n:¬v.lo=9223372036854775807):wrap64 (v.lo+1)=v.lo+1:=by have:=h.lo;have:=h.hi;unfold wrap64;omega
def Hy{t:Int}{Q:Bool}(U:(t=2/\Q=P')\/(t=3/\Q=O'))(h:¬(a.lo=a.hi/\VV.rZ a b=O')):wQ t Q a b=B' (a,b):=by rcases U with⟨rfl,rfl⟩|⟨rfl,rfl⟩<;>simp only[wQ]<;>rw[aA I,aA I,aA I,aA I,aA ak,aA h]
structure pP(w W:u')(wv:A')(m:RN)(va:x')(vn vc:Nat)(a b x y:VV)(q:Nat)(oa:x')(oc:Nat)(us:List VV):Prop where
  ch:wt w W wv m va vn vc a b x y
  ob:W.1[q]?=B' (k' (dI oa vn oc) 133 (0,0))
  low:δ w.1+1+1+1+1+1+1+1<q
  vv:dB W oa us
  len:ζ us=vn
  nil:oa=C'->oc=0
def pP.below{c:List VV}{f:u'}(h:pP w W P m z F e a b x y q j r c)(d:Bl W f):pP w f P m z F e a b x y q j r c:=
 ⟨h.ch.below d,(d.block _ (aY.1 h.ob).1).trans h.ob,h.low,h.vv.below d,h.len,h.nil⟩
def pP.put{c:List VV}{g:Nat}{i:List VV}(h:pP w W P m z F e a b x y q j r c)(R:dB W d i)(K:d=C'->g=0)(X:ζ i=F):
  pP w (κ (κ W (O q 0) (j' P')) (O q 1) (i' d F g)) P m z F e a b x y q d g i:=by
 have a:=h.low;exact⟨h.ch.aaL ((h.ch.low.setCell H' _).setCell H' _) λj _ f e=>by rw[aJ (show j≠q by omega),aJ (show j≠q by omega)];exact e,aq (aq h.ob _) _,h.low,R.put h.ob,X,K⟩
def pP.cells{oa:x'}{oc:Nat}{us:List VV}(h:pP w W wv m va vn vc a b x y q oa oc us):=A (M h.ch.b0) (A (M h.ch.b4) (A (M h.ch.b5) (A (M h.ch.b6) (A (M h.ch.b7) (M h.ob)))))
def VLt(oa:x')(us:List VV)(n:Nat):Prop:=∀g o,oa=B' (O g o)->us≠[]->g<n
def dB.lt{c:List VV}(h:dB w j c):VLt j c w.1.size:=by
 intro g o e z
 match c,z with
 |v::r,_=>obtain⟨a,b,L,T,_⟩:=h 0 v rfl;rw[e]at L;cases L;exact lP T
def pP.af5{c:List VV}{E:Nat}{L d R:A'}(h:pP w W P m z F e a b x y q j r c)(f:q<E)(X:VLt j c E):
  pP w (κ (κ (κ W (O E 0) L) (O E 1) d) (O E 2) R) P m z F e a b x y q j r c:=by
 have a:=h.low;refine⟨h.ch.aaL (acS h.ch.low I) λ_ _ _ e=>(GO I).trans e,(GO I).trans h.ob,h.low,λj v f=>?_,h.len,h.nil⟩;obtain⟨g,o,e,T,Q,p⟩:=h.vv j v f;have a:=X g o e (by rintro rfl;simp at f);have V:=GO (W:=W) (u:=L) (v:=d) (z:=R) (show g≠E by omega);exact⟨g,o,e,(cw V).trans T,(cw V).trans Q,(cw V).trans p⟩
def pP.done{c:List VV}{d:EV}(h:pP w W P m z F e a b x y q j r c)(l:d=B' c):
  lu w d (p' (cu P' j F r)) (κ (κ W (O (δ w.1+1+1+1+1) 0) (j' P')) (O (δ w.1+1+1+1+1) 1) (i' j F r)):=by
 subst l;exact lu.mk ⟨rfl,h.len.symm,h.vv.put h.ch.b4,h.nil⟩ (h.ch.ret _ _).2.2
theorem A0(h:p:=by
 go_wp2_with (go_at_call 297;(first|with_reducible refine(wt.cut U).mono ?_|with_reducible refine(wt.cut (hid (U.o.aaT _))).mono ?_|with_reducible refine(wt.cut (hid (U.o.aaS _))).mono ?_);clear k;rintro e t ⟨rfl,U⟩;have k:=U.o.cells;simp only[aH]at k)
 go_meet
 first|with_reducible refine⟨rfl,_,_,?_,hid (U.o.aaT _)⟩|with_reducible refine⟨rfl,_,_,?_,hid (U.o.aaS _)⟩|with_reducible refine⟨rfl,_,_,?_,hid ((U.o.aaT _).aaS _)⟩
 show _=_
 simp[wQ,Wm.uw,o]):p:=h
def xy(h:p:=by
 go_wp2_with fail;have q:=U.o.ret (.bool true) (.slice none 0 0)
 refine aC (v:=cu true none 0 0) (by simp[results,results249,go_sem,q.1,q.2.1]) rfl (lu.mk (show dK _ true none 0 0 none from rfl) q.2.2)):p:=h
def Zu(h:p:=by
 cases N:(a.lo==a.hi)
 ·go_wp2_with fail
  go_meet
  exact⟨rfl,a,b,Hy aj λh=>by simp[h.1]at N,U.o⟩
 cases d:VV.rZ a b
 ·have HN:=hid d;simp only[VV.rZ]at d;cases e1:(a.any==b.any);rotate_left;cases u:(a.lo==b.lo);rotate_left;have e3:(a.hi==b.hi)=false:=by simpa[e1,u]using d
  all_goals
   clear d;go_wp2_with fail
   go_meet
   exact⟨rfl,a,b,Hy aj λh=>by simp[HN.o]at h,U.o⟩
 obtain rfl:a=b:=(VV.tL a b).1 d;obtain rfl:ev=C':=by rw[v.o];simp[oK,wQ,Wm.uw,d,(show a.lo=a.hi by simpa using N)]
 exact xy):p:=h
def Zt(h:p:=by
 go_wp2_with fail;have q:=p.o.ch.ret (.bool false) (.slice j (ζ E) r)
 refine aC (v:=cu false j (ζ E) r) (by simp[results,results249,go_sem,q.1,q.2.1]) rfl (p.o.done rfl)):p:=h
def FB(P:A')(m:RN)(Q:Bool)(va:x')(vc:Nat)(E:List VV)(a b:VV)(w:u')(R:dB w va E)(W:va=C'->vc=0)(hl:ζ E<=8)(y:Wm.xA m.sign.1.1=true)(BV:m.a.var<ζ E)(Eu:m.b.var<ζ E)(d:oL a)(c:oL b):
  Cl 249 #[l' (aH P m),j' Q,cu false va (ζ E) vc,l6 a,l6 b] w (lu w (match oK (Wm.uw m.sign.1.1) Q a b with|none=>C'|some q=>Uy m.a.var m.b.var E q.1 q.2)):=by
 have s:=hid (A R (A W (A y (A d c))));clear R W y d c;generalize L:(match oK (Wm.uw m.sign.1.1) Q a b with|none=>C'|some q=>Uy m.a.var m.b.var E q.1 q.2)=ev;have v:=hid L.symm;clear L;obtain⟨R,S,l,h,x,W,L,g⟩:=m;obtain⟨f,ac,aw⟩:=h;obtain⟨D,X,bw⟩:=x;simp only at BV Eu;simp only[aH,cu,l6];go_enter func249,ntmps249
 go_upto_block 0 with(fail)
 generalize j:(((((((w.alloc _).alloc _).alloc _).alloc _).alloc _).alloc _).alloc _).alloc _=W0;have U:J (wt w W0 P ⟨R,S,l,⟨f,ac,aw⟩,⟨D,X,bw⟩,W,L,g⟩ va (ζ E) vc a b a b):=by
  subst j;refine⟨?_,?_,?_,?_,?_,?_,?_,?_,?_⟩
  ·(repeat first|exact aQ|refine lz ?_ (by first|omega|(simp;omega)|(simp;done)) _)
  all_goals
   (repeat(first|(refine jY ?_;rfl)|(refine jY ?_;simp;done)|refine lH ?_ (by simp;try omega)))
 clear j
 go_cut [10] from 19 (λpv wx=>pv=o' (B' (O (δ w.1+1+1+1+1) 0))/\∃x y,J (wQ (Wm.uw L.1.1) Q a b=B' (x,y))/\J (wt w wx P ⟨R,S,l,⟨f,ac,aw⟩,⟨D,X,bw⟩,W,L,g⟩ va (ζ E) vc a b x y))
 case first=>
  have h:=s.c;have k:=U.o.cells;simp only[aH]at k;simp only[Wm.xA,gX,bT]at h;rcases h with((h|h)|h)|h<;>obtain rfl:=XG h<;>clear h<;>cases Q
  ·have o:=True.intro;exact A0
  ·by_cases K:b.hi=-9223372036854775808\/a.lo=9223372036854775807
   ·obtain rfl:ev=C':=by rw[v.o];simp[oK,wQ,Wm.uw,K]
    cases C:(b.hi==-9223372036854775808)
    ·have F:(a.lo==9223372036854775807)=true:=by simpa using K.resolve_left (by simpa using C)
     exact xy
    exact xy
   have o:=K;have C:(b.hi==-9223372036854775808)=false:=by simpa using λh=>K (aI h)
   have F:(a.lo==9223372036854775807)=false:=by simpa using λh=>K (aK h)
   have hw:=A (s.D.dec λh=>K (aI h)) (s.d.inc λh=>K (aK h));exact A0
  ·by_cases K:a.hi=-9223372036854775808\/b.lo=9223372036854775807
   ·obtain rfl:ev=C':=by rw[v.o];simp[oK,wQ,Wm.uw,K]
    cases C:(a.hi==-9223372036854775808)
    ·have F:(b.lo==9223372036854775807)=true:=by simpa using K.resolve_left (by simpa using C)
     exact xy
    exact xy
   have o:=K;have C:(a.hi==-9223372036854775808)=false:=by simpa using λh=>K (aI h)
   have F:(b.lo==9223372036854775807)=false:=by simpa using λh=>K (aK h)
   have hw:=A (s.d.dec λh=>K (aI h)) (s.D.inc λh=>K (aK h));exact A0
  ·have o:=True.intro;exact A0
  ·exact Zu
  ·have o:=True.intro;exact A0
  ·have o:=True.intro;exact A0
  exact Zu
 obtain⟨rfl,x,y,T,U⟩:=hcut
 rename u'=>t
 have k:=A (M U.o.b1) U.o.cells;simp only[aH]at k;cases C:decide (x.hi<x.lo);rotate_left
 ·obtain rfl:ev=C':=by rw[v.o];unfold oK;rw[T.o];simp[yv,rq C]
  exact xy
 cases F:decide (y.hi<y.lo);rotate_left
 ·obtain rfl:ev=C':=by rw[v.o];unfold oK;rw[T.o];simp[yv,rq F]
  exact xy
 have HF:J (ev=Uy f D E x y):=by show _=_;rw[v.o];unfold oK;rw[T.o];simp[yv,j9 C,j9 F]
 go_upto_region 28 with(fail)
 refine acv (F:=Code.wp _ _ _ _) λF u=>?_;have p:J (pP w F P ⟨R,S,l,⟨f,ac,aw⟩,⟨D,X,bw⟩,W,L,g⟩ va (ζ E) vc a b x y t.1.size va vc E):=⟨U.o.below u.A,u.a,(aY.1 U.o.b7).1,(s.a.below U.o.low).below u.A,rfl,s.b⟩;generalize δ t.1=ob at p⊢;clear k;have k:=p.o.cells;simp only[aH]at k
 go_upto_if 136 with(fail)
 go_cut [14] from 19 (λpv wx=>pv=o' (B' (O ob 0))/\∃j r us,J (us=if 0<=f then E.set f.toNat x else E)/\J (pP w wx P ⟨R,S,l,⟨f,ac,aw⟩,⟨D,X,bw⟩,W,L,g⟩ va (ζ E) vc a b x y ob j r us))
 case first=>
  by_cases N:0<=f
  ·obtain⟨i,rfl⟩:∃i:Nat,f=i:=⟨f.toNat,I⟩;go_wp2_with (go_at_call 247;refine(eU (ζ E) va vc E i x.any x.lo x.hi _ p.o.vv p.o.nil rfl hl I).mono ?_;clear k;rintro e o ⟨t,s,rfl,v,h,o⟩;have Y:=hid (p.o.below o);have k:=M Y.o.ob;have B:=hid (A v h);clear v h o)
   go_meet
   exact⟨rfl,t,s,E.set i x,by show _=_;rw[aB N];rfl,Y.o.put B.a B.A (by rw[de])⟩
  go_wp2_with fail
  go_meet
  exact⟨rfl,va,vc,E,by show _=_;rw[aA I],p.o⟩
 clear k;obtain⟨rfl,j,r,us,HU,p⟩:=hcut
 rename u'=>W4
 have k:=p.o.cells;simp only[aH]at k;by_cases d:0<=D;rotate_left
 ·obtain rfl:ev=B' us:=by rw[HF.o,HU.o];unfold Uy;rw[aA I]
  exact Zt
 obtain⟨i,rfl⟩:∃i:Nat,D=i:=⟨D.toNat,I⟩;go_upto_region 32 with(fail)
 refine acv (F:=Code.wp _ _ _ _) λC h=>?_;have c:J (pP w C P ⟨R,S,l,⟨f,ac,aw⟩,⟨(i:Int),X,bw⟩,W,L,g⟩ va (ζ E) vc a b x y ob j r us/\C.1[δ W4.1]?=B' (k' (cT y.any y.lo y.hi) 138 (0,0))/\ob<δ W4.1/\VLt j us W4.1.size):=⟨p.o.below h.A,h.a,(aY.1 p.o.ob).1,p.o.vv.lt⟩;clear k;generalize δ W4.1=h at c⊢;have k:=A (M c.b) c.a.cells;simp only[aH]at k
 go_upto_if 154 with(fail)
 go_cut [15] from 19 (λpv wx=>pv=o' (B' (O h 0))/\∃z,J (z=if (i:Int)=f then cK x y.lo y.hi else y)/\J (pP w wx P ⟨R,S,l,⟨f,ac,aw⟩,⟨(i:Int),X,bw⟩,W,L,g⟩ va (ζ E) vc a b x y ob j r us/\wx.1[h]?=B' (k' #[j' z.any,G z.lo,G z.hi] 138 (0,0))))
 case first=>
  cases l:((i:Int)==f)
  ·go_wp2_with fail
   go_meet
   exact⟨rfl,y,by show _=_;rw[aA (by simpa using l)],c.a,c.b⟩
  go_wp2_with (go_at_call 297;refine(abg _ _ _ _ _ _).mono ?_;clear k;rintro e U ⟨f,rfl,a,b⟩;have Y:=hid (A (c.a.below b) ((b.block _ (aY.1 c.b).1).trans c.b));have k:=M Y.A;clear b)
  go_meet
  exact⟨rfl,f,by show _=_;rw[aB (by simpa using l)];exact a.o,Y.a.af5 c.c c.C,mP Y.A _ _ _⟩
 clear k;obtain⟨rfl,z,HZV,c⟩:=hcut
 rename u'=>a
 have k:=A (M c.A) c.a.cells;simp only[aH]at k;cases h6:decide (z.hi<z.lo);rotate_left
 ·obtain rfl:ev=C':=by rw[HF.o];unfold Uy;rw[aB d,<-HZV.o,aB (rq h6)]
  go_wp2_with fail;have q:=c.a.ch.ret (j' true) (i' C' 0 0);refine aC (v:=cu true C' 0 0) (by simp[results,results249,go_sem,q.1,q.2.1]) rfl (lu.mk (show dK _ true C' 0 0 C' from rfl) q.2.2)
 go_upto_region 37 with(go_at_call 247;refine(eU (ζ E) j r us i z.any z.lo z.hi _ c.a.vv c.a.nil c.a.len (by rw[c.a.len];exact hl) (by rw[c.a.len];omega)).mono ?_;clear k;rintro e f ⟨j,r,rfl,e,b,a⟩;have Y:=hid (c.a.below a);have k:=M Y.o.ob;have B:=hid (A e b);clear e b a)
 have p:=hid (Y.o.put B.a B.A (by rw[de];exact Y.o.len));clear k;generalize(f.setCell _ _).setCell _ _=l at p⊢;have k:=p.o.cells;simp only[aH]at k;obtain rfl:ev=B' (us.set i z):=by rw[HF.o];unfold Uy;rw[aB d,<-HZV.o,aA (j9 h6),<-HU.o];rfl
 exact Zt
end
def aaA{p:Prop}(h:p:=by
 have o:=hid ((KB.start w wv m va (ζ vs) vc).box VV.all);have B:=hid (A hv qx);clear hv qx;obtain⟨bu,b,target,⟨f,b,aw⟩,⟨D,X,bw⟩,ops,sign,g⟩:=m
 first|(have _:=Gm;simp only at hd ht⊢)|((first|(have _:=Gn;simp only at hd ho hs BV Eu qU qT⊢)|(simp only at hd ho ht BV⊢)))
 subst hd
 first|(have _:=Gm;subst ht)|(subst ho;(first|(have _:=Gn)|(subst ht)))
 simp only[aH,cu,VV.all]at o⊢
 first|(have _:=Gm;obtain⟨ev,L⟩:∃ev,ev=B' (vs.set t ⟨false,-9223372036854775808,9223372036854775807⟩):=⟨_,rfl⟩)|((first|(have _:=Gn;obtain⟨ev,L⟩:∃ev,ev=rIf (Wm.uw sign.1.1) (k==0) f D vs (fV vs f b) (fV vs D X):=⟨_,rfl⟩)|(obtain⟨ev,L⟩:∃ev,ev=B' (vs.set t (fV vs f b)):=⟨_,rfl⟩)))
 rw[<-L];have HE:=hid L;clear L;go_enter func182,ntmps182
 first|(have _:=Gm;(go_upto_region 3 with(fail));(have c:δ (((w.alloc (k' #[wv,m' bu,m' ⟨vd⟩,G t,G f,G b,m' aw,G D,G X,m' bw,G ops,m' sign,m' g] 111)).alloc (k' (dI va (ζ vs) vc) 133)).alloc (k' vP 133)).1=δ w.1+1+1+1:=ak))|((go_upto_region 4 with(fail));(first|(have _:=Gn;(have c:δ (((w.alloc (k' #[wv,m' bu,m' ⟨#[105,102]⟩,G target,G f,G b,m' aw,G D,G X,m' bw,G 2,m' sign,m' g] 111)).alloc (k' (dI va (ζ vs) vc) 133)).alloc (k' vP 133)).1=δ w.1+1+1+1:=ak))|((have c:δ (((w.alloc (k' #[wv,m' bu,m' ⟨#[61]⟩,G t,G f,G b,m' aw,G D,G X,m' bw,G 1,m' sign,m' g] 111)).alloc (k' (dI va (ζ vs) vc) 133)).alloc (k' vP 133)).1=δ w.1+1+1+1:=ak))))
 rw[c]at o;clear c;generalize(((w.alloc _).alloc _).alloc _).alloc _=c at o⊢;obtain⟨s,x⟩:=M o.o.kb.b0;obtain⟨V,u⟩:=M o.o.kb.b1;obtain⟨l1,l2⟩:=M o.o.bx;obtain⟨r1,q⟩:=M o.o.kb.b2;simp only[aH]at s
 first
  |(
   have _:=Gm;go_wp2_with (go_at_call 247;refine(eU (ζ vs) va vc vs t false (-9223372036854775808) 9223372036854775807 _ (B.a.below o.o.kb.low) B.A rfl hl yW).mono ?_;clear s x V u l1 l2 r1 q;rintro e C ⟨j,r,rfl,c,v,z⟩;have y:=hid (A (o.o.kb.below z) (A c v));obtain⟨r1,q⟩:=M y.a.b2;clear c v z);obtain⟨q4,q5⟩:=y.a.q (j' false) (i' j (ζ vs) r)
   refine aC (v:=cu false j (ζ vs) r) (by simp[results,results182,go_sem,q4,q5]) rfl (y.a.done y.b y.B (by rw[de]) HE.o))
  | (
   go_upto_region 5 with(go_at_call 248;refine(sM va vc (ζ vs) vs f b aw _ (B.a.below o.o.kb.low) rfl hl BV).mono ?_;clear s x V u l1 l2 r1 q;rintro e E ⟨L,rfl,HZA,l⟩;have R:=hid (o.o.below l);clear l)
   have T:=hid (A (R.o.kb.box L) (R.o.below (cz _ (k' (cT L.any L.lo L.hi) 138))));clear o R;generalize δ E.1=l at T⊢;generalize E.alloc _=F at T⊢;obtain⟨s,x⟩:=M T.a.kb.b0;obtain⟨V,u⟩:=M T.a.kb.b1;obtain⟨r1,q⟩:=M T.a.kb.b2;obtain⟨N,a2⟩:=M T.a.bx;simp only[aH]at s
   first
    | (
     have _:=Gn;go_upto_region 8 with(go_at_call 248;refine(sM va vc (ζ vs) vs D X bw _ (B.a.below T.a.kb.low) rfl hl Eu).mono ?_;clear s x V u r1 q N a2;rintro e o ⟨E,rfl,F,Y⟩;have l:=hid (A (T.a.below Y) (T.A.below Y));clear Y)
     have U:=hid (A (l.a.kb.box E) (A (l.a.below (cz _ (k' (cT E.any E.lo E.hi) 138))) (l.A.below (cz _ (k' (cT E.any E.lo E.hi) 138)))));clear T l;generalize δ o.1=l at U⊢;generalize o.alloc _=l at U⊢;obtain⟨s,x⟩:=M U.a.kb.b0;obtain⟨V,u⟩:=M U.a.kb.b1;obtain⟨r1,q⟩:=M U.a.kb.b2;obtain⟨N,a2⟩:=M U.b.bx;obtain⟨b1,o⟩:=M U.a.bx;obtain⟨l1,l2⟩:=M U.B.bx;simp only[aH]at s;have Y:J (∀(W:u'),dB W va vs->Cl 249 #[l' #[wv,m' bu,m' ⟨#[105,102]⟩,G target,G f,G b,m' aw,G D,G X,m' bw,G 2,m' sign,m' g],j' (k==0),l' (dI va (ζ vs) vc),l' (cT L.any L.lo L.hi),l' (cT E.any E.lo E.hi)] W λe w'=>∃R j l r,e=p' (l' #[j' R,i' j l r])/\J (dK w' R j l r ev)/\Bl W w'):=by intro W hW;rw[HE.o,<-HZA.o,<-F.o];exact OC wv ⟨bu,⟨#[105,102]⟩,target,⟨f,b,aw⟩,⟨D,X,bw⟩,2,sign,g⟩ (k==0) va vc (ζ vs) vs L E W hW B.A rfl hl hs BV Eu (by rw[HZA.o];exact qU) (by rw[F.o];exact qT)
     go_wp2_with (go_at_call 249;refine(Y.o _ (B.a.below U.a.kb.low)).mono ?_;clear s x V u r1 q N a2 b1 o l1 l2;rintro e C ⟨R,j,l,r,rfl,b,z⟩;have y:=hid (U.a.kb.below z);obtain⟨r1,q⟩:=M y.o.b2;clear z);obtain⟨q4,q5⟩:=y.o.q (j' R) (i' j l r)
     refine aC (v:=cu R j l r) (by simp[results,results182,go_sem,q4,q5]) rfl (y.o.give b.o))
    |(
     go_wp2_with (go_at_call 247;refine(eU (ζ vs) va vc vs t L.any L.lo L.hi _ (B.a.below T.a.kb.low) B.A rfl hl yW).mono ?_;clear s x V u r1 q N a2;rintro e C ⟨j,r,rfl,c,v,z⟩;have y:=hid (A (T.a.kb.below z) (A c v));obtain⟨r1,q⟩:=M y.a.b2;clear c v z);obtain⟨q4,q5⟩:=y.a.q (j' false) (i' j (ζ vs) r)
     refine aC (v:=cu false j (ζ vs) r) (by simp[results,results182,go_sem,q4,q5]) rfl (y.a.done y.b y.B (by rw[de]) (by rw[HE.o];rw[<-HZA.o]))))):p:=h
def CQ(wv:A')(m:RN)(k:Int)(t:Nat)(va:x')(vc:Nat)(vs:List VV)(w:u')(hv:dB w va vs)(qx:va=C'->vc=0)(hl:ζ vs<=8)(hd:m.does=⟨vd⟩)(ht:m.target=t)(yW:t<ζ vs):
  Cl 182 #[l' (aH wv m),G k,cu false va (ζ vs) vc] w (lu w (B' (vs.set t VV.all))):=by
 have Gm:=True.intro;exact aaA
def Fa(wv:A')(m:RN)(k:Int)(t:Nat)(va:x')(vc:Nat)(vs:List VV)(w:u')(hv:dB w va vs)(qx:va=C'->vc=0)(hl:ζ vs<=8)(hd:m.does=⟨#[61]⟩)(ho:m.ops=1)(ht:m.target=t)(yW:t<ζ vs)(BV:m.a.var<ζ vs):
  Cl 182 #[l' (aH wv m),G k,cu P' va (ζ vs) vc] w (lu w (B' (vs.set t (fV vs m.a.var m.a.c)))):=by
 exact aaA
def rIf(t:Int)(yes:Bool)(av bv:Int)(vs:List VV)(a b:VV):EV:=match oK t yes a b with|none=>C'|some q=>Uy av bv vs q.1 q.2
def OC(P:A')(m:RN)(Q:Bool)(z:x')(x n:Nat)(E:List VV)(a b:VV)(w:u')(R:dB w z E)(W:z=C'->x=0)(K:ζ E=n)(X:ζ E<=8)(y:Wm.xA m.sign.1.1=O')(c:m.a.var<ζ E)(g:m.b.var<ζ E)(k:oL a)(i:oL b):
  Cl 249 #[l' (aH P m),j' Q,l' #[j' P',i' z n x],l' (cT a.any a.lo a.hi),l' (cT b.any b.lo b.hi)] w λe d=>∃h j f r,e=p' (l' #[j' h,i' j f r])/\J (dK d h j f r (rIf (Wm.uw m.sign.1.1) Q m.a.var m.b.var E a b))/\Bl w d:=by
 subst K;exact FB P m Q z x E a b w R W X y c g k i
def dK.put{w:u'}{b:Bool}{j:x'}{f r:Nat}{a:EV}{q c s:Nat}{e:x'}{d:Bool}{L i:A'}{t:TypeId}(h:dK w b j f r a)(g:w.1[q]?=B' (k' #[j' d,i' e c s] t (0,0))):dK (κ (κ w (O q 0) L) (O q 1) i) b j f r a:=by
 cases a with
 |none=>exact h
 |some c=>exact⟨h.1,h.2.1,h.2.2.1.put g,h.2.2.2⟩
def KB.give{w W:u'}{P:A'}{m:RN}{z j:x'}{F x f r:Nat}{a:Bool}{b:EV}(h:KB w W P m z F x)(R:dK W a j f r b):
  lu w b (p' (cu a j f r)) (κ (κ W (O (δ w.1+1+1) 0) (j' a)) (O (δ w.1+1+1) 1) (i' j f r)):=
 lu.mk (R.put h.b2) ((h.low.setCell H' _).setCell H' _)
def Ok(wv:A')(m:RN)(k:Int)(va:x')(vc:Nat)(vs:List VV)(w:u')(hv:dB w va vs)(qx:va=C'->vc=0)(hl:ζ vs<=8)(hd:m.does=⟨#[105,102]⟩)(ho:m.ops=2)(hs:Wm.xA m.sign.1.1=O')(BV:m.a.var<ζ vs)(Eu:m.b.var<ζ vs)(qU:oL (fV vs m.a.var m.a.c))(qT:oL (fV vs m.b.var m.b.c)):
  Cl 182 #[l' (aH wv m),G k,cu P' va (ζ vs) vc] w (lu w (rIf (Wm.uw m.sign.1.1) (k==0) m.a.var m.b.var vs (fV vs m.a.var m.a.c) (fV vs m.b.var m.b.c))):=by
 have Gn:=True.intro;exact aaA
def ady{p:Prop}(h:p:=by
  have o:=hid ((KB.start w wv m va (ζ vs) vc).box VV.all);have B:=hid (A hv qx);clear hv qx;obtain⟨j,b,b,⟨f,b,l⟩,⟨D,X,z⟩,ops,e,g⟩:=m;simp only at hd ho ht hs BV Eu qU qT⊢;subst hd;subst ho;subst ht;subst hs;simp only[aH,cu,VV.all]at o⊢
  first|(have _:=BJ;obtain⟨r,L⟩:∃r,r=B' (vs.set t (kP (fV vs f b) (fV vs D X))):=⟨_,rfl⟩)|(obtain⟨r,L⟩:∃r,r=B' (vs.set t (zI (fV vs f b) (fV vs D X))):=⟨_,rfl⟩)
  rw[<-L];have HE:=hid L;clear L;go_enter func182,ntmps182;go_upto_region 4 with(fail)
  first|(have _:=BJ;(have e:δ (((w.alloc (k' #[wv,m' j,m' ⟨#[61]⟩,G t,G f,G b,m' l,G D,G X,m' z,G 2,m' ⟨#[45]⟩,m' g] 111)).alloc (k' (dI va (ζ vs) vc) 133)).alloc (k' vP 133)).1=δ w.1+1+1+1:=ak))|((have e:δ (((w.alloc (k' #[wv,m' j,m' ⟨#[61]⟩,G t,G f,G b,m' l,G D,G X,m' z,G 2,m' ⟨#[43]⟩,m' g] 111)).alloc (k' (dI va (ζ vs) vc) 133)).alloc (k' vP 133)).1=δ w.1+1+1+1:=ak))
  rw[e]at o;clear e;generalize(((w.alloc _).alloc _).alloc _).alloc _=e at o⊢;obtain⟨s,x⟩:=M o.o.kb.b0;obtain⟨V,u⟩:=M o.o.kb.b1;obtain⟨l1,l2⟩:=M o.o.bx;obtain⟨r1,r2⟩:=M o.o.kb.b2;simp only[aH]at s;go_upto_region 5 with(go_at_call 248;refine(sM va vc (ζ vs) vs f b l _ (B.a.below o.o.kb.low) rfl hl BV).mono ?_;clear s x V u l1 l2 r1 r2;rintro e f ⟨j,rfl,g,l⟩;have b:=hid (o.o.below l);clear l)
  have T:=hid (A (b.o.kb.box j) (b.o.below (cz _ (k' (cT j.any j.lo j.hi) 138))));clear o b;generalize δ f.1=qa at T⊢;generalize f.alloc _=F at T⊢;obtain⟨s,x⟩:=M T.a.kb.b0;obtain⟨V,u⟩:=M T.a.kb.b1;obtain⟨r1,r2⟩:=M T.a.kb.b2;obtain⟨N,a2⟩:=M T.a.bx;simp only[aH]at s;go_upto_region 8 with(go_at_call 248;refine(sM va vc (ζ vs) vs D X z _ (B.a.below T.a.kb.low) rfl hl Eu).mono ?_;clear s x V u r1 r2 N a2;rintro e o ⟨E,rfl,f,Y⟩;have b:=hid (A (T.a.below Y) (T.A.below Y));clear Y)
  have U:=hid (A (b.a.kb.box E) (A (b.a.below (cz _ (k' (cT E.any E.lo E.hi) 138))) (b.A.below (cz _ (k' (cT E.any E.lo E.hi) 138)))));clear T b;generalize δ o.1=b at U⊢;generalize o.alloc _=W4 at U⊢;obtain⟨s,x⟩:=M U.a.kb.b0;obtain⟨V,u⟩:=M U.a.kb.b1;obtain⟨r1,r2⟩:=M U.a.kb.b2;obtain⟨N,a2⟩:=M U.b.bx;obtain⟨b1,o⟩:=M U.a.bx;obtain⟨l1,l2⟩:=M U.B.bx;simp only[aH]at s;have T:oL j:=by rw[g.o];exact qU
  have L:oL E:=by rw[f.o];exact qT
  first
    |(
       have _:=BJ;have D:J (r=B' (vs.set t (kP j E))):=by
         show _=_
         rw[HE.o,g.o,f.o])
    |(have D:J (r=B' (vs.set t (zI j E))):=by
         show _=_
         rw[HE.o,g.o,f.o])
  clear HE qU qT;have fa:=T.fit;have X:=L.fit
  first|(have _:=BJ;(go_upto_region 16 with(fail));obtain⟨z,F⟩:∃z,z=kP j E:=⟨_,rfl⟩)|(obtain⟨c1,f1,H1,E1⟩:∃c f,J (∀W,Cl 250 #[.int .i64 j.lo,.int .i64 E.lo] W λe w'=>e=p' (t' #[.int .i64 c,j' f])/\W=w')/\J (f=aP (j.lo+E.lo)/\(f=true->c=j.lo+E.lo)):=⟨_,_,λW=>(A? j.lo E.lo W fa.1 X.1).mono λ_ _ h=>⟨h.1,h.2.symm⟩,rfl,λh=>aB h⟩;obtain⟨c2,f2,H2,g⟩:∃c f,J (∀W,Cl 250 #[.int .i64 j.hi,.int .i64 E.hi] W λe w'=>e=p' (t' #[.int .i64 c,j' f])/\W=w')/\J (f=aP (j.hi+E.hi)/\(f=true->c=j.hi+E.hi)):=⟨_,_,λW=>(A? j.hi E.hi W fa.2 X.2).mono λ_ _ h=>⟨h.1,h.2.symm⟩,rfl,λh=>aB h⟩;(go_upto_region 13 with(go_at_call 250;refine(H1.o _).mono ?_;rintro e C ⟨rfl,rfl⟩));(go_upto_region 14 with(go_at_call 250;refine(H2.o _).mono ?_;rintro e C ⟨rfl,rfl⟩));obtain⟨z,F⟩:∃z,z=zI j E:=⟨_,rfl⟩;(have l:zV c1 c2 c1 c2 (f1&&f2)=z:=by rw[F];exact aav E1.o g.o))
  have HE:J (r=B' (vs.set t z)):=by rw[F];exact D.o
  first|(have _:=BJ;(have Y:J (∀W,Cl 252 #[l' (cT j.any j.lo j.hi),l' (cT E.any E.lo E.hi)] W (Rb W (l' #[j' z.any,G z.lo,G z.hi]))):=by rw[F];exact λW=>Fj j E W T L))|skip
  clear D F fa X
  first
    |(
       have _:=BJ;clear s x V u r1 r2 N a2 b1 o l1 l2;refine wp_region_held_drew (S:=λW'=>W'.1[δ w.1]?=B' _/\W'.1[δ w.1+1]?=B' _/\W'.1[qa]?=B' _/\W'.1[b]?=B' _) au ⟨U.a.kb.b0,U.a.kb.b1,U.b.bx,U.a.bx⟩ (λaM=>?_);refine tr 0 (l' (dI va (ζ vs) vc)) (λW' bN=>(M bN.2.1).1) ?_;refine tq 1 (qJ w.1.size) ?_;refine tq 2 (G t) ?_ (y:=λW' bN=>by obtain⟨k1,k2⟩:=M bN.1;simp only[aH]at k1;clear aM;go_simp);refine tr 3 (l' (cT j.any j.lo j.hi)) (λW' bN=>(M bN.2.2.1).1) ?_;refine tr 4 (l' (cT E.any E.lo E.hi)) (λW' bN=>(M bN.2.2.2).1) ?_;refine r1 5 λK D=>?_;go_simp;refine(Y.o _).mono ?_;rintro e C ⟨rfl,X⟩;have f:J (Bl W4 C):=H ay X;clear X;refine D.out _ _ ⟨aL f.o U.a.kb.b0,aL f.o U.a.kb.b1,aL f.o U.b.bx,aL f.o U.a.bx⟩ (λaM=>?_);clear D K;refine pt ?_;refine r1 6 λK D=>?_;go_simp;refine(eU (ζ vs) va vc vs t z.any z.lo z.hi _ (B.a.below (H U.a.kb.low (H f.o ay))) B.A rfl hl yW).mono ?_;rintro e W6 ⟨j,r,rfl,F,T,E⟩;have b:J (Bl W4 W6/\dB W6 j (vs.set t z)/\(j=C'->r=0)):=⟨H (H f.o ay) E,F,T⟩;clear F T E;refine D.out _ _ ⟨aL b.a U.a.kb.b0,aL b.a U.a.kb.b1,aL b.a U.b.bx,aL b.a U.a.bx⟩ (λaM=>?_);clear D K;refine pt ?_;refine r1 7 λK D=>?_;obtain⟨r3,L⟩:=M (U.a.kb.below b.a).b2;go_simp;refine D.out _ _ ⟨((aJ (by dsimp only;omega)).trans (aJ (by dsimp only;omega))).trans (aL b.a U.a.kb.b0),((aJ (by dsimp only;omega)).trans (aJ (by dsimp only;omega))).trans (aL b.a U.a.kb.b1),((aJ (by have:=U.b.low;dsimp only;omega)).trans (aJ (by have:=U.b.low;dsimp only;omega))).trans (aL b.a U.b.bx),((aJ (by have:=U.a.low;dsimp only;omega)).trans (aJ (by have:=U.a.low;dsimp only;omega))).trans (aL b.a U.a.bx)⟩ (λaM=>?_);clear r3 L;clear D K;refine pt ?_;refine wpAnyH_done au ?_ _;go_wp2_with fail;obtain⟨q4,q5⟩:=(U.a.kb.below b.a).q (j' false) (i' j (ζ vs) r)
       refine aC (v:=cu false j (ζ vs) r) (by simp[results,results182,go_sem,q4,q5]) rfl ((U.a.kb.below b.a).done b.b b.B (by rw[de]) HE.o))
    |(
       have Y:J (∀W,Cl 251 #[G c1,G c2,G c1,G c2,j' (f1&&f2)] W (Rb W (l' #[j' z.any,G z.lo,G z.hi]))):=by rw[<-l];exact λW=>pj c1 c2 c1 c2 _ W
       clear l E1 g H1 H2;cases f1
       · simp only[rm]at Y
         clear s x V u r1 r2 N a2 b1 o l1 l2;refine wp_region_held_drew (S:=λW'=>W'.1[δ w.1]?=B' _/\W'.1[δ w.1+1]?=B' _) au ⟨U.a.kb.b0,U.a.kb.b1⟩ (λaM=>?_);refine tr 0 (l' (dI va (ζ vs) vc)) (λW' bN=>(M bN.2).1) ?_;refine tq 1 (qJ w.1.size) ?_;refine tq 2 (G t) ?_ (y:=λW' bN=>by obtain⟨k1,k2⟩:=M bN.1;simp only[aH]at k1;clear aM;go_simp);refine tq 3 (G c1) ?_;refine tq 4 (G c2) ?_;refine tq 5 (G c1) ?_;refine tq 6 (G c2) ?_;refine tq 7 (j' false) ?_;refine tq 8 (j' false) ?_;refine tn 9 ?_;refine tq 10 (j' false) ?_;refine r1 11 λK D=>?_;go_simp;refine(Y.o _).mono ?_;rintro e C ⟨rfl,X⟩;have f:J (Bl W4 C):=H ay X;clear X;refine D.out _ _ ⟨aL f.o U.a.kb.b0,aL f.o U.a.kb.b1⟩ (λaM=>?_);clear D K;refine pt ?_;refine r1 12 λK D=>?_;go_simp;refine(eU (ζ vs) va vc vs t z.any z.lo z.hi _ (B.a.below (H U.a.kb.low (H f.o ay))) B.A rfl hl yW).mono ?_;rintro e W6 ⟨j,r,rfl,F,T,E⟩;have b:J (Bl W4 W6/\dB W6 j (vs.set t z)/\(j=C'->r=0)):=⟨H (H f.o ay) E,F,T⟩;clear F T E;refine D.out _ _ ⟨aL b.a U.a.kb.b0,aL b.a U.a.kb.b1⟩ (λaM=>?_);clear D K;refine pt ?_;refine r1 13 λK D=>?_;obtain⟨r3,L⟩:=M (U.a.kb.below b.a).b2;go_simp;refine D.out _ _ ⟨((aJ (by dsimp only;omega)).trans (aJ (by dsimp only;omega))).trans (aL b.a U.a.kb.b0),((aJ (by dsimp only;omega)).trans (aJ (by dsimp only;omega))).trans (aL b.a U.a.kb.b1)⟩ (λaM=>?_);clear r3 L;clear D K;refine pt ?_;refine wpAnyH_done au ?_ _;go_wp2_with fail;obtain⟨q4,q5⟩:=(U.a.kb.below b.a).q (j' false) (i' j (ζ vs) r);refine aC (v:=cu false j (ζ vs) r) (by simp[results,results182,go_sem,q4,q5]) rfl ((U.a.kb.below b.a).done b.b b.B (by rw[de]) HE.o)
       · simp only[dW]at Y
         clear s x V u r1 r2 N a2 b1 o l1 l2;refine wp_region_held_drew (S:=λW'=>W'.1[δ w.1]?=B' _/\W'.1[δ w.1+1]?=B' _) au ⟨U.a.kb.b0,U.a.kb.b1⟩ (λaM=>?_);refine tr 0 (l' (dI va (ζ vs) vc)) (λW' bN=>(M bN.2).1) ?_;refine tq 1 (qJ w.1.size) ?_;refine tq 2 (G t) ?_ (y:=λW' bN=>by obtain⟨k1,k2⟩:=M bN.1;simp only[aH]at k1;clear aM;go_simp);refine tq 3 (G c1) ?_;refine tq 4 (G c2) ?_;refine tq 5 (G c1) ?_;refine tq 6 (G c2) ?_;refine tq 7 (j' true) ?_;refine tq 8 (j' true) ?_;refine tq 9 (j' f2) ?_;refine tq 10 (j' f2) ?_;refine r1 11 λK D=>?_;go_simp;refine(Y.o _).mono ?_;rintro e C ⟨rfl,X⟩;have f:J (Bl W4 C):=H ay X;clear X;refine D.out _ _ ⟨aL f.o U.a.kb.b0,aL f.o U.a.kb.b1⟩ (λaM=>?_);clear D K;refine pt ?_;refine r1 12 λK D=>?_;go_simp;refine(eU (ζ vs) va vc vs t z.any z.lo z.hi _ (B.a.below (H U.a.kb.low (H f.o ay))) B.A rfl hl yW).mono ?_;rintro e W6 ⟨j,r,rfl,F,T,E⟩;have b:J (Bl W4 W6/\dB W6 j (vs.set t z)/\(j=C'->r=0)):=⟨H (H f.o ay) E,F,T⟩;clear F T E;refine D.out _ _ ⟨aL b.a U.a.kb.b0,aL b.a U.a.kb.b1⟩ (λaM=>?_);clear D K;refine pt ?_;refine r1 13 λK D=>?_;obtain⟨r3,L⟩:=M (U.a.kb.below b.a).b2;go_simp;refine D.out _ _ ⟨((aJ (by dsimp only;omega)).trans (aJ (by dsimp only;omega))).trans (aL b.a U.a.kb.b0),((aJ (by dsimp only;omega)).trans (aJ (by dsimp only;omega))).trans (aL b.a U.a.kb.b1)⟩ (λaM=>?_);clear r3 L;clear D K;refine pt ?_;refine wpAnyH_done au ?_ _;go_wp2_with fail;obtain⟨q4,q5⟩:=(U.a.kb.below b.a).q (j' false) (i' j (ζ vs) r)
         refine aC (v:=cu false j (ζ vs) r) (by simp[results,results182,go_sem,q4,q5]) rfl ((U.a.kb.below b.a).done b.b b.B (by rw[de]) HE.o))):p:=h
def JH(wv:A')(m:RN)(k:Int)(t:Nat)(va:x')(vc:Nat)(vs:List VV)(w:u')(hv:dB w va vs)(qx:va=C'->vc=0)(hl:ζ vs<=8)(hd:m.does=⟨#[61]⟩)(ho:m.ops=2)(ht:m.target=t)(yW:t<ζ vs)(hs:m.sign=⟨#[43]⟩)(BV:m.a.var<ζ vs)(Eu:m.b.var<ζ vs)(qU:oL (fV vs m.a.var m.a.c))(qT:oL (fV vs m.b.var m.b.c)):
  Cl 182 #[l' (aH wv m),G k,cu false va (ζ vs) vc] w (lu w (B' (vs.set t (zI (fV vs m.a.var m.a.c) (fV vs m.b.var m.b.c))))):=by
 exact ady
def Fj(a b:VV)(w:u')(d:oL a)(f:oL b):Cl 252 #[l' (cT a.any a.lo a.hi),l' (cT b.any b.lo b.hi)] w (Rb w (l' #[j' (kP a b).any,G (kP a b).lo,G (kP a b).hi])):=JK a b w d f
def JE(wv:A')(m:RN)(k:Int)(t:Nat)(va:x')(vc:Nat)(vs:List VV)(w:u')(hv:dB w va vs)(qx:va=C'->vc=0)(hl:ζ vs<=8)(hd:m.does=⟨#[61]⟩)(ho:m.ops=2)(ht:m.target=t)(yW:t<ζ vs)(hs:m.sign=⟨#[45]⟩)(BV:m.a.var<ζ vs)(Eu:m.b.var<ζ vs)(qU:oL (fV vs m.a.var m.a.c))(qT:oL (fV vs m.b.var m.b.c)):
  Cl 182 #[l' (aH wv m),G k,cu false va (ζ vs) vc] w (lu w (B' (vs.set t (kP (fV vs m.a.var m.a.c) (fV vs m.b.var m.b.c))))):=by
 have BJ:=True.intro;exact ady
def ac2{Q p c P Y a b F:Int}(C:aP Y=O'->Q=Y)(e:aP a=O'->p=a)(N:aP b=O'->c=b)(d:aP F=O'->P=F):zV Q p c P (aP Y&&aP a&&aP b&&aP F)=zV Y a b F (aP Y&&aP a&&aP b&&aP F):=by
 by_cases h:(aP Y&&aP a&&aP b&&aP F)=O'
 ·have D:=h;simp only[bh]at D;rw[C D.1.1.1,e D.1.1.2,N D.1.2,d D.2]
 rw[kJ.2 h];rfl
def ado {p : Prop} (h:p:=by
  have j:=hid ((KB.start w wv m va (ζ vs) vc).box VV.all);have HV:=hid (A hv qx);clear hv qx;obtain⟨l,b,b,⟨f,b,o⟩,⟨D,X,z⟩,ops,e,g⟩:=m;simp only at hd ho ht hs BV Eu qU qT⊢;subst hd;subst ho;subst ht;subst hs;simp only[aH,cu,VV.all]at j⊢
  first|(have _:=MZ;obtain⟨ev,L⟩:∃ev,ev=dvE vs t (fV vs f b) (fV vs D X):=⟨_,rfl⟩)|(obtain⟨ev,L⟩:∃ev,ev=B' (vs.set t (yF (fV vs f b) (fV vs D X))):=⟨_,rfl⟩)
  rw[<-L];have HE:=hid L;clear L;go_enter func182,ntmps182;go_upto_region 4 with(fail)
  first|(have _:=MZ;(have e:δ (((w.alloc (k' #[wv,m' l,m' ⟨#[61]⟩,G t,G f,G b,m' o,G D,G X,m' z,G 2,m' ⟨#[47]⟩,m' g] 111)).alloc (k' (dI va (ζ vs) vc) 133)).alloc (k' vP 133)).1=δ w.1+1+1+1:=ak))|((have e:δ (((w.alloc (k' #[wv,m' l,m' ⟨#[61]⟩,G t,G f,G b,m' o,G D,G X,m' z,G 2,m' ⟨#[42]⟩,m' g] 111)).alloc (k' (dI va (ζ vs) vc) 133)).alloc (k' vP 133)).1=δ w.1+1+1+1:=ak))
  rw[e]at j;clear e;generalize(((w.alloc _).alloc _).alloc _).alloc _=e at j⊢;obtain⟨s,x⟩:=M j.o.kb.b0;obtain⟨V,u⟩:=M j.o.kb.b1;obtain⟨l1,l2⟩:=M j.o.bx;obtain⟨r1,r2⟩:=M j.o.kb.b2;simp only[aH]at s;go_upto_region 5 with(go_at_call 248;refine(sM va vc (ζ vs) vs f b o _ (HV.a.below j.o.kb.low) rfl hl BV).mono ?_;clear s x V u l1 l2 r1 r2;rintro e f ⟨za,rfl,r,l⟩;have b:=hid (j.o.below l);clear l)
  have T:=hid (A (b.o.kb.box za) (b.o.below (cz _ (k' (cT za.any za.lo za.hi) 138))));clear j b;generalize δ f.1=C at T⊢;generalize f.alloc _=F at T⊢;obtain⟨s,x⟩:=M T.a.kb.b0;obtain⟨V,u⟩:=M T.a.kb.b1;obtain⟨r1,r2⟩:=M T.a.kb.b2;obtain⟨N,a2⟩:=M T.a.bx;simp only[aH]at s;go_upto_region 8 with(go_at_call 248;refine(sM va vc (ζ vs) vs D X z _ (HV.a.below T.a.kb.low) rfl hl Eu).mono ?_;clear s x V u r1 r2 N a2;rintro e o ⟨E,rfl,f,Y⟩;have b:=hid (A (T.a.below Y) (T.A.below Y));clear Y)
  have U:=hid (A (b.a.kb.box E) (A (b.a.below (cz _ (k' (cT E.any E.lo E.hi) 138))) (b.A.below (cz _ (k' (cT E.any E.lo E.hi) 138)))));clear T b;generalize δ o.1=b at U⊢;generalize o.alloc _=g at U⊢;obtain⟨s,x⟩:=M U.a.kb.b0;obtain⟨V,u⟩:=M U.a.kb.b1;obtain⟨r1,r2⟩:=M U.a.kb.b2;obtain⟨N,a2⟩:=M U.b.bx;obtain⟨b1,o⟩:=M U.a.bx;obtain⟨l1,l2⟩:=M U.B.bx;simp only[aH]at s;have D:oL za:=by rw[r.o];exact qU
  have j:oL E:=by rw[f.o];exact qT
  first
    |(
       have _:=MZ;have B:J (ev=dvE vs t za E):=by
         show _=_
         rw[HE.o,r.o,f.o])
    |(have B:J (ev=B' (vs.set t (yF za E))):=by
         show _=_
         rw[HE.o,r.o,f.o])
  clear HE qU qT;have fa:=D.fit;have fb:=j.fit
  first
    |(
       have _:=MZ;cases Y:(E.lo==E.hi)
       · have HE:J (ev=B' (vs.set t VV.all)):=by
           show _=_;rw[B.o];unfold dvE j6;rw[aB (by simpa using Y)]
         clear B;go_wp2_with (go_at_call 247;refine(eU (ζ vs) va vc vs t false (-9223372036854775808) 9223372036854775807 _ (HV.a.below U.a.kb.low) HV.A rfl hl yW).mono ?_;clear s x V u l1 l2 r1 r2 N a2 b1 o;rintro e W5 ⟨j,oc,rfl,l,r,Vj⟩;have f:=hid (A (U.a.kb.below Vj) (A l r));obtain⟨r1,r2⟩:=M f.a.b2;clear l r Vj);obtain⟨q4,q5⟩:=f.a.q (j' false) (aO j (ζ vs) oc);refine aC (v:=cu false j (ζ vs) oc) (by simp[results,results182,go_sem,q4,q5]) rfl (f.a.done f.b f.B (by rw[de]) HE.o)
       · cases h2:(E.lo==0)
         · cases T:(E.lo==-1)
           · have r:E.lo≠0:=by simpa using h2
             have l:E.lo≠-1:=by simpa using T
             have f:IntKind.i64.wrap (za.lo.tdiv E.lo)=za.lo.tdiv E.lo:=kT fa.1 r l;have f:IntKind.i64.wrap (za.hi.tdiv E.lo)=za.hi.tdiv E.lo:=kT fa.2 r l;by_cases W:0<E.lo
             · obtain⟨z,f⟩:=Ea (⟨false,za.lo.tdiv E.lo,za.hi.tdiv E.lo⟩:VV)
               have HE:J (ev=B' (vs.set t z)):=by show _=_;rw[B.o,f];unfold dvE j6;rw[aA (by simpa using Y),aA r,aA l,aB W]
               clear B;go_upto_region 31 with(fail)
               clear s x V u r1 r2 N a2 b1 o l1 l2;refine wp_region_held_drew (S:=λW'=>W'.1[δ w.1]?=B' _/\W'.1[δ w.1+1]?=B' _/\W'.1[C]?=B' _/\W'.1[b]?=B' _) au ⟨U.a.kb.b0,U.a.kb.b1,U.b.bx,U.a.bx⟩ (λaM=>?_);refine tr 0 (l' (dI va (ζ vs) vc)) (λW' bN=>(M bN.2.1).1) ?_;refine tq 1 (qJ w.1.size) ?_;refine tq 2 (G t) ?_ (y:=λW' bN=>by obtain⟨k1,k2⟩:=M bN.1;simp only[aH]at k1;clear aM;go_simp);refine tq 3 (o' (B' (O C 1))) ?_;refine tr 4 (G za.lo) (λW' bN=>(M bN.2.2.1).1) ?_;refine tq 5 (G E.lo) ?_;refine tq 6 (G (za.lo.tdiv E.lo)) ?_;refine tq 7 (o' (B' (O C 2))) ?_;refine tr 8 (G za.hi) (λW' bN=>(M bN.2.2.1).1) ?_;refine tq 9 (G E.lo) ?_;refine tq 10 (G (za.hi.tdiv E.lo)) ?_;refine tq 11 (l' #[j' false,G (za.lo.tdiv E.lo),G (za.hi.tdiv E.lo)]) ?_;refine r1 12 λK X=>?_;go_simp;refine(eU (ζ vs) va vc vs t false (za.lo.tdiv E.lo) (za.hi.tdiv E.lo) _ (HV.a.below (H U.a.kb.low ay)) HV.A rfl hl yW).mono ?_;rintro e W6 ⟨j,oc,rfl,TA,Pq,Pu⟩;have F:J (Bl g W6/\dB W6 j (vs.set t z)/\(j=C'->oc=0)):=by rw[f];exact⟨H ay Pu,TA,Pq⟩
               clear TA Pq Pu;refine X.out _ _ ⟨aL F.a U.a.kb.b0,aL F.a U.a.kb.b1,aL F.a U.b.bx,aL F.a U.a.bx⟩ (λaM=>?_);clear X K;refine pt ?_;refine r1 13 λK X=>?_;obtain⟨r3,L⟩:=M (U.a.kb.below F.a).b2;go_simp;refine X.out _ _ ⟨((aJ (by dsimp only;omega)).trans (aJ (by dsimp only;omega))).trans (aL F.a U.a.kb.b0),((aJ (by dsimp only;omega)).trans (aJ (by dsimp only;omega))).trans (aL F.a U.a.kb.b1),((aJ (by have:=U.b.low;dsimp only;omega)).trans (aJ (by have:=U.b.low;dsimp only;omega))).trans (aL F.a U.b.bx),((aJ (by have:=U.a.low;dsimp only;omega)).trans (aJ (by have:=U.a.low;dsimp only;omega))).trans (aL F.a U.a.bx)⟩ (λaM=>?_);clear r3 L;clear X K;refine pt ?_;refine wpAnyH_done au ?_ _;go_wp2_with fail;obtain⟨q4,q5⟩:=(U.a.kb.below F.a).q (j' false) (aO j (ζ vs) oc);refine aC (v:=cu false j (ζ vs) oc) (by simp[results,results182,go_sem,q4,q5]) rfl ((U.a.kb.below F.a).done F.b F.B (by rw[de]) HE.o)
             · obtain⟨z,f⟩:=Ea (⟨false,za.hi.tdiv E.lo,za.lo.tdiv E.lo⟩:VV)
               have HE:J (ev=B' (vs.set t z)):=by show _=_;rw[B.o,f];unfold dvE j6;rw[aA (by simpa using Y),aA r,aA l,aA W]
               clear B;go_upto_region 32 with(fail)
               clear s x V u r1 r2 N a2 b1 o l1 l2;refine wp_region_held_drew (S:=λW'=>W'.1[δ w.1]?=B' _/\W'.1[δ w.1+1]?=B' _/\W'.1[C]?=B' _/\W'.1[b]?=B' _) au ⟨U.a.kb.b0,U.a.kb.b1,U.b.bx,U.a.bx⟩ (λaM=>?_);refine tr 0 (l' (dI va (ζ vs) vc)) (λW' bN=>(M bN.2.1).1) ?_;refine tq 1 (qJ w.1.size) ?_;refine tq 2 (G t) ?_ (y:=λW' bN=>by obtain⟨k1,k2⟩:=M bN.1;simp only[aH]at k1;clear aM;go_simp);refine tq 3 (o' (B' (O C 2))) ?_;refine tr 4 (G za.hi) (λW' bN=>(M bN.2.2.1).1) ?_;refine tq 5 (G E.lo) ?_;refine tq 6 (G (za.hi.tdiv E.lo)) ?_;refine tq 7 (o' (B' (O C 1))) ?_;refine tr 8 (G za.lo) (λW' bN=>(M bN.2.2.1).1) ?_;refine tq 9 (G E.lo) ?_;refine tq 10 (G (za.lo.tdiv E.lo)) ?_;refine tq 11 (l' #[j' false,G (za.hi.tdiv E.lo),G (za.lo.tdiv E.lo)]) ?_;refine r1 12 λK X=>?_;go_simp;refine(eU (ζ vs) va vc vs t false (za.hi.tdiv E.lo) (za.lo.tdiv E.lo) _ (HV.a.below (H U.a.kb.low ay)) HV.A rfl hl yW).mono ?_;rintro e W6 ⟨j,oc,rfl,TA,Pq,Pu⟩;have F:J (Bl g W6/\dB W6 j (vs.set t z)/\(j=C'->oc=0)):=by rw[f];exact⟨H ay Pu,TA,Pq⟩
               clear TA Pq Pu;refine X.out _ _ ⟨aL F.a U.a.kb.b0,aL F.a U.a.kb.b1,aL F.a U.b.bx,aL F.a U.a.bx⟩ (λaM=>?_);clear X K;refine pt ?_;refine r1 13 λK X=>?_;obtain⟨r3,L⟩:=M (U.a.kb.below F.a).b2;go_simp;refine X.out _ _ ⟨((aJ (by dsimp only;omega)).trans (aJ (by dsimp only;omega))).trans (aL F.a U.a.kb.b0),((aJ (by dsimp only;omega)).trans (aJ (by dsimp only;omega))).trans (aL F.a U.a.kb.b1),((aJ (by have:=U.b.low;dsimp only;omega)).trans (aJ (by have:=U.b.low;dsimp only;omega))).trans (aL F.a U.b.bx),((aJ (by have:=U.a.low;dsimp only;omega)).trans (aJ (by have:=U.a.low;dsimp only;omega))).trans (aL F.a U.a.bx)⟩ (λaM=>?_);clear r3 L;clear X K;refine pt ?_;refine wpAnyH_done au ?_ _;go_wp2_with fail;obtain⟨q4,q5⟩:=(U.a.kb.below F.a).q (j' false) (aO j (ζ vs) oc);refine aC (v:=cu false j (ζ vs) oc) (by simp[results,results182,go_sem,q4,q5]) rfl ((U.a.kb.below F.a).done F.b F.B (by rw[de]) HE.o)
           · obtain⟨z,f⟩:=Ea (kP ⟨false,0,0⟩ za)
             have l:E.lo=-1:=by simpa using T
             have HE:J (ev=B' (vs.set t z)):=by show _=_;rw[B.o,f];unfold dvE j6;rw[aA (by simpa using Y),aA (by simpa using h2),aB l]
             have T:J (∀W,Cl 252 #[l' o4,l' (cT za.any za.lo za.hi)] W (Rb W (l' #[j' z.any,G z.lo,G z.hi]))):=by rw[f];exact λW=>Fj ⟨false,0,0⟩ za W ⟨aj,aj⟩ D
             clear B f fa fb l;go_upto_region 29 with(fail)
             clear s x V u r1 r2 N a2 b1 o l1 l2;refine wp_region_held_drew (S:=λW'=>W'.1[δ w.1]?=B' _/\W'.1[δ w.1+1]?=B' _/\W'.1[C]?=B' _/\W'.1[b]?=B' _) au ⟨U.a.kb.b0,U.a.kb.b1,U.b.bx,U.a.bx⟩ (λaM=>?_);refine tr 0 (l' (dI va (ζ vs) vc)) (λW' bN=>(M bN.2.1).1) ?_;refine tq 1 (qJ w.1.size) ?_;refine tq 2 (G t) ?_ (y:=λW' bN=>by obtain⟨k1,k2⟩:=M bN.1;simp only[aH]at k1;clear aM;go_simp);refine tq 3 (l' o4) ?_;refine tr 4 (l' (cT za.any za.lo za.hi)) (λW' bN=>(M bN.2.2.1).1) ?_;refine r1 5 λK X=>?_;go_simp;refine(T.o _).mono ?_;rintro e W5 ⟨rfl,Vj⟩;have C:J (Bl g W5):=H ay Vj;clear Vj;refine X.out _ _ ⟨aL C.o U.a.kb.b0,aL C.o U.a.kb.b1,aL C.o U.b.bx,aL C.o U.a.bx⟩ (λaM=>?_);clear X K;refine pt ?_;refine r1 6 λK X=>?_;go_simp;refine(eU (ζ vs) va vc vs t z.any z.lo z.hi _ (HV.a.below (H U.a.kb.low (H C.o ay))) HV.A rfl hl yW).mono ?_;rintro e W6 ⟨j,oc,rfl,TA,Pq,Pu⟩;have F:J (Bl g W6/\dB W6 j (vs.set t z)/\(j=C'->oc=0)):=⟨H (H C.o ay) Pu,TA,Pq⟩;clear TA Pq Pu;refine X.out _ _ ⟨aL F.a U.a.kb.b0,aL F.a U.a.kb.b1,aL F.a U.b.bx,aL F.a U.a.bx⟩ (λaM=>?_);clear X K;refine pt ?_;refine r1 7 λK X=>?_;obtain⟨r3,L⟩:=M (U.a.kb.below F.a).b2;go_simp;refine X.out _ _ ⟨((aJ (by dsimp only;omega)).trans (aJ (by dsimp only;omega))).trans (aL F.a U.a.kb.b0),((aJ (by dsimp only;omega)).trans (aJ (by dsimp only;omega))).trans (aL F.a U.a.kb.b1),((aJ (by have:=U.b.low;dsimp only;omega)).trans (aJ (by have:=U.b.low;dsimp only;omega))).trans (aL F.a U.b.bx),((aJ (by have:=U.a.low;dsimp only;omega)).trans (aJ (by have:=U.a.low;dsimp only;omega))).trans (aL F.a U.a.bx)⟩ (λaM=>?_);clear r3 L;clear X K;refine pt ?_;refine wpAnyH_done au ?_ _;go_wp2_with fail;obtain⟨q4,q5⟩:=(U.a.kb.below F.a).q (j' false) (aO j (ζ vs) oc);refine aC (v:=cu false j (ζ vs) oc) (by simp[results,results182,go_sem,q4,q5]) rfl ((U.a.kb.below F.a).done F.b F.B (by rw[de]) HE.o)
         · have r:E.lo=0:=by simpa using h2
           go_wp2_with fail;obtain⟨q4,q5⟩:=U.a.kb.q (j' true) (i' C' 0 0)
           refine aC (v:=cu true C' 0 0) (by simp[results,results182,go_sem,q4,q5]) rfl (U.a.kb.no (by rw[B.o];unfold dvE j6;rw[aA (by simpa using Y),aB r])))
    |(
       go_upto_region 19 with(go_at_call 253;refine(nu za.lo E.lo _ fa.1 fb.1).mono ?_;clear s x V u r1 r2 N a2 b1 o l1 l2;rintro e W5 ⟨⟨c1,rfl,E1⟩,l⟩;have r:=hid (A (U.a.below l) (A (U.b.below l) (U.B.below l)));clear l)
       clear U;obtain⟨s,x⟩:=M r.a.kb.b0;obtain⟨V,u⟩:=M r.a.kb.b1;obtain⟨r1,r2⟩:=M r.a.kb.b2;obtain⟨N,a2⟩:=M r.b.bx;obtain⟨b1,o⟩:=M r.a.bx;obtain⟨l1,l2⟩:=M r.B.bx;simp only[aH]at s;go_upto_region 20 with(go_at_call 253;refine(nu za.lo E.hi _ fa.1 fb.2).mono ?_;clear s x V u r1 r2 N a2 b1 o l1 l2;rintro e W6 ⟨⟨U,rfl,g⟩,l⟩;have b:=hid (A (r.a.below l) (A (r.b.below l) (r.B.below l)));clear l)
       clear r;obtain⟨s,x⟩:=M b.a.kb.b0;obtain⟨V,u⟩:=M b.a.kb.b1;obtain⟨r1,r2⟩:=M b.a.kb.b2;obtain⟨N,a2⟩:=M b.b.bx;obtain⟨b1,o⟩:=M b.a.bx;obtain⟨l1,l2⟩:=M b.B.bx;simp only[aH]at s;go_upto_region 21 with(go_at_call 253;refine(nu za.hi E.lo _ fa.2 fb.1).mono ?_;clear s x V u r1 r2 N a2 b1 o l1 l2;rintro e Y ⟨⟨r,rfl,E3⟩,l⟩;have D:=hid (A (b.a.below l) (A (b.b.below l) (b.B.below l)));clear l)
       clear b;obtain⟨s,x⟩:=M D.a.kb.b0;obtain⟨V,u⟩:=M D.a.kb.b1;obtain⟨r1,r2⟩:=M D.a.kb.b2;obtain⟨N,a2⟩:=M D.b.bx;obtain⟨b1,o⟩:=M D.a.bx;obtain⟨l1,l2⟩:=M D.B.bx;simp only[aH]at s;go_upto_region 22 with(go_at_call 253;refine(nu za.hi E.hi _ fa.2 fb.2).mono ?_;clear s x V u r1 r2 N a2 b1 o l1 l2;rintro e Y ⟨⟨c4,rfl,E4⟩,l⟩;have b:=hid (A (D.a.below l) (A (D.b.below l) (D.B.below l)));clear l)
       clear D;obtain⟨s,x⟩:=M b.a.kb.b0;obtain⟨V,u⟩:=M b.a.kb.b1;obtain⟨r1,r2⟩:=M b.a.kb.b2;obtain⟨N,a2⟩:=M b.b.bx;obtain⟨b1,o⟩:=M b.a.bx;obtain⟨l1,l2⟩:=M b.B.bx;simp only[aH]at s;obtain⟨z,f⟩:=Ea (yF za E);have l:zV c1 U r c4 (aP (za.lo*E.lo)&&aP (za.lo*E.hi)&&aP (za.hi*E.lo)&&aP (za.hi*E.hi))=z:=by rw[f];exact ac2 E1 g E3 E4
       have HE:J (ev=B' (vs.set t z)):=by rw[f];exact B.o
       clear B f fa fb E1 g E3 E4;have T:J (∀W,Cl 251 #[G c1,G U,G r,G c4,j' (aP (za.lo*E.lo)&&aP (za.lo*E.hi)&&aP (za.hi*E.lo)&&aP (za.hi*E.hi))] W (Rb W (l' #[j' z.any,G z.lo,G z.hi]))):=by rw[<-l];exact λW=>pj c1 U r c4 _ W
       clear l;generalize aP (za.lo*E.lo)=f at T⊢;generalize aP (za.lo*E.hi)=B at T⊢;generalize aP (za.hi*E.lo)=g at T⊢;generalize aP (za.hi*E.hi)=l at T⊢;clear s x V u r1 r2 N a2 b1 o l1 l2;refine wp_region_held_drew (S:=λW'=>W'.1[δ w.1]?=B' _/\W'.1[δ w.1+1]?=B' _) au ⟨b.a.kb.b0,b.a.kb.b1⟩ (λaM=>?_);refine tr 0 (l' (dI va (ζ vs) vc)) (λW' bN=>(M bN.2).1) ?_;refine tq 1 (qJ w.1.size) ?_;refine tq 2 (G t) ?_ (y:=λW' bN=>by obtain⟨k1,k2⟩:=M bN.1;simp only[aH]at k1;clear aM;go_simp);refine tq 3 (G c1) ?_;refine tq 4 (G U) ?_;refine tq 5 (G r) ?_;refine tq 6 (G c4) ?_;refine tq 7 (j' f) ?_;refine tq 8 (j' f) ?_;refine tz 9 (if f then j' B else undef) ?_ (y:=by clear aM T;cases f<;>cases B<;>cases g<;>first|exact aK ⟨au,rfl⟩|exact aI ⟨au,λW' bN=>by go_simp⟩);refine tq 10 (j' (f&&B)) ?_ (y:=λW' bN=>by clear aM T;cases f<;>cases B<;>cases g<;>go_simp);refine tq 11 (j' (f&&B)) ?_ (y:=λW' bN=>by clear aM T;cases f<;>cases B<;>cases g<;>go_simp);refine tz 12 (if f&&B then j' g else undef) ?_ (y:=by clear aM T;cases f<;>cases B<;>cases g<;>first|exact aK ⟨au,rfl⟩|exact aI ⟨au,λW' bN=>by go_simp⟩);refine tq 13 (j' (f&&B&&g)) ?_ (y:=λW' bN=>by clear aM T;cases f<;>cases B<;>cases g<;>go_simp);refine tq 14 (j' (f&&B&&g)) ?_ (y:=λW' bN=>by clear aM T;cases f<;>cases B<;>cases g<;>go_simp);refine tz 15 (if f&&B&&g then j' l else undef) ?_ (y:=by clear aM T;cases f<;>cases B<;>cases g<;>first|exact aK ⟨au,rfl⟩|exact aI ⟨au,λW' bN=>by go_simp⟩);refine tq 16 (j' (f&&B&&g&&l)) ?_ (y:=λW' bN=>by clear aM T;cases f<;>cases B<;>cases g<;>go_simp);refine r1 17 λK X=>?_;go_simp;refine(T.o _).mono ?_;rintro e f ⟨rfl,Vj⟩;have C:J (Bl Y f):=H ay Vj;clear Vj;refine X.out _ _ ⟨aL C.o b.a.kb.b0,aL C.o b.a.kb.b1⟩ (λaM=>?_);clear X K;refine pt ?_;refine r1 18 λK X=>?_;go_simp;refine(eU (ζ vs) va vc vs t z.any z.lo z.hi _ (HV.a.below (H b.a.kb.low (H C.o ay))) HV.A rfl hl yW).mono ?_;rintro e W6 ⟨j,oc,rfl,TA,Pq,Pu⟩;have F:J (Bl Y W6/\dB W6 j (vs.set t z)/\(j=C'->oc=0)):=⟨H (H C.o ay) Pu,TA,Pq⟩;clear TA Pq Pu;refine X.out _ _ ⟨aL F.a b.a.kb.b0,aL F.a b.a.kb.b1⟩ (λaM=>?_);clear X K;refine pt ?_;refine r1 19 λK X=>?_;obtain⟨r3,L⟩:=M (b.a.kb.below F.a).b2;go_simp;refine X.out _ _ ⟨((aJ (by dsimp only;omega)).trans (aJ (by dsimp only;omega))).trans (aL F.a b.a.kb.b0),((aJ (by dsimp only;omega)).trans (aJ (by dsimp only;omega))).trans (aL F.a b.a.kb.b1)⟩ (λaM=>?_);clear r3 L;clear X K;refine pt ?_;refine wpAnyH_done au ?_ _;go_wp2_with fail
       all_goals
         obtain⟨q4,q5⟩:=(b.a.kb.below F.a).q (j' false) (aO j (ζ vs) oc)
         refine aC (v:=cu false j (ζ vs) oc) (by simp[results,results182,go_sem,q4,q5]) rfl ((b.a.kb.below F.a).done F.b F.B (by rw[de]) HE.o))):p:=h
def JF(wv:A')(m:RN)(k:Int)(t:Nat)(va:x')(vc:Nat)(vs:List VV)(w:u')(hv:dB w va vs)(qx:va=C'->vc=0)(hl:ζ vs<=8)(hd:m.does=⟨#[61]⟩)(ho:m.ops=2)(ht:m.target=t)(yW:t<ζ vs)(hs:m.sign=⟨#[42]⟩)(BV:m.a.var<ζ vs)(Eu:m.b.var<ζ vs)(qU:oL (fV vs m.a.var m.a.c))(qT:oL (fV vs m.b.var m.b.c)):
  Cl 182 #[l' (aH wv m),G k,cu P' va (ζ vs) vc] w (lu w (B' (vs.set t (yF (fV vs m.a.var m.a.c) (fV vs m.b.var m.b.c))))):=by
 exact ado
def dvE(vs:List VV)(t:Nat)(a b:VV):EV:=match j6 a b with|none=>C'|some z=>B' (vs.set t z)
def JG(wv:A')(m:RN)(k:Int)(t:Nat)(va:x')(vc:Nat)(vs:List VV)(w:u')(hv:dB w va vs)(qx:va=C'->vc=0)(hl:ζ vs<=8)(hd:m.does=⟨#[61]⟩)(ho:m.ops=2)(ht:m.target=t)(yW:t<ζ vs)(hs:m.sign=⟨#[47]⟩)(BV:m.a.var<ζ vs)(Eu:m.b.var<ζ vs)(qU:oL (fV vs m.a.var m.a.c))(qT:oL (fV vs m.b.var m.b.c)):
  Cl 182 #[l' (aH wv m),G k,cu P' va (ζ vs) vc] w (lu w (dvE vs t (fV vs m.a.var m.a.c) (fV vs m.b.var m.b.c))):=by
 have MZ:=True.intro;exact ado
section
variable {r:RO} {o:lU}
def px(h:fQ r o)(E:List VV):fV E r.var r.c=gQ E o:=by
 unfold fQ at h;unfold fV gQ;cases R:o.aS
 ·rw[R]at h;rw[aA (by simp at h;omega),aA aj];simp at h;rw[h.2]
 rw[R]at h;simp at h;rw[aB I,aB rfl,h.1]
def l!{n:Nat}(h:fQ r o)(R:o.aS=O'->0<=o.var/\o.var<n):r.var<n:=by
 unfold fQ at h;cases V:o.aS
 ·rw[V]at h;simp at h;omega
 rw[V]at h;simp at h;have:=R V;omega
def MG(h:fQ r o):r.var=l? o:=by
 unfold fQ at h;unfold l?;cases V:o.aS
 ·rw[V]at h;simp at h;exact h.1
 rw[V]at h;simp at h;exact h.1
def F3{s:z'}(h:Wm.wC s.1.1=O'):s=⟨#[43]⟩\/s=⟨#[45]⟩\/s=⟨#[42]⟩\/s=⟨#[47]⟩:=by
 have k:∀l:y',s.1.1=l->s=⟨θ l⟩:=by intro l X;cases s;congr 1;rw[<-X]
 unfold Wm.wC at h;simp only[gX,bT]at h;rcases h with((h|h)|h)|h
 ·exact aI (k _ h)
 ·exact aK (aI (k _ h))
 ·exact aK (aK (aI (k _ h)))
 exact aK (aK (aK (k _ h)))
structure X7(m:RN)(n:SN)(nv:Nat):Prop where
  r:tV {m with bu:=emp} n
  var:n.aG<=2->0<=n.var/\n.var<nv
  a:0<d! n->n.a.aS=O'->0<=n.a.var/\n.a.var<nv
  b:1<d! n->n.b.aS=O'->0<=n.b.var/\n.b.var<nv
def aff(k:Nat):(((k:Int))==0)=decide (k=0):=by rw[cj];simp
def Fh(P:A')(m:RN)(n:SN)(k:Nat)(z:x')(x:Nat)(E:List VV)(w:u')(R:dB w z E)(W:z=C'->x=0)(X:ζ E<=8)(h:X7 m n (ζ E))(a:n.aG<=2\/n.aG=4):
  Cl 181 #[l' (aH P m),G k,cu P' z (ζ E) x] w (lu w (Em n k E)):=by
 have c:=h.r;have b:=c.aG.1;by_cases f:n.aG=2
 ·have a:=h.var I;have U:=c.target;rw[aB I]at U;have:=C8 P m (k:Int) n.var.toNat z x E w R W X (by have:=c.does;rwa[f]at this) (by show m.target=_;rw[show m.target=n.var from U];omega) I;have e:Em n k E=B' (E.set n.var.toNat VV.gT):=by rw[Em,aB f]
  rw[e];exact this
 by_cases D:n.aG=0
 ·have a:=h.var I;have U:=c.target;rw[aB I]at U;have b:=c.a (aI D);have:=Fy P m (k:Int) n.var.toNat z x E w R W X (by have:=c.does;rwa[D]at this) (by have:=c.ops;rwa[aB (aI D)]at this) (by show m.target=_;rw[show m.target=n.var from U];omega) I (l! b (h.a (by simp[d!,D])));have e:Em n k E=B' (E.set n.var.toNat (gQ E n.a)):=by rw[Em,aA f,aB D]
  rw[e,<-px b];exact this
 by_cases d:n.aG=4
 ·have b:=c.a I;have g:=c.b I;have y:=c.test d;have:=OB P m (k:Int) z x E w R W X (by have:=c.does;rwa[d]at this) (by have:=c.ops;rwa[aA I,aB I]at this) y.2 (l! b (h.a (by simp[d!,d]))) (l! g (h.b (by simp[d!,d])));have e:Em n k E=UF (ru (Wm.uw m.sign.1.1) (fV E m.a.var m.a.c).lo (fV E m.b.var m.b.c).lo) (k:Int) E (fV E m.a.var m.a.c) (fV E m.b.var m.b.c):=by rw[Em,UF,aA f,aA D,aB d,show fV E m.a.var m.a.c=_ from px b E,show fV E m.b.var m.b.c=_ from px g E,y.1,aff]
  rw[e];exact this
 have C:n.aG=1:=I;have a:=h.var I;have U:=c.target;rw[aB I]at U;have b:=c.a I;have g:=c.b I;have y:=c.op C;have:=OA P m (k:Int) n.var.toNat z x E w R W X (by have:=c.does;rwa[C]at this) (by have:=c.ops;rwa[aA I,aB I]at this) (by show m.target=_;rw[show m.target=n.var from U];omega) I y.2 (l! b (h.a (by simp[d!,C]))) (l! g (h.b (by simp[d!,C])));have a:(m.sign.toList==[47])=decide (n.op=3):=by rw[y.1,dp];show(m.sign.1.1==[47])=decide (Wm.tZ m.sign.1.1=3);rcases F3 y.2 with e|e|e|e<;>rw[show m.sign=_ from e]<;>rfl
 have e:Em n k E=PL (m.sign.toList==[47]) (jT (Wm.tZ m.sign.1.1) (fV E m.a.var m.a.c).lo (fV E m.b.var m.b.c).lo) n.var.toNat E (fV E m.a.var m.a.c) (fV E m.b.var m.b.c):=by
  rw[Em,PL,aA f,aA D,aA d,aB C,show fV E m.a.var m.a.c=_ from px b E,show fV E m.b.var m.b.c=_ from px g E,a,<-y.1];have:(n.op=3/\(gQ E n.b).any=P'/\(gQ E n.b).lo=0)↔(decide (n.op=3)&&!(gQ E n.b).any&&((gQ E n.b).lo==0))=O':=by simp[and_assoc]
  by_cases V:n.op=3/\(gQ E n.b).any=P'/\(gQ E n.b).lo=0
  ·rw[aB V,aB (this.1 V)]
  rw[aA V,aA (λq=>V (this.2 q))]
 rw[e];exact this
def Ff(P:A')(m:RN)(n:SN)(k:Nat)(z:x')(x:Nat)(E:List VV)(w:u')(R:dB w z E)(W:z=C'->x=0)(X:ζ E<=8)(h:X7 m n (ζ E))(a:n.aG<=2\/n.aG=4)(o:∀v∈E,okV 6 v)(T:Hm n.a/\Hm n.b):
  Cl 182 #[l' (aH P m),G k,cu P' z (ζ E) x] w (lu w (El n k E)):=by
 have g:=h.r;have b:=g.aG.1;by_cases r:n.aG=2
 ·have a:=h.var I;have U:=g.target;rw[aB I]at U;have:=CQ P m (k:Int) n.var.toNat z x E w R W X (by have:=g.does;rwa[r]at this) (by show m.target=_;rw[show m.target=n.var from U];omega) I;have e:El n k E=B' (E.set n.var.toNat VV.all):=by unfold El;rw[aB r]
  rw[e];exact this
 by_cases D:n.aG=0
 ·have a:=h.var I;have U:=g.target;rw[aB I]at U;have l:=g.a (aI D);have:=Fa P m (k:Int) n.var.toNat z x E w R W X (by have:=g.does;rwa[D]at this) (by have:=g.ops;rwa[aB (aI D)]at this) (by show m.target=_;rw[show m.target=n.var from U];omega) I (l! l (h.a (by simp[d!,D])));have e:El n k E=B' (E.set n.var.toNat (gQ E n.a)):=by unfold El;rw[aA r,aB D]
  rw[e,<-px l];exact this
 have l:=g.a I;have s:=g.b I;have q:fV E m.a.var m.a.c=gQ E n.a:=px l E;have b:fV E m.b.var m.b.c=gQ E n.b:=px s E;have i:oL (fV E m.a.var m.a.c):=by rw[q];exact(kY o _ T.1).bd
 have f:oL (fV E m.b.var m.b.c):=by rw[b];exact(kY o _ T.2).bd
 by_cases d:n.aG=4
 ·have y:=g.test d;have:=Ok P m (k:Int) z x E w R W X (by have:=g.does;rwa[d]at this) (by have:=g.ops;rwa[aA I,aB I]at this) y.2 (l! l (h.a (by simp[d!,d]))) (l! s (h.b (by simp[d!,d]))) i f;have e:El n k E=rIf (Wm.uw m.sign.1.1) ((k:Int)==0) m.a.var m.b.var E (fV E m.a.var m.a.c) (fV E m.b.var m.b.c):=by unfold El rIf chV;rw[aA r,aA D,aB d,q,b,y.1,aff,show m.a.var=_ from MG l,show m.b.var=_ from MG s];rfl
  rw[e];exact this
 have C:n.aG=1:=I;have a:=h.var I;have U:=g.target;rw[aB I]at U;have c:m.target=(n.var.toNat:Int):=by rw[show m.target=n.var from U];omega
 have y:=g.op C;have j:m.does=⟨#[61]⟩:=by have:=g.does;rwa[C]at this
 have p:m.ops=2:=by have:=g.ops;rwa[aA I,aB I]at this
 have a:=l! l (h.a (by simp[d!,C]));have g:=l! s (h.b (by simp[d!,C]));have e:El n k E=(match cpV n.op (gQ E n.a) (gQ E n.b)with|none=>C'|some v=>B' (E.set n.var.toNat v)):=by unfold El;rw[aA r,aA D,aA d,aB C];rfl
 rw[e];rcases F3 y.2 with t|t|t|t
 ·have K:n.op=0:=by rw[y.1];show Wm.tZ m.sign.1.1=0;rw[show m.sign=_ from t];rfl
  have:=JH P m (k:Int) n.var.toNat z x E w R W X j p c I t a g i f;rw[q,b]at this;rw[K];exact this
 ·have K:n.op=1:=by rw[y.1];show Wm.tZ m.sign.1.1=1;rw[show m.sign=_ from t];rfl
  have:=JE P m (k:Int) n.var.toNat z x E w R W X j p c I t a g i f;rw[q,b]at this;rw[K];exact this
 ·have K:n.op=2:=by rw[y.1];show Wm.tZ m.sign.1.1=2;rw[show m.sign=_ from t];rfl
  have:=JF P m (k:Int) n.var.toNat z x E w R W X j p c I t a g i f;rw[q,b]at this;rw[K];exact this
 have K:n.op=3:=by rw[y.1];show Wm.tZ m.sign.1.1=3;rw[show m.sign=_ from t];rfl
 have:=JG P m (k:Int) n.var.toNat z x E w R W X j p c I t a g i f;rw[q,b]at this;rw[K];exact this
end
section
variable {P:Pm}
structure DR(cl:List RC)(nx:List (List Nat))(P:Pm):Prop where
  len:ζ cl=ζ P.nd
  nx:nx=P.nx
  each:∀(j:Nat) (c:RC),cl[j]?=B' c->tV {c.n with bu:=emp} (P.at j)
def XU{i:Nat}(h:i<ζ P.nd):P.at i∈P.nd:=by rw[Pm.at,getD,bR h];exact lX h
def DR.ndr{D:List RC}{v:List (List Nat)}(h:DR D v P)(a:dC P){j:Nat}{c:RC}(f:D[j]?=B' c):X7 c.n (P.at j) P.nv:=by have d:P.at j∈P.nd:=XU (by rw[<-h.len];exact(bm.1 f).1);exact⟨h.each j c f,a.var _ d,a.a _ d,a.b _ d⟩
def dK.cell{w:u'}{b:Bool}{a:x'}{n c:Nat}{e:EV}(h:dK w b a n c e):b=e.isNone:=by
 cases e with
 |none=>exact h
 |some E=>exact h.1
def Zp(h:p:=by
 rcases hp with rfl|rfl
 ·skip
  go_wp2_with (first|(refine wpList_load_mid rfl 111 (.tmp 11) rfl T 0 rfl C _ g underlying111 rfl (by rw[L];kernel_rfl) ?_)|(go_at_call 181;refine(D.o _ f.a).mono ?_;rintro e Y ⟨r,j,x,k,rfl,l,X⟩;have b:=hid (A l X);clear l X e1 u r1 q c2 c3 g;obtain⟨r1,q⟩:=M (aL b.A f.c)));obtain⟨t,y⟩:=U.o Y (j' r) (i' j x k) (aL b.A f.c);refine aC (v:=cu r j x k) (by simp[results114,go_sem,t,y]) rfl (lu.mk (b.a.put (aL b.A f.c)) (((H f.a b.A).setCell H' _).setCell H' _))
 have o:=hid (F.o aj);go_wp2_with (first|(refine wpList_load_mid rfl 111 (.tmp 11) rfl T 0 rfl C _ g underlying111 rfl (by rw[L];kernel_rfl) ?_)|(go_at_call 182;refine(o.o _ f.a).mono ?_;rintro e Y ⟨r,j,x,k,rfl,l,X⟩;have b:=hid (A l X);clear l X e1 u r1 q c2 c3 g;obtain⟨r1,q⟩:=M (aL b.A f.c)));obtain⟨t,y⟩:=U.o Y (j' r) (i' j x k) (aL b.A f.c)
 refine aC (v:=cu r j x k) (by simp[results114,go_sem,t,y]) rfl (lu.mk (b.a.put (aL b.A f.c)) (((H f.a b.A).setCell H' _).setCell H' _))):p:=h
def Zo(h:p:=by
 rw[l]
 exact lu.mk ((B.a.below f.a).put f.c) ((f.a.setCell H' _).setCell H' _)):p:=h
def JL(N i k:Nat)(p:Int)(hp:p=5\/p=6)(D:List RC)(v:List (List Nat))(b:Nat)(P:Pm)(W:Bool)(z:x')(F r:Nat)(e:EV)(w:u')(h:DP w N D v b)(t:DR D v P)(x:dC P)(T:wR P)(hi:i<ζ D)(R:dK w W z F r e)(o:kf p P.nv e):
  Cl 114 #[o' (B' (O N 0)),G p,G i,G k,cu W z F r] w (lu w (Ag p (P.at i) k e)):=by
 obtain⟨c,C⟩:=La hi;have s:=t.ndr x C;have b:(i:Int)<(ζ D:Int):=I;obtain⟨g,b,b,q,u,b,q,u,_⟩:=h.box
 have l:w.rangeAt g (i*13) (fI c):=λj v R=>by
  have f:j<13:=by have:=(bm.1 R).1;rwa[jR]at this
  rw[u.cells i c C j f];simpa[fI]using R
 have b:(fI c).toArray.all (·.oneCell')=O':=by simp[fI,aH,Value.oneCell']
 have L:ζ (fI c)=13:=jR c;have D:(fI c)[3]?=B' (G c.n.target):=rfl;have y:(fI c)[2]?=B' (m' c.n.does):=rfl;have hrel:=s.r;have X:J (θ (fI c)=aH c.wv c.n):=rfl;have U:=hid (A q l);have B:=hid (A R (A s (A o (A (T i) x.nv))));clear h q l u R o s t;generalize fI c=C at U b L D y X;simp only[cu];go_enter func114,ntmps114;go_upto_region 1 with fail
 refine vZ (F:=Code.wp _ _ _ _) λq l=>?_;obtain⟨E,s⟩:=M (aL l.b U.a);have o:q.rangeAt g (i*13) C:=λj v R=>ax (U.A j v R) l.b;go_upto_region 2 with(first|(refine wpList_load_mid rfl 111 (.tmp 17) rfl g (i*13) rfl C _ o underlying111 rfl (by rw[L];kernel_rfl) ?_)|(refine wpList_store_mid rfl 111 (.tmp 11) (.tmp 18) rfl q.1.size 0 (θ C) rfl rfl (cY bV (by simp[L])) (by rw[kL,L];kernel_rfl) b ?_))
 refine TV (F:=Code.wp _ _ _ _) ?hl λV b=>?go
 case hl=>rw[L];rfl
 have f:J (Bl w V/\_/\_/\_):=⟨H l.b b.A,aL b.A l.a.1,aL b.A l.a.2,b.a⟩;have b:=l.B;clear o E s;generalize δ q.1=T at f b⊢;have g:=hid b;clear b;obtain⟨e1,u⟩:=M f.b;obtain⟨r1,q⟩:=M f.c;obtain⟨s,x⟩:=M f.C;have c2:χ V (O T 2)=B' (m' c.n.does):=by rw[s];simpa using y
 have c3:χ V (O T 3)=B' (G c.n.target):=by rw[s];simpa using D
 have b:=blt f.c;have j:∀(Y:u') (b g:A'),Y.1[δ w.1+1]?=B' kN->χ (κ Y (O (δ w.1+1) 0) b) (O (δ w.1+1) 0)=B' b/\χ (κ (κ Y (O (δ w.1+1) 0) b) (O (δ w.1+1) 1) g) (O (δ w.1+1) 1)=B' g:=λY b g b=>⟨by rw[(M (aq b _)).1];rfl,by rw[(M (aq (aq b _) _)).1];rfl⟩;have U:=hid j;clear j s x;simp only[Act.put];have g:=bG f.C;cases W;rotate_left
 ·have l:Ag p (P.at i) k e=e:=by
   cases e with
   |none=>rfl
   |some E=>exact absurd B.a.1 aj
  go_wp2;obtain⟨t,y⟩:=U.o V (j' O') (i' z F r) f.c;refine aC (v:=cu O' z F r) (by simp[results114,go_sem,t,y]) rfl ?_;exact Zo
 cases e with
 |none=>exact absurd B.a (by simp[dK])
 |some E=>
  have j:F=ζ E:=B.a.2.1;have b:=B.c E rfl;by_cases R:(P.at i).aG<=2\/(P.at i).aG=4;rotate_left
  ·have l:Ag p (P.at i) k (B' E)=B' E:=by
    have D:=hrel.aG;show(if p=5 then Em (P.at i) k E else El (P.at i) k E)=B' E;have e1:Em (P.at i) k E=B' E:=by rw[Em,aA I,aA I,aA I,aA I]
    have u:El (P.at i) k E=B' E:=by rw[El,aA I,aA I,aA I,aA I]
    rw[e1,u];split<;>rfl
   have N:=hrel.does;have s:=hrel.target;rw[aA I]at s;rw[show c.n.target=-1 from s]at c3;have o:=hrel.aG;have g3:c.n.does=⟨#[111,117,116,112,117,116]⟩\/c.n.does=⟨#[103,111,116,111]⟩\/c.n.does=⟨#[114,101,116,117,114,110]⟩:=by
    rw[show c.n.does=zn (P.at i).aG from N];have:(P.at i).aG=3\/(P.at i).aG=5\/(P.at i).aG=6:=I;rcases this with e|e|e<;>rw[e]
    ·exact aI rfl
    ·exact aK (aI rfl)
    exact aK (aK rfl)
   clear N s o hrel R j b;rcases g3 with e|e|e
   all_goals
    rw[e]at c2;go_wp2;obtain⟨t,y⟩:=U.o V (j' P') (i' z F r) f.c;refine aC (v:=cu P' z F r) (by simp[results114,go_sem,t,y]) rfl ?_;exact Zo
  subst j;have v:X7 c.n (P.at i) (ζ E):=by rw[b.1];exact B.b
  have o:ζ E<=8:=by rw[b.1];exact B.D
  have D:J (∀W,Bl w W->Cl 181 #[l' (aH c.wv c.n),G k,cu P' z (ζ E) r] W (lu W (Em (P.at i) k E))):=λW j=>Fh c.wv c.n (P.at i) k z r E W (B.a.2.2.1.below j) B.a.2.2.2 o v R;have F:J (p≠5->∀W,Bl w W->Cl 182 #[l' (aH c.wv c.n),G k,cu P' z (ζ E) r] W (lu W (El (P.at i) k E))):=λp W j=>Ff c.wv c.n (P.at i) k z r E W (B.a.2.2.1.below j) B.a.2.2.2 o v R (by rcases hp with rfl|rfl;(· exact absurd rfl p);exact b.2) B.d;rw[<-X.o]at D F;simp only[cu]at D F;clear v o b;by_cases o:(P.at i).aG=4
  ·have N:=hrel.does;have s:=hrel.target;rw[o]at N;rw[aA I]at s;rw[show c.n.does=⟨#[105,102]⟩from N]at c2;rw[show c.n.target=-1 from s]at c3;clear N s hrel;exact Zp
  have s:=hrel.target;have g3:=hrel.var I;rw[aB I]at s;have p:¬c.n.target<0:=by rw[show c.n.target=_ from s];omega
  clear s g3 hrel;exact Zp
end
