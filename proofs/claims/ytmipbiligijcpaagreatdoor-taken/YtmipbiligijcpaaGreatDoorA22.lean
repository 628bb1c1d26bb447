import Derived.Test.YtmipbiligijcpaaGreatDoorA20
namespace Go.Proofs.YtmipbiligijcpaaGreatDoor
set_option linter.all false
set_option maxHeartbeats 4000000
set_option maxRecDepth 100000
section
variable {P:Pm} {N k nv v B t q o m n c:Nat} {W:World} {cs:Array Value} {M:List Value}
open Go.RowKit Go.Proofs Go.Maps Tryz
def IP(j:Nat):List BS:=(List.range j).map fun v=>cH [v]
def M4(j:Nat):IP (j+1)=IP j++[cH [j]]:=by simp[IP,kK]
def nt(P:Pm)(N k:Nat):List BS:=(List.range N).map fun i=>if i<k then qx P i else(0,0)
def oM(P:Pm)(nv k:Nat):List BS:=(List.range nv).map (vX P k)
def MH(P:Pm)(N:Nat):nt P N 0=List.replicate N (0,0):=by
 refine BO.2 ⟨by simp[nt],fun b D=>?_⟩;obtain⟨n,_,rfl⟩:=bP.1 D;simp
def Ql(P:Pm)(N:Nat):nt P N N=(List.range N).map (qx P):=eM fun n J=>by simp[bZ.1 J]
def Us(hk:k<N):(nt P N k)[k]?=some (0,0):=by simp[nt,hk]
def Qk(hk:k<N):(nt P N k).set k (qx P k)=nt P N (k+1):=by
 refine dW fun i=>?_
 rw[eQ];simp only[nt,br,tS,bG];by_cases h:k=i
 ·subst h
  simp[hk]
 have e:i<k+1↔i<k:=ah
 by_cases hi:i<N
 ·simp[h,e,hi]
 simp[h,hi]
def MI(hd:jf (P.at k)=false):nt P N (k+1)=nt P N k:=by
 refine eM fun i _=>?_
 by_cases h:i=k
 ·subst h
  simp[qx,hd]
 have e:i<k+1↔i<k:=ah
 simp[e]
def KN(hv:v<nv):(oM P nv k)[v]?=some (vX P k v):=by simp[oM,hv]
def Qj(hv:v<nv)(hd:jf (P.at k)=true)(he:(P.at k).var=(v:Int)):(oM P nv k).set v (eP (vX P k v) (qx P k))=oM P nv (k+1):=by
 refine dW fun i=>?_
 rw[eQ];simp only[oM,br,tS,bG];by_cases h:v=i
 ·subst h
  simp[hv,oN,hd,he]
 have e:¬((v:Int)=i):=ah
 by_cases hi:i<nv
 ·simp[h,hi,oN,hd,he,e]
 simp[h,hi]
def MF(hd:jf (P.at k)=false):oM P nv (k+1)=oM P nv k:=eM fun i _=>by rw[oN];simp[hd]
def TF.cell{f:Nat×Nat}{v:Value}(h:W.heap[q]?=some (.cells cs t f))(hq:B<=q):TF B t t W (W.setCell (Ad q o) v):=by
 refine⟨(aM _ _).setCell hq _,fun p a b E e G _=>aZ _ _ _ _ ?_⟩;rintro rfl;rw[h]at e;simp at e;exact G e.2.1.symm
def TF.YV{f:Nat}{v v':Value}(h:W.heap[q]?=some (cJ cs t))(hq:B<=q):TF B t t W ((W.setCell (Ad q o) v).setCell (Ad q f) v'):=(TF.cell h hq).trans (TF.cell (aw h _) hq)
def jD(h:W.ownsRow B t m (ix q n c) n M):B<=q/\∃A,W.heap[q]?=some (cJ A t):=by
 rcases h.2 with⟨a,_⟩|⟨g,C,A,Q,z,I,_⟩
 ·cases a
 simp at Q;obtain⟨rfl,rfl⟩:=Q;exact⟨z,A,I⟩
def ES{a:Option Addr}(h:W.ownsRow B t m (.slice a n c) n M)(hn:0<n):∃q,a=some (Ad q 0):=by
 rcases h.2 with⟨e,z⟩|⟨g,C,A,Q,_⟩
 ·omega
 simp at Q;exact⟨g,Q.1⟩
def vI(g C:Nat)(nl:List NC)(P:Pm)(w:World)(hP:PM w g C nl P)(hO:cE P):
  Cl 281 #[eV g P.nd.length C P.nv] w fun e w'=>∃Y va vc,e=.returned (.tuple #[.slice (some (Ad Y 0)) P.nd.length P.nd.length,.slice va P.nv vc,Iv (P.facts 1:Int)])/\w'.ownsRow w.heap.size 267 2 (b? Y P.nd.length) P.nd.length (dh ((List.range P.nd.length).map (qx P)))/\w'.ownsRow w.heap.size 267 2 (bH va P.nv vc) P.nv (dh (oM P P.nv P.nd.length))/\Bl w w':=by
 obtain⟨i0,hi,D,O,K⟩:=cY pU;have HI:Hd (_/\_/\_/\_):=⟨hi,D,O,K⟩;clear hi D O K;have hN:=hO.most;have Vp:=hO.nv;have l:=hid (Aa hP hO);obtain⟨N,Q⟩:=Ea P.nd.length;obtain⟨nv,FE⟩:∃nv,nv=P.nv:=⟨_,rfl⟩;rw[<-Q]at hN;rw[<-FE]at Vp;rw[<-Q,<-FE];have m:=hid (Aa Q FE);clear hP hO Q FE;simp only[eV];go_enter func281,ntmps281
 go_upto_region 1 with(fail)
 have R:Hd (Bl w (w.alloc (.cells (cN g N C nv) 86))/\(w.alloc (.cells (cN g N C nv) 86)).heap[w.heap.size]?=some (.cells (cN g N C nv) 86 (0,0))):=⟨aC _ _,bf _ _⟩;generalize w.alloc (.cells (cN g N C nv) 86)=W0 at R⊢;obtain⟨F,y⟩:=ae R.A;have lw0:=blt R.A
 go_upto_region 2 with(at_make;refine il _ rfl (.tmp 10) (.tmp 10) 264 rfl w.heap.size 267 i0 _ 2 underlying264 HI.a HI.b HI.c .i64 .i64 N N N rfl rfl rfl rfl (by rw[HI.C];omega) (by unfold maxLen;omega) ah ?_;intro T n iP;have HO:=hid (Aa n iP);clear n iP)
 have HW:Hd (Bl w T/\T.heap[w.heap.size]?=some (.cells (cN g N C nv) 86 (0,0))/\T.ownsRow w.heap.size 267 2 (b? W0.heap.size N) N (dh (List.replicate N (0,0)))):=by
  have G:=HO.a;rw[jx _ 2 (by simp[Value.cells]) N]at G;have e:(List.replicate N ([Uv 0,Uv 0])).flatten=dh (List.replicate N (0,0)):=by simp[dh,eG,List.flatMap,w8]
  refine⟨R.a.grown HO.A ah (fun q e=>by cases e),(HO.A.block w.heap.size lw0 ak).trans R.A,?_⟩;rw[<-e];exact G
 have hob:w.heap.size<W0.heap.size:=lw0;generalize W0.heap.size=Y at HW hob⊢;clear HO R lw0 F y;obtain⟨F,y⟩:=ae HW.b
 go_wp2_with fail
 clear F y
 go_loopw[3,14] (fun lv p wr=>∃(j:Nat) (a:Option Addr) (c:Nat),j<=nv/\p=Iv j/\lv=.slice a j c/\Hd (wr.ownsRow T.heap.size 267 2 (.slice a j c) j (dh (IP j))/\Bl T wr)) (fun _ p _=>nv-(intOf p).toNat)
 case atStart=>exact⟨0,none,0,bB _,rfl,rfl,dF _ _ _ _,aM _ _⟩
 obtain⟨j,a,c,U,rfl,rfl,M⟩:=hrel;by_cases J:j<nv
 ·have s:(j:Int)<nv:=ah
  have f:Hd (∀X b,X.cell? (Ad b 0)=some (Iv j)->Cl 241 (mH b) X (Rb X (b! (cH [j])))):=fun X b Z=>j6 X b j ah Z
  have GI:Hd (dh (IP (j+1))=dh (IP j)++eG (cH [j])):=by show _=_;rw[M4,Ho]
  obtain⟨v,rK⟩:=Ea (cH [j]);rw[<-rK]at f GI;clear rK;simp only[b!]at f
  go_wp2_with (first|(go_at_call 241;refine(f.o _ _ ak).mono ?_;rintro e W3 ⟨rfl,Js⟩;have t:=hid (aq (aC _ _) Js);clear Js)|(at_builtin;refine nj _ rfl _ _ 264 rfl T.heap.size 267 i0 (.agg #[Uv 0,Uv 0]) 2 16 underlying264 HI.a HI.b HI.c HI.C rfl aj (.slice a j c) j (dh (IP j)) rfl ((bp M.a t.o).alloc _) (Ad W3.heap.size 0) 1 1 [Uv v.1,Uv v.2] rfl rfl (E7 (bf W3 _)) (by intro u E;simp at E;rcases E with rfl|rfl<;>rfl) (by simp only[maxLen];omega) ah (by have:=(aq M.A t.o).size;simp;omega) ?_;intro v9 S o9 g9 _;obtain⟨a9,c9,rfl⟩:=bS o9;have H9:=hid (Aa o9 g9);clear o9 g9))
  go_roundw
  case rel=>
   refine⟨j+1,a9,c9,J,h',rfl,?_,?_⟩
   ·rw[GI.o];exact H9.a
   exact((aq M.A t.o).alloc (aq M.A t.o).size _).grown H9.A (by have:=(aq M.A t.o).size;simp;omega) (fun q e=>((bp M.a t.o).lt q e).1)
  simp[intOf];omega
 have s:¬(j:Int)<nv:=ah
 obtain rfl:j=nv:=ah
 obtain⟨F,y⟩:=ae (aE M.A HW.b)
 go_wp2_with fail
 clear F y;have HT:Hd (wr.ownsRow w.heap.size 267 2 (b? Y N) N (dh (nt P N 0))/\wr.ownsRow T.heap.size 267 2 (.slice a j c) j (dh (oM P j 0))/\PM wr g C nl P/\Bl w wr/\Y<T.heap.size/\T.heap.size<=wr.heap.size):=by
  have G:=HW.B;obtain⟨_,A,Z⟩:=jD G;exact⟨by rw[MH];exact bp G M.A,M.a,l.a.below (aq HW.a M.A),aq HW.a M.A,blt Z,M.A.size⟩
 have Zc:Hd (pZ P 0=j):=by show _=_;rw[Sl];exact m.A.symm
 obtain⟨r,hW2⟩:=Ea wr;subst hW2;clear M HW
 go_loopw[4,29] (fun cv p wr=>∃(k:Nat),k<=N/\p=Iv k/\cv=Iv (pZ P k:Int)/\Hd (wr.ownsRow w.heap.size 267 2 (b? Y N) N (dh (nt P N k))/\wr.ownsRow T.heap.size 267 2 (.slice a j c) j (dh (oM P j k))/\TF w.heap.size 267 267 r wr)) (fun _ p _=>N-(intOf p).toNat)
 case atStart=>exact⟨0,bB _,rfl,by rw[Zc.o],HT.a,HT.b,TF.refl _ _ _ _⟩
 obtain⟨k,hk,rfl,rfl,I⟩:=hrel;by_cases J:k<N;rotate_left
 ·have s:¬(k:Int)<N:=ah
  obtain rfl:k=N:=ah
  have HCN:Hd (pZ P k=P.facts 1):=by show _=_;rw[m.a];exact V8 P
  generalize pZ P k=dk at HCN⊢
  go_wp2_with fail
  refine aG (v:=.tuple #[.slice (some (Ad Y 0)) k k,.slice a j c,Iv dk]) (by simp[results,results281,go_sem]) rfl ⟨Y,a,c,by rw[HCN.o],?_,?_,?_⟩
  ·rw[<-Ql];exact I.a
  ·have:=oR I.b (bw (qJ hob) (qJ HT.e));exact this
  exact HT.d.trans I.B.low
 have s:(k:Int)<N:=ah
 have B:w.heap.size<=wr.heap.size:=bw HT.d.size I.B.low.size;have wj:=HT.c.tf I.B aj aj aj aj;obtain⟨nc,ts,Z,x,hat,_,Rq,_⟩:=wj.nodes (by rw[<-m.a];exact J);have L:=fun j (U:j<14)=>(mV wj Z j U)
 have mg:=aL x;obtain⟨nd,vD⟩:=Ea nc.n;rw[<-vD]at L x hat mg;simp only[NC.wv,NC.ev]at L;generalize nc.bj=bj at L;generalize nc.wa=wa at L;generalize nc.wl=wl at L;generalize nc.wc=wc at L;generalize nc.ea=ea at L;generalize nc.el=el at L;generalize nc.ec=ec at L;have DE:Hd (∀W,Cl 282 #[.agg (aK bj (.slice wa wl wc) nd (.slice ea el ec))] W (Rb W (.bool (jf nd)))):=fun W=>(lR bj _ _ nd W (l.A.kind nd mg).1).mono fun e w' hh=>⟨hh.1,by rw[hh.2];exact aC _ _⟩
 have Ma:Hd (jf nd=true->0<=nd.var/\nd.var<j):=fun h=>by
  have:=l.A.var nd mg (by simpa[jf]using h);have:=m.A;omega
 have HDN:Hd (pZ P (k+1)=if jf nd then pZ P k+1 else pZ P k):=by
  have:=Sm (P:=P) (k:=k) (by rw[<-m.a];exact J);rw[hat]at this;exact this
 have HDM:Hd (jf nd=true->pZ P k<128):=fun h=>by
  have:=Dh (P:=P) (k:=k) (by rw[<-m.a];exact J) (by rw[hat];exact h);have:=yN l.A;omega
 have DK:Hd (qx P k=if jf nd then cH [pZ P k] else(0,0)):=by show _=_;unfold qx;rw[hat]
 have Zf:Hd (jf (P.at k)=jf nd/\(P.at k).var=nd.var):=by rw[hat];exact⟨rfl,rfl⟩
 obtain⟨ok,o?⟩:=Ea (jf nd);rw[<-o?]at DE Ma HDN HDM DK Zf;obtain⟨kind,var,op,test,⟨ai,av,ac⟩,⟨bi,bv,bc⟩,goal⟩:=nd;obtain⟨d0,d1,d2,d3,d4,d5,d6,d7,d8,d9,d10,d11,d12,d13⟩:=Mr L;simp only[aK,b!]at DE Ma Zf;clear L o? vD x hat mg Z wj Rq Zc;obtain⟨dk,hdk⟩:=Ea (pZ P k);rw[<-hdk]at HDN HDM DK⊢;clear hdk
 go_upto_region 11 with(fail)
 generalize hV:wr.alloc (.cells #[.string bj,.slice wa wl wc,Iv kind,Iv var,Iv op,Iv test,.bool ai,Iv av,Iv ac,.bool bi,Iv bv,Iv bc,.slice ea el ec,.string goal] 152)=V;have H:Hd (Below wr.heap.size wr V/\V.heap[wr.heap.size]?=some (.cells #[.string bj,.slice wa wl wc,Iv kind,Iv var,Iv op,Iv test,.bool ai,Iv av,Iv ac,.bool bi,Iv bv,Iv bc,.slice ea el ec,.string goal] 152 (0,0))):=by subst hV;exact⟨aC _ _,bf _ _⟩
 clear hV d0 d1 d2 d3 d4 d5 d6 d7 d8 d9 d10 d11 d12 d13;obtain⟨F,y⟩:=ae H.A;cases ok
 ·go_wp2_with (go_at_call 282;refine(DE.o _).mono ?_;rintro e W6 ⟨rfl,wh⟩;have GJ:=hid (aq H.a wh);clear wh F y)
  go_roundw
  case rel=>
   refine⟨k+1,J,h',by rw[HDN.o];rfl,?_,?_,?_⟩
   ·rw[MI Zf.a];exact bp I.a GJ.o
   ·rw[MF Zf.a];exact bp I.b GJ.o
   exact I.B.trans (TF.aR GJ.o B)
  simp[intOf];omega
 have hv:=Ma.o rfl;obtain⟨vn,rfl⟩:∃vn:Nat,var=(vn:Int):=⟨var.toNat,by have:=hv.1;omega⟩;have hvj:vn<j:=by have:=hv.2;omega
 have hd8:dk<128:=HDM.o rfl;obtain⟨q,rfl⟩:=ES I.b ah;have HQ:=hid (jD I.b);have nq:q≠Y:=by have:=HQ.a;have:=HT.e;omega
 have f:Hd (∀X b,X.cell? (Ad b 0)=some (Iv dk)->Cl 241 (mH b) X (Rb X (b! (cH [dk])))):=fun X b Z=>j6 X b dk hd8 Z
 have HUN:Hd (∀(X:World) (b:Nat),X.cell? (Ad b 0)=some (Uv ((vX P k vn).1:Int))->X.cell? (Ad b 1)=some (Uv ((vX P k vn).2:Int))->X.cell? (Ad b 2)=some (Uv ((qx P k).1:Int))->X.cell? (Ad b 3)=some (Uv ((qx P k).2:Int))->Cl 267 (oE b) X (Rb X (b! (eP (vX P k vn) (qx P k))))):=by
  have G:=m.a;have h2:=m.A;have h3:=l.A.nv;exact fun X b c0 c1 c2 c3=>e8 X b _ _ (Cn l.A ah k ah) (Ig l.A ah) c0 c1 c2 c3
 have O4:Hd ((oM P j k)[vn]?=some (vX P k vn)/\(oM P j k).set vn (eP (vX P k vn) (qx P k))=oM P j (k+1)/\(nt P N k).set k (qx P k)=nt P N (k+1)/\(nt P N k)[k]?=some (0,0)/\(nt P N (k+1))[k]?=some (qx P k)):=⟨KN hvj,Qj hvj Zf.a Zf.A,Qk J,Us J,by simp[nt,J]⟩;obtain⟨v,rK⟩:=Ea (cH [dk]);have hrc:qx P k=v:=by rw[DK.o,rK];rfl
 rw[hrc]at O4 HUN;rw[<-rK]at f;obtain⟨d,hu1⟩:=Ea (eP (vX P k vn) v);rw[<-hu1]at O4 HUN;obtain⟨v1,hv1⟩:=Ea (vX P k vn);rw[<-hv1]at O4 HUN;clear hv Ma rK hrc hu1 hv1 HDM DK;simp only[b!]at f HUN
 go_upto_region 12 with(go_at_call 282;refine(DE.o _).mono ?_;rintro e W6 ⟨rfl,wh⟩;have GJ:=hid (aq H.a wh);have HNo:=hid (aE wh H.A);clear wh F y)
 go_upto_region 13 with(go_at_call 241;refine(f.o _ _ ak).mono ?_;rintro e i ⟨rfl,RI⟩;have wE:=hid (aq (aC _ _) RI);clear RI;obtain⟨⟨z1,z2⟩,z3,z4⟩:=pO (bp I.a (aq GJ.o wE.o)) O4.d)
 have H8:Hd (((i.setCell (Ad Y (k*2)) (Uv v.1)).setCell (Ad Y (k*2+1)) (Uv v.2)).ownsRow w.heap.size 267 2 (b? Y N) N (dh (nt P N (k+1)))/\((i.setCell (Ad Y (k*2)) (Uv v.1)).setCell (Ad Y (k*2+1)) (Uv v.2)).ownsRow T.heap.size 267 2 (ix q j c) j (dh (oM P j k))/\TF w.heap.size 267 267 r ((i.setCell (Ad Y (k*2)) (Uv v.1)).setCell (Ad Y (k*2+1)) (Uv v.2))/\((i.setCell (Ad Y (k*2)) (Uv v.1)).setCell (Ad Y (k*2+1)) (Uv v.2)).heap[wr.heap.size]?=some (.cells #[.string bj,.slice wa wl wc,Iv kind,Iv vn,Iv op,Iv test,.bool ai,Iv av,Iv ac,.bool bi,Iv bv,Iv bc,.slice ea el ec,.string goal] 152 (0,0))/\w.heap.size<=((i.setCell (Ad Y (k*2)) (Uv v.1)).setCell (Ad Y (k*2+1)) (Uv v.2)).heap.size):=by
  have hb:=aq GJ.o wE.o;have G:=bp I.a hb;have h2:=bp I.b hb;obtain⟨hl,A,Z⟩:=jD G;have tf2:TF w.heap.size 267 267 i ((i.setCell (Ad Y (k*2)) (Uv v.1)).setCell (Ad Y (k*2+1)) (Uv v.2)):=TF.YV Z hl;have nq':(Value.slice (some (Ad q 0)) j c).ownBlock≠some Y:=by simp[Value.ownBlock];exact nq
  refine⟨?_,jC (jC h2 (aI nq')) (aI nq'),(I.B.trans (TF.aR hb B)).trans tf2,tf2.box (aE wE.o HNo.o) aj aj,?_⟩
  ·rw[<-O4.c];exact ET G J
  have:=hb.size;simp;omega
 clear z1 z2 z3 z4 HNo;generalize(i.setCell (Ad Y (k*2)) (Uv v.1)).setCell (Ad Y (k*2+1)) (Uv v.2)=W8 at H8⊢;generalize wr.heap.size=nb at H8⊢;have n1:nb≠q:=by rintro rfl;obtain⟨_,A,Z⟩:=jD H8.b;rw[H8.d]at Z;simp at Z
 have n2:nb≠Y:=by rintro rfl;obtain⟨_,A,Z⟩:=jD H8.a;rw[H8.d]at Z;simp at Z
 have n3:=n1.symm;have n4:=n2.symm;have nq2:=nq.symm;have l1:nb<W8.heap.size:=blt H8.d;have l2:q<W8.heap.size:=by obtain⟨_,A,Z⟩:=jD H8.b;exact blt Z
 have l3:Y<W8.heap.size:=by obtain⟨_,A,Z⟩:=jD H8.a;exact blt Z
 obtain⟨y1,o⟩:=ae H8.d;obtain⟨⟨z1,z2⟩,z3,z4⟩:=pO H8.a O4.D;obtain⟨⟨u1',u2⟩,u3,u4⟩:=pO H8.b O4.a
 go_region_law (go_simp;refine bA (HUN.o _ _ ak ak ak ak) ?_;rintro e S ⟨rfl,hb9⟩;have WD:Hd (Bl W8 S):=aq ay hb9;clear hb9 y1 o z1 z2 z3 z4 u1' u2 u3 u4;obtain⟨⟨z1,z2⟩,z3,z4⟩:=pO (bp H8.b WD.o) O4.a;obtain⟨y1,o⟩:=ae (aE WD.o H8.d))
 all_goals
  have H9:Hd (((S.setCell (Ad q (vn*2)) (Uv d.1)).setCell (Ad q (vn*2+1)) (Uv d.2)).ownsRow w.heap.size 267 2 (b? Y N) N (dh (nt P N (k+1)))/\((S.setCell (Ad q (vn*2)) (Uv d.1)).setCell (Ad q (vn*2+1)) (Uv d.2)).ownsRow T.heap.size 267 2 (ix q j c) j (dh (oM P j (k+1)))/\TF w.heap.size 267 267 r ((S.setCell (Ad q (vn*2)) (Uv d.1)).setCell (Ad q (vn*2+1)) (Uv d.2))):=by
   have G:=bp H8.a WD.o;have h2:=bp H8.b WD.o;obtain⟨hl,A,Z⟩:=jD h2;have nq':(Value.slice (some (Ad Y 0)) N N).ownBlock≠some q:=by simp[Value.ownBlock];exact fun h=>nq h.symm
   refine⟨jC (jC G (aI nq')) (aI nq'),?_,(H8.c.trans (TF.aR WD.o H8.D)).trans (TF.YV Z (by have:=HT.e;omega))⟩;rw[<-O4.b];exact ET h2 hvj
  clear z1 z2 z3 z4 y1 o;generalize(S.setCell (Ad q (vn*2)) (Uv d.1)).setCell (Ad q (vn*2+1)) (Uv d.2)=W10 at H9⊢
  go_wp2_with fail
  go_roundw
  case rel=>exact⟨k+1,J,h',by rw[HDN.o];go_num,H9.o⟩
  simp[intOf];omega
end
end Go.Proofs.YtmipbiligijcpaaGreatDoor
