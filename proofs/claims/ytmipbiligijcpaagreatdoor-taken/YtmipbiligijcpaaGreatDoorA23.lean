import Derived.Test.YtmipbiligijcpaaGreatDoorA22
import Derived.Test.YtmipbiligijcpaaGreatDoorA21
namespace Go.Proofs.YtmipbiligijcpaaGreatDoor
set_option linter.all false
set_option maxHeartbeats 4000000
set_option maxRecDepth 100000
open Go.RowKit Go.Shelf Go.Proofs Go.Maps
open Go.RowKit Go.Proofs Go.Maps Tryz
def Cj(g C:Nat)(nl:List NC)(P:Pm)(w:World)(hP:PM w g C nl P)(hO:cE P):
  Cl 220 #[eV g P.nd.length C P.nv] w fun e I=>∃B rl,e=.returned (.tuple #[cK B P.nd.length,Iv (P.facts 1:Int)])/\Sys I w.heap.size B 2 393 404 rl/\rl.map RR.pr=kn P.nd.length (uB P (fun n=>eG (MG P n)) (uW P) P.nd.length)/\Bl w I:=by
 have hN:=hO.most;have rB:=hO.pos;have Vp:=hO.nv;have HH:=hid (Aa hP hO);have pw:Hd (∀W,Cl 280 #[eV g P.nd.length C P.nv] W fun e I=>∃B rl,e=.returned (cK B P.nd.length)/\Sys I W.heap.size B 2 393 404 rl/\rl.map RR.pr=List.replicate P.nd.length OH/\Bl W I):=fun W=>lK g P.nd.length C P.nv W hN
 have WC:Hd (∀W,PM W g C nl P->Cl 281 #[eV g P.nd.length C P.nv] W fun e I=>∃Y va vc,e=.returned (.tuple #[.slice (some (Ad Y 0)) P.nd.length P.nd.length,.slice va P.nv vc,Iv (P.facts 1:Int)])/\I.ownsRow W.heap.size 267 2 (b? Y P.nd.length) P.nd.length (dh ((List.range P.nd.length).map (qx P)))/\I.ownsRow W.heap.size 267 2 (bH va P.nv vc) P.nv (dh (oM P P.nv P.nd.length))/\Bl W I):=fun W U=>vI g C nl P W U hO
 obtain⟨N,rC⟩:=Ea P.nd.length;obtain⟨nv,FE⟩:∃nv,nv=P.nv:=⟨_,rfl⟩;obtain⟨fc,hfc⟩:=Ea (P.facts 1);rw[<-rC]at hN rB;rw[<-FE]at Vp;rw[<-rC,<-FE]at pw;rw[<-rC,<-FE,<-hfc]at WC;rw[<-rC,<-FE,<-hfc];have m:=hid (Aa rC FE);have Ox:Hd (∀W,Cl 208 #[Iv nv] W (Rb W (b! (jK nv)))):=fun W=>oF nv W ah
 obtain⟨up,Rp⟩:=Ea (jK nv);rw[<-Rp]at Ox;have HU:Hd (up=jK P.nv):=by show _=_;rw[Rp,FE]
 clear hP hO rC FE Rp hfc;simp only[eV,cK,b!]at pw WC Ox⊢;go_enter func220,ntmps220
 go_upto_region 1 with(fail)
 have R:Hd (Bl w ((w.alloc (.cells (cN g N C nv) 86)).alloc (.cells ic 260))/\((w.alloc (.cells (cN g N C nv) 86)).alloc (.cells ic 260)).heap[w.heap.size]?=some (.cells (cN g N C nv) 86 (0,0))/\((w.alloc (.cells (cN g N C nv) 86)).alloc (.cells ic 260)).heap[w.heap.size+1]?=some (.cells ic 260 (0,0))):=⟨aX _ _ _,(aN _ _ _).1,(aN _ _ _).2⟩;generalize(w.alloc (.cells (cN g N C nv) 86)).alloc (.cells ic 260)=W0 at R⊢;obtain⟨F,y⟩:=ae R.b
 go_upto_region 2 with(go_at_call 280;refine(pw.o _).mono ?_;rintro e T ⟨B,rl,rfl,A8,OL,A⟩;have E:=hid (Aa A8 (Aa OL A));clear A8 OL A F y)
 have HW:Hd (Bl w (T.alloc (.cells (bV B N) 260))/\(T.alloc (.cells (bV B N) 260)).heap[w.heap.size]?=some (.cells (cN g N C nv) 86 (0,0))/\(T.alloc (.cells (bV B N) 260)).heap[w.heap.size+1]?=some (.cells ic 260 (0,0))/\(T.alloc (.cells (bV B N) 260)).heap[T.heap.size]?=some (.cells (bV B N) 260 (0,0))/\Sys (T.alloc (.cells (bV B N) 260)) w.heap.size B 2 393 404 rl/\rl.map RR.pr=kn N (uB P (fun _=>eG (0,0)) (uW P) 0)):=by
  have A:=aq E.B (aC T (.cells (bV B N) 260));have hs:=E.a.below (aC T (.cells (bV B N) 260));exact⟨aq R.a A,aE A R.b,aE A R.B,bf _ _,hs.deep R.a.size,by rw[E.b,FO]⟩
 have zK:w.heap.size+1<T.heap.size:=by have:=E.B.size;have:=blt R.B;omega
 have Yw:B<T.heap.size:=blt E.a.fB;generalize T.alloc (.cells (bV B N) 260)=W2 at HW⊢;generalize T.heap.size=sb at HW zK Yw⊢;clear E R pw;obtain⟨s,Jl,ux,_⟩:=EM HW.E rB;have OA:Hd (rl[0]?=some s/\s.st=eG (0,0)):=⟨Jl,ux⟩;clear Jl ux;obtain⟨F,y⟩:=ae HW.d;obtain⟨y1,o⟩:=ae HW.b;have n1:B≠sb:=ah
 have n2:=n1.symm;have adM:(0:Int)<N:=ah
 go_region_law (go_simp;refine bA (Ox.o _) ?_;rintro e W4 ⟨rfl,nI⟩;have l:Hd (Bl W2 W4):=aq ay nI;clear nI F y y1 o;obtain⟨F,y⟩:=ae (aE l.o HW.d);have z0:=(HW.e.below l.o).two OA.a OA.A;simp only[gU,ct]at z0;obtain⟨⟨x,z2⟩,z3,z4⟩:=z0)
 all_goals
  have Z:Hd (Bl w ((W4.setCell (Ad B 0) (Uv up.1)).setCell (Ad B 1) (Uv up.2))/\PM ((W4.setCell (Ad B 0) (Uv up.1)).setCell (Ad B 1) (Uv up.2)) g C nl P/\Sys ((W4.setCell (Ad B 0) (Uv up.1)).setCell (Ad B 1) (Uv up.2)) w.heap.size B 2 393 404 (rl.set 0 ⟨eG up,s.ea,s.ec,s.es⟩)/\(rl.set 0 ⟨eG up,s.ea,s.ec,s.es⟩).map RR.pr=kn N (uB P (fun n=>eG (MG P n)) (uW P) 0)/\((W4.setCell (Ad B 0) (Uv up.1)).setCell (Ad B 1) (Uv up.2)).heap[w.heap.size]?=some (.cells (cN g N C nv) 86 (0,0))/\((W4.setCell (Ad B 0) (Uv up.1)).setCell (Ad B 1) (Uv up.2)).heap[w.heap.size+1]?=some (.cells ic 260 (0,0))/\((W4.setCell (Ad B 0) (Uv up.1)).setCell (Ad B 1) (Uv up.2)).heap[sb]?=some (.cells (bV B N) 260 (0,0))):=by
   have D:=l.o;have hs:=HW.e.below D;have iX:=hs.r? (k:=0) (v:=Uv up.1) (v':=Uv up.2);have Nx:=hs.start aj OA.a OA.A (z:=up);simp only[gU,ct]at iX Nx;have TC:=aq HW.a D;refine⟨TC.trans iX.low,(HH.a.below TC).tf iX aj aj aj aj,Nx,?_,iX.box (aE D HW.b) aj aj,iX.box (aE D HW.c) aj aj,iX.box (aE D HW.d) aj aj⟩;rw[Iz HW.E OA.a];refine eM fun n _=>?_
   by_cases h0:n=0
   ·subst h0
    simp[uB,MG,HU.o]
   simp[uB,MG,h0,eG]
  generalize(W4.setCell (Ad B 0) (Uv up.1)).setCell (Ad B 1) (Uv up.2)=W5 at Z⊢;clear l F y x z2 z3 z4 HW OA Ox;obtain⟨F,y⟩:=ae Z.e
  go_upto_region 4 with(go_at_call 281;refine(WC.o _ Z.b).mono ?_;rintro e G ⟨Y,va,vc,rfl,rK,ho2,wh⟩;have H6:=hid (Aa rK (Aa ho2 wh));clear rK ho2 wh F y)
  have HD:Hd (Bl w G/\PM G g C nl P/\Sys G w.heap.size B 2 393 404 (rl.set 0 ⟨eG up,s.ea,s.ec,s.es⟩)/\G.heap[w.heap.size]?=some (.cells (cN g N C nv) 86 (0,0))/\G.heap[w.heap.size+1]?=some (.cells ic 260 (0,0))/\G.heap[sb]?=some (.cells (bV B N) 260 (0,0))/\G.ownsRow w.heap.size 267 2 (b? Y N) N (dh ((List.range N).map (qx P)))/\G.ownsRow w.heap.size 267 2 (.slice va nv vc) nv (dh (oM P nv N))):=by
   have D:=H6.B;exact⟨aq Z.a D,Z.b.below D,Z.c.below D,aE D Z.e,aE D Z.f,aE D Z.F,oR H6.a Z.a.size,oR H6.b Z.a.size⟩
  have HP0:=hid Z.d;clear H6 Z WC;obtain⟨F,y⟩:=ae HD.d
  go_wp2_with fail
  clear F y
  go_loopw[29] (fun iv wr=>∃(i:Nat) (ql:List RR),i<=N/\iv=Iv i/\Hd (Sys wr w.heap.size B 2 393 404 ql/\ql.map RR.pr=kn N (uB P (fun n=>eG (MG P n)) (uW P) i)/\TF w.heap.size 393 404 G wr)) (fun iv _=>N-(intOf iv).toNat)
  case atStart=>exact⟨0,_,bB _,rfl,HD.c,HP0.o,TF.refl _ _ _ _⟩
  obtain⟨i,ql,hi,rfl,M⟩:=hrel;have Ji:w.heap.size<=wr.heap.size:=bw HD.a.size M.B.low.size;have aen:G.heap.size<=wr.heap.size:=M.B.low.size;by_cases J:i<N;rotate_left
  ·have ig:¬(i:Int)<N:=ah
   have Vw:i=N:=ah
   have iX:=M.B;have nI:=iX.box HD.e aj aj;obtain⟨F,y⟩:=ae (iX.box HD.f aj aj);obtain⟨x,z2⟩:=ae nI;have n1:w.heap.size+1≠sb:=ah
   have n2:=n1.symm;clear iX
   go_wp2_with fail
   have q0:=(ae (aw (o:=0) nI (b? B N))).1;have q1:=(ae (aw (o:=1) (aw (o:=0) nI (b? B N)) iz)).1;have q2:=(ae (aw (o:=2) (aw (o:=1) (aw (o:=0) nI (b? B N)) iz) mI)).1;refine aG (v:=.tuple #[cK B N,Iv fc]) (by simp[results,results220,go_sem,q0,q1,q2,cK]) rfl ⟨B,rfl,ql,?_,?_,?_⟩
   ·exact M.a.keep nI ⟨aj,aj⟩ (fun k X=>by rw[aZ _ _ _ _ X,aZ _ _ _ _ X,aZ _ _ _ _ X])
   ·rw[M.b,Vw]
   exact(((HD.a.trans M.B.low).setCell (by show _<=w.heap.size+1;omega) _).setCell (by show _<=w.heap.size+1;omega) _).setCell (by show _<=w.heap.size+1;omega) _
  have ig:(i:Int)<N:=ah
  have wj:=HD.b.tf M.B aj aj aj aj;obtain⟨nc,ts,hc,LB,u,_,Rq,_⟩:=wj.nodes (by rw[<-m.a];exact J);have cc:=fun j (hj:j<14)=>(mV wj hc j hj)
  have mg:=aL LB;obtain⟨nd,vD⟩:=Ea nc.n;rw[<-vD]at cc LB u mg;simp only[NC.wv,NC.ev]at cc;generalize nc.bj=bj at cc;generalize nc.wa=wa at cc;generalize nc.wl=wl at cc;generalize nc.wc=wc at cc;generalize nc.ea=ea at cc;generalize nc.el=el at cc;generalize nc.ec=ec at cc;have DE:Hd (∀W,Cl 282 #[.agg (aK bj (.slice wa wl wc) nd (.slice ea el ec))] W (Rb W (.bool (jf nd)))):=fun W=>(lR bj _ _ nd W (HH.A.kind nd mg).1).mono fun e I hh=>⟨hh.1,by rw[hh.2];exact aC _ _⟩
  have Ma:Hd (jf nd=true->0<=nd.var/\nd.var<nv):=fun h=>by
   have:=HH.A.var nd mg (by simpa[jf]using h);have:=m.A;omega
  have HRE:Hd (uW P i=if jf nd then⟨vX P N nd.var.toNat,qx P i⟩ else YT):=by show _=_;unfold uW;rw[u,<-m.a]
  have vN:Hd (∀W,PM W g C nl P->Sys W w.heap.size B 2 393 404 ql->w.heap.size<=W.heap.size->TF w.heap.size 393 404 G W->Cl 283 #[cK B N,eV g N C nv,Iv i,Dc (uW P i)] W fun r I=>(∃v,r=.returned v)/\∃qw,Sys I w.heap.size B 2 393 404 qw/\qw.map RR.pr=kn N (uB P (fun n=>eG (MG P n)) (uW P) (i+1))/\TF w.heap.size 393 404 G I):=by
   intro W LD hW2 hW3 hW4;have:=vg g C nv B w.heap.size i nl P ql (uW P i) W LD HH.A (by rw[<-m.a];exact J) hW2 (by rw[<-m.a];exact yd M.b) hW3 (Cw M.b fun n _=>by have:=wk (st:=(fun n=>eG (MG P n))) (E:=uW P) (n:=n) (sD HH.A) i;omega);rw[<-m.a]at this;refine this.mono ?_;rintro r I ⟨h1,qw,h2,h3,h4⟩;refine⟨h1,qw,h2,?_,hW4.trans h4⟩;rw[h3,M.b,<-FP]
  obtain⟨ok,o?⟩:=Ea (jf nd);rw[<-o?]at DE Ma HRE;obtain⟨kind,var,op,test,⟨ai,av,ac⟩,⟨bi,bv,bc⟩,goal⟩:=nd;obtain⟨d0,d1,d2,d3,d4,d5,d6,d7,d8,d9,d10,d11,d12,d13⟩:=Mr cc;simp only[aK]at DE Ma HRE;simp only[cK,eV,Dc]at vN;clear cc o? vD LB u mg hc wj Rq
  go_upto_region 8 with(fail)
  generalize hV:(wr.alloc (.cells #[.string bj,.slice wa wl wc,Iv kind,Iv var,Iv op,Iv test,.bool ai,Iv av,Iv ac,.bool bi,Iv bv,Iv bc,.slice ea el ec,.string goal] 152)).alloc (.cells rX 397)=V;have H:Hd (Below wr.heap.size wr V/\V.heap[wr.heap.size]?=some (.cells #[.string bj,.slice wa wl wc,Iv kind,Iv var,Iv op,Iv test,.bool ai,Iv av,Iv ac,.bool bi,Iv bv,Iv bc,.slice ea el ec,.string goal] 152 (0,0))/\V.heap[wr.heap.size+1]?=some (.cells rX 397 (0,0))):=by subst hV;exact⟨aX _ _ _,(aN _ _ _).1,(aN _ _ _).2⟩
  clear hV d0 d1 d2 d3 d4 d5 d6 d7 d8 d9 d10 d11 d12 d13;have z7:Hd (∀W,Bl V W->PM W g C nl P/\Sys W w.heap.size B 2 393 404 ql/\w.heap.size<=W.heap.size/\TF w.heap.size 393 404 G W/\W.heap[wr.heap.size]?=some (.cells #[.string bj,.slice wa wl wc,Iv kind,Iv var,Iv op,Iv test,.bool ai,Iv av,Iv ac,.bool bi,Iv bv,Iv bc,.slice ea el ec,.string goal] 152 (0,0))/\W.heap[sb]?=some (.cells (bV B N) 260 (0,0))/\W.heap[w.heap.size]?=some (.cells (cN g N C nv) 86 (0,0))/\W.heap[wr.heap.size+1]?=some (.cells rX 397 (0,0))):=by
   intro W U;have D:=aq H.a U;have iX:=M.B.trans (TF.aR D Ji);exact⟨HD.b.tf iX aj aj aj aj,M.a.below D,bw Ji D.size,iX,aE U H.b,iX.box HD.f aj aj,iX.box HD.d aj aj,aE U H.B⟩
  generalize wr.heap.size=nb at z7 Ji aen H⊢;obtain⟨F,y⟩:=ae H.b;clear H;cases ok
  ·have HRF:Hd (uW P i=YT):=HRE.o
   rw[HRF.o]at vN;simp only[YT]at vN
   go_upto_region 10 with(go_at_call 282;refine(DE.o _).mono ?_;rintro e W7 ⟨rfl,RI⟩;have wE:=hid RI;clear RI F y)
   obtain⟨L,Jt,c,iX,_,b2,b3,O⟩:=z7.o W7 wE.o;obtain⟨F,y⟩:=ae b2;obtain⟨y1,o⟩:=ae b3;obtain⟨x,z2⟩:=ae O;have HFC:=hid (vN.o W7 L Jt c iX);clear L Jt c iX b2 b3 O
   go_wp2_with (go_at_call 283;refine bA HFC.o ?_;rintro e b ⟨⟨v,rfl⟩,qw,h8⟩;have H8:=hid h8;clear h8 F y y1 o x z2)
   go_roundw
   case rel=>exact⟨i+1,qw,J,h',H8.o⟩
   simp[intOf];omega
  have hv:=Ma.o rfl;obtain⟨vn,rfl⟩:∃vn:Nat,var=(vn:Int):=⟨var.toNat,by have:=hv.1;omega⟩;have hvj:vn<nv:=by have:=hv.2;omega
  have HRF:Hd (uW P i=⟨vX P N vn,qx P i⟩):=by show _=_;rw[HRE.o];simp
  rw[HRF.o]at vN;simp only at vN;have hw2:=HD.G;obtain⟨q,rfl⟩:=ES hw2 ah
  have O4:Hd (∀W,TF w.heap.size 393 404 G W->((W.cell? (Ad Y (i*2))=some (Uv ((qx P i).1:Int))/\W.frozen? (Ad Y (i*2))=false)/\W.cell? (Ad Y (i*2+1))=some (Uv ((qx P i).2:Int))/\W.frozen? (Ad Y (i*2+1))=false)/\((W.cell? (Ad q (vn*2))=some (Uv ((vX P N vn).1:Int))/\W.frozen? (Ad q (vn*2))=false)/\W.cell? (Ad q (vn*2+1))=some (Uv ((vX P N vn).2:Int))/\W.frozen? (Ad q (vn*2+1))=false)/\q<nb/\Y<nb):=fun W U=>by
   have h1:=HD.g;have h2:=HD.G;obtain⟨_,c1,OP⟩:=jD h1;obtain⟨_,c2,YK⟩:=jD h2;have:=blt OP;have:=blt YK;exact⟨pO (ye h1 U aj aj) (by simp[J]),pO (ye h2 U aj aj) (KN hvj),ah,ah⟩
  obtain⟨o1,rK⟩:=Ea (qx P i);obtain⟨v1,hv1⟩:=Ea (vX P N vn);rw[<-rK,<-hv1]at O4 vN;clear hv Ma rK hv1 HRF HRE hw2
  go_upto_region 9 with(go_at_call 282;refine(DE.o _).mono ?_;rintro e W7 ⟨rfl,RI⟩;have wE:=hid RI;clear RI F y)
  obtain⟨_,_,_,iX,b1,_,_,O⟩:=z7.o W7 wE.o;obtain⟨F,y⟩:=ae b1;obtain⟨x,z2⟩:=ae O;obtain⟨⟨⟨r1,r2⟩,r3,r4⟩,⟨⟨t1,t2⟩,t3,t4⟩,l1,l2⟩:=O4.o W7 iX;clear iX b1 O;have m1:q≠nb+1:=ah
  have m2:=m1.symm;have m3:Y≠nb+1:=ah
  have m4:=m3.symm;have m5:nb≠nb+1:=ah
  have m6:=m5.symm
  go_region_law fail
  all_goals
   have H8:Hd (PM ((((W7.setCell (Ad (nb+1) 0) (Uv v1.1)).setCell (Ad (nb+1) 1) (Uv v1.2)).setCell (Ad (nb+1) 2) (Uv o1.1)).setCell (Ad (nb+1) 3) (Uv o1.2)) g C nl P/\Sys ((((W7.setCell (Ad (nb+1) 0) (Uv v1.1)).setCell (Ad (nb+1) 1) (Uv v1.2)).setCell (Ad (nb+1) 2) (Uv o1.1)).setCell (Ad (nb+1) 3) (Uv o1.2)) w.heap.size B 2 393 404 ql/\w.heap.size<=((((W7.setCell (Ad (nb+1) 0) (Uv v1.1)).setCell (Ad (nb+1) 1) (Uv v1.2)).setCell (Ad (nb+1) 2) (Uv o1.1)).setCell (Ad (nb+1) 3) (Uv o1.2)).heap.size/\TF w.heap.size 393 404 G ((((W7.setCell (Ad (nb+1) 0) (Uv v1.1)).setCell (Ad (nb+1) 1) (Uv v1.2)).setCell (Ad (nb+1) 2) (Uv o1.1)).setCell (Ad (nb+1) 3) (Uv o1.2))/\((((W7.setCell (Ad (nb+1) 0) (Uv v1.1)).setCell (Ad (nb+1) 1) (Uv v1.2)).setCell (Ad (nb+1) 2) (Uv o1.1)).setCell (Ad (nb+1) 3) (Uv o1.2)).heap[sb]?=some (.cells (bV B N) 260 (0,0))/\((((W7.setCell (Ad (nb+1) 0) (Uv v1.1)).setCell (Ad (nb+1) 1) (Uv v1.2)).setCell (Ad (nb+1) 2) (Uv o1.1)).setCell (Ad (nb+1) 3) (Uv o1.2)).heap[w.heap.size]?=some (.cells (cN g N C nv) 86 (0,0))/\((((W7.setCell (Ad (nb+1) 0) (Uv v1.1)).setCell (Ad (nb+1) 1) (Uv v1.2)).setCell (Ad (nb+1) 2) (Uv o1.1)).setCell (Ad (nb+1) 3) (Uv o1.2)).heap[nb+1]?=some (.cells #[Uv v1.1,Uv v1.2,Uv o1.1,Uv o1.2] 397 (0,0))):=by
    obtain⟨L,Jt,c,iX,_,b2,b3,O⟩:=z7.o W7 wE.o;have keep:∀p,p≠nb+1->((((W7.setCell (Ad (nb+1) 0) (Uv v1.1)).setCell (Ad (nb+1) 1) (Uv v1.2)).setCell (Ad (nb+1) 2) (Uv o1.1)).setCell (Ad (nb+1) 3) (Uv o1.2)).heap[p]?=W7.heap[p]?:=fun p hp=>(aZ _ _ _ _ hp).trans ((aZ _ _ _ _ hp).trans ((aZ _ _ _ _ hp).trans (aZ _ _ _ _ hp)))
    have nS:sb≠nb+1:=by rintro rfl;rw[b2]at O;simp at O
    have nP:w.heap.size≠nb+1:=by intro h;rw[<-h,b3]at O;simp at O
    refine⟨L.keep fun p cs t f e ht=>keep p ?_,Jt.keep O ⟨aj,aj⟩ keep,?_,?_,(keep _ nS).trans b2,(keep _ nP).trans b3,?_⟩
    ·rintro rfl
     rw[O]at e;simp at e;obtain⟨_,rfl,_⟩:=e;rcases ht with h|h<;>exact absurd h aj
    ·simpa using c
    ·exact⟨(((iX.low.setCell (by show _<=nb+1;omega) _).setCell (by show _<=nb+1;omega) _).setCell (by show _<=nb+1;omega) _).setCell (by show _<=nb+1;omega) _,fun p cs t f e h1 h2=>(keep p (by have:=(bq.1 e).1;omega)).trans (iX.keep p cs t f e h1 h2)⟩
    rw[aw (aw (aw (aw O _) _) _) _];rfl
   clear F y x z2 r1 r2 r3 r4 t1 t2 t3 t4;generalize((((W7.setCell (Ad (nb+1) 0) (Uv v1.1)).setCell (Ad (nb+1) 1) (Uv v1.2)).setCell (Ad (nb+1) 2) (Uv o1.1)).setCell (Ad (nb+1) 3) (Uv o1.2))=b at H8⊢;obtain⟨L,Jt,c,iX,b2,b3,O⟩:=H8.o;have hd:Bl b b.drew:=(aM _ _).drew;obtain⟨F,y⟩:=ae (aE hd b2);obtain⟨y1,o⟩:=ae (aE hd b3);obtain⟨x,z2⟩:=ae (aE hd O);have HFC:=hid (vN.o b.drew (L.below hd) (Jt.below hd) (bw c hd.size) (iX.trans (TF.aR hd c)));clear hd;generalize b.drew=W8' at HFC F y y1 o x z2⊢;clear L Jt c iX b2 b3 O
   go_wp2_with (go_at_call 283;refine bA HFC.o ?_;rintro e W9 ⟨⟨v,rfl⟩,qw,h9⟩;have H9:=hid h9;clear h9 F y y1 o x z2)
   go_roundw
   case rel=>exact⟨i+1,qw,J,h',H9.o⟩
   simp[intOf];omega
open Go.RowKit Go.Proofs Go.Maps Tryz
def ab4(P:Pm):kn P.nd.length (uB P (fun n=>eG (MG P n)) (uW P) P.nd.length)=Ht (vF P (MG P) (uW P)):=(RV P _ _).symm
def Km{p:Prop}(h:p:=by
 have v:=aE E.A (aN _ _ _).2;have A:=(ae (aw (o:=0) v (b? B N))).1;have l:=(ae (aw (o:=1) (aw (o:=0) v (b? B N)) iz)).1;have t:=(ae (aw (o:=2) (aw (o:=1) (aw (o:=0) v (b? B N)) iz) mI)).1;refine aG (v:=.tuple #[cK B N,Iv fc]) (by simp[results,results150,go_sem,A,l,t,cK]) rfl ⟨B,rfl,?_,?_⟩
 ·obtain⟨rl,G,O⟩:=E.a
  exact⟨rl,(G.deep (by simp;omega)).keep v ⟨aj,aj⟩ (fun k X=>by rw[aZ _ _ _ _ X,aZ _ _ _ _ X,aZ _ _ _ _ X]),O⟩
 exact(((aq (aX _ _ _) E.A).setCell (by show _<=w.heap.size+1;omega) _).setCell (by show _<=w.heap.size+1;omega) _).setCell (by show _<=w.heap.size+1;omega) _):p:=h
def Au(g C:Nat)(S:List NC)(P:Pm)(p:Int)(w:World)(hP:PM w g C S P)(b:cE P)(o:∀n∈P.nd,nh (i6 n))(hp:1<=p/\p<=4):
  Cl 150 #[eV g P.nd.length C P.nv,Iv p] w fun e I=>∃B,e=.returned (.tuple #[cK B P.nd.length,Iv (P.facts p:Int)])/\nO I w.heap.size B (P.rs p)/\Bl w I:=by
 obtain⟨N,Q⟩:=Ea P.nd.length;obtain⟨nv,a⟩:∃nv,nv=P.nv:=⟨_,rfl⟩;have Z:p=1∨p=2∨p=3∨p=4:=ah
 clear hp;rcases Z with rfl|rfl|rfl|rfl
 ·have f:Hd (∀W,Bl w W->Cl 220 #[eV g P.nd.length C P.nv] W fun e I=>∃B,e=.returned (.tuple #[cK B P.nd.length,Iv (P.facts 1:Int)])/\nO I W.heap.size B (P.rs 1)/\Bl W I):=by
   intro W U;refine(Cj g C S P W (hP.below U) b).mono ?_;rintro e I ⟨B,rl,rfl,G,O,Y⟩;exact⟨B,rfl,vS G (O.trans (ab4 P)),Y⟩
  obtain⟨fc,c⟩:=Ea (P.facts 1);rw[<-Q,<-a,<-c]at f⊢;clear hP b o Q a c;simp only[eV,cK]at f⊢;go_enter func150,ntmps150
  go_wp2_with (go_at_call 220;refine(f.o _ (aX _ _ _)).mono ?_;rintro e T ⟨B,rfl,L,D⟩;have E:=hid (Aa L D);clear L D;obtain⟨F,y⟩:=ae (aE E.A (aN _ _ _).2))
  exact Km
 ·have f:Hd (∀W,Bl w W->Cl 221 #[eV g P.nd.length C P.nv] W fun e I=>∃B,e=.returned (.tuple #[cK B P.nd.length,Iv (P.facts 2:Int)])/\nO I W.heap.size B (P.rs 2)/\Bl W I):=by
   intro W U;refine(Q0 g C S P W (hP.below U) b).mono ?_;rintro e I ⟨B,rl,rfl,G,O,Y⟩;exact⟨B,rfl,vS G (O.trans (adn P)),Y⟩
  obtain⟨fc,c⟩:=Ea (P.facts 2);rw[<-Q,<-a,<-c]at f⊢;clear hP b o Q a c;simp only[eV,cK]at f⊢;go_enter func150,ntmps150
  go_wp2_with (go_at_call 221;refine(f.o _ (aX _ _ _)).mono ?_;rintro e T ⟨B,rfl,L,D⟩;have E:=hid (Aa L D);clear L D;obtain⟨F,y⟩:=ae (aE E.A (aN _ _ _).2))
  exact Km
 ·have f:Hd (∀W,Bl w W->Cl 222 #[eV g P.nd.length C P.nv] W fun e I=>∃B,e=.returned (.tuple #[cK B P.nd.length,Iv (P.facts 3:Int)])/\nO I W.heap.size B (P.rs 3)/\Bl W I):=by
   intro W U;refine(Fp g C P.nv S P W (hP.below U) b o).mono ?_;rintro e I ⟨B,rl,rfl,G,O,Y⟩;exact⟨B,rfl,vS G (O.trans (adp P)),Y⟩
  obtain⟨fc,c⟩:=Ea (P.facts 3);rw[<-Q,<-a,<-c]at f⊢;clear hP b o Q a c;simp only[eV,cK]at f⊢;go_enter func150,ntmps150
  go_wp2_with (go_at_call 222;refine(f.o _ (aX _ _ _)).mono ?_;rintro e T ⟨B,rfl,L,D⟩;have E:=hid (Aa L D);clear L D;obtain⟨F,y⟩:=ae (aE E.A (aN _ _ _).2))
  exact Km
 have f:Hd (∀W,Bl w W->Cl 223 #[eV g P.nd.length C P.nv] W fun e I=>∃B,e=.returned (.tuple #[cK B P.nd.length,Iv (P.facts 4:Int)])/\nO I W.heap.size B (P.rs 4)/\Bl W I):=by
  intro W U;refine(Q? g C P.nv S P W (hP.below U) b o).mono ?_;rintro e I ⟨B,rl,rfl,G,O,Y⟩;exact⟨B,rfl,vS G (O.trans (adl P)),Y⟩
 obtain⟨fc,c⟩:=Ea (P.facts 4);rw[<-Q,<-a,<-c]at f⊢;clear hP b o Q a c;simp only[eV,cK]at f⊢;go_enter func150,ntmps150
 go_wp2_with (go_at_call 223;refine(f.o _ (aX _ _ _)).mono ?_;rintro e T ⟨B,rfl,L,D⟩;have E:=hid (Aa L D);clear L D;obtain⟨F,y⟩:=ae (aE E.A (aN _ _ _).2))
 exact Km
section
open Go.RowKit Go.Shelf Go.Proofs Go.Maps Tryz
attribute [local go_sem] Oper.semAt_some
def FnS(P:Pm)(p:Int)(l:List NE):Prop:=l.length=P.nd.length/\∃s hs,Tc P p (P.rs p) s hs (0,0)/\hs.length=P.nd.length/\(∀t∈hs,bF t)/\∀i e,l[i]?=some e->e.fs=c8 (cn hs i)/\e.rs=(c8 (cn hs i)).map (jZ s.2 i)
def K5{X:World}{q:Nat}{a:Value}{t:TypeId}(h:X.heap[q]?=some (.cells #[a] t (0,0))):∀(j:Nat) (u:Value),[a][j]?=some u->X.cell? (((Ad q 0):Addr).add j)=some u:=by
 intro j u U;rw[gw,ct,(ae h).1]
 simpa using U
def ve{W W':World}{B e size n:Nat}{v:Value}{M:List Value}(g:W.ownsRow B e size v n M)(m:W.grownBy W' v.ownBlock):KeepsOthers W W':=by
 refine⟨m.size,fun k o X Z=>(m.block k (blt X) fun e=>?_).trans X⟩;obtain⟨c,f,h⟩:=fg g k e.symm;rw[h]at X;cases X;cases Z
structure WrS(P:Pm)(p:Int)(s:Nat×List (List Int))(hs:List BS)(N nb:Nat)(W8:World)(l:List NE)(i:Nat)(W:World):Prop where
  len:l.length=i
  fB:W.heap[nb]?=some (.cells (jd (l++List.replicate (N-i) K8)).toArray 96 (0,0))
  own:∀e∈l,zd W W8.heap.size e
  say:∀j e,l[j]?=some e->e.fs=c8 (cn hs j)/\e.rs=(c8 (cn hs j)).map (jZ s.2 j)
  kx:Kx (fun k=>k=nb) W8 W
def WrS.Mg{P:Pm}{p:Int}{s:Nat×List (List Int)}{hs:List BS}{N nb i:Nat}{b W W':World}{l:List NE}{X:Nat->Prop}(h:WrS P p s hs N nb b l i W)(hn:nb<b.heap.size)(hk:Kx X W W')(T:∀k,X k->b.heap.size<=k)(Z:∀{k},X k->(W.heap[k]?).any (·.isCells)=false):WrS P p s hs N nb b l i W':=by
 have F:¬X nb:=fun e=>by have:=T nb e;omega
 refine⟨h.len,hk.box h.fB F,fun e H=>?_,h.say,⟨hk.os.trans h.kx.os,hk.tape.trans h.kx.tape,hk.output.trans h.kx.output,bw h.kx.size hk.size,fun k c d=>(hk.keep k (fD c h.kx.size) (fun e=>by have:=T k e;omega)).trans (h.kx.keep k c d)⟩⟩
 have own:∀{v:Value} {n:Nat} {M:List Value},W.ownsRow b.heap.size 3 1 v n M->W'.ownsRow b.heap.size 3 1 v n M:=fun {v n M} f=>by
  refine⟨f.1,?_⟩;rcases f.2 with a|⟨g,C,A,G,O,Y,K⟩
  ·exact aJ a
  refine aI ⟨g,C,A,G,O,hk.box Y (fun E=>?_),K⟩;have:=Z E;rw[Y]at this;cases this
 exact⟨own (h.own e H).f,own (h.own e H).r⟩
theorem C8(g C pb:Nat)(nl:List NC)(P:Pm)(p:Int)(pa:Option Addr)(pl pc:Nat)(w:World)(hP:PM w g C nl P)(hO:cE P)(hx:P.nx.length=P.nd.length)(NI:∀n∈P.nd,nh (i6 n))(hp:1<=p/\p<=4)(hT:kB w)(A?:jB w pb (.slice pa pl pc))(hpb:pb<w.heap.size):
  Cl 90 #[eV g P.nd.length C P.nv,Iv p,.slice pa pl pc] w fun e I=>∃nb l,e=.returned (b? nb P.nd.length)/\fU w.heap.size I nb (l.map tC)/\FnS P p l/\Below w.heap.size w I:=by
 have o?:=KE hO hx hp;have hm:=hO.most;have rB:=hO.pos;have HS:Hd (∀W,Below w.heap.size w W->Cl 150 #[eV g P.nd.length C P.nv,Iv p] W fun e I=>∃B,e=.returned (.tuple #[cK B P.nd.length,Iv (P.facts p:Int)])/\nO I W.heap.size B (P.rs p)/\Bl W I):=fun W hW=>Au g C nl P p W (hP.below hW) hO NI hp
 have H0:=hid (Aa o? (Aa hT A?));have hgl:=dQ (hT 0 aj);obtain⟨N,hN⟩:=Ea P.nd.length;obtain⟨nv,Vp⟩:∃nv,nv=P.nv:=⟨_,rfl⟩;obtain⟨fc,hfc⟩:=Ea (P.facts p);rw[<-hN,<-Vp,<-hfc]at HS;rw[<-hN]at hm rB⊢;rw[<-Vp];have HN:=hid hN;obtain⟨i1,hi,lu,O,mC⟩:=cY Vf;have G:Hd (_/\_/\_/\_):=⟨hi,lu,O,mC⟩;obtain⟨i2,YF,FC,FB,FA⟩:=cY C0;have L:Hd (_/\_/\_/\_):=⟨YF,FC,FB,FA⟩;clear hP hO hx NI hp hT A? o? hN Vp hfc hi lu O mC YF FC FB FA;simp only[eV,cK]at HS⊢;refine(fX (n:=6)).1 ?_;refine callsIn_of_wp_marks func90 rfl trivial ?_ rfl;simp only[ntmps90,kd,bT,eI,Nat.reduceAdd,Nat.reduceSub,rQ,rP,rO,rN,dT,dw];refine rL.2 ?_
 go_upto_region 1 with(fail)
 refine qA (F:=Code.wp _ _ _ _) fun W0 R=>?_
 obtain⟨F,x2⟩:=ae R.o.2.1
 go_upto_region 2 with(go_at_call 150;refine(HS.o _ R.o.1).mono ?_;rintro e W1 ⟨B,rfl,h1,h2⟩;have H1:=hid (Aa h1 h2);clear h1 h2 F x2)
 refine qA (F:=Code.wp _ _ _ _) fun W2 ni=>?_
 have Ok:=aq H1.o.2 ni.o.1;obtain⟨F,x2⟩:=ae (aE Ok R.o.2.1)
 go_upto_region 3 with(at_make;refine il _ rfl (.tmp 24) (.tmp 24) 263 rfl W2.heap.size 272 i1 _ 68 underlying263 G.o.1 G.o.2.1 G.o.2.2.1 .i64 .i64 N N N rfl rfl rfl rfl (by rw[G.o.2.2.2];omega) (by unfold maxLen;omega) ak ?_;intro W3 FI RB;have HO:=hid (Aa FI RB);clear FI RB)
 have HM:Hd (W3.heap[W2.heap.size]?=some (.cells (si (List.replicate N (List.replicate 68 0))).toArray 272 (0,0))/\Below W2.heap.size W2 W3):=by
  have h1:=HO.o.1;rw[dX _ 68 (by simp[Value.cells]) N]at h1;refine⟨?_,(aM _ _).grown HO.o.2 (aF _) (fun q e=>by cases e)⟩;rw[(e? h1).1,<-R3];rfl
 clear HO F x2;refine qA (F:=Code.wp _ _ _ _) fun W4 TR=>?_
 go_upto_region 4 with(fail)
 refine qA (F:=Code.wp _ _ _ _) fun W5 Gl=>?_
 have l23:=blt HM.o.1;have b45:=Gl.o.1;have S6:=aq TR.o.1 b45;have b25:=aq HM.o.2 S6;have hz4:=TR.o.2.2;have f5:=Gl.o.2.1;rw[hz4]at f5⊢;have hz5:W3.heap.size+1<W5.heap.size:=blt f5;have hw2:w.heap.size<W2.heap.size:=fD (blt R.o.2.1) Ok.size;have afb:=blt ni.o.2.1;have HC:Hd (CkR (W3.heap.size+1) W3.heap.size W2.heap.size N (0,List.replicate N (List.replicate 68 0)) W5):=⟨f5,aE b45 TR.o.2.1,aE S6 HM.o.1,by simp,fun r hr=>by rw[ji hr];simp⟩;have TN:Hd (Cl 151 #[cK B N,.slice pa pl pc,.func (.func 152) #[] #[.pointer (some (Ad (W3.heap.size+1) 0)),.pointer (cu W3.heap.size)]] W5 fun e I=>∃s z,e=.returned (.slice (some (Ad (W5.heap.size+1+1) 0)) N N)/\I.heap[W5.heap.size+1+1]?=some (.cells (cG z).toArray 267 (0,0))/\CkR (W3.heap.size+1) W3.heap.size W2.heap.size N s I/\Kx (fun k=>k=W3.heap.size+1∨k=W3.heap.size∨k=W2.heap.size) W5 I/\Tc P p (P.rs p) s z (0,0)/\z.length=N/\∀s∈z,bF s):=by
  have hI:=H0.o.1.ins;have hSn:=snS H0.o.1;rw[<-HN.o]at hI hSn;refine MC (fun k=>k=W3.heap.size+1∨k=W3.heap.size∨k=W2.heap.size) (CkR (W3.heap.size+1) W3.heap.size W2.heap.size N) B W0.heap.size N 152 pb (P.rs p) _ pa pl pc W5 Yc (Tc P p (P.rs p)) _ (fun W hW=>?_) hI rB hSn ⟨fun k hk=>by omega,?_,?_,by omega,by omega,by omega,fun xs w=>Tryz.call152 xs w,?_⟩ (H0.o.2.1.below (aq R.o.1 (aq Ok b25))) (H0.o.2.2.keep fun o u h=>ax h (aq R.o.1 (aq Ok b25))) HC.o
  ·refine nO.below H1.o.1 ((aq ni.o.1 b25).trans (hW.below (by have:=ni.o.1.size;omega) (fun k hk=>by omega)))
  ·rintro s W k o Z (h|h|h) hk
   ·subst h;rw[Z.c]at hk;cases hk;rfl
   ·subst h;rw[Z.x]at hk;cases hk;rfl
   subst h;rw[Z.r]at hk;cases hk;rfl
  ·intro s W W' Z h
   exact⟨(h _ (aJ rfl)).trans Z.c,(h _ (aI (aJ rfl))).trans Z.x,(h _ (aI (aI rfl))).trans Z.r,Z.len,Z.each⟩
  intro s z wt W x hI2 hS hx hb Z hT;have Rn:=hS.low x hx;have hho:=eW hS.each x;have hsa:=xE hI (eW hS.each) x;refine Jv (W3.heap.size+1) W3.heap.size W2.heap.size N x s _ _ W Z hT Rn hm hho (gp hho hsa) (fun f hf=>?_) (by have:=hI2.ik;rw[<-HN.o]at this;omega) ah ah ah ah;obtain⟨h1,h2⟩:=(cA _ (gp hho hsa) f).1 hf;rw[gC,dO]at h2;have h68:=H0.o.1.few;rcases h2 with h2|h2
  ·have:=hI2.low x f h1 h2;omega
  rw[vQ H0.o.1 hI2.low (by rw[<-HN.o];exact Rn) h1,aS]at h2;have:f<P.facts p:=by simpa using h2.1
  omega
 have zK:=aE b25 ni.o.2.1;obtain⟨F,x2⟩:=ae zK;simp only[cK]at TN
 go_upto_region 5 with(go_at_call 151;refine TN.o.mono ?_;rintro e W6 ⟨s,z,rfl,a1,a2,a3,a4,a5,a6⟩;have H6:=hid (Aa a1 (Aa a2 (Aa a3 (Aa a4 (Aa a5 a6)))));clear a1 a2 a3 a4 a5 a6 F x2)
 go_upto_region 6 with(at_make;refine il _ rfl (.tmp 31) (.tmp 31) 46 rfl W6.heap.size 96 i2 _ 5 underlying46 L.o.1 L.o.2.1 L.o.2.2.1 .i64 .i64 N N N rfl rfl rfl rfl (by rw[L.o.2.2.2];omega) (by unfold maxLen;omega) ak ?_;intro W7 Yy Rz;have HO:=hid (Aa Yy Rz);clear Yy Rz)
 have HM7:Hd (W7.heap[W6.heap.size]?=some (.cells (jd (List.replicate N K8)).toArray 96 (0,0))/\Below W6.heap.size W6 W7):=by
  have h1:=HO.o.1;rw[dX _ 5 (by simp[Value.cells]) N]at h1;refine⟨?_,(aM _ _).grown HO.o.2 (aF _) (fun q e=>by cases e)⟩;rw[(e? h1).1,<-VM];rfl
 clear HO;refine qA (F:=Code.wp _ _ _ _) fun b Br=>?_
 have b68:=aq HM7.o.2 Br.o.1;have hW6:=H6.o.2.2.1;have l67:=blt HM7.o.1;have l56:=hW6.size;have lhb:=blt H6.o.1;have h78:=Br.o.2.2;have H8:Hd (Below w.heap.size w b/\b.heap[W5.heap.size+1+1]?=some (.cells (cG z).toArray 267 (0,0))/\CkR (W3.heap.size+1) W3.heap.size W2.heap.size N s b/\b.heap[W6.heap.size]?=some (.cells (jd (List.replicate N K8)).toArray 96 (0,0))/\b.heap[W7.heap.size]?=some (.cells #[.slice (cu W6.heap.size) N N] 46 (0,0))):=by
  refine⟨?_,aE b68 H6.o.1,⟨aE b68 H6.o.2.1.c,aE b68 H6.o.2.1.x,aE b68 H6.o.2.1.r,H6.o.2.1.len,H6.o.2.1.each⟩,aE Br.o.1 HM7.o.1,Br.o.2.1⟩;have b05:=aq R.o.1 (aq Ok b25);exact(b05.trans ((hW6.below (B:=w.heap.size) (by have:=b05.size;omega) (fun k hk=>by omega)))).trans (b68.mono (by have:=b05.size;omega))
 have HT8:Hd (kB b):=H0.o.2.1.below H8.o.1
 have HIn:Hd (Tc P p (P.rs p) s z (0,0)/\z.length=N/\(∀t∈z,bF t)/\∀i,∀f∈c8 (cn z i),f<68):=⟨H6.o.2.2.2.1,H6.o.2.2.2.2.1,H6.o.2.2.2.2.2,fun i f hf=>by
  obtain⟨h1,h2⟩:=(cA _ (eW H6.o.2.2.2.2.2 i) f).1 hf;have:=H6.o.2.2.2.1.low i f h1 h2;have:=H0.o.1.few
  omega⟩
 have ae0:w.heap.size<=W5.heap.size:=(aq R.o.1 (aq Ok b25)).size;have hw7:w.heap.size<W6.heap.size:=by omega
 have l78:W7.heap.size<b.heap.size:=by omega
 have k1:W3.heap.size+1<W6.heap.size:=by omega
 clear R ni TR Gl HM HM7 Br H1 H6 TN HC HS Ok b25 S6 b45 b68 zK f5 hW6 hz4 h78;generalize hhb:W5.heap.size+1+1=hb at *;generalize hcb:W3.heap.size+1=cb at *;generalize W3.heap.size=xb at *;generalize W2.heap.size=kb at *;generalize W6.heap.size=nb at *;generalize W7.heap.size=nx at *;have YI:cb≠xb:=by omega
 have hck:cb≠kb:=by omega
 have hxk:xb≠kb:=by omega
 have Tv:xb<nb:=by omega
 have hkn:kb<nb:=by omega
 clear hhb hcb
 go_wp2_with fail
 generalize Value.tuple #[.agg (bV B N),Iv fc]=q1;generalize Value.agg (bV B N)=q2;generalize Value.agg (cN g N C nv)=q3;generalize Value.func (.func 152) #[] (nk cb xb)=q4;generalize Value.pointer (cu W1.heap.size)=q5;generalize Value.pointer (cu w.heap.size)=q6;generalize Iv fc=q7;generalize Value.slice pa pl pc=q8 at *;generalize Iv p=q9;generalize Value.slice (some (Ad g 0)) N C=q10;generalize Value.slice (some (Ad kb 0)) N N=q11;refine(rL (n:=6)).1 ?_;refine wpIn_loop (fun a' wr=>∃(i:Nat) (Ds:List Nat) (u13 u14 u15 u36 u37 u38 u39 u40 u41 u42 u43 u44 u45 u46 u47 u48 u49 u50 u51 u52 u53 u54 u55 u56 u57 u58 u59 u60 u61 u62 u63 u64 u65 u66 u67 u68 u69 u70 u71 u72 u73:Value),(i<=N/\Hd (∃l,WrS P p s z N nb b l i wr/\Bp b.heap.size Ds wr))/\a'={tmps:=#[q3,q9,q8,q6,undef,undef,.slice none 0 0,q5,q7,.pointer (some (Ad xb 0)),.pointer (some (Ad cb 0)),.slice (some (Ad hb 0)) N N,.pointer (some (Ad nx 0)),u13,u14,u15,q1,q3,q9,q1,q2,q7,q6,q10,Iv N,q11,q2,q8,q4,.slice (some (Ad hb 0)) N N,.slice (some (Ad hb 0)) N N,Iv N,.slice (some (Ad nb 0)) N N,.slice (some (Ad hb 0)) N N,Iv N,Iv i,u36,u37,u38,u39,u40,u41,u42,u43,u44,u45,u46,u47,u48,u49,u50,u51,u52,u53,u54,u55,u56,u57,u58,u59,u60,u61,u62,u63,u64,u65,u66,u67,u68,u69,u70,u71,u72,u73],defers:=Ds.map mkD}) (fun a' _=>N-(intOf (a'.tmps.getD 35 undef)).toNat) ?_ ?_
 ·exact⟨0,[],_,_,_,_,_,_,_,_,_,_,_,_,_,_,_,_,_,_,_,_,_,_,_,_,_,_,_,_,_,_,_,_,_,_,_,_,_,_,_,_,_,⟨bB _,[],⟨rfl,H8.o.2.2.2.1,(fun e h=>by cases h),(fun j e h=>by simp at h),Kx.refl _ _⟩,Bp.nil _ _⟩,rfl⟩
 rintro a' wr ⟨i,Ds,u13,u14,u15,u36,u37,u38,u39,u40,u41,u42,u43,u44,u45,u46,u47,u48,u49,u50,u51,u52,u53,u54,u55,u56,u57,u58,u59,u60,u61,u62,u63,u64,u65,u66,u67,u68,u69,u70,u71,u72,u73,⟨hi,M⟩,rfl⟩;by_cases J:i<N;rotate_left
 ·have ig:¬(i:Int)<(N:Int):=by omega
  have Vw:i=N:=by omega
  subst Vw;obtain⟨l,hl,hM⟩:=M.o;obtain⟨F,x2⟩:=ae (hl.kx.box H8.o.2.2.2.2 (show ¬nx=nb by omega))
  gi_wp2
  go_wp2_with fail
  refine nG (B:=b.heap.size) (fun W=>WrS P p s z i nb b l i W) ?_ ?_ Ds wr hM hl
  ·intro X D h hD T
   have m:=grownBy_putObj' X D (.deferred none);have hx:Kx (fun k=>k=D) X (X.putObj D (.deferred none)):=⟨m.os,m.tape,m.output,m.size,fun k hk hn=>m.block k hk fun e=>hn (by cases e;rfl)⟩;exact h.Mg ah hx (fun k e=>by omega) (fun h2=>by subst h2;rw[T];rfl)
  intro X h;refine⟨.slice (some (Ad nb 0)) i i,by simp[results,results90,go_sem],nb,l,rfl,?_,?_,H8.o.1.trans (h.kx.below (by have:=H8.o.1.size;omega) (fun k e=>by omega))⟩
  ·have:=h.fB
   rw[jh,w?,gi]at this;exact M8 this h.own (by have:=H8.o.1.size;omega) ah
  exact⟨h.len.trans HN.o,s,z,HIn.o.1,HIn.o.2.1.trans HN.o,HIn.o.2.2.1,h.say⟩
 have ig:(i:Int)<(N:Int):=by omega
 obtain⟨l,hl,hM⟩:=M.o;have hlen:=hl.len;obtain⟨c0,c1,_,_⟩:=gT (hl.kx.box H8.o.2.1 (show ¬hb=nb by omega)) (k:=i) (by rw[HIn.o.2.1];exact J);rw[show z.getD i (0,0)=cn z i from rfl]at c0 c1;have oZ:=hl.kx.size;have Yq:=eW HIn.o.2.2.1 i;have H68:=hid (HIn.o.2.2.2 i);obtain⟨t,ht⟩:=Ea (cn z i);rw[<-ht]at c0 c1 Yq H68;have HAl:Hd (∀X,Cl 154 #[b! t] X fun e I=>e=.returned (.func (.func 227) #[] (bE X.heap.size))/\I=X.alloc (lB t.1 t.2)):=fun X=>tr t X
 have HL:=hid (Aa hl (Aa hM ht));simp only[b!]at HAl;clear hl hM ht M
 gi_upto_region 9 with(fail)
 refine gnB (F:=fun V=>Code.wpIn _ _ _ _ _ _ V) fun V HV=>?_
 obtain⟨F,x2⟩:=ae HV.o.2.2.1
 gi_wp2_with (refine⟨trivial,?_⟩;gi_at_call 154;refine(fX.2 (HAl.o _)).mono ?_;rintro e W2 ⟨rfl,rfl⟩)
 refine qA (F:=fun V=>Code.wpIn _ _ _ _ _ _ V) fun U HU=>?_
 have hbU:=aq HV.o.1 HU.o.1;have hzV:wr.heap.size+1<V.heap.size:=blt HV.o.2.2.1;have hU1:=hbU.size;have sR:=aE HU.o.1 HV.o.2.1;have hlU:=blt sR;have O2:Hd (WrS P p s z N nb b l i U/\Bp b.heap.size Ds U):=⟨HL.o.1.Mg (X:=fun _=>False) ah (Kx.of hbU) (fun _ h=>h.elim) (fun h=>h.elim),HL.o.2.1.keeps (du hbU)⟩;have HIB:=hid sR;have Bq:=hid (Aa (O2.o.1.kx.box H8.o.2.2.2.2 (show ¬nx=nb by omega)) (Aa (O2.o.1.kx.box H8.o.2.2.1.x (show ¬xb=nb by omega)) (O2.o.1.kx.box H8.o.2.2.1.r (show ¬kb=nb by omega))));have hTU:=HT8.o;have HTU:Hd (kB U):=O2.o.1.kx.tab HT8.o ah;obtain⟨i0,hi0,hy0,E,hy2⟩:=cY sP;have Y?:Hd (_/\_/\_/\_):=⟨hi0,hy0,E,hy2⟩;clear sR F x2 c0 c1 hTU hi0 hy0 E hy2
 refine wpIn_rangeFunc_ownF rfl ah (gf:=227) (lb:=(bE V.heap.size)) rfl trivial (fun xs w=>Tryz.call227 xs w)
  (k! 5 ah t V.heap.size (0+1) U Yq (by rw[(ae HU.o.2.1).1];rfl) (by rw[(ae HU.o.2.1).1];rfl) HTU.o ah ah) belowK_t (belowK_b ah) (aM _ _) (fun _=>rfl)
  (fun pre W=>(∃A,JF N nb i U l A W/\(A.fs=pX pre/\A.rs=(pX pre).map (jZ s.2 i)))/\Bp b.heap.size Ds W)
  (fun _ _ _=>False)
  (OwnFrom.and (JF.QB (p:=fun _ _=>True) (q:=fun pre A=>A.fs=pX pre/\A.rs=(pX pre).map (jZ s.2 i))) (CP Ds (fun D hD=>blt (O2.o.2.at_ D hD).2)))
  (fun _ _ _ _ _ z _ _=>z)
  ⟨⟨K8,⟨by have:=O2.o.1.fB;rwa[show N-i=(N-(i+1))+1 by omega,dN]at this,⟨dF _ _ _ _,dF _ _ _ _⟩,aJ rfl,Kx.refl _ _⟩,rfl,rfl⟩,O2.o.2⟩
  (fun x=>{tmps:=#[q3,q9,q8,q6,undef,undef,.slice none 0 0,q5,q7,.pointer (some (Ad xb 0)),.pointer (some (Ad cb 0)),.slice (some (Ad hb 0)) N N,.pointer (some (Ad nx 0)),.pointer (cu wr.heap.size),.pointer (cM wr.heap.size),Iv x.1,q1,q3,q9,q1,q2,q7,q6,q10,Iv N,q11,q2,q8,q4,.slice (some (Ad hb 0)) N N,.slice (some (Ad hb 0)) N N,Iv N,.slice (some (Ad nb 0)) N N,.slice (some (Ad hb 0)) N N,Iv N,Iv i,.bool true,Iv i,.pointer (some (Ad hb (i*2))),.agg #[Uv t.1,Uv t.2],.agg #[Uv t.1,Uv t.2],.func (.func 227) #[] (bE V.heap.size),Iv x.1,u43,u44,u45,u46,u47,u48,u49,u50,u51,u52,u53,u54,u55,u56,u57,u58,u59,u60,u61,u62,u63,u64,u65,u66,u67,u68,u69,u70,u71,u72,u73],defers:=[]}) ?assign ?body ?done ?stop
 case assign=>
  intro l x W K hK
  gi_wp2
  exact hK
 case body=>
  rintro lp pre ⟨f,hf⟩ W ⟨⟨A,hJ,OP,YK⟩,RO⟩ hpl;have Vy:=H68.o f hf;have hfi:(f:Int)<68:=by omega
  have hcl:A.fs.length<128:=by
   have:=nJ t;rw[OP];simp[pX];omega
  have hcr:A.rs.length=A.fs.length:=by rw[OP,YK];simp
  have HCR:=hid hcr;have aey:A.rs.length<128:=by omega
  clear hcr;have hWU:=hJ.kx.size;have G:=hid (Aa hJ (Aa OP (Aa YK RO)))
  have HCF:Hd (∀W':World,W'.heap[nb]?=some (.cells (jd (l++A :: List.replicate (N-(i+1)) K8)).toArray 96 (0,0))->W'.cell? (Ad nb (i*5))=some (bH A.fa A.fs.length A.fc)):=fun W' h=>by
   rw[(ae h).1,de];have:=sF _ i A 0 (at_len (r:=List.replicate (N-(i+1)) K8) hlen) ah;exact this
  clear hJ OP YK RO
  gi_wp2
  refine Zu (l:=lp) (fun W'=>W'.heap[nx]?=some (.cells (kg nb N) 46 (0,0))/\W'.heap[wr.heap.size]?=some (fY i)/\W'.heap[nb]?=some (.cells (jd (l++A :: List.replicate (N-(i+1)) K8)).toArray 96 (0,0))) 10 (hQ:=by rintro⟨_,_,h⟩;exact h) (hS:=⟨G.o.1.kx.box Bq.o.1 (show ¬nx=nb by omega),G.o.1.kx.box HIB.o (show ¬wr.heap.size=nb by omega),G.o.1.fB⟩) (h:=fun aB=>?_);refine tt 0 (b? nb N) (y:=fun W' aU=>by have k1:=(ae aU.1).1;clear aB aU;go_simp) (h:=?_);refine tt 1 (Iv i) (y:=fun W' aU=>by have k1:=(ae aU.2.1).1;clear aB aU;go_simp) (h:=?_);refine tt 2 (b? nb N) (y:=fun W' aU=>by have k1:=(ae aU.1).1;clear aB aU;go_simp) (h:=?_);refine tt 3 (Iv i) (y:=fun W' aU=>by have k1:=(ae aU.2.1).1;clear aB aU;go_simp) (h:=?_);refine tt 4 (Ai nb i) (h:=?_);refine tt 5 (Ai nb i) (h:=?_);refine tt 6 (bH A.fa A.fs.length A.fc) (y:=fun W' aU=>by have k1:=HCF.o _ aU.2.2;clear aB aU;go_simp) (h:=?_);refine tt 7 (Iv f) (h:=?_);refine rt 8 (h:=fun K hK=>?_)
  go_simp
  refine hK.out _ _ (fun _=>⟨aE (aC _ _) aB.1,aE (aC _ _) aB.2.1,aE (aC _ _) aB.2.2⟩) ?_;clear hK K;refine pt ?_;refine LH (F:=fun V=>pz _ _ _ _ _ _ _ _ _ V) fun T3 J1=>?_
  have WB:=hid (bp G.o.1.own.f J1.o.2);have OJ:U.heap.size<=T3.heap.size:=bw hWU J1.o.2.size;refine rt 9 (h:=fun K hK=>?_);refine e9 rfl (.tmp 49) (.tmp 51) 36 rfl U.heap.size 3 i0 (Iv 0) 1 8 underlying36 Y?.o.1 Y?.o.2.1 Y?.o.2.2.1 Y?.o.2.2.2 rfl aj (bH A.fa A.fs.length A.fc) A.fs.length (A.fs.map OI) rfl WB.o (Ad W.heap.size 0) 1 1 [OI f] rfl rfl (K5 J1.o.1) (by intro u hu;rw[ja.1 hu];rfl) (by unfold maxLen;omega) ah OJ ?_;intro v9 W9 o9 g9 n9;obtain⟨a9,c9,rfl⟩:=bS o9;have uy:∀q,q<U.heap.size->some q≠(Value.slice A.fa A.fs.length A.fc).ownBlock:=fun q hq=>G.o.1.low WB.o hq
  have h9:∀{q o},q<U.heap.size->W.heap[q]?=some o->W9.heap[q]?=some o:=fun {q o} hq h=>(g9.block q (fD hq OJ) (uy q hq)).trans (aE J1.o.2 h)
  have H9:=hid (Aa (h9 ah aB.1) (Aa (h9 ah aB.2.1) (h9 ah aB.2.2)));refine hK.out _ _ (fun _=>H9.o) ?_;clear hK K;have HJ1:=hid (G.o.1.facts hlen J1.o.2 f g9 o9 n9 ah);have HKO:Hd (KeepsOthers W (W9.setCell (Ad nb (i*5)) (dH a9 A.fs.length c9))):=(du J1.o.2).trans ((ve WB.o g9).trans (KeepsOthers.setCell _ _ _));clear o9 g9 n9 uy h9 aB WB J1 OJ;refine pt ?_;refine rt 10 (h:=fun K hK=>?_)
  go_simp
  refine hK.out _ _ (fun h=>absurd h aj) ?_;clear hK K;refine pt ?_;refine rt 11 (h:=fun K hK=>?_)
  go_simp
  refine hK.out _ _ (fun h=>absurd h aj) ?_;clear hK K;refine pt ?_;refine rt 12 (h:=fun K hK=>?_);have k1:=HCF.o _ H9.o.2.2;have k2:=(ae H9.o.2.2).2 (i*5)
  go_simp
  refine hK.out _ _ (fun h=>absurd h aj) ?_;clear hK K k1 k2;refine pt ?_;refine dt (h:=?_);generalize W9.setCell (Ad nb (i*5)) (dH a9 A.fs.length c9)=X at *;have hwX:=HJ1.o.kx.size;obtain⟨uG,hcu⟩:=Ea (NE.mk a9 c9 (A.fs++[f]) A.ra A.rc A.rs);have Y9:Hd (JF N nb i U l uG X):=by rw[hcu];exact HJ1.o
  obtain⟨r,hr⟩:=Ea (jZ s.2 i f);have hkc:U.cell? (Ad kb (i*68+f))=some (Iv r):=by
   obtain⟨q,hq⟩:=La (l:=s.2) (i:=i) (by rw[H8.o.2.2.1.len];exact J);rw[(ae Bq.o.2.2).1,de,B8 _ i f q H8.o.2.2.1.each hq Vy,hr];unfold jZ;rw[show s.2.getD i []=q by rw[cx,hq];rfl]
  have aaH:uG.ra=A.ra/\uG.rc=A.rc/\uG.rs=A.rs/\uG.fs=A.fs++[f]:=by rw[hcu];exact⟨rfl,rfl,rfl,rfl⟩
  have HCU:=hid (Aa aaH hr)
  have HCG:Hd (∀W':World,W'.heap[nb]?=some (.cells (jd (l++uG :: List.replicate (N-(i+1)) K8)).toArray 96 (0,0))->W'.cell? (Ad nb (i*5+1))=some (bH uG.ra uG.rs.length uG.rc)):=fun W' h=>by
   rw[(ae h).1,de];have:=sF _ i uG 1 (at_len (r:=List.replicate (N-(i+1)) K8) hlen) ah;exact this
  have afh:uG.rs.length<128:=by rw[aaH.2.2.1];exact aey
  have HKC:=hid hkc;clear hcu aaH hr HJ1 HCF hkc H9 HCR
  gi_wp2
  refine Zu (l:=lp) (fun W'=>W'.heap[nx]?=some (.cells (kg nb N) 46 (0,0))/\W'.heap[wr.heap.size]?=some (fY i)/\W'.heap[nb]?=some (.cells (jd (l++uG :: List.replicate (N-(i+1)) K8)).toArray 96 (0,0))/\W'.heap[xb]?=some (.cells (kg kb N) 263 (0,0))/\W'.cell? (Ad kb (i*68+f))=some (Iv r)) 15 (hQ:=by rintro⟨_,_,h⟩;exact h) (hS:=⟨Y9.o.kx.box Bq.o.1 (show ¬nx=nb by omega),Y9.o.kx.box HIB.o (show ¬wr.heap.size=nb by omega),Y9.o.fB,Y9.o.kx.box Bq.o.2.1 (show ¬xb=nb by omega),Y9.o.kx.cell HKC.o (show ¬kb=nb by omega)⟩) (h:=fun aB=>?_);refine tt 0 (b? nb N) (y:=fun W' aU=>by have k1:=(ae aU.1).1;clear aB aU;go_simp) (h:=?_);refine tt 1 (Iv i) (y:=fun W' aU=>by have k1:=(ae aU.2.1).1;clear aB aU;go_simp) (h:=?_);refine tt 2 (b? nb N) (y:=fun W' aU=>by have k1:=(ae aU.1).1;clear aB aU;go_simp) (h:=?_);refine tt 3 (Iv i) (y:=fun W' aU=>by have k1:=(ae aU.2.1).1;clear aB aU;go_simp) (h:=?_);refine tt 4 (Ai nb i) (h:=?_);refine tt 5 (.pointer (some (Ad nb (i*5+1)))) (h:=?_);refine tt 6 (bH uG.ra uG.rs.length uG.rc) (y:=fun W' aU=>by have k1:=HCG.o _ aU.2.2.1;clear aB aU;go_simp) (h:=?_);refine tt 7 (b? kb N) (y:=fun W' aU=>by have k1:=(ae aU.2.2.2.1).1;clear aB aU;go_simp) (h:=?_);refine tt 8 (Iv i) (y:=fun W' aU=>by have k1:=(ae aU.2.1).1;clear aB aU;go_simp) (h:=?_);refine tt 9 (Iv f) (h:=?_);refine tt 10 (.pointer (some (Ad kb (i*68)))) (h:=?_);refine tt 11 (.pointer (some (Ad kb (i*68+f)))) (h:=?_);refine tt 12 (Iv r) (y:=fun W' aU=>by have k1:=aU.2.2.2.2;clear aB aU;go_simp) (h:=?_);refine rt 13 (h:=fun K hK=>?_)
  go_simp
  refine hK.out _ _ (fun _=>⟨aE (aC _ _) aB.1,aE (aC _ _) aB.2.1,aE (aC _ _) aB.2.2.1,aE (aC _ _) aB.2.2.2.1,ax aB.2.2.2.2 (aC _ _)⟩) ?_;clear hK K;refine pt ?_;refine LH (F:=fun V=>pz _ _ _ _ _ _ _ _ _ V) fun T3 J1=>?_
  have WB:=hid (bp Y9.o.own.r J1.o.2);have OJ:U.heap.size<=T3.heap.size:=bw hwX J1.o.2.size;refine rt 14 (h:=fun K hK=>?_);refine e9 rfl (.tmp 61) (.tmp 68) 36 rfl U.heap.size 3 i0 (Iv 0) 1 8 underlying36 Y?.o.1 Y?.o.2.1 Y?.o.2.2.1 Y?.o.2.2.2 rfl aj (bH uG.ra uG.rs.length uG.rc) uG.rs.length (uG.rs.map Iv) rfl WB.o (Ad X.heap.size 0) 1 1 [Iv r] rfl rfl (K5 J1.o.1) (by intro u hu;rw[ja.1 hu];rfl) (by unfold maxLen;omega) ah OJ ?_;intro v7 W7 o7 g7 n7;obtain⟨a7,c7,rfl⟩:=bS o7;have uy:∀q,q<U.heap.size->some q≠(Value.slice uG.ra uG.rs.length uG.rc).ownBlock:=fun q hq=>Y9.o.low WB.o hq
  have qk:∀q,q<U.heap.size->W7.heap[q]?=X.heap[q]?:=fun q hq=>(g7.block q (fD hq OJ) (uy q hq)).trans (J1.o.2.block q (fD hq hwX))
  have H7:=hid (Aa ((qk nx ah).trans aB.1) (Aa ((qk wr.heap.size ah).trans aB.2.1) (Aa ((qk nb ah).trans aB.2.2.1) (Aa ((qk xb ah).trans aB.2.2.2.1) ((dC (qk kb ah)).trans aB.2.2.2.2)))));refine hK.out _ _ (fun _=>H7.o) ?_;clear hK K;have L:=hid (Y9.o.aO hlen J1.o.2 r g7 o7 n7 ah);have HKP:Hd (KeepsOthers X (W7.setCell (Ad nb (i*5+1)) (dH a7 uG.rs.length c7))):=(du J1.o.2).trans ((ve WB.o g7).trans (KeepsOthers.setCell _ _ _));clear o7 g7 n7 uy qk aB WB J1 OJ;refine pt ?_;refine rt 15 (h:=fun K hK=>?_)
  go_simp
  refine hK.out _ _ (fun h=>absurd h aj) ?_;clear hK K;refine pt ?_;refine rt 16 (h:=fun K hK=>?_)
  go_simp
  refine hK.out _ _ (fun h=>absurd h aj) ?_;clear hK K;refine pt ?_;refine rt 17 (h:=fun K hK=>?_);have k1:=HCG.o _ H7.o.2.2.1;have k2:=(ae H7.o.2.2.1).2 (i*5+1)
  go_simp
  refine hK.out _ _ (fun h=>absurd h aj) ?_;clear hK K k1 k2;refine pt ?_;refine dt (h:=?_);generalize W7.setCell (Ad nb (i*5+1)) (dH a7 uG.rs.length c7)=Y at *
  gi_wp2
  refine⟨HKO.o.trans HKP.o,?_,⟨_,L.o,?_,?_⟩,G.o.2.2.2.keeps (HKO.o.trans HKP.o)⟩
  ·exact⟨L.o.kx.os.trans G.o.1.kx.os.symm,L.o.kx.tape.trans G.o.1.kx.tape.symm,L.o.kx.output.trans G.o.1.kx.output.symm,(HKO.o.trans HKP.o).size,fun k hk=>(L.o.kx.keep k ah ah).trans (G.o.1.kx.keep k ah ah).symm⟩
  ·show uG.fs=_
   rw[HCU.o.1.2.2.2,G.o.2.1,mY]
  show uG.rs++[r]=_;rw[HCU.o.1.2.2.1,G.o.2.2.1,mY,iq,HCU.o.2];rfl
 case done=>
  rintro D ys W hD hS ⟨⟨A,hJ,OP,YK⟩,RO⟩ hK;have hS2:pX ys=c8 t:=hS;rw[hS2]at OP YK
  gi_wp2
  have e:((i:Int)+1)=((i+1:Nat):Int):=by omega
  rw[e];refine⟨?_,?measure⟩;rotate_left
  ·simp[intOf]
   omega
  refine⟨i+1,D :: Ds,?_⟩
  (repeat apply Exists.intro)
  refine⟨⟨J,l++[A],⟨by simp[hlen],?_,?_,?_,?_⟩,RO.cons hK ah (fun hm=>by have:=blt (O2.o.2.at_ D hm).2;omega)⟩,rfl⟩
  ·have:=hJ.fB
   rw[dj,List.singleton_append];exact this
  ·intro e H
   rcases jH.1 H with H|H
   ·exact(O2.o.1.own e H).kx hJ.kx (fun k h=>aJ h) O2.o.1.fB
   rw[ja.1 H];exact⟨bJ hJ.own.f ah,bJ hJ.own.r ah⟩
  ·intro j e hj
   rcases iw j l.length with h|h
   ·rw[mE h]at hj
    exact O2.o.1.say j e hj
   rw[fC h]at hj;obtain⟨h1,h2⟩:j-l.length=0/\A=e:=by
    have:=(bn.1 hj).1;simp at this;refine⟨by omega,?_⟩;rw[show j-l.length=0 by omega]at hj
    simpa using hj
   obtain rfl:j=i:=by omega
   subst h2;rw[<-HL.o.2.2];exact⟨OP,YK⟩
  exact O2.o.1.kx.trans hJ.kx
 rintro D c pre W _ _ h _;exact h.elim
end
section
open Go.RowKit Go.Shelf Go.Proofs Go.Maps Tryz
attribute [local go_sem] Oper.semAt_some
def Fj{W:World}{nb B N:Nat}(h:W.heap[nb]?=some (.cells (eu (List.replicate N vn0)).toArray 96 (0,0))):zm nb B N (List.replicate N vn0) W:=
 ⟨h,ak,fun e H=>by rw[ji H];exact⟨fun h=>absurd rfl h,fun _=>rfl⟩,fun i j e f H _ _ t _=>by rw[ji (aL H)]at t;exact absurd rfl t⟩
theorem sW(g C pb:Nat)(nl:List NC)(P:Pm)(pa:Option Addr)(pl pc:Nat)(w:World)(hP:PM w g C nl P)(b:cE P)(hc:mA P)(ho:j9 P)(hx:P.nx.length=P.nd.length)(J:kB w)(A?:jB w pb (.slice pa pl pc))(hpb:pb<w.heap.size):
  Cl 88 #[eV g P.nd.length C P.nv,.slice pa pl pc] w fun e I=>∃nb s z,e=.returned (b? nb P.nd.length)/\fU w.heap.size I nb s.2/\lz P s z (0,0)/\Bl w I:=by
 have hm:=b.most;have Rv:=b.nv;have Zb:Hd (∀W,Bl w W->Cl 139 #[eV g P.nd.length C P.nv] W fun e I=>∃B db,e=.returned (KC.cZ B db P.nd.length)/\KC.l? I W.heap.size B P/\I.heap[db]?=some (.cells #[.iface 328 (.agg #[])] 381 (0,0))/\Bl W I):=fun W U=>qG g C P.nv nl P W (hP.below U) b
 have hgl:=dQ (J 0 aj);have H0:=hid (Aa b (Aa hc (Aa ho (Aa hx (Aa J A?)))));have HSn:=hid (snC b hc ho hx);have HRm:Hd (∀s z wt x,lz P s z wt->(s.2.getD x qi).vals.length<=8/\s.1<100000):=fun s z wt x h=>h.room b x
 obtain⟨N,hN⟩:=Ea P.nd.length;obtain⟨nv,Z⟩:∃nv,nv=P.nv:=⟨_,rfl⟩;have m:=hid hN;have HNv:=hid Z;rw[<-hN,<-Z]at Zb⊢;rw[<-hN]at hm;rw[<-Z]at Rv;obtain⟨i2,YF,FC,FB,FA⟩:=cY C0;have L:Hd (_/\_/\_/\_):=⟨YF,FC,FB,FA⟩;clear hP b hc ho hx J A? hN Z YF FC FB FA;simp only[eV,KC.cZ]at Zb⊢;go_enter func88,ntmps88
 go_upto_region 1 with(fail)
 refine qA (F:=Code.wp _ _ _ _) fun H R=>?_
 obtain⟨F,y⟩:=ae R.o.2.1
 go_upto_region 2 with(at_make;refine il _ rfl (.tmp 9) (.tmp 9) 46 rfl H.heap.size 96 i2 _ 5 underlying46 L.o.1 L.o.2.1 L.o.2.2.1 .i64 .i64 N N N rfl rfl rfl rfl (by rw[L.o.2.2.2];omega) (by unfold maxLen;omega) ak ?_;intro T p FM;have j:=hid (Aa p FM);clear p FM)
 have HM:Hd (T.heap[H.heap.size]?=some (.cells (eu (List.replicate N vn0)).toArray 96 (0,0))/\Bl H T):=by
  have G:=j.o.1;rw[dX _ 5 (by simp[Value.cells]) N]at G;refine⟨?_,(aM _ _).grown j.o.2 (aF _) (fun q e=>by cases e)⟩;rw[(e? G).1,<-LN];rfl
 clear j F y;refine qA (F:=Code.wp _ _ _ _) fun r ni=>?_
 go_upto_region 3 with(fail)
 refine qA (F:=Code.wp _ _ _ _) fun W3 qF=>?_
 have D:=qF.o.1;have OX:=aq ni.o.1 D;have b03:=aq HM.o.2 OX;have bw3:=aq R.o.1 b03;have l0:=R.o.2.2;have l1:=blt HM.o.1;have l2:=ni.o.2.2;have l3:=qF.o.2.2;have f3:=qF.o.2.1;rw[l2]at f3⊢;have TP:Hd (Zh T.heap.size (T.heap.size+1) w.heap.size H.heap.size w.heap.size N nv (ix g N C) (s0C N) W3):=⟨f3,aE D ni.o.2.1,aE b03 R.o.2.1,_,Fj (aE OX HM.o.1),by rw[w8];rfl⟩;have TN:Hd (∀n B db,Bl W3 n->KC.l? n W3.heap.size B P->n.heap[db]?=some (.cells #[.iface 328 (.agg #[])] 381 (0,0))->Cl 138 #[KC.cZ B db N,.slice pa pl pc,.func (.func 140) #[] #[.pointer (cu T.heap.size),.pointer (some (Ad (T.heap.size+1) 0)),.pointer (cu w.heap.size)]] n fun e I=>∃s z v,e=.returned v/\Zh T.heap.size (T.heap.size+1) w.heap.size H.heap.size w.heap.size N nv (ix g N C) s I/\Ky (TJ T.heap.size (T.heap.size+1) w.heap.size H.heap.size w.heap.size) n I/\lz P s z (0,0)):=by
  intro n B db b34 hRl VA;have hC4:=TP.o.keep (W':=n) fun k o e _=>aE b34 e
  have l4:=b34.size;have hT4:=H0.o.2.2.2.2.1.below (aq bw3 b34);have hp4:=H0.o.2.2.2.2.2.keep (w':=n) fun o u h=>ax h (aq bw3 b34)
  have hbl:∀{k:Nat} {o:Obj},TJ T.heap.size (T.heap.size+1) w.heap.size H.heap.size w.heap.size k o->w.heap.size<=k:=fun {k o} h=>by rcases h with h|h|h|h|h<;>omega
  obtain⟨l,E,_⟩:=hC4.l
  have Yp:∀{k:Nat} {cs:Array Value} {t:Nat},n.heap[k]?=some (cJ cs t)->t∈KC.MJ->¬TJ T.heap.size (T.heap.size+1) w.heap.size H.heap.size w.heap.size k (cJ cs t):=fun {k cs t} G O h3=>by
   rcases h3 with h|h|h|h|⟨⟨c,f,h⟩,_⟩
   ·subst h;rw[hC4.c]at G;rw[<-(eK (dK G)).2.1]at O;revert O;decide
   ·subst h;rw[hC4.x]at G;rw[<-(eK (dK G)).2.1]at O;revert O;decide
   ·subst h;rw[E.fB]at G;rw[<-(eK (dK G)).2.1]at O;revert O;decide
   ·subst h;rw[hC4.p]at G;rw[<-(eK (dK G)).2.1]at O;revert O;decide
   rw[(eK h).2.1]at O;revert O;decide
  have hr:=KC.tW (TJ T.heap.size (T.heap.size+1) w.heap.size H.heap.size w.heap.size) (Zh T.heap.size (T.heap.size+1) w.heap.size H.heap.size w.heap.size N nv (ix g N C)) B db W3.heap.size 140 pb P #[.pointer (cu T.heap.size),.pointer (some (Ad (T.heap.size+1) 0)),.pointer (cu w.heap.size)] pa pl pc n (M6 P.nv) (fun _ _ _ next=>next) (Z8 P.nv) (lz P) (s0C P.nd.length) (fun W U=>hRl.ty fun k cs t G O=>U.box G (Yp G O)) VA (Yp VA aj) H0.o.1 H0.o.2.1 H0.o.2.2.1 H0.o.2.2.2.1 HSn.o
   ⟨fun k o h=>by rcases h with h|h|h|h|h;(· exact aJ ah);(· exact aJ ah);(· exact aJ ah);(· exact aJ ah);exact aI h.1,?_,fun s W W' h X=>h.keep X,fun o h=>by have:=hbl h;omega,fun o h=>by have:=hbl h;omega,by omega,fun M w=>Tryz.call140 M w,?_⟩ ⟨none,rfl,fJ _ _⟩ hT4 hp4 (by rw[<-m.o];exact hC4)
  ·rw[<-m.o]at hr
   refine hr.mono ?_;rintro e I ⟨s,z,rfl,_,O,h3,h4,_⟩;exact⟨s,z,_,rfl,O,h3,h4⟩
  ·rintro s W k o Y h X
   obtain⟨l,E,_⟩:=Y.l;rcases h with h|h|h|h|⟨⟨c,f,rfl⟩,_⟩
   ·subst h;rw[Y.c]at X;cases X;rfl
   ·subst h;rw[Y.x]at X;cases X;rfl
   ·subst h;rw[E.fB]at X;cases X;rfl
   ·subst h;rw[Y.p]at X;cases X;rfl
   rfl
  intro s z wt W x hI hS hx _ Y _ X;obtain⟨r1,r2⟩:=HRm.o s z wt x hI;have:=Jz T.heap.size (T.heap.size+1) w.heap.size H.heap.size w.heap.size N nv (ix g N C) s x (bD z x) (KC.jM (bD z x) (KC.bL P (bD z) x)) W Y (by rw[m.o];exact hS.low x hx) hm Rv r1 r2 (by have:=X.size;omega);rw[<-HNv.o];exact this
 have NJ:=aE b03 R.o.2.1;obtain⟨F,y⟩:=ae NJ;simp only[KC.cZ]at TN
 go_upto_region 4 with(first|(go_at_call 139;refine(Zb.o _ bw3).mono ?_;rintro e n ⟨B,db,rfl,a1,a2,a3⟩;have H4:=hid (Aa a1 (Aa a2 a3));clear a1 a2 a3 F y)|(go_at_call 138;refine(TN.o _ _ _ H4.o.2.2 H4.o.1 H4.o.2.1).mono ?_;rintro e W5 ⟨s,z,v,rfl,a1,a2,a3⟩;have H5:=hid (Aa a1 (Aa a2 a3));clear a1 a2 a3))
 obtain⟨F,y⟩:=ae H5.o.1.x;obtain⟨l,E,A⟩:=H5.o.1.l
 go_wp2_with fail
 refine aG (v:=.slice (cu H.heap.size) N N) (by simp[results,results88,go_sem];omega) rfl ⟨H.heap.size,s,z,rfl,by rw[<-A];exact E.fr (aF _) (by have:=R.o.1.size;omega),H5.o.2.2,?_⟩;have X:Ky (TJ T.heap.size (T.heap.size+1) w.heap.size H.heap.size w.heap.size) w W5:=(Ky.of (aq bw3 H4.o.2.2)).trans H5.o.2.1
 exact⟨X.os,X.tape,X.output,X.size,fun k Tz=>by
  cases ho:w.heap[k]? with
  |none=>have:=Array.getElem?_eq_none_iff.1 ho;omega
  |some o=>exact X.keep k o ho (fun h=>by rcases h with h|h|h|h|h<;>omega)⟩
end
section
variable {n t:Int} {D:List Int} {k:Nat} {p:Prop}
open Go.RowKit Go.Shelf Go.Proofs Go.Maps Tryz
attribute [local go_sem] Oper.semAt_some
def Jw(n:Int)(ts:List Int):Int:=ts.foldl (fun lo t=>if t<=n then max lo t else lo) (-9223372036854775808)
def Od(n:Int)(ts:List Int):Int:=ts.foldl (fun hi t=>if n<=t then min hi t else hi) 9223372036854775807
def R6(h:D[k]?=some t):Jw n (D.take (k+1))=if t<=n then max (Jw n (D.take k)) t else Jw n (D.take k):=by
 have hl:=(bn.1 h).1;rw[dS hl,(bn.1 h).2];unfold Jw;rw[wW];rfl
def SK(h:D[k]?=some t):Od n (D.take (k+1))=if n<=t then min (Od n (D.take k)) t else Od n (D.take k):=by
 have hl:=(bn.1 h).1;rw[dS hl,(bn.1 h).2];unfold Od;rw[wW];rfl
def XP(h:p:=by
 rw[aD G]at f
 go_wp2_with fail
 go_roundw
 case rel=>exact⟨j+1,J,h',by rw[f.o],M.o⟩
 simp[intOf];omega):p:=h
def XO(h:p:=by
 rw[aA G]at f
 go_wp2_with fail
 go_roundw
 case rel=>exact⟨j+1,J,h',by rw[f.o],M.o⟩
 simp[intOf];omega):p:=h
def NY(n:Int)(r:Option Addr)(O:Nat)(D:List Int)(w:World)(h:cz w r D)(hi:∀t∈D,eX t)(hl:D.length<=maxLen)(hn:eX n):
  Cl 217 #[Iv n,.slice r D.length O] w (Rb w (Iv (Jw n D))):=by
 have l:=hid (Aa h hi);obtain⟨m,C⟩:=Ea D.length;rw[<-C]at hl⊢;have H:=hid C;unfold maxLen at hl;clear h hi C;go_enter func217,ntmps217
 go_wp2_with fail
 go_loopw[5,10] (fun g p wr=>∃(j:Nat),j<=m/\p=Iv j/\g=Iv (Jw n (D.take j))/\Hd (Bl w wr)) (fun _ p _=>m-(intOf p).toNat)
 case atStart=>exact⟨0,bB _,rfl,rfl,aM _ _⟩
 obtain⟨j,U,rfl,rfl,M⟩:=hrel;by_cases J:j<m;rotate_left
 ·have s:¬(j:Int)<m:=ah
  obtain rfl:j=m:=ah
  go_wp2_with fail
  refine aG (v:=Iv (Jw n D)) ?_ rfl ⟨rfl,M.o⟩;rw[cP (by rw[H.o];exact aF _)];simp[results,results217,go_sem]
 have s:(j:Int)<m:=ah
 obtain⟨t,N⟩:=La (l:=D) (i:=j) (by rw[<-H.o];exact J);obtain⟨b,o,rfl,P⟩:=l.a j t N;have a:=ax P M.o;have f:=hid (R6 (n:=n) N);clear P N;generalize Jw n (D.take j)=lo at *;by_cases G:t<=n
 ·exact XP
 exact XO
def Gc(n:Int)(r:Option Addr)(O:Nat)(D:List Int)(w:World)(h:cz w r D)(hi:∀t∈D,eX t)(hl:D.length<=maxLen)(hn:eX n):
  Cl 218 #[Iv n,.slice r D.length O] w (Rb w (Iv (Od n D))):=by
 have l:=hid (Aa h hi);obtain⟨m,C⟩:=Ea D.length;rw[<-C]at hl⊢;have H:=hid C;unfold maxLen at hl;clear h hi C;go_enter func218,ntmps218
 go_wp2_with fail
 go_loopw[5,10] (fun g p wr=>∃(j:Nat),j<=m/\p=Iv j/\g=Iv (Od n (D.take j))/\Hd (Bl w wr)) (fun _ p _=>m-(intOf p).toNat)
 case atStart=>exact⟨0,bB _,rfl,rfl,aM _ _⟩
 obtain⟨j,U,rfl,rfl,M⟩:=hrel;by_cases J:j<m;rotate_left
 ·have s:¬(j:Int)<m:=ah
  obtain rfl:j=m:=ah
  go_wp2_with fail
  refine aG (v:=Iv (Od n D)) ?_ rfl ⟨rfl,M.o⟩;rw[cP (by rw[H.o];exact aF _)];simp[results,results218,go_sem]
 have s:(j:Int)<m:=ah
 obtain⟨t,N⟩:=La (l:=D) (i:=j) (by rw[<-H.o];exact J);obtain⟨b,o,rfl,P⟩:=l.a j t N;have a:=ax P M.o;have f:=hid (SK (n:=n) N);clear P N;generalize Od n (D.take j)=lo at *;by_cases G:n<=t
 ·exact XP
 exact XO
def hdF(l:List Nat)(x:Nat):Bool:=l.any fun f=>decide (x<=f)
def VU{W:World}{P:Pm}{es:List (Nat×Value)}{M:List (Nat×Nat)}(h:KB.Gs W P es M):es.map (·.1)=M.map (·.1):=by
 refine dW fun j=>?_
 rw[bG,bG];cases G:es[j]? with
 |none=>rw[bU (by rw[<-h.1];exact qL.1 G)];rfl
 |some e=>
  have U:=(bn.1 G).1;cases O:M[j]? with
  |none=>have:=qL.1 O;rw[h.1]at U;omega
  |some x=>simp only[kI,dG];exact(h.2 j e x G O).1
def Jc(rb db B x:Nat)(P:Pm)(w:World)(i:KB.l? w B rb P)(b:cE P)(hx:P.nx.length=P.nd.length)(Q:x<P.nd.length):
  Cl 146 #[KB.cZ rb db P.nd.length,Iv x] w (Rb w (.bool (hdF ((P.ins x).map (·.1)) x))):=by
 have z:=b.most;obtain⟨ql,i⟩:=i;obtain⟨r,L⟩:=La (l:=ql) (i:=x) (by rw[i.len];exact Q);have o:=i.es x r L;have a:=kX x P.nx 0 (fun l hl=>(b.nx l hl).1);have h:r.es.length<=200:=by
  have G:(P.ins x).length<=120:=by show(gA x 0 P.nx).length<=120;omega
  rw[o.1];omega
 have Z:=(i.sys.cell L (pG (m:=17) (by rw[i.st x r L];exact KB.KR _))).1;rw[<-VU o];have v:=hid (Aa i.sys L)
 have D:Hd (∀(j:Nat) (e:Nat×Value),r.es[j]?=some e->e.1<P.nd.length/\∃K,e.2=KB.x5 K):=fun j e H=>by
  obtain⟨y,T⟩:=La (l:=(P.ins x)) (i:=j) (by rw[<-o.1];exact(bn.1 H).1);obtain⟨G,K,O,_⟩:=o.2 j e y H T;refine⟨?_,K,O⟩;have:=mS x P.nx 0 y (aL T);omega
 obtain⟨N,t⟩:=Ea P.nd.length;rw[<-t]at z Q D⊢;have W:(x:Int)<N:=ah
 clear i b hx o L a t;simp only[KB.cZ];simp only[RR.ev]at Z;go_enter func146,ntmps146
 go_upto_region 1 with(fail)
 refine qA (F:=Code.wp _ _ _ _) fun X R=>?_
 obtain⟨F,E⟩:=ae R.b;have u:=ax Z R.a
 go_wp2_with fail
 clear F E Z u
 go_loopw[14] (fun p wr=>∃j:Nat,j<=r.es.length/\p=Iv j/\Hd (hdF ((r.es.take j).map (·.1)) x=false/\Bl w wr)) (fun p _=>r.es.length-(intOf p).toNat)
 case atStart=>exact⟨0,bB _,rfl,rfl,R.a⟩
 obtain⟨j,U,rfl,M⟩:=hrel;by_cases J:j<r.es.length;rotate_left
 ·have s:¬(j:Int)<(r.es.length:Int):=ah
  go_wp2_with fail
  refine aG (v:=.bool false) (by simp[results,results146,go_sem]) rfl ⟨?_,M.A⟩;have G:=M.a;rw[cP ah]at G;rw[G]
 have s:(j:Int)<(r.es.length:Int):=ah
 obtain⟨⟨f,fv⟩,H⟩:∃e,r.es[j]?=some e:=⟨_,bk J⟩;obtain⟨q,g,S,A⟩:=Dd ((v.a.below M.A).row r (aL v.A)) H;obtain⟨c,K,d⟩:=D.o j _ H;simp only at d c S A;subst d;have C:Hd ((r.es.take (j+1)).map (·.1)=(r.es.take j).map (·.1)++[f]):=by
  show _=_;rw[dS J,(bn.1 H).2,iq];rfl
 have n:=hid H;clear H;rw[g];by_cases k:x<=f
 ·have m:(x:Int)<=f:=ah
  go_wp2_with fail
  refine aG (v:=.bool true) (by simp[results,results146,go_sem]) rfl ⟨?_,aq M.A (aC _ _)⟩
  congr 2
  refine(G8.2 ⟨f,bP.2 ⟨_,aL n.o,rfl⟩,by simpa using k⟩).symm
 have m:¬(x:Int)<=f:=ah
 go_wp2_with fail
 go_roundw
 case rel=>
  refine⟨j+1,J,h',?_,aq M.A (aC _ _)⟩;rw[C.o];unfold hdF;rw[List.any_append,show List.any _ _=false from M.a]
  simpa using k
 simp[intOf];omega
end
section
variable {i f:Nat} {w W:World} {old E:PE} {u:VV}
open Go.RowKit Go.Shelf Go.Proofs Go.Maps Tryz
attribute [local go_sem] Oper.semAt_some
def UE(e:PE)(i:Nat)(x y:VV):(e.put i x).put i y=e.put i y:=by
 unfold PE.put;simp only[PE.mk.injEq,rT];refine⟨?_,?_,?_,?_,?_,?_,?_,?_⟩<;>split<;>rfl
def ZM(e:PE)(h:i<8):e.put i (e.at i)=e:=by rcases QX h with rfl|rfl|rfl|rfl|rfl|rfl|rfl|rfl<;>rfl
def KB.ZK(e:PE)(h:i<8)(x:Int):(KB.aH e).toArray.setIfInBounds (1+i*2) (Iv x)=(KB.aH (e.put i ⟨(e.at i).any,x,(e.at i).hi⟩)).toArray:=by
 rcases QX h with rfl|rfl|rfl|rfl|rfl|rfl|rfl|rfl<;>rfl
def KB.ZL(e:PE)(h:i<8)(x:Int):(KB.aH e).toArray.setIfInBounds (1+i*2+1) (Iv x)=(KB.aH (e.put i ⟨(e.at i).any,(e.at i).lo,x⟩)).toArray:=by
 rcases QX h with rfl|rfl|rfl|rfl|rfl|rfl|rfl|rfl<;>rfl
def Zl(u v:VV)(ts:List Int):Int:=if v.lo<u.lo then Jw v.lo ts else v.lo
def T1(u v:VV)(ts:List Int):Int:=if u.hi<v.hi then Od v.hi ts else v.hi
def T0(u v:VV)(ts:List Int):VV:=⟨v.any,Zl u v ts,T1 u v ts⟩
def uQ(old next:PE)(ts:List Int)(k:Nat):PE:=(List.range k).foldl (fun s i=>s.put i (T0 (old.at i) (next.at i) ts)) next
def r6(old next:PE)(D:List Int)(k:Nat):uQ old next D (k+1)=(uQ old next D k).put k (T0 (old.at k) (next.at k) D):=by simp[uQ,kK]
def Hc(old next:PE)(D:List Int):∀k,k<=8->∀j,(uQ old next D k).at j=if j<k then T0 (old.at j) (next.at j) D else next.at j
 |0,_,j=>by simp[uQ]
 |k+1,X,j=>by
  rw[r6,PE.jy _ ah,Hc old next D k ah];by_cases h:j=k
  ·subst h;simp
  rw[aA h];by_cases O:j<k
  ·rw[aD O,aD ah]
  rw[aA O,aA ah]
def WJ(old next:PE)(D:List Int):∀k,(uQ old next D k).r=next.r
 |0=>rfl
 |k+1=>by rw[r6];exact WJ old next D k
structure Oq(w:World)(tb:Nat)(old E:PE)(u:VV)(W:World):Prop where
  o:W.heap[w.heap.size]?=some (.cells (KB.aH old).toArray KB.aV (0,0))
  n:W.heap[w.heap.size+1]?=some (.cells (KB.aH E).toArray KB.aV (0,0))
  r:W.heap[w.heap.size+1+1]?=some (.cells (KB.pK).toArray KB.aV (0,0))
  t:W.heap[tb]?=some (.cells #[Iv u.lo,Iv u.hi] KB.g! (0,0))
  b:Bl w W
def Oq.below{W':World}(h:Oq w f old E u W)(hb:Bl W W'):Oq w f old E u W':=⟨aE hb h.o,aE hb h.n,aE hb h.r,aE hb h.t,aq h.b hb⟩
def Oq.set{i:Nat}(h:Oq w f old E u W)(N:w.heap.size+1<f)(o:Nat)(x:Value)(a:PE)(he:(KB.aH E).toArray.setIfInBounds o x=(KB.aH a).toArray):Oq w f old a u (W.setCell (Ad (w.heap.size+1) o) x):=by
 refine⟨(aZ _ _ _ _ (by show w.heap.size≠w.heap.size+1;omega)).trans h.o,by rw[aw h.n,he],(aZ _ _ _ _ (by show w.heap.size+1+1≠w.heap.size+1;omega)).trans h.r,(aZ _ _ _ _ (by show f≠w.heap.size+1;omega)).trans h.t,h.b.setCell (Nat.le_succ _) _⟩
def Oq.drew(h:Oq w f old E u W):Oq w f old E u W.drew:=⟨h.o,h.n,h.r,h.t,h.b.drew⟩
theorem WK {p:Prop} (h:p:=by
      refine st (fun W'=>Oq w tb old E1 (old.at i) W') 7 (hS:=HU.o.drew) (h:=fun aB=>?_);refine tt 0 (xh w.heap.size i) (h:=?_);refine tt 1 (xh w.heap.size i) (h:=?_);refine tt 2 (.pointer (some (Ad (w.heap.size+1) (1+i*2+1)))) (h:=?_);refine tt 3 (Iv (next.at i).hi) (y:=fun W' aU=>by have k1:=(HQ.o _ _ aU).2.1;rw[TH]at k1;clear aB aU;go_simp) (h:=?_);refine tt 4 (.pointer (some (Ad tb 1))) (h:=?_);refine tt 5 (Iv (old.at i).hi) (y:=fun W' aU=>by have k1:=(HQ.o _ _ aU).2.2.2;clear aB aU;go_simp) (h:=?_);by_cases b:(old.at i).hi<(next.at i).hi
      · refine tt 6 (.bool true) (h:=?_)
        clear aB;refine dt (h:=?_);have k1:=(HQ.o _ _ HU.o.drew).2.1;rw[TH]at k1;have VC:eX (next.at i).hi:=by have:=(HBI.o i).hi;simp only[aQ,aS,bm]at this;exact this
        go_upto_region 9 with(go_at_call 218;refine(HCe.o _ HU.o.drew.b _ VC).mono ?_;rintro e G ⟨rfl,hb⟩;have HX:=hid (HU.o.drew.below hb);clear hb k1;obtain⟨_,k1,_⟩:=HQ.o _ _ HX.o;have k2:=(ae HX.o.n).2 (1+i*2+1))
        have l:=hid (HX.o.set (i:=i) htb (1+i*2+1) (Iv (Od (next.at i).hi ts)) _ (KB.ZL E1 v? _));generalize G.setCell (Ad (w.heap.size+1) (1+i*2+1)) (Iv (Od (next.at i).hi ts))=Y at l⊢;clear k1 k2
        go_wp2_with fail
        go_roundw
        case rel=>
          refine⟨i+1,v?,by go_num,l.o.o,?_,l.o.r,l.o.b⟩;rw[HE2.o,T1,aD b];exact l.o.n
        case measure=>simp[intOf];omega
      · refine tt 6 (.bool false) (h:=?_)
        clear aB;refine dt (h:=?_)
        go_wp2_with fail
        go_roundw
        case rel=>
          refine⟨i+1,v?,by go_num,HU.o.o,?_,HU.o.r,HU.o.drew.b⟩;rw[HE2.o,T1,aA b];have:=ZM E1 v?;have z:(⟨(E1.at i).any,(E1.at i).lo,(next.at i).hi⟩:VV)=E1.at i:=by rw[<-TH]
          rw[z,this];exact HU.o.n
        case measure=>simp[intOf];omega):p:=h
def DU(old next:PE)(r:Option Addr)(O:Nat)(ts:List Int)(w:World)(h:cz w r ts)(hi:∀t∈ts,eX t)(hl:ts.length<=maxLen)(hb:∀i,dq (bQ (next.at i))):
  Cl 147 #[.agg (KB.aH old).toArray,.agg (KB.aH next).toArray,.slice r ts.length O] w fun e I=>e=.returned (.agg (KB.aH (uQ old next ts 8)).toArray)/\Below w.heap.size w I:=by
 have g:=hid (fun W (m:Below w.heap.size w W) n (J:eX n)=>NY n r O ts W (h.below m) hi hl J);have HCe:=hid (fun W (m:Below w.heap.size w W) n (J:eX n)=>Gc n r O ts W (h.below m) hi hl J);have G:=hid (fun i (h:i<8) W=>KB.Qn old h W);have HBI:=hid hb;clear h hi hl hb;generalize ts.length=tn at *;go_enter func147,ntmps147
 go_upto_region 1 with fail
 refine gn3 (F:=Code.wp _ _ _ _) fun V H=>?_
 have hr:=KB.qtl H.b;have z:=hid H.D
 go_wp2_with (refine wpList_load_mid rfl KB.Uw (.tmp 10) rfl w.heap.size 1 rfl (KB.aH old).tail _ hr KB.Uu rfl au ?_)
 clear hr
 go_loopw[12] (fun o wr=>∃i:Nat,i<=8/\o=Iv i/\Hd (wr.heap[w.heap.size]?=some (.cells (KB.aH old).toArray KB.aV (0,0))/\wr.heap[w.heap.size+1]?=some (.cells (KB.aH (uQ old next ts i)).toArray KB.aV (0,0))/\wr.heap[w.heap.size+1+1]?=some (.cells (KB.pK).toArray KB.aV (0,0))/\Below w.heap.size w wr)) (fun o _=>8-(intOf o).toNat)
 case atStart=>exact⟨0,ah,rfl,H.b,H.c,H.d,H.a⟩
 obtain⟨i,B,rfl,M⟩:=hrel;by_cases v?:i<8;rotate_left
 ·have s:¬(i:Int)<8:=ah
  obtain rfl:i=8:=ah
  have hr:=aT M.b;have N:=bO (n:=17) M.c rfl
  go_wp2_with (first|(refine wpList_load_mid rfl KB.aV (.tmp 4) rfl (w.heap.size+1) 0 rfl (KB.aH (uQ old next ts 8)) _ hr KB.fH rfl au ?_)|(refine wpList_store_mid rfl KB.aV (.tmp 6) (.tmp 52) rfl (w.heap.size+1+1) 0 (KB.aH (uQ old next ts 8)).toArray rfl rfl N au (KB.a! _) ?_))
  have A:=bX (cs:=KB.pK) M.c (vs:=KB.aH (uQ old next ts 8)) rfl;have x:=run_loadVar_mid (P:=Tryz.prog) (wr.setCells (w.heap.size+1+1) 0 (KB.aH (uQ old next ts 8))) (w.heap.size+1+1) 0 KB.aV (KB.aH (uQ old next ts 8)) _ (aT A) KB.fH rfl au;refine aG (v:=.agg (KB.aH (uQ old next ts 8)).toArray) (by simp[results,results147,x,Act.put,asAddr]) rfl ⟨rfl,aY _ ah _ _ _ M.C⟩
 have s:(i:Int)<8:=ah
 have k:=G.o i v?
 go_upto_region 4 with fail
 have Z:Hd (Oq w wr.heap.size old (uQ old next ts i) (old.at i) (wr.alloc (.cells #[Iv (old.at i).lo,Iv (old.at i).hi] KB.g!))):=⟨aE (aC _ _) M.a,aE (aC _ _) M.b,aE (aC _ _) M.c,bf _ _,aq M.C (aC _ _)⟩;generalize wr.alloc (.cells #[Iv (old.at i).lo,Iv (old.at i).hi] KB.g!)=T at Z⊢;have htb:w.heap.size+1<wr.heap.size:=by have:=blt M.c;omega
 clear k;generalize j:wr.heap.size=tb at *;have f:(uQ old next ts i).at i=next.at i:=by rw[Hc _ _ _ _ ah,aA ah]
 have HQ:Hd (∀W E,Oq w tb old E (old.at i) W->W.cell? (Ad (w.heap.size+1) (1+i*2))=some (Iv (E.at i).lo)/\W.cell? (Ad (w.heap.size+1) (1+i*2+1))=some (Iv (E.at i).hi)/\W.cell? (Ad tb 0)=some (Iv (old.at i).lo)/\W.cell? (Ad tb 1)=some (Iv (old.at i).hi)):=fun W E h=>⟨(KB.Qo h.n v?).1,(KB.Qo h.n v?).2,by rw[(ae h.t).1];rfl,by rw[(ae h.t).1];rfl⟩
 go_upto_region 5 with fail
 refine st (fun W'=>Oq w tb old (uQ old next ts i) (old.at i) W') 7 (hS:=Z.o.drew) (h:=fun aB=>?_);refine tt 0 (xh w.heap.size i) (h:=?_);refine tt 1 (xh w.heap.size i) (h:=?_);refine tt 2 (xh w.heap.size i) (h:=?_);refine tt 3 (Iv (next.at i).lo) (y:=fun W' aU=>by have k1:=(HQ.o _ _ aU).1;rw[f]at k1;clear aB aU;go_simp) (h:=?_);refine tt 4 (nV tb) (h:=?_);refine tt 5 (Iv (old.at i).lo) (y:=fun W' aU=>by have k1:=(HQ.o _ _ aU).2.2.1;clear aB aU;go_simp) (h:=?_);by_cases q:(next.at i).lo<(old.at i).lo;rotate_left
 ·refine tt 6 (.bool false) (h:=?_)
  clear aB;refine dt (h:=?_)
  go_upto_region 7 with fail
  obtain⟨E1,b⟩:=Ea (uQ old next ts i);have HU:=hid Z.o.drew;rw[<-b]at HU;have u:E1.at i=next.at i:=by rw[b];exact f
  have TH:(E1.at i).hi=(next.at i).hi:=by rw[u]
  have HE2:Hd (uQ old next ts (i+1)=E1.put i ⟨(E1.at i).any,(E1.at i).lo,T1 (old.at i) (next.at i) ts⟩):=by
   show _=_;rw[r6,u,b,T0,Zl,aA q]
  clear u b Z;exact WK
 refine tt 6 (.bool true) (h:=?_);clear aB;refine dt (h:=?_);have k1:=(HQ.o _ _ Z.o.drew).1;rw[f]at k1;have VC:eX (next.at i).lo:=by have:=(HBI.o i).lo;simp only[aQ,aS,bm]at this;exact this
 go_upto_region 7 with(go_at_call 217;refine(g.o _ Z.o.drew.b _ VC).mono ?_;rintro e l ⟨rfl,hb⟩;have HX:=hid (Z.o.drew.below hb);clear hb k1;obtain⟨k1,_,_⟩:=HQ.o _ _ HX.o;have k2:=(ae HX.o.n).2 (1+i*2))
 have HU:=hid (HX.o.set (i:=i) htb (1+i*2) (Iv (Jw (next.at i).lo ts)) _ (KB.ZK (uQ old next ts i) v? _));generalize l.setCell (Ad (w.heap.size+1) (1+i*2)) (Iv (Jw (next.at i).lo ts))=U at HU⊢;clear k1 k2;rw[f]at HU;obtain⟨E1,b⟩:=Ea ((uQ old next ts i).put i ⟨(next.at i).any,Jw (next.at i).lo ts,(next.at i).hi⟩);rw[<-b]at HU;have u:E1.at i=⟨(next.at i).any,Jw (next.at i).lo ts,(next.at i).hi⟩:=by rw[b,PE.jy _ v?,aD rfl]
 have TH:(E1.at i).hi=(next.at i).hi:=by rw[u]
 have HE2:Hd (uQ old next ts (i+1)=E1.put i ⟨(E1.at i).any,(E1.at i).lo,T1 (old.at i) (next.at i) ts⟩):=by
  show _=_;rw[r6,u,b,UE,T0,Zl,aD q]
 clear u b HX Z;exact WK
end
section
open Go.RowKit Go.Shelf Go.Proofs Go.Maps Tryz
attribute [local go_sem] Oper.semAt_some
def P7(P:Pm)(ts:List Int)(x:Nat)(old next:PE):PE:=if old.r&&hdF ((P.ins x).map (·.1)) x then uQ old next ts 8 else next
abbrev ab1(rb db N:Nat):Obj:=.cells #[.slice (some (Ad rb 0)) N N,.func (.func 275) #[] (bE db),.func (.func 277) #[] (bE db)] 242 (0,0)
abbrev abZ(pv:Value)(ta:Option Addr)(tn tc:Nat)(nr:Int):Obj:=.cells #[pv,.slice ta tn tc,Iv nr] 38 (0,0)
theorem YP{p:Prop}(h:p:=by
 have L:=aT HX.o.2.1;have ht:=bO (n:=17) HX.o.2.2.1 rfl
 go_wp2_with (first|(refine wpList_load_mid rfl KB.aV (.tmp 7) rfl (w.heap.size+1) 0 rfl (KB.aH next) _ L KB.fH rfl au ?_)|(refine wpList_store_mid rfl KB.aV (.tmp 8) (.tmp 21) rfl (w.heap.size+1+1) 0 (KB.aH next).toArray rfl rfl ht au (KB.a! _) ?_))
 have hq:=bX (cs:=KB.pK) HX.o.2.2.1 (vs:=KB.aH next) rfl;have hL:=run_loadVar_mid (P:=Tryz.prog) (X.setCells (w.heap.size+1+1) 0 (KB.aH next)) (w.heap.size+1+1) 0 KB.aV (KB.aH next) _ (aT hq) KB.fH rfl au;refine aG (v:=.agg (KB.aH next).toArray) (by simp[results,results145,hL,Act.put,asAddr]) rfl ⟨?_,aY _ ah _ _ _ HX.o.2.2.2⟩
 rw[HZ.o,aA (by simp[hh])]):p:=h
def C4(rb db B x sb f:Nat)(P:Pm)(R:Value)(r:Option Addr)(O:Nat)(D:List Int)(M:Int)(old next:PE)(w:World)(hs:w.heap[sb]?=some (ab1 rb db P.nd.length))(n:w.heap[f]?=some (abZ R r D.length O M))(K:KB.l? w B rb P)(b:cE P)(hx:P.nx.length=P.nd.length)(F:x<P.nd.length)(h:cz w r D)(hi:∀t∈D,eX t)(hl:D.length<=maxLen)(hb:∀i,dq (bQ (next.at i))):
  Cl 145 #[Iv x,.agg (KB.aH old).toArray,.agg (KB.aH next).toArray,.pointer (some (Ad sb 0)),.pointer (some (Ad f 0))] w (Rb w (.agg (KB.aH (P7 P D x old next)).toArray)):=by
 have u:=hid (fun W (U:Bl w W)=>DU old next r O D W (h.below U) hi hl hb);have k:=hid (fun W (U:Bl w W)=>Jc rb db B x P W (K.below U) b hx F);have HZ:Hd (P7 P D x old next=if (old.r&&hdF ((P.ins x).map (·.1)) x)=true then uQ old next D 8 else next):=rfl
 have G:=hid (Aa hs n);clear h hi hl hb K b hx hs n;generalize uQ old next D 8=L at *;generalize P7 P D x old next=z at *;generalize hdF ((P.ins x).map (·.1)) x=hd at *
 generalize D.length=tn at *;generalize P.nd.length=N at *;simp only[KB.cZ]at k;go_enter func145,ntmps145
 go_upto_region 1 with fail
 refine gn3 (F:=Code.wp _ _ _ _) fun V H=>?_
 have C:V.cell? (Ad w.heap.size 0)=some (.bool old.r):=by rw[(ae H.b).1];rfl
 obtain⟨J,m⟩:=ae (aE H.a G.a);cases g:old.r with
 |false=>
  rw[g]at C HZ;have HX:=hid (Aa H.b (Aa H.c (Aa H.d H.a)));have hh:(false&&hd)=false:=rfl;generalize T:V=X at *
  go_upto_region 3 with fail
  clear C J m;exact YP
 | true=>
  rw[g]at C HZ;cases s:hd with
  |false=>
   rw[s]at k HZ
   go_upto_region 3 with(go_at_call 146;refine(k.o _ H.a).mono ?_;rintro e X ⟨rfl,A⟩;have HX:=hid (Aa (aE A H.b) (Aa (aE A H.c) (Aa (aE A H.d) (Aa (aq H.a A) (aE A (aE H.a G.A))))));clear A C J m)
   have HX:=hid (Aa HX.a (Aa HX.b (Aa HX.c HX.d)));have hh:(true&&false)=false:=rfl;exact YP
  |true=>
   rw[s]at k HZ
   go_upto_region 2 with(go_at_call 146;refine(k.o _ H.a).mono ?_;rintro e X ⟨rfl,A⟩;have HX:=hid (Aa (aE A H.b) (Aa (aE A H.c) (Aa (aE A H.d) (Aa (aq H.a A) (aE A (aE H.a G.A))))));clear A C J m)
   obtain⟨j,E⟩:=ae HX.D;have q:=aT HX.a;have o:=aT HX.b
   go_wp2_with (first|(refine wpList_load_mid rfl KB.aV (.tmp 6) rfl w.heap.size 0 rfl (KB.aH old) _ q KB.fH rfl au ?_)|(refine wpList_load_mid rfl KB.aV (.tmp 7) rfl (w.heap.size+1) 0 rfl (KB.aH next) _ o KB.fH rfl au ?_)|(go_at_call 147;refine(u.o _ HX.d).mono ?_;rintro e Y ⟨rfl,A⟩;have l:=hid (Aa (aE A HX.c) (aq HX.d A));clear A j E q o;have ht:=bO (n:=17) l.a rfl)|(refine wpList_store_mid rfl KB.aV (.tmp 8) (.tmp 20) rfl (w.heap.size+1+1) 0 (KB.aH L).toArray rfl rfl ht au (KB.a! _) ?_))
   have hq:=bX (cs:=KB.pK) l.a (vs:=KB.aH L) rfl;have hL:=run_loadVar_mid (P:=Tryz.prog) (Y.setCells (w.heap.size+1+1) 0 (KB.aH L)) (w.heap.size+1+1) 0 KB.aV (KB.aH L) _ (aT hq) KB.fH rfl au;refine aG (v:=.agg (KB.aH L).toArray) (by simp[results,results145,hL,Act.put,asAddr]) rfl ⟨?_,aY _ ah _ _ _ l.A⟩;rw[HZ.o];rfl
end
section
open Go.RowKit Go.Shelf Go.Proofs Go.Maps Tryz
attribute [local go_sem] Oper.semAt_some
def A0(P:Pm)(hs:List PE)(k:Nat):List PE:=(List.range k).foldl (fun h i=>h.set i (KB.bL P (bD h) i)) hs
def yl(P:Pm)(hs:List PE)(k:Nat):A0 P hs (k+1)=(A0 P hs k).set k (KB.bL P (bD (A0 P hs k)) k):=by simp[A0,kK]
def sE(P:Pm)(hs:List PE):∀k,(A0 P hs k).length=hs.length
 |0=>rfl
 |k+1=>by rw[yl,ke,sE P hs k]
def RG{P:Pm}{hs:List PE}{x:Nat}(b:cE P)(Z:mA P)(F:P.nx.length=P.nd.length)(h:KB.mB P (bD hs))(hx:x<hs.length):KB.mB P (bD (hs.set x (KB.bL P (bD hs) x))):=fun m=>by
 have f:=fun m=>z? (h m)
 rw[pW hx];split
 ·exact⟨_,KB.fO b Z F f x⟩
 exact h m
open KB in
def E9(m hb N c:Nat)(Z:Option Addr)(es:List PE)(e:PE)(w:World)(T:w.heap[hb]?=some (.cells #[.slice Z N c] 244 (0,0)))(h:KB.gn w Z es)(he:es[m]?=some e)(hm:m<N):
  Cl 219 (xg m hb) w (Rb w (.agg (KB.aH e).toArray)):=by
 obtain⟨b,o,rfl,f⟩:=h m e he;have O:(m:Int)<N:=ah
 clear h he;go_enter func219,ntmps219
 go_upto_region 1 with fail
 have H:Hd (d' (w.alloc (.cells dE aV)) w.heap.size dE aV/\Bl w (w.alloc (.cells dE aV))/\d' (w.alloc (.cells dE aV)) hb #[.slice (some (Ad b o)) N c] Il/\(w.alloc (.cells dE aV)).rangeAt b (o+m*17) (aH e)):=⟨bf _ _,aC _ _,aE (aC _ _) T,fe f (aC _ _)⟩;clear T f;generalize w.alloc (.cells dE aV)=V at H⊢;obtain⟨x,z⟩:=ae H.c;have L:=H.C;have a:=bO (n:=17) H.a rfl
 go_wp2_with (first|(refine wpList_load_mid rfl aV (.tmp 6) rfl b (o+m*17) rfl (aH e) _ L fH rfl au ?_)|(refine wpList_store_mid rfl aV (.tmp 3) (.tmp 7) rfl w.heap.size 0 (aH e).toArray rfl rfl a au (a! _) ?_))
 have A:=bX (cs:=pK) H.a (vs:=aH e) rfl;have E:=run_loadVar_mid (P:=Tryz.prog) (V.setCells w.heap.size 0 (aH e)) w.heap.size 0 aV (aH e) _ (aT A) fH rfl au;refine aG (v:=.agg (aH e).toArray) (by simp[results,results219,E,Act.put,asAddr]) rfl ⟨rfl,aY _ (aF _) _ _ _ H.b⟩
open KB in
def I4(rb db B hb:Nat)(P:Pm)(hs:List PE)(w:World)(hE:KB.l? w B rb P)(hd:w.heap[db]?=some (.cells #[.iface 331 (.agg #[])] 386 (0,0)))(b:cE P)(Z:mA P)(g:j9 P)(hx:P.nx.length=P.nd.length)(hl:hs.length=P.nd.length)(hH:KB.mB P (bD hs))(T:w.heap[hb]?=some (.cells (KB.aP hs).toArray KB.aV (0,0))):
  Cl 148 #[KB.cZ rb db P.nd.length,.slice (some (Ad hb 0)) P.nd.length P.nd.length] w fun e I=>(∃v,e=.returned v)/\I.heap[hb]?=some (.cells (KB.aP (A0 P hs P.nd.length)).toArray KB.aV (0,0))/\Kx (fun k=>k=hb) w I/\KB.mB P (bD (A0 P hs P.nd.length)):=by
 have hm:=b.most;have G:=hid (Aa hE (Aa hd (Aa (Aa b (Aa Z (Aa g hx))) (Aa hl (Aa hH T)))));have C:=blt T
 have r:Hd (∀W x (es:List PE) (gb:Nat),KB.l? W B rb P->d' W db #[.iface 331 (.agg #[])] 386->KB.mB P (bD es)->es.length=P.nd.length->x<P.nd.length->d' W hb (KB.aP es).toArray KB.aV->d' W gb (kg hb P.nd.length) 244->Cl 216 #[KB.cZ rb db P.nd.length,Iv x,.func (.func 219) #[] (bE gb)] W (Rb W (.agg (KB.aH (KB.bL P (bD es) x)).toArray))):=fun W x es gb h1 h2 h3 h4 h5 E U=>
  KB.mM rb db B x 219 P (bE gb) (bD es) W h1 h2 b Z g hx h5 h3 (fun xs w=>Tryz.call219 xs w) fun m hm W' hW=>by
   have he:es[m]?=some (bD es m):=by
    unfold bD;rw[cx,bk (by rw[h4];exact hm)];rfl
   exact E9 m gb P.nd.length P.nd.length (some (Ad hb 0)) es (bD es m) W' (aE hW U) (KB.jN (aE hW E)) he hm
 obtain⟨N,hN⟩:=Ea P.nd.length;rw[<-hN]at hm r⊢;have HN:=hid hN;clear hE hd b Z g hx hl hH T hN;simp only[KB.cZ]at r⊢;go_enter func148,ntmps148
 go_upto_region 1 with fail
 refine gnB (F:=Code.wp _ _ _ _) fun H R=>?_
 have D:=R.C;have HZ:=hid D;obtain⟨F,x2⟩:=ae R.c;clear D
 go_wp2_with fail
 clear F x2
 go_loopw[7] (fun iv wr=>∃j:Nat,j<=N/\iv=Iv j/\Hd (wr.heap[hb]?=some (.cells (KB.aP (A0 P hs j)).toArray KB.aV (0,0))/\KB.mB P (bD (A0 P hs j))/\Kx (fun k=>k=hb) H wr)) (fun iv _=>N-(intOf iv).toNat)
 case atStart=>exact⟨0,ah,rfl,aE R.a G.E,G.e,Kx.refl _ _⟩
 obtain⟨j,hj,rfl,M⟩:=hrel;have hz:=HZ.o;by_cases J:j<N;rotate_left
 ·have s:¬(j:Int)<N:=ah
  obtain rfl:j=N:=ah
  go_wp2_with fail
  go_end0
  exact⟨⟨_,rfl⟩,M.a,(Kx.of R.a).trans M.B,M.b⟩
 have s:(j:Int)<N:=ah
 have hlen:(A0 P hs j).length=N:=by rw[sE,G.d,HN.o]
 have u:=M.B.box R.b ah;have b2:=M.B.box R.c ah
 have o:KtC w wr KB.MJ:=fun k cs t h1 h2=>M.B.box (aE R.a h1) fun e=>by
  subst e;rw[G.E]at h1;rw[<-(eK (dK h1)).2.1]at h2;revert h2
  decide
 have HS:=hid (r.o wr j (A0 P hs j) (w.heap.size+1) (G.a.ty o) (o _ _ _ G.b aj) M.b hlen J M.a b2);have HS2:Hd (∀W,Bl wr W->Cl 216 #[.agg #[.slice (some (Ad rb 0)) N N,.func (.func 275) #[] (bE db),.func (.func 277) #[] (bE db)],Iv j,.func (.func 219) #[] #[.pointer (some (Ad (w.heap.size+1) 0))]] W (Rb W (.agg (KB.aH (KB.bL P (bD (A0 P hs j)) j)).toArray))):=fun W hW=>r.o W j (A0 P hs j) (w.heap.size+1) (KB.l?.below (G.a.ty o) hW) (aE hW (o _ _ _ G.b aj)) M.b hlen J (aE hW M.a) (aE hW b2)
 have HQ:=hid (fun W' (h:Bl wr W')=>Aa (aE h u) (aE h b2));have HP:=hid (Aa hlen (RG G.c.1 G.c.2.1 G.c.2.2.2 M.b (by rw[hlen];exact J)));have O:=hid (yl P hs j);clear HS u b2 o hlen;generalize KB.bL P (bD (A0 P hs j)) j=z at *
 go_upto_region 4 with fail
 refine st (fun W'=>Bl wr W') 7 (hS:=(aM _ _).drew) (h:=fun aB=>?_);refine tt 0 (b? hb N) (y:=fun W' aU=>by have L:=(ae (HQ.o _ aU).2).1;clear aB aU;go_simp) (h:=?_);refine tt 1 (Iv j) (h:=?_);refine tt 2 (.agg #[.slice (some (Ad rb 0)) N N,.func (.func 275) #[] (bE db),.func (.func 277) #[] (bE db)]) (y:=fun W' aU=>by have L:=(ae (HQ.o _ aU).1).1;clear aB aU;go_simp) (h:=?_);refine tt 3 (Iv j) (h:=?_);refine tt 4 (.func (.func 219) #[] #[.pointer (some (Ad (w.heap.size+1) 0))]) (h:=?_);refine rt 5 (h:=fun K hK=>?_)
 go_simp
 refine bA (HS2.o _ aB) ?_;rintro e X ⟨rfl,A⟩;have f:Hd (Bl wr X):=aq aB A;clear A aB;refine hK.out _ _ (fun _=>f.o) ?_;clear hK K;refine pt ?_;have aB:=f.o;refine tt 6 (.pointer (some (Ad hb (j*17)))) (h:=?_);clear aB;refine rt 7 (h:=fun K hK=>?_);rw[aD au];refine wp_store_mid KB.aV (.tmp 16) (.tmp 15) rfl hb (j*17) (KB.aH z).toArray rfl rfl (KB.kS (aE f.o M.a) (by rw[HP.a];exact J)) au (KB.a! _) ?_;refine hK.out _ _ (fun h=>absurd h aj) ?_;clear hK K;refine pt ?_;refine dt (h:=?_);have l:=hid (Aa (KB.xc z (aE f.o M.a) (k:=j) (by rw[HP.a];exact J)) (show Kx (fun k=>k=hb) H (X.setCells hb (j*17) (KB.aH z))from sL (S:=fun k=>k=hb) (aJ rfl) (M.B.trans (Kx.of f.o)) _ _));show Exit.inBlock _ _ _ _ (X.setCells hb (j*17) (KB.aH z));generalize X.setCells hb (j*17) (KB.aH z)=Y at l⊢
 go_wp2_with fail
 go_roundw
 case rel=>exact⟨j+1,J,h',by rw[O.o];exact l.a,by rw[O.o];exact HP.A,l.A⟩
 simp[intOf];omega
end
def jR{α β:Type}{f:α->List β}{b:Nat}:∀(l:List α),(∀x∈l,(f x).length<=b)->(l.flatMap f).length<=l.length*b
 |[],_=>ak
 |a :: l,h=>by
  have B:=jR l fun x E=>h x (by simp[E])
  have o:=h a ak;rw[bY,bu,bT,rS];omega
def gI{n k:Nat}(h:n<128 ^ (k+1)):(ik n).length<=k+1:=by
 rcases JL (k+1) n h with h|h
 ·exact h
 omega
def Es:∀(l:List Nat) (U:Nat),(∀x∈l,U<=x/\x<128)->l.Pairwise (·<·)->cw U (l.map Int.ofNat)=true
 |[],_,_,_=>rfl
 |a :: l,U,h,hp=>by
  have o:=h a ak;rw[List.pairwise_cons]at hp;have B:=Es l (a+1) (fun x E=>⟨hp.1 x E,(h x (by simp[E])).2⟩) hp.2;have e:((a+1:Nat):Int)=Int.ofNat a+1:=ak
  rw[e]at B;simp only[kL,cw,B,w7,aS,bm];exact⟨by simp;omega,by simp;omega⟩
def yS:∀(l:List Nat) (U:Nat),(∀x∈l,x<128)->∀d∈c! U (l.map Int.ofNat),d<128
 |[],_,_=>fun d hd=>by cases hd
 |a :: l,U,h=>fun d hd=>by
  have o:=h a ak;have e:((a+1:Nat):Int)=Int.ofNat a+1:=ak
  rw[kL]at hd;simp only[c!,cQ]at hd;rcases hd with rfl|hd
  ·simp;omega
  rw[<-e]at hd;exact yS l (a+1) (fun x E=>h x (by simp[E])) d hd
def vj:∀(l:List Int) (fl:Int),(c! fl l).length=l.length
 |[],_=>rfl
 |a :: l,fl=>by simp[c!,vj l]
def R0(s:BS):(c8 s).Pairwise (·<·):=by
 rw[uC];exact List.Pairwise.filter _ List.pairwise_lt_range
def Vg{α:Type}[BEq α][LawfulBEq α]{l:List α}{x:α}(h:x∈l):l[l.idxOf x]?=some x:=by
 have:=w6 h;rw[bk this,List.getElem_idxOf this]
structure Wt(P:Pm)(p:Int)(c:Ct):Prop where
  ok:kq c=true
  small:(ij c).length<=60000
  Ob:fK P c=0
def QI{P:Pm}{p:Int}{l:List NE}(M:zb P p (P.rs p))(hp:1<=p/\p<=4)(h:FnS P p l):Wt P p ⟨p,1,l.map tC⟩:=by
 obtain⟨hlen,s,z,N,hhl,tF,o⟩:=h;have C:=M.ins.most;have F:=M.few;have w:=N.ik;have v:∀x∈l.map tC,∃i,i<P.nd.length/\x.facts=(c8 (cn z i)).map Int.ofNat/\x.aO=(c8 (cn z i)).map (jZ s.2 i)/\x.reached=false/\x.rank=0/\x.vals=[]:=by
  intro x E;obtain⟨e,H,rfl⟩:=bP.1 E;obtain⟨i,hi⟩:=i!.1 H;have:=o i e hi;have R:=(bn.1 hi).1;exact⟨i,ah,by simp[tC,this.1],by simp[tC,this.2],rfl,rfl,rfl⟩
 have u:∀i,i<P.nd.length->((⟨p,1,l.map tC⟩:Ct).at i).facts=(c8 (cn z i)).map Int.ofNat/\((⟨p,1,l.map tC⟩:Ct).at i).aO=(c8 (cn z i)).map (jZ s.2 i):=by
  intro i hi;obtain⟨e,H⟩:=La (l:=l) (i:=i) ah;have:=o i e H;have Q:(⟨p,1,l.map tC⟩:Ct).at i=tC e:=by simp[Ct.at,cx,H]
  rw[Q];exact⟨by simp[tC,this.1],by simp[tC,this.2]⟩
 have Z:∀i f,f∈c8 (cn z i)->f<128/\f<P.facts p/\bt (cn z i) f=true:=fun i f V=>by
  obtain⟨G,O⟩:=(cA _ (eW tF i) f).1 V;exact⟨G,N.low i f G O,O⟩
 have W:∀i f,i<P.nd.length->f<128->((⟨p,1,l.map tC⟩:Ct).at i).kZ f=bt (cn z i) f:=fun i f hi V=>by
  unfold Nd.kZ;rw[(u i hi).1];have:((f:Int)∈(c8 (cn z i)).map Int.ofNat)↔bt (cn z i) f=true:=by
   rw[bP];constructor
   ·rintro⟨a,y,e⟩
    obtain rfl:a=f:=J3 e;exact(Z i a y).2.2
   intro D;exact⟨f,(cA _ (eW tF i) f).2 ⟨V,D⟩,rfl⟩
  cases D:bt (cn z i) f with
  |true=>exact eT (this.2 D)
  |false=>exact eS fun T=>by rw[this.1 T]at D;cases D
 have A:∀i f,i<P.nd.length->f∈c8 (cn z i)->((⟨p,1,l.map tC⟩:Ct).at i).qP f=jZ s.2 i f:=fun i f hi V=>by
  unfold Nd.qP;rw[(u i hi).1,(u i hi).2];have S:(Int.ofNat f)∈(c8 (cn z i)).map Int.ofNat:=bP.2 ⟨f,V,rfl⟩;have G:=Vg S;rw[bG]at G;cases O:(c8 (cn z i))[((c8 (cn z i)).map Int.ofNat).idxOf (Int.ofNat f)]? with
  |none=>rw[O]at G;cases G
  |some g=>
   rw[O]at G;obtain rfl:g=f:=J3 (by simpa using G);rw[cx,bG];show(Option.map (jZ s.2 i) ((c8 (cn z i))[((c8 (cn z i)).map Int.ofNat).idxOf (Int.ofNat g)]?)).getD 0=_;rw[O];rfl
 have k:∀i,(c8 (cn z i)).length<=68:=fun i=>by
  rw[uC]
  have:=C9 (p:=bt (cn z i)) (q:=fun f=>decide (f<68)) (List.range 128) fun f V D=>by
   have:=N.low i f (bZ.1 V) D;simp;omega
  have O:((List.range 128).filter fun f=>decide (f<68)).length=68:=aj
  omega
 refine⟨?_,?_,?_⟩
 ·simp only[kq,known,aS,bm,br,bM]
  refine⟨⟨⟨ah,?_⟩,ah⟩,fun x E=>?_⟩
  ·simp;omega
  obtain⟨i,hi,G,O,Y,K,h5⟩:=v x E;simp only[cy,aD hp.2,eO,ey,G,O,Y,K,h5,aS,br,bm,bM,aD];refine⟨⟨⟨⟨rfl,trivial⟩,rfl⟩,Es _ 0 (fun f V=>⟨bB _,(Z i f V).1⟩) (R0 _)⟩,trivial,fun r L=>?_⟩;obtain⟨f,V,rfl⟩:=bP.1 L;have:=Z i f V;obtain⟨a,b,_⟩:=N.rk i f hi this.1 this.2.2;simp only[rk,aS,bm];omega
 ·have D:∀x∈l.map tC,(di p 1 x).length<=300:=fun x E=>by
   obtain⟨i,hi,G,O,Y,K,h5⟩:=v x E;have V:=k i;simp only[di,aD hp.2,setB,G,O,bu,br];have a1:(ik (c8 (cn z i)).length).length<=1:=gI (k:=0) ah
   have a2:=jR (f:=cO) (b:=1) (c! 0 ((c8 (cn z i)).map Int.ofNat)) fun d hd=>gI (k:=0) (by
    have:=yS (c8 (cn z i)) 0 (fun f V=>(Z i f V).1) d hd
    simp;omega)
   have a3:=jR (f:=cO) (b:=2) ((c8 (cn z i)).map (jZ s.2 i)) fun r L=>gI (k:=1) (by
    obtain⟨f,V,rfl⟩:=bP.1 L;have:=Z i f V;obtain⟨a,b,_⟩:=N.rk i f hi this.1 this.2.2
    simp;omega)
   rw[vj]at a2;simp only[br]at a2 a3;omega
  have:=jR (f:=di p 1) (b:=300) (l.map tC) D;simp only[ij,ob,bu,bT,eI,br]at this⊢;have:(ik l.length).length<=1:=gI (k:=0) ah;omega
 have j:kz P ⟨p,1,l.map tC⟩=true:=by
  simp only[kz,aS,bm,br,bM,aD hp.2];refine⟨hlen,fun x E=>?_⟩;obtain⟨i,hi,G,O,Y,K,h5⟩:=v x E;rw[G,Y];refine⟨fun f V=>?_,rfl⟩;obtain⟨g,hg,rfl⟩:=bP.1 V;have:=(Z i g hg).2.1;simp;omega
 have X:∀i f,i<P.nd.length->f<128->qt ⟨p,1,l.map tC⟩ f (-1) i=bt (cn z i) f:=fun i f hi V=>by
  unfold qt;rw[W i f hi V];simp
 have t:∀i f r,P.nd.length<=i->qt ⟨p,1,l.map tC⟩ f r i=false:=fun i f r hi=>by
  have:(⟨p,1,l.map tC⟩:Ct).at i=q?:=by simp[Ct.at,cx,bU (show l.length<=i by omega)]
  unfold qt;rw[this];simp[Nd.kZ,q?]
 have hbt:∀i f,P.nd.length<=i->bt (cn z i) f=false:=fun i f hi=>by
  cases D:bt (cn z i) f with
  |false=>rfl
  |true=>have:=JN D;omega
 have B:xy P ⟨p,1,l.map tC⟩=true:=by
  simp only[xy,bM,bZ,dO,iu];intro f V n J;have c:f<128:=ah
  have e:qt ⟨p,1,l.map tC⟩ f (-1)=fun m=>bt (cn z m) f:=funext fun m=>by
   rcases iw m P.nd.length with h|h
   ·exact X m f h c
   rw[t m f _ h,hbt m f h]
  rw[e];have G:=N.snd n J (iW n);have O:=(mP (eW tF n)).1 G f c;rw[vQ M N.low J c,show decide (f<P.facts p)=true by simpa using V,fj]at O;cases L:P.rule p f n fun m=>bt (cn z m) f with
  |false=>exact aJ rfl
  |true=>exact aI (O L)
 have U:ur P ⟨p,1,l.map tC⟩=true:=by
  simp only[ur,bM,bZ,dO,iu];intro f V n J;have c:f<128:=ah
  rw[X n f J c];cases D:bt (cn z n) f with
  |false=>exact aJ rfl
  |true=>
   right
   have q:=(cA _ (eW tF n) f).2 ⟨c,D⟩;obtain⟨G,O,Y⟩:=N.rk n f J c D;rw[A n f J q];refine pF (fun m C=>?_) Y;rw[aS]at C;have I:m<P.nd.length:=by have:=JN C.1;omega
   unfold qt;rw[W m f I c,C.1,A m f I ((cA _ (eW tF m) f).2 ⟨c,C.1⟩)];simp only[fj,dO];exact aI C.2
 simp only[fK,j,B,U,aD hp.2];simp
def xA{x:Int}(h:Wi x):(zp x).length<=10:=by
 obtain⟨G,O⟩:=h;refine gI (k:=9) ?_;unfold DQ;split<;>omega
def Z1{P:Pm}{s:Nat×List Nd}{hs:List PE}(b:cE P)(a:mA P)(N:lz P s hs (0,0)):Wt P 5 (gu s.2):=by
 have C:=b.most;have w:=N.ik;have Z:=b.nv
 have d:∀x∈s.2,x.vals.length<=8:=fun x E=>by
  cases L:x.reached with
  |true=>rw[((N.Gv x E).vC L).1];exact Z
  |false=>rw[((N.Gv x E).out L).2];simp
 refine⟨?_,?_,?_⟩
 ·simp only[kq,known,aS,bm,bM]
  refine⟨⟨ak,by rw[N.len];omega⟩,fun x E=>?_⟩;have h:=N.Gv x E;unfold cy;rw[aA aj];cases L:x.reached with
  |false=>
   have g:=h.out L;simp[j5,L,g.1,g.2,h.fr.1,h.fr.2]
  | true=>
   have hi:=h.vC L;simp only[eF,rk,h.fr.1,h.fr.2,dx,aS,bm,bM,List.isEmpty_nil,rT,dO];refine⟨⟨⟨d x E,hi.2.1,ah⟩,aJ trivial⟩,fun v t=>?_⟩;have t:=h.each v t;unfold ew;rw[aA aj];rcases t.form with k|k|k
   ·simp[k.2.1,k.1,t.hi,k.2.2.1,k.2.2.2]
   ·have:v.rank<=100000:=ah
    simp[nF,k.2.1,k.1,t.hi,k.2.2.2.2,k.2.2.1,this]
   simp[k.2.1,k.1,t.hi,k.2.2.1,k.2.2.2.1,k.2.2.2.2]
 ·have D:∀x∈s.2,(di 5 1 x).length<=300:=fun x E=>by
   have h:=N.Gv x E;unfold di;rw[aA aj];split;rotate_left
   ·simp
   rename_i L
   have hi:=h.vC L;simp only[nL,dx,bT,bu];have a1:(cO x.rank).length<=2:=gI (k:=1) (by simp;omega);have a2:(ik x.vals.length).length<=1:=gI (k:=0) (by have:=d x E;omega)
   have a3:=jR (f:=eN 5 1) (b:=14) x.vals fun v t=>by
    have t:=h.each v t;have u:(zp v.lo).length<=10:=xA t.lo;have c:(zp v.first).length<=10:=xA t.first
    unfold eN;rw[aA aj];split
    ·simp;omega
    split;rotate_left
    ·simp
    split;rotate_left
    ·simp
    rename_i H
    have S:(cO v.rank).length<=2:=gI (k:=1) (by
     rcases t.form with k|k|k
     ·rw[H]at k;cases k.2.1
     ·simp;omega
     ·rw[H]at k;cases k.2.1)
    simp;omega
   have:=d x E;omega
  have:=jR (f:=di 5 1) (b:=300) s.2 D;simp only[ij,ob,bu,bT,eI]at this⊢;have O:(ik s.2.length).length<=1:=gI (k:=0) (by rw[N.len];omega);rw[N.len]at this;omega
 have j:kz P (gu s.2)=true:=by
  simp only[kz,aS,bm,bM,dO,iu];refine⟨N.len,fun x E=>?_⟩;rw[(N.Gv x E).fr.1];refine⟨fun f V=>(by cases V),?_⟩;cases L:x.reached with
  |false=>exact aJ rfl
  |true=>exact aI ((N.Gv x E).vC L).1
 have B:kN P (gu s.2)=true:=(xx a (sY N.Gv)).2 fun n J=>N.snd n J (iW n)
 simp only[fK,j,B,N.lst];simp
structure L?(nv:Nat)(n:SN):Prop where
  kind:0<=n.kind/\n.kind<=6
  var:n.kind<=2->0<=n.var/\n.var<nv
  a:n.kind=0∨n.kind=1∨n.kind=3∨n.kind=4->yg nv n.a
  b:n.kind=1∨n.kind=4->yg nv n.b
def ad2(n:SN)(vals:List Int):Int:=if n.kind=4/\xq n.test (opW vals n.a) (opW vals n.b)=false then 1 else 0
open Go.RowKit Go.Proofs Go.Maps Tryz
def rG(g cap nc:Nat)(na:Option Addr)(S:List NC)(P:Pm)(c:Ct)(w:World)(hP:PM w g cap S P)(hO:cE P)(hC:mA P)(ho:j9 P)(hx:P.nx.length=P.nd.length)(h:cj w na c.nodes)(d:∀x∈c.nodes,gD x)(u:kq c=true)(hl:c.nodes.length=P.nd.length)(hp:c.problem=5):
  Cl 93 #[eV g P.nd.length cap P.nv,.agg #[Iv c.problem,Iv c.bK,.slice na P.nd.length nc]] w (Rb w (Iv (fK P c))):=by
 have hN:=hO.most;have RC:=C7 u ah hl;have hck:fK P c=if c.nodes.all (zI (P.nv:Int)) then(if kN P c then(if decide (c.bK=1)&&!oV P c then 8 else 0) else 7) else 6:=by
  unfold fK;rw[RC,hp,aA (show ¬(5:Int)<=4 by decide)];by_cases hg:c.bK=1
  ·cases c.nodes.all (zI (P.nv:Int))<;>cases kN P c<;>cases oV P c<;>simp[hg]
  cases c.nodes.all (zI (P.nv:Int))<;>cases kN P c<;>simp[hg]
 have l:=hid (Aa hP (Aa hO (Aa hC (Aa ho (Aa hx (Aa h (Aa d (Aa u (Aa hl hp)))))))));have H:Hd (∀W,Bl w W->Cl 161 #[.slice na P.nd.length nc,Iv P.nv] W (Rb W (.bool (c.nodes.all (zI (P.nv:Int)))))):=by
  intro W U;have:=o! na nc P.nv c.nodes W (h.below U) ah;rw[hl]at this;exact this
 clear hP hO hC ho hx h d u RC hp;obtain⟨i1,hi,lu,O,K⟩:=cY KC.oP;have HI:Hd (_/\_/\_/\_):=⟨hi,lu,O,K⟩;clear hi lu O K;have J2:=hid hck;clear hck;generalize fK P c=ck at J2⊢;generalize hpr:c.problem=pr;generalize hgr:c.bK=gr;obtain⟨t,hhv⟩:=Ea (c.nodes.all (zI (P.nv:Int)));rw[<-hhv]at J2 H;have HHV:=hid hhv;have HL:=hid hl;clear hhv hl;obtain⟨N,Q⟩:=Ea P.nd.length;rw[<-Q]at hN H⊢;have HN:=hid Q;clear Q;simp only[eV];go_enter func93,ntmps93
 go_upto_region 1 with fail
 refine yJ (F:=Code.wp _ _ _ _) fun W0 R=>?_
 obtain⟨F,y⟩:=ae R.a.1;obtain⟨y1,y2⟩:=ae R.a.2;cases t
 ·go_wp2_with (go_at_call 161;refine(H.o _ R.b).mono ?_;rintro e W1 ⟨rfl,D⟩;have E:=hid D;clear D F y y1 y2)
  go_ret
  exact⟨by rw[J2.o];rfl,aq R.b E.o⟩
 go_upto_region 3 with(go_at_call 161;refine(H.o _ R.b).mono ?_;rintro e W1 ⟨rfl,D⟩;have E:=hid D;clear D F y y1 y2)
 have DK:=hid (Yl l.h l.I l.g HHV.o.symm);have j:Hd (Bl w W1/\_/\_):=⟨aq R.b E.o,aE E.o R.a.1,aE E.o R.a.2⟩;clear R E H;obtain⟨F,y⟩:=ae j.b;have HR:Hd (∀W,Bl w W->Cl 139 #[.agg (cN g N cap P.nv)] W fun e I=>∃B db,e=.returned (KC.cZ B db N)/\KC.l? I W.heap.size B P/\d' I db #[.iface 328 (.agg #[])] 381/\Bl W I):=by
  intro W U;have:=qG g cap P.nv S P W (l.a.below U) l.b;rw[<-HN.o]at this;exact this
 simp only[KC.cZ]at HR
 go_upto_region 4 with(go_at_call 139;refine(HR.o _ j.a).mono ?_;rintro e Y ⟨B,db,rfl,hE,hd,A⟩;have HY:=hid (Aa hE (Aa hd A));clear hE hd A F y)
 refine uA (F:=Code.wp _ _ _ _) fun X f=>?_
 have Bq:Hd (Bl w X/\_/\_/\KC.l? X W1.heap.size B P/\_/\_):=⟨aq j.a (aq HY.B f.b),aE f.b (aE HY.B j.b),aE f.b (aE HY.B j.B),HY.a.below f.b,aE f.b HY.b,f.a⟩;clear f HY j HR;generalize W1.heap.size=B0 at Bq;generalize Y.heap.size=sb at Bq⊢;obtain⟨y1,y2⟩:=ae Bq.c;have hw1:=blt Bq.c;have hw2:=blt Bq.E;have hw3:=blt Bq.e
 go_upto_region 5 with(at_make;refine il _ rfl (.tmp 19) (.tmp 19) 222 rfl X.heap.size 228 i1 _ 17 underlying222 HI.a HI.b HI.c .i64 .i64 N N N rfl rfl rfl rfl (by rw[HI.C];omega) (by unfold maxLen;omega) (aF _) ?_;intro W2 n iP;have HO:=hid (Aa n iP);clear n iP y1 y2)
 have C:Hd (d' W2 X.heap.size (KC.aP (List.replicate N PE.zero)).toArray 228/\Below X.heap.size X W2):=by
  have G:=HO.a;rw[jx _ 17 rfl N]at G;exact⟨by rw[<-KC.nw];exact(KC.xV G).1,(aM _ _).grown HO.A (aF _) (fun q e=>by cases e)⟩
 clear HO;have a:Hd (Bl w W2/\_/\_/\_/\KC.l? W2 B0 B P/\_/\_):=⟨aq Bq.a C.A,aE C.A Bq.b,aE C.A Bq.c,C.a,Bq.d.below C.A,aE C.A Bq.e,aE C.A Bq.E⟩;have HXX:Hd (∀(V:World),Below X.heap.size W2 V->KC.l? V B0 B P/\w.heap.size<=X.heap.size):=fun V hV=>⟨Bq.d.below (((aM _ _).trans (C.A)).trans hV),Bq.a.size⟩
 clear C Bq;generalize X.heap.size=D at a hw1 hw2 hw3 HXX⊢;obtain⟨y1,y2⟩:=ae a.c
 go_wp2_with fail
 clear y1 y2
 go_loopw[24] (fun p wr=>∃i:Nat,i<=N/\p=Iv i/\Hd (wr.heap[D]?=some (.cells (KC.aP ((c.nodes.take i).map (kt 100001)++List.replicate (N-i) PE.zero)).toArray 228 (0,0))/\Below D W2 wr)) (fun p _=>N-(intOf p).toNat)
 case atStart=>exact⟨0,bB _,rfl,by rw[tI,wQ];exact a.d,aM _ _⟩
 obtain⟨i,hi,rfl,M⟩:=hrel;have hsr:=M.A.size;have hhb:=blt a.d;have wD:Hd (Bl w wr):=a.a.trans (M.A.mono ah);by_cases J:i<N
 ·have s:(i:Int)<N:=ah
  obtain⟨x,hx⟩:=La (l:=c.nodes) (i:=i) (by rw[HL.o,<-HN.o];exact J);obtain⟨b,o,fa,ra,va,fc,rc,vc,rfl,c0,c1,c2,c3,k,c5⟩:=l.f.below wD.o i x hx;have Ro:x.vals.length<=8:=by
   have hm:=aL hx;cases L:x.reached
   ·rw[(DK.o.env.bare x hm).2 L];simp
   rw[(DK.o.env.ok x hm L).1];exact l.b.nv
  have HC:Hd (∀W,Bl wr W->Cl 162 #[.agg #[.slice fa x.facts.length fc,.slice ra x.aO.length rc,.bool x.reached,Iv x.rank,.slice va x.vals.length vc],Iv 100001] W (Rb W (.agg (KC.aH (kt 100001 x)).toArray))):=fun W U=>mx fa ra va _ fc _ rc vc x.reached x.rank 100001 x.vals W (c5.vals.below U) Ro
  have f:=hid hx;clear hx c5 Ro;generalize x.facts.length=fl at HC c0;generalize x.aO.length=rl at HC c1;generalize x.reached=rd at HC c2;generalize x.rank=rk0 at HC c3;generalize x.vals.length=vl at HC k
  go_upto_region 8 with fail
  clear c0 c1 c2 c3 k;refine uA (F:=Code.wp _ _ _ _) fun V H=>?_
  have Mb:=hid (Aa H.b (aE H.b M.a));obtain⟨F,y⟩:=ae H.a;obtain⟨m,hm⟩:∃m,N-i=m+1:=⟨N-i-1,ah⟩;have Jn:((c.nodes.take i).map (kt 100001)).length=i:=by rw[br,dL,HL.o,<-HN.o,jW hi]
  go_upto_region 9 with(first|(go_at_call 162;refine(HC.o _ Mb.a).mono ?_;rintro e Y ⟨rfl,OS⟩;have HY:=hid OS;clear OS F y;have ht:=KC.kS (aE HY.o Mb.A) (show i<_ by rw[bu,Jn,GN];omega))|(refine wpList_store_mid rfl 228 (.tmp 33) (.tmp 32) rfl D (i*17) (KC.aH (kt 100001 x)).toArray rfl rfl ht au (KC.a! _) ?_))
  have T:Hd (d' (Y.setCells D (i*17) (KC.aH (kt 100001 x))) D (KC.aP ((c.nodes.take (i+1)).map (kt 100001)++List.replicate (N-(i+1)) PE.zero)).toArray 228/\Below D W2 (Y.setCells D (i*17) (KC.aH (kt 100001 x)))):=by
   have G:=aE HY.o Mb.A;rw[hm]at G;have h2:=KC.x6 (kt 100001 x) G Jn;have e1:N-(i+1)=m:=ah
   have e2:(c.nodes.take (i+1)).map (kt 100001)=(c.nodes.take i).map (kt 100001)++[kt 100001 x]:=by
    rw[dS (bn.1 f.o).1,(bn.1 f.o).2,iq];rfl
   rw[e1,e2];exact⟨h2,aY _ (aF _) _ _ _ (M.A.trans ((aq Mb.a HY.o).mono ah))⟩
  clear ht hm Jn;generalize Y.setCells D (i*17) (KC.aH (kt 100001 x))=Z at T⊢;simp only[Act.put]
  go_wp2_with fail
  go_roundw
  case rel=>exact⟨i+1,J,h',T.o⟩
  simp[intOf];omega
 have s:¬(i:Int)<N:=ah
 obtain rfl:N=i:=ah
 have HF:Hd (d' wr D (KC.aP (c.nodes.map (kt 100001))).toArray 228):=by
  have G:=M.a;rw[jh,w?,gi,cP (by rw[HL.o,<-HN.o];exact aF _)]at G;exact G
 have hHd:KC.mB P (bD (c.nodes.map (kt 100001))):=fun m=>⟨e7 c (-1) m,by rw[wb rfl c m];exact DK.o.last l.b.nv m,da DK.o.env _ _⟩
 have FG:=Mp l.b l.c l.d l.e DK.o;have Ny:=Qf l.b l.c l.d l.e DK.o;have HRL:=hid (HXX.o _ M.A).1;have HS:Hd (∀(W:World),Bl wr W->Cl 163 #[KC.cZ B db N,.slice (some (Ad D 0)) N N] W (Rb W (.bool (kN P c)))):=by
  intro W U;have:=KC.qR B db B0 N (some (Ad D 0)) P (c.nodes.map (kt 100001)) W (HRL.o.below U) (aE U (zT M.A a.f ah)) l.b l.c l.d l.e (by rw[br];exact HL.o) (KC.jN (aE U HF.o)) hHd;rw[FG,<-HN.o]at this;exact this
 have HRI:Hd (∀(W:World),Bl wr W->Cl 164 #[KC.cZ B db N,.slice na N nc] W (Rb W (.bool (oV P c)))):=by
  intro W U;have:=ti B db B0 nc na P c W (HRL.o.below U) (aE U (zT M.A a.f ah)) l.b l.c l.d l.e HL.o DK.o (l.f.below (aq wD.o U));rw[Ny,<-HN.o]at this;exact this
 obtain⟨z,Yr⟩:=Ea (kN P c);obtain⟨ls,OM⟩:=Ea (oV P c);rw[<-Yr]at HS J2;rw[<-OM]at HRI J2;rw[hgr]at J2;clear Yr OM FG Ny hHd;simp only[KC.cZ]at HS HRI;have zK:=zT M.A a.F ah;have hcb:=zT M.A a.c ah;have HSB:=hid (Aa zK hcb);obtain⟨F,y⟩:=ae zK;clear zK hcb;cases z
 ·go_wp2_with (go_at_call 163;refine(HS.o _ (aM _ _)).mono ?_;rintro e Z ⟨rfl,A⟩;have v:=hid A;clear A F y)
  go_ret
  exact⟨by rw[J2.o];rfl,aq wD.o v.o⟩
 go_upto_region 12 with(go_at_call 163;refine(HS.o _ (aM _ _)).mono ?_;rintro e Z ⟨rfl,A⟩;have v:=hid A;clear A F y)
 obtain⟨F,y⟩:=ae (aE v.o HSB.a);obtain⟨y1,y2⟩:=ae (aE v.o HSB.A);by_cases DJ:gr=1
 ·subst DJ
  cases ls
  all_goals
   go_wp2_with (go_at_call 164;refine(HRI.o _ v.o).mono ?_;rintro e Y ⟨rfl,A⟩;have HY:=hid A;clear A F y y1 y2)
   go_ret
   exact⟨by rw[J2.o];rfl,aq wD.o (aq v.o HY.o)⟩
 have hg2:decide (gr=1)=false:=eS DJ
 go_wp2_with fail
 go_ret
 exact⟨by rw[J2.o,hg2];rfl,aq wD.o v.o⟩
section
variable {p:Prop}
open Go.RowKit Go.Proofs Go.Maps Tryz
def uT:∀(l:List Int) (U m:Int),cw U l=true->(∀x∈l,x<m)->(l.length:Int)+U<=m∨l=[]
 |[],_,_,_,_=>aI rfl
 |f :: r,U,m,h,hm=>by
  left
  simp[cw]at h;obtain⟨⟨G,O⟩,Y⟩:=h;have V:=hm f ak;rcases uT r (f+1) m Y (fun x E=>hm x (by simp[E]))with K|K
  ·simp;omega
  subst K;simp;omega
def abJ{α:Type}{l:List α}{f g:α->Bool}(h:∀x∈l,f x=g x):l.all f=l.all g:=by
 induction l with
 |nil=>rfl
 |cons a l B=>rw[Ae,Ae,h a ak,B fun x E=>h x (by simp[E])]
def N0{P:Pm}(h:cE P)(p:Int):P.facts p<=68:=by
 have:=Df P.nd 0;have:=h.most;have:=h.nv;have:=rE P;unfold Pm.facts;split
 ·omega
 split<;>omega
def Ug{w w':World}{Z:Option Addr}{m:List BS}(h:ld w Z m)(hb:Bl w w'):ld w' Z m:=fun j s U=>by
 obtain⟨b,o,G,O,Y⟩:=h j s U;exact⟨b,o,G,ax O hb,ax Y hb⟩
def Kw{x:Nd}(h:∀f∈x.facts,0<=f/\f<68):bF (qM x)/\∀f∈c8 (qM x),f<68:=by
 have V:∀g∈LK x,g<68:=by
  intro g m;obtain⟨f,V,rfl⟩:=bP.1 m;have:=h f V;omega
 have hi:bF (qM x):=gQ _ fun g m=>by have:=V g m;omega
 refine⟨hi,fun f C=>?_⟩;obtain⟨G,O⟩:=(cA _ hi f).1 C;unfold qM at O;rw[k? _ _ G fun g m=>by have:=V g m;omega]at O;exact V f (by simpa using O)
def Xh(h:p:=by
 go_wp2_with (go_at_call 170;refine(f.o _ _ _ (aq d.a (aq t.o (by first|exact J.o|exact below_drewN J.o _|exact J.o.drew))) ((d.C.below t.o).below (by first|exact J.o|exact below_drewN J.o _|exact J.o.drew))).mono ?_;rintro e W5 ⟨rfl,LC⟩;have Q:=hid (aq (aq d.a (aq t.o (by first|exact J.o|exact below_drewN J.o _|exact J.o.drew))) LC);clear LC)
 go_ret
 exact⟨rfl,Q.o⟩):p:=h
def Xg(h:p:=by
 go_wp2_with fail
 go_ret
 exact⟨rfl,aq d.a (aq t.o (by first|exact J.o|exact below_drewN J.o _|exact J.o.drew))⟩):p:=h
def yW(g C N nv:Nat)(na:Option Addr)(nc k:Nat)(p gr ik:Int)(R:RS)(hs:List BS)(u x S:Bool)(w:World)
  (hS:∀W,Bl w W->Cl 150 #[eV g N C nv,Iv p] W fun e I=>∃rb,e=.returned (.tuple #[cK rb N,Iv ik])/\nO I W.heap.size rb R/\Bl W I)
  (hA:∀W,Bl w W->Cl 167 #[.slice na k nc,Iv ik] W (Rb W (.bool u)))
  (hT:u=true->∀W,Bl w W->Cl 169 #[.slice na k nc] W fun e I=>∃q,e=.returned (b? q k)/\ld I (some (Ad q 0)) hs/\Bl W I)
  (b:u=true->∀W B rb q,nO W B rb R->ld W (some (Ad q 0)) hs->Cl 168 #[cK rb N,.slice (some (Ad q 0)) k k] W (Rb W (.bool x)))
  (M:u=true->gr=1->∀W B rb,Bl w W->nO W B rb R->Cl 170 #[cK rb N,.slice na k nc] W (Rb W (.bool S))):
  Cl 95 #[eV g N C nv,.agg #[Iv p,Iv gr,.slice na k nc]] w (Rb w (Iv (if u=false then 6 else if x=false then 7 else if gr=1/\S=false then 8 else 0))):=by
 have HS:=hid hS;have HA:=hid hA;have Z:=hid hT;have j:=hid b;have X:=hid M;clear hS hA hT b M;obtain⟨c,aaM⟩:=Ea ((if u=false then 6 else if x=false then 7 else if gr=1/\S=false then 8 else 0):Int);rw[<-aaM];have V:=hid aaM;clear aaM;simp only[eV,cK]at HS j X⊢;go_enter func95,ntmps95
 go_upto_region 1 with(fail)
 have HB:Hd (Bl w ((w.alloc (.cells (cN g N C nv) 86)).alloc (.cells #[Iv p,Iv gr,.slice na k nc] 51))/\d' ((w.alloc (.cells (cN g N C nv) 86)).alloc (.cells #[Iv p,Iv gr,.slice na k nc] 51)) w.heap.size (cN g N C nv) 86/\d' ((w.alloc (.cells (cN g N C nv) 86)).alloc (.cells #[Iv p,Iv gr,.slice na k nc] 51)) (w.heap.size+1) #[Iv p,Iv gr,.slice na k nc] 51):=⟨aX _ _ _,(aN _ _ _).1,(aN _ _ _).2⟩;generalize(w.alloc (.cells (cN g N C nv) 86)).alloc (.cells #[Iv p,Iv gr,.slice na k nc] 51)=H at HB⊢;obtain⟨F,y⟩:=ae HB.b;obtain⟨y1,o⟩:=ae HB.B
 go_upto_region 2 with(go_at_call 150;refine(HS.o _ HB.a).mono ?_;rintro e T ⟨rb,rfl,z,A⟩;have E:=hid (Aa z A);clear z A F y y1 o)
 have d:Hd (Bl w (T.alloc (.cells (bV rb N) 260))/\d' (T.alloc (.cells (bV rb N) 260)) (w.heap.size+1) #[Iv p,Iv gr,.slice na k nc] 51/\d' (T.alloc (.cells (bV rb N) 260)) T.heap.size (bV rb N) 260/\nO (T.alloc (.cells (bV rb N) 260)) H.heap.size rb R):=by
  have D:=aq E.A (aC T (.cells (bV rb N) 260));exact⟨aq HB.a D,aE D HB.B,bf _ _,E.a.below (aC _ _)⟩
 generalize T.alloc (.cells (bV rb N) 260)=r at d⊢;generalize T.heap.size=K at d⊢;generalize H.heap.size=B at d;clear E HB HS;have n:Hd (∀W,Bl r W->e' W (w.heap.size+1) 0 (Iv p)/\e' W (w.heap.size+1) 1 (Iv gr)/\e' W (w.heap.size+1) 2 (.slice na k nc)/\e' W K 0 (b? rb N)/\e' W K 1 iz/\e' W K 2 mI):=by
  intro W U;have l:=(ae (aE U d.b)).1;have q2:=(ae (aE U d.c)).1;exact⟨l 0,l 1,l 2,q2 0,q2 1,q2 2⟩
 obtain⟨s0,P,m,s3,v,s5⟩:=n.o r (aM _ _);cases u
 ·obtain rfl:c=6:=by rw[V.o];rfl
  go_wp2_with (go_at_call 167;refine(HA.o _ d.a).mono ?_;rintro e h ⟨rfl,Y⟩;have t:=hid Y;clear Y)
  go_ret
  exact⟨rfl,aq d.a t.o⟩
 have HT':=hid (Z.o rfl);have HO':=hid (j.o rfl);have HR':=hid (X.o rfl);clear Z j X
 go_upto_region 4 with(go_at_call 167;refine(HA.o _ d.a).mono ?_;rintro e h ⟨rfl,Y⟩;have t:=hid Y;clear Y s0 P m s3 v s5)
 obtain⟨s0,P,m,s3,v,s5⟩:=n.o h t.o
 go_region_held3 (fun I=>I.cell? (Ad (w.heap.size+1) 0)=some (Iv p)/\I.cell? (Ad (w.heap.size+1) 1)=some (Iv gr)/\I.cell? (Ad (w.heap.size+1) 2)=some (.slice na k nc)/\I.cell? (Ad K 0)=some (b? rb N)/\I.cell? (Ad K 1)=some iz/\I.cell? (Ad K 2)=some mI) (go_keep) (first|(have _:=z6;go_at_call 168;refine(HO'.o _ _ _ _ ((d.C.below t.o).below (aq z6.A (by repeat(first|with_reducible exact aM _ _|with_reducible refine below_drewN ?_ _|with_reducible refine kf ?_)))) (Ug z6.a (by repeat(first|with_reducible exact aM _ _|with_reducible refine below_drewN ?_ _|with_reducible refine kf ?_)))).mono ?_;rintro e O ⟨rfl,uz⟩;have L:Bl h O:=aq (aq z6.A (by repeat(first|with_reducible exact aM _ _|with_reducible refine below_drewN ?_ _|with_reducible refine kf ?_))) uz;have J:=hid L;obtain⟨o0,o1,o2,o3,s,o5⟩:=n.o O (aq t.o L);clear uz L)|(go_at_call 169;refine(HT'.o _ (aq d.a (aq t.o (by repeat(first|with_reducible exact aM _ _|with_reducible refine below_drewN ?_ _|with_reducible refine kf ?_))))).mono ?_;rintro e G ⟨q,rfl,hq,A⟩;have L:Bl h G:=aq (by repeat(first|with_reducible exact aM _ _|with_reducible refine below_drewN ?_ _|with_reducible refine kf ?_)) A;have z6:=hid (Aa hq L);obtain⟨p0,p1,p2,p3,p4,p5⟩:=n.o G (aq t.o L);clear A L hq))
 all_goals
  cases x
  ·obtain rfl:c=7:=by rw[V.o];rfl
   exact Xg
  cases hg:(gr==1)
  ·have hg':¬gr=1:=by simpa using hg
   obtain rfl:c=0:=by rw[V.o];simp[hg']
   clear hg';exact Xg
  have i:gr=1:=by simpa using hg
  have f:=hid (HR'.o i);have HA3:Hd (c=if S=false then 8 else 0):=by show _=_;rw[V.o];simp[i]
  clear i HR';cases S
  ·obtain rfl:c=8:=by rw[HA3.o];rfl
   exact Xh
  obtain rfl:c=0:=by rw[HA3.o];rfl
  exact Xh
def zR(g C nc:Nat)(na:Option Addr)(S:List NC)(P:Pm)(c:Ct)(w:World)(hP:PM w g C S P)(b:cE P)(hx:P.nx.length=P.nd.length)(o:∀n∈P.nd,nh (i6 n))(h:cj w na c.nodes)(d:∀x∈c.nodes,gD x)(u:kq c=true)(hl:c.nodes.length=P.nd.length)(hp:1<=c.problem/\c.problem<=4)(m:c.bK=1∨c.bK=2)(J:kB w):
  Cl 95 #[eV g P.nd.length C P.nv,.agg #[Iv c.problem,Iv c.bK,.slice na P.nd.length nc]] w (Rb w (Iv (fK P c))):=by
 have t:=b.most;have k:=N0 b c.problem;have Y:=B4 u hp.2;have N:=KE b hx hp;have j:c.nodes.all (JZ (P.facts c.problem:Int))=true->∀x∈c.nodes,∀f∈x.facts,0<=f/\f<P.facts c.problem:=by
  intro D x hx f V;rw[y5 Y]at D;simp only[bM,bm]at D;exact⟨kP _ 0 (Y.cw x hx) f V,D x hx f V⟩
 have a:c.nodes.all (JZ (P.facts c.problem:Int))=true->∀x∈c.nodes,x.facts.length<=128:=by
  intro D x hx;rcases uT x.facts 0 _ (Y.cw x hx) (fun f V=>(j D x hx f V).2)with G|G
  ·omega
  simp[G]
 have F:c.nodes.all (JZ (P.facts c.problem:Int))=true->∀x∈c.nodes,∀f∈x.facts,0<=f/\f<68:=by
  intro D x hx f V;have:=j D x hx f V;omega
 have r:=yW g C P.nd.length P.nv na nc P.nd.length c.problem c.bK (P.facts c.problem:Int) (P.rs c.problem) (c.nodes.map qM) (c.nodes.all (JZ (P.facts c.problem:Int))) (Eh (P.rs c.problem) (c.nodes.map qM) P.nd.length) (zt (P.rs c.problem) c.nodes P.nd.length) w
  (fun W U=>Au g C S P c.problem W (hP.below U) b o hp)
  (fun W U=>by have:=Dx na nc c.nodes (P.facts c.problem:Int) W (h.below U) d ah;rw[hl]at this;exact this)
  (fun D W U=>by have:=P3 na nc c.nodes W (h.below U) (fun x hx f V=>by have:=F D x hx f V;omega) (a D) ah;rw[hl]at this;exact this)
  (fun D W B p q M l=>Hp p B P.nd.length P.nd.length (some (Ad q 0)) _ _ W M N.ins (by rw[br,hl]) l (by intro s z;obtain⟨x,hx,rfl⟩:=bP.1 z;exact(Kw (F D x hx)).1))
  (fun D i W B p U M=>Qe p B P.nd.length nc na _ c.nodes W M N.ins (h.below U) hl (F D) (fun x hx=>⟨a D x hx,(Y.aO i x hx).1⟩) (fun x hx=>Kw (F D x hx)) (J.below U))
 refine r.mono ?_;rintro e I ⟨rfl,D⟩;refine⟨?_,D⟩
 congr 2
 have V:kz P c=c.nodes.all (JZ (P.facts c.problem:Int)):=by
  rw[y5 Y];unfold kz;rw[aD hp.2,eT hl,fj];refine abJ fun x hx=>?_
  simp[(Y.bare x hx).1]
 unfold fK;rw[V,aD hp.2];cases A:c.nodes.all (JZ (P.facts c.problem:Int))
 ·rfl
 have l:Zg P c:=⟨k,hl,j A⟩;simp only[Bool.true_eq_false,bR,P1 l N];split
 ·rfl
 by_cases i:c.bK=1
 ·rw[MB ⟨l,i,Y⟩ N]
  cases ur P c<;>simp[i]
 have:c.bK=2:=ah
 simp[this]
end
end Go.Proofs.YtmipbiligijcpaaGreatDoor
