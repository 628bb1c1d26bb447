import Derived.Test.YtmipbiligijcpaaGreatDoorA19
import Derived.Test.YtmipbiligijcpaaGreatDoorA17
namespace Go.Proofs.YtmipbiligijcpaaGreatDoor
set_option linter.all false
set_option maxHeartbeats 8000000
set_option maxRecDepth 100000
open Go.RowKit Go.Proofs Go.Maps
section
variable {ks:List Key} {n:SN}
open Go.RowKit Go.Proofs Go.Maps Tryz
def Yh(ks:List Key)(n:SN):BS:=if n.kind=6 then jK ks.length else eH (DH ks n) (yR ks n)
def Yi(ks:List Key)(n:SN):Ef:=⟨yR ks n,(0,0)⟩
def QU(P:Pm)(n:Nat):RA:=(eG (Yh P.ex (P.at n)),(P.qY n).map fun t=>(t,u? (Yi P.ex (P.at n))))
def JD(h:JC n=true->i6 n∈ks)(hl:ks.length<=60):bF (yR ks n):=by
 unfold yR;split
 ·rename_i H;exact oT (by have:=w6 (h H);omega)
 exact⟨aj,aj⟩
def Q!(hl:ks.length<=60):bF (DH ks n):=by
 unfold DH;split
 ·exact I9 _ _ _ ah
 exact⟨aj,aj⟩
def Xj{p:Prop}(h:p:=by
 go_wp2_with (go_at_call 285;refine HBC.o.mono ?_;rintro e X9 ⟨⟨v,rfl⟩,f,h9⟩;have H9:=hid h9;clear h9 F y y1 y2 z1 z2)
 go_roundw
 case rel=>exact⟨i+1,f,J,h',H9.o⟩
 simp[intOf];omega):p:=h
def Q?(g C nv:Nat)(S:List NC)(P:Pm)(w:World)(hP:PM w g C S P)(b:cE P)(o:∀n∈P.nd,nh (i6 n)):
  Cl 223 #[eV g P.nd.length C nv] w fun e I=>∃B rl,e=.returned (.tuple #[cK B P.nd.length,Iv P.ex.length])/\Sys I w.heap.size B 2 393 404 rl/\rl.map RR.pr=kn P.nd.length (QU P)/\Bl w I:=by
 have hN:=b.most;have rB:=b.pos;have hex:=rE P;have HH:=hid (Aa hP (Aa b o));have pw:Hd (∀W,Cl 280 #[eV g P.nd.length C nv] W fun e I=>∃B rl,e=.returned (cK B P.nd.length)/\Sys I W.heap.size B 2 393 404 rl/\rl.map RR.pr=List.replicate P.nd.length OH/\Bl W I):=fun W=>lK g P.nd.length C nv W hN
 have WC:Hd (∀W,Bl w W->Cl 286 #[eV g P.nd.length C nv] W fun e I=>∃a c,e=.returned (bH a P.ex.length c)/\I.ownsRow W.heap.size 430 7 (bH a P.ex.length c) P.ex.length (lL P.ex)/\Bl W I):=fun W U=>Bd g C nv S P W (hP.below U) hN o
 obtain⟨N,Q⟩:=Ea P.nd.length;obtain⟨ks,Lz⟩:=Ea P.ex;rw[<-Q]at hN rB hex;rw[<-Lz]at hex;rw[<-Q,<-Lz]at WC⊢;rw[<-Q]at pw;have m:=hid (Aa Q Lz);have Ox:Hd (∀W,Cl 208 #[Iv ks.length] W (Rb W (b! (jK ks.length)))):=fun W=>oF ks.length W ah
 obtain⟨up,Rp⟩:=Ea (jK ks.length);rw[<-Rp]at Ox;have HU:=hid Rp;clear hP b Q Lz o Rp;simp only[eV,cK,b!]at pw WC Ox⊢;go_enter func223,ntmps223
 go_upto_region 1 with(fail)
 have R:Hd (Bl w ((w.alloc (.cells (cN g N C nv) 86)).alloc (.cells ic 260))/\d' ((w.alloc (.cells (cN g N C nv) 86)).alloc (.cells ic 260)) w.heap.size (cN g N C nv) 86/\d' ((w.alloc (.cells (cN g N C nv) 86)).alloc (.cells ic 260)) (w.heap.size+1) ic 260):=⟨aX _ _ _,(aN _ _ _).1,(aN _ _ _).2⟩;generalize(w.alloc (.cells (cN g N C nv) 86)).alloc (.cells ic 260)=W0 at R⊢;obtain⟨F,y⟩:=ae R.b
 go_upto_region 2 with(go_at_call 280;refine(pw.o _).mono ?_;rintro e T ⟨B,rl,rfl,A8,OL,A⟩;have E:=hid (Aa A8 (Aa OL A));clear A8 OL A F y)
 have d:Hd (Bl w (T.alloc (.cells (bV B N) 260))/\d' (T.alloc (.cells (bV B N) 260)) w.heap.size (cN g N C nv) 86/\d' (T.alloc (.cells (bV B N) 260)) (w.heap.size+1) ic 260/\d' (T.alloc (.cells (bV B N) 260)) T.heap.size (bV B N) 260/\Sys (T.alloc (.cells (bV B N) 260)) w.heap.size B 2 393 404 rl/\rl.map RR.pr=kn N (upto (QU P) 0)):=by
  have A:=aq E.B (aC T (.cells (bV B N) 260));have hs:=E.a.below (aC T (.cells (bV B N) 260));exact⟨aq R.a A,aE A R.b,aE A R.B,bf _ _,hs.deep R.a.size,by rw[E.b,Am]⟩
 have zK:w.heap.size+1<T.heap.size:=by have:=E.B.size;have:=blt R.B;omega
 have Yw:B<T.heap.size:=blt E.a.fB;generalize T.alloc (.cells (bV B N) 260)=W2 at d⊢;generalize T.heap.size=K at d zK Yw⊢;clear E R pw;obtain⟨F,y⟩:=ae d.b
 go_upto_region 3 with(go_at_call 286;refine(WC.o _ d.a).mono ?_;rintro e h ⟨ka,kc,rfl,ho3,Y⟩;have H3:=hid (Aa ho3 Y);clear ho3 Y F y)
 have Z:Hd (Bl w h/\PM h g C S P/\h.ownsRow w.heap.size 430 7 (bH ka ks.length kc) ks.length (lL ks)/\Sys h w.heap.size B 2 393 404 rl/\rl.map RR.pr=kn N (upto (QU P) 0)/\d' h w.heap.size (cN g N C nv) 86/\d' h (w.heap.size+1) ic 260/\d' h K (bV B N) 260):=
  ⟨aq d.a H3.A,HH.a.below (aq d.a H3.A),oR H3.a d.a.size,d.e.below H3.A,d.E,aE H3.A d.b,aE H3.A d.c,aE H3.A d.d⟩
 have Jq:∀n,n<N->(QU P n).2.length<=200:=by
  intro n _;have:=sD HH.b n;simp[QU];omega
 have vN:=hid Jq;clear H3 d WC Jq;obtain⟨F,y⟩:=ae Z.f
 go_wp2_with fail
 clear F y
 go_loopw[16] (fun iv wr=>∃(i:Nat) (ql:List RR),i<=N/\iv=Iv i/\Hd (Sys wr w.heap.size B 2 393 404 ql/\ql.map RR.pr=kn N (upto (QU P) i)/\TF w.heap.size 393 404 h wr)) (fun iv _=>N-(intOf iv).toNat)
 case atStart=>exact⟨0,rl,bB _,rfl,Z.d,Z.e,TF.refl _ _ _ _⟩
 obtain⟨i,ql,hi,rfl,M⟩:=hrel;have Ji:w.heap.size<=wr.heap.size:=bw Z.a.size M.B.low.size;by_cases J:i<N;rotate_left
 ·have s:¬(i:Int)<N:=ah
  have Vw:i=N:=ah
  have iX:=M.B;have nI:=iX.box Z.g aj aj;obtain⟨F,y⟩:=ae (iX.box Z.G aj aj);obtain⟨z1,z2⟩:=ae nI;have n1:w.heap.size+1≠K:=ah
  have n2:=n1.symm;clear iX
  go_wp2_with fail
  have q0:=(ae (aw (o:=0) nI (b? B N))).1;have l:=(ae (aw (o:=1) (aw (o:=0) nI (b? B N)) iz)).1;have q2:=(ae (aw (o:=2) (aw (o:=1) (aw (o:=0) nI (b? B N)) iz) mI)).1;refine aG (v:=.tuple #[cK B N,Iv ks.length]) (by simp[results,results223,go_sem,q0,l,q2,cK]) rfl ⟨B,rfl,ql,?_,?_,?_⟩
  ·exact M.a.keep nI ⟨aj,aj⟩ (fun k hk=>by rw[aZ _ _ _ _ hk,aZ _ _ _ _ hk,aZ _ _ _ _ hk])
  ·rw[M.b,Vw,D3]
  exact(((Z.a.trans M.B.low).setCell (by show _<=w.heap.size+1;omega) _).setCell (by show _<=w.heap.size+1;omega) _).setCell (by show _<=w.heap.size+1;omega) _
 have s:(i:Int)<N:=ah
 have wj:=Z.b.tf M.B aj aj aj aj;obtain⟨nc,ts,hc,LB,u,_,Rq,_⟩:=wj.nodes (by rw[<-m.a];exact J);have cc:=fun j (hj:j<14)=>(mV wj hc j hj)
 have q:=aL LB;obtain⟨nd,vD⟩:=Ea nc.n;rw[<-vD]at cc LB u q;simp only[NC.wv,NC.ev]at cc;generalize nc.bj=bj at cc;generalize nc.wa=wa at cc;generalize nc.wl=wl at cc;generalize nc.wc=wc at cc;generalize nc.ea=ea at cc;generalize nc.el=el at cc;generalize nc.ec=ec at cc;have p:=ye Z.c M.B aj aj;have Za:Hd (∀W,Bl wr W->Cl 287 #[.agg (aK bj (.slice wa wl wc) nd (.slice ea el ec)),.slice ka ks.length kc] W (Rb W (b! (yR ks nd)))):=fun W U=>qB bj wa wl wc ea el ec nd ka kc ks W (yv (bp p U)) (by rw[m.A];exact Sc HH.B) ah (fun he=>⟨HH.B nd q,by rw[m.A];exact uE q he⟩)
 have HKL:Hd (∀W,Bl wr W->Cl 288 #[.agg (aK bj (.slice wa wl wc) nd (.slice ea el ec)),.slice ka ks.length kc] W (Rb W (b! (DH ks nd)))):=fun W U=>A3 bj wa wl wc ea el ec nd ka kc ks W (yv (bp p U)) ah (HH.b.kind nd q).1
 have HWO:Hd (∀W,Cl 153 #[b! (DH ks nd),b! (yR ks nd)] W (Rb W (b! (eH (DH ks nd) (yR ks nd))))):=fun W=>jJ _ _ W (Q! ah) (JD (fun he=>by rw[m.A];exact uE q he) ah)
 obtain⟨r,hr,t,_⟩:=EM M.b J;have wD:Hd (∀(W:World) (z:BS),(if nd.kind=6 then up else eH (DH ks nd) (yR ks nd))=z->Sys W w.heap.size B 2 393 404 (ql.set i ⟨eG z,r.ea,r.ec,r.es⟩)->TF w.heap.size 393 404 h W->Cl 285 #[cK B N,eV g N C nv,Iv i,Dc ⟨yR ks nd,(0,0)⟩] W fun r I=>(∃v,r=.returned v)/\∃f,Sys I w.heap.size B 2 393 404 f/\f.map RR.pr=kn N (upto (QU P) (i+1))/\TF w.heap.size 393 404 h I):=by
  intro W z hz h1 h2;have hf:=Cw M.b (D2 vN.o)
  have:=tp g C nv B w.heap.size i S P _ ⟨yR ks nd,(0,0)⟩ W (Z.b.tf h2 aj aj aj aj) HH.b (by rw[<-m.a];exact J) h1 (by rw[ke,<-m.a];exact yd M.b) (bw Z.a.size h2.low.size) (by
   intro x hx;rcases gN hx with hx|hx
   ·exact hf x hx
   ·rw[hx];exact hf r (aL hr))
  rw[<-m.a]at this;refine this.mono ?_;rintro r' I ⟨h3,f,h4,h5,h6⟩;refine⟨h3,f,h4,h5.trans (yY M.b hr ?_),h2.trans h6⟩;unfold QU Yh Yi;rw[u,<-m.A,<-hz,HU.o]
 have X:Hd (ql[i]?=some r/\r.st=eG (0,0)):=⟨hr,by rw[t];simp[upto,OH,eG]⟩;obtain⟨ev,hev⟩:=Ea (yR ks nd);obtain⟨kl,Tz⟩:=Ea (DH ks nd);rw[<-hev]at Za;rw[<-Tz]at HKL;rw[<-hev,<-Tz]at wD HWO;obtain⟨wo,hwo⟩:=Ea (eH kl ev);rw[<-hwo]at wD HWO;obtain⟨kind,var,op,test,⟨ai,av,ac⟩,⟨bi,bv,bc⟩,goal⟩:=nd;obtain⟨d0,d1,d2,d3,d4,d5,d6,d7,d8,d9,d10,d11,d12,d13⟩:=Mr cc;simp only[aK,b!,cK,eV,Dc]at Za HKL HWO wD;clear cc hev Tz hwo vD LB u q hc wj Rq p hr t
 go_upto_region 6 with(fail)
 generalize hV:wr.alloc (.cells #[.string bj,.slice wa wl wc,Iv kind,Iv var,Iv op,Iv test,.bool ai,Iv av,Iv ac,.bool bi,Iv bv,Iv bc,.slice ea el ec,.string goal] 152)=V;have H:Hd (Bl wr V/\d' V wr.heap.size #[.string bj,.slice wa wl wc,Iv kind,Iv var,Iv op,Iv test,.bool ai,Iv av,Iv ac,.bool bi,Iv bv,Iv bc,.slice ea el ec,.string goal] 152):=by subst hV;exact⟨aC _ _,bf _ _⟩
 clear hV d0 d1 d2 d3 d4 d5 d6 d7 d8 d9 d10 d11 d12 d13;obtain⟨F,y⟩:=ae H.A
 go_upto_region 7 with(go_at_call 287;refine(Za.o _ H.a).mono ?_;rintro e G ⟨rfl,A⟩;have z6:=hid A;clear A F y)
 have HX:Hd (Bl wr (G.alloc (.cells #[Uv ev.1,Uv ev.2] 267))/\d' (G.alloc (.cells #[Uv ev.1,Uv ev.2] 267)) wr.heap.size #[.string bj,.slice wa wl wc,Iv kind,Iv var,Iv op,Iv test,.bool ai,Iv av,Iv ac,.bool bi,Iv bv,Iv bc,.slice ea el ec,.string goal] 152/\d' (G.alloc (.cells #[Uv ev.1,Uv ev.2] 267)) G.heap.size #[Uv ev.1,Uv ev.2] 267/\d' (G.alloc (.cells #[Uv ev.1,Uv ev.2] 267)) K (bV B N) 260/\d' (G.alloc (.cells #[Uv ev.1,Uv ev.2] 267)) w.heap.size (cN g N C nv) 86):=by
  have D:=aq (aq H.a z6.o) (aC G (.cells #[Uv ev.1,Uv ev.2] 267));exact⟨D,aE (aC _ _) (aE z6.o H.A),bf _ _,aE D (M.B.box Z.G aj aj),aE D (M.B.box Z.f aj aj)⟩
 have hwx:wr.heap.size<G.heap.size:=by have:=z6.o.size;have:=blt H.A;omega
 have hrw:=blt M.a.fB;generalize G.alloc (.cells #[Uv ev.1,Uv ev.2] 267)=O at HX⊢;generalize G.heap.size=eb at HX hwx⊢;clear H z6 Za;have z7:Hd (∀W,TF w.heap.size 393 404 O W->e' W wr.heap.size 0 (.string bj)/\e' W wr.heap.size 1 (.slice wa wl wc)/\e' W wr.heap.size 2 (Iv kind)/\e' W wr.heap.size 3 (Iv var)/\e' W wr.heap.size 4 (Iv op)/\e' W wr.heap.size 5 (Iv test)/\e' W wr.heap.size 6 (.bool ai)/\e' W wr.heap.size 7 (Iv av)/\e' W wr.heap.size 8 (Iv ac)/\e' W wr.heap.size 9 (.bool bi)/\e' W wr.heap.size 10 (Iv bv)/\e' W wr.heap.size 11 (Iv bc)/\e' W wr.heap.size 12 (.slice ea el ec)/\e' W wr.heap.size 13 (.string goal)/\e' W K 0 (b? B N)/\e' W eb 0 (Uv ev.1)/\e' W eb 1 (Uv ev.2)):=by
  intro W U;have l:=(ae (U.box HX.b aj aj)).1;have q2:=(ae (U.box HX.d aj aj)).1;have q3:=(ae (U.box HX.c aj aj)).1;exact⟨l 0,l 1,l 2,l 3,l 4,l 5,l 6,l 7,l 8,l 9,l 10,l 11,l 12,l 13,q2 0,q3 0,q3 1⟩
 have hXs:w.heap.size<=O.heap.size:=bw Ji HX.a.size;obtain⟨s0,s1,s2,s3,s4,s5,s6,s7,s8,s9,s10,s11,s12,s13,s14,s15,s16⟩:=z7.o O (TF.refl _ _ _ _);have m1:B≠K:=ah
 have m2:B≠wr.heap.size:=ah
 have m3:B≠eb:=ah
 have m4:=m1.symm;have m5:=m2.symm;have m6:=m3.symm
 go_region_held3 (fun I=>I.cell? (Ad wr.heap.size 0)=some (.string bj)/\I.cell? (Ad wr.heap.size 1)=some (.slice wa wl wc)/\I.cell? (Ad wr.heap.size 2)=some (Iv kind)/\I.cell? (Ad wr.heap.size 3)=some (Iv var)/\I.cell? (Ad wr.heap.size 4)=some (Iv op)/\I.cell? (Ad wr.heap.size 5)=some (Iv test)/\I.cell? (Ad wr.heap.size 6)=some (.bool ai)/\I.cell? (Ad wr.heap.size 7)=some (Iv av)/\I.cell? (Ad wr.heap.size 8)=some (Iv ac)/\I.cell? (Ad wr.heap.size 9)=some (.bool bi)/\I.cell? (Ad wr.heap.size 10)=some (Iv bv)/\I.cell? (Ad wr.heap.size 11)=some (Iv bc)/\I.cell? (Ad wr.heap.size 12)=some (.slice ea el ec)/\I.cell? (Ad wr.heap.size 13)=some (.string goal)/\I.cell? (Ad K 0)=some (b? B N)/\I.cell? (Ad eb 0)=some (Uv ev.1)/\I.cell? (Ad eb 1)=some (Uv ev.2)) (go_keep) ((first|(go_at_call 288;refine(HKL.o _ (aq HX.a ay)).mono ?_;rintro e X3 ⟨rfl,Y⟩;have L:Bl O X3:=aq ay Y;have HX3:=hid L;obtain⟨p0,p1,p2,p3,p4,p5,p6,p7,p8,p9,p10,p11,p12,p13,p14,p15,p16⟩:=z7.o X3 (TF.aR L hXs);clear Y L)|(go_at_call 153;refine(HWO.o _).mono ?_;rintro e X4 ⟨rfl,nI⟩;have L:Bl O X4:=aq (aq HX3.o ay) nI;have HX4:=hid L;obtain⟨o0,o1,o2,o3,o4,o5,o6,o7,o8,o9,o10,o11,o12,o13,o14,o15,o16⟩:=z7.o X4 (TF.aR L hXs);obtain⟨⟨z1,z2⟩,z3,z4⟩:=((M.a.below HX.a).below L).two X.a X.A;clear nI L)))
 all_goals
  have zZ:Hd (Sys ((X4.setCell (Ad B (i*3)) (Uv wo.1)).setCell (Ad B (i*3+1)) (Uv wo.2)) w.heap.size B 2 393 404 (ql.set i ⟨eG wo,r.ea,r.ec,r.es⟩)/\TF w.heap.size 393 404 h ((X4.setCell (Ad B (i*3)) (Uv wo.1)).setCell (Ad B (i*3+1)) (Uv wo.2))/\TF w.heap.size 393 404 O ((X4.setCell (Ad B (i*3)) (Uv wo.1)).setCell (Ad B (i*3+1)) (Uv wo.2))):=by
   have D:=aq HX.a HX4.o;have hs:=M.a.below D;have iX:=hs.r? (k:=i) (v:=Uv wo.1) (v':=Uv wo.2);exact⟨hs.start aj X.a X.A,(M.B.trans (TF.aR D Ji)).trans iX,(TF.aR HX4.o hXs).trans iX⟩
  generalize(X4.setCell (Ad B (i*3)) (Uv wo.1)).setCell (Ad B (i*3+1)) (Uv wo.2)=X5 at zZ⊢;clear HX3 HX4
  try clear z1 z2 z3 z4
  have Lz:=dv (fun x=>x) (rfl:ks.length=ks.length);obtain⟨F,y⟩:=ae (zZ.B.box HX.b aj aj);by_cases hk:kind=6;rotate_left
  ·clear F y
   obtain⟨F,y⟩:=ae (zZ.B.box HX.b aj aj)
   go_upto_region 10 with fail
   clear F y;have HBC:Hd (Cl 285 #[.agg (bV B N),.agg (cN g N C nv),Iv i,.agg #[Uv ev.1,Uv ev.2,Uv 0,Uv 0]] X5 fun r I=>(∃v,r=.returned v)/\∃f,Sys I w.heap.size B 2 393 404 f/\f.map RR.pr=kn N (upto (QU P) (i+1))/\TF w.heap.size 393 404 h I):=wD.o X5 _ (by simp[hk]) zZ.a zZ.b;obtain⟨F,y⟩:=ae (zZ.B.box HX.d aj aj);obtain⟨y1,y2⟩:=ae (zZ.B.box HX.D aj aj);obtain⟨z1,z2⟩:=ae (zZ.B.box HX.c aj aj);exact Xj
  go_upto_region 9 with fail
  clear F y;obtain⟨F,y⟩:=ae (zZ.B.box HX.d aj aj);obtain⟨⟨z1,z2⟩,z3,z4⟩:=zZ.a.two (k:=i) (r:=⟨eG wo,r.ea,r.ec,r.es⟩) (s:=wo) (by rw[eQ,aD rfl,aD (bn.1 X.a).1]) rfl
  go_region_law (go_simp;refine bA (Ox.o _) ?_;rintro e X6 ⟨rfl,wh⟩;have HX6:Hd (Bl X5 X6):=aq ay wh;clear wh F y z1 z2 z3 z4;obtain⟨F,y⟩:=ae (aE HX6.o (zZ.B.box HX.d aj aj));obtain⟨⟨z1,z2⟩,z3,z4⟩:=(zZ.a.below HX6.o).two (k:=i) (r:=⟨eG wo,r.ea,r.ec,r.es⟩) (s:=wo) (by rw[eQ,aD rfl,aD (bn.1 X.a).1]) rfl)
  all_goals
   have HX7:Hd (Sys ((X6.setCell (Ad B (i*3)) (Uv up.1)).setCell (Ad B (i*3+1)) (Uv up.2)) w.heap.size B 2 393 404 (ql.set i ⟨eG up,r.ea,r.ec,r.es⟩)/\TF w.heap.size 393 404 h ((X6.setCell (Ad B (i*3)) (Uv up.1)).setCell (Ad B (i*3+1)) (Uv up.2))/\TF w.heap.size 393 404 O ((X6.setCell (Ad B (i*3)) (Uv up.1)).setCell (Ad B (i*3+1)) (Uv up.2))):=by
    have hs:=zZ.a.below HX6.o;have h5:w.heap.size<=X5.heap.size:=bw hXs zZ.B.low.size;have iX:=hs.r? (k:=i) (v:=Uv up.1) (v':=Uv up.2);have t:=hs.start (k:=i) (r:=⟨eG wo,r.ea,r.ec,r.es⟩) (s:=wo) (z:=up) aj (by rw[eQ,aD rfl,aD (bn.1 X.a).1]) rfl;rw[w!]at t;exact⟨t,(zZ.b.trans (TF.aR HX6.o h5)).trans iX,(zZ.B.trans (TF.aR HX6.o h5)).trans iX⟩
   generalize(X6.setCell (Ad B (i*3)) (Uv up.1)).setCell (Ad B (i*3+1)) (Uv up.2)=X7 at HX7⊢;clear HX6 zZ F y z1 z2 z3 z4;have HBC:Hd (Cl 285 #[.agg (bV B N),.agg (cN g N C nv),Iv i,.agg #[Uv ev.1,Uv ev.2,Uv 0,Uv 0]] X7 fun r I=>(∃v,r=.returned v)/\∃f,Sys I w.heap.size B 2 393 404 f/\f.map RR.pr=kn N (upto (QU P) (i+1))/\TF w.heap.size 393 404 h I):=wD.o X7 _ (by simp[hk]) HX7.a HX7.b;obtain⟨F,y⟩:=ae (HX7.B.box HX.d aj aj);obtain⟨y1,y2⟩:=ae (HX7.B.box HX.D aj aj);obtain⟨z1,z2⟩:=ae (HX7.B.box HX.c aj aj);exact Xj
end
section
variable {P:Pm} {i f:Nat}
def SY(hi:i<P.nd.length)(hl:P.nd.length<=60)(hf:f<128):bt (yR P.ex (P.at i)) f=P.ev i f:=by
 have C:P.at i∈P.nd:=by
  unfold Pm.at;rw[List.getD,bk hi];exact eL hi
 have W:=rE P;unfold yR Pm.ev;rw[Da];by_cases H:JC (P.at i)=true;rotate_left
 ·rw[aA H,aA H,iW]
 have d:=uE C H;have J:=w6 d;rw[aD H,aD H,k? _ _ hf (by simp;omega)];cases E:P.ex[f]? with
 |none=>
  have:P.ex.length<=f:=qL.1 E;simp;omega
 | some y=>
  have Z:=(bn.1 E).1;have v:P.ex.Nodup:=N2 _;simp only[ja];refine wO.2 ⟨fun e=>?_,fun e=>?_⟩
  ·subst e
   have:=List.getElem_idxOf J;have O:=(bn.1 E).2;rw[<-O,this]
  subst e;have O:=(bn.1 E).2;have:=v.idxOf_getElem f Z;rw[O]at this;exact this.symm
def SX{ks:List Key}{v:Int}{f:Nat}(hf:f<128):∀m,m<=60->m<=ks.length->bt (Gy ks v m) f=(decide (f<m)&&match ks[f]? with|some y=>sO y v|none=>false)
 |0,_,_=>by simp[Gy,iW]
 | m+1,h,hl=>by
  have B:=SX (ks:=ks) (v:=v) hf m ah ah;have a:ks.getD m kx0=ks[m]:=by rw[List.getD,bk ah];rfl
  rw[yB,a];have z:∀b:Bool,(decide (f<m+1)&&b)=((decide (f<m)&&b)||(decide (f=m)&&b)):=by
   intro b;cases b
   ·simp
   simp only[w7];rw[<-Bool.decide_or];exact wO.2 ah
  split
  ·rename_i t
   rw[gC,B,k? _ _ hf (by simp;omega),z]
   congr 1
   by_cases e:f=m
   ·subst e
    rw[bk ah];simp[t]
   simp[e]
  rename_i t
  rw[B,z];by_cases e:f=m
  ·subst e
   rw[bk ah];simp[t]
  simp[e]
def YX(hl:P.nd.length<=60)(hf:f<128):bt (DH P.ex (P.at i)) f=P.kl i f:=by
 have W:=rE P;unfold DH Pm.kl;cases hd:jf (P.at i)
 ·simp[iW]
 rw[aD rfl,SX hf _ ah (aF _)];simp only[fj];cases E:P.ex[f]? with
 |none=>simp
 |some y=>
  have:=(bn.1 E).1;simp[this]
end
section
variable {n f:Nat} {P:Pm} {S:SN->BS} {E:Nat->Ef} {r:BS×List (Nat×Ef)}
def SR{f:Nat}(hf:f<128):∀(os:List ot) (u:BS),(∀o∈os,o.isVar=true->0<=o.var/\o.var<128)->bt (os.foldl (fun s o=>if o.isVar then eP s (cH [o.var.toNat]) else s) u) f=(bt u f||os.any fun o=>o.isVar&&o.var==(f:Int))
 |[],u,_=>ak
 |o :: os,u,h=>by
  rw[gx,SR hf os _ (fun x E=>h x (by simp[E])),wS];cases t:o.isVar
  ·simp
  have a:=h o ak t;rw[aD rfl,gC,k? _ _ hf (by simp;omega),wN]
  congr 1
  congr 1
  simp only[fj,ja];rw[cR,tM,eJ];omega
def ad4{n:SN}(h:∀o∈nD n,o.isVar=true->0<=o.var/\o.var<128)(hf:f<128):bt (Pw n) f=Zn n (f:Int):=by
 unfold Pw Gp;rw[SR hf _ _ h,iW,jg];unfold nD Zn fm;split
 ·simp
 split
 ·simp
 simp
def T9(h:cE P){n:SN}(hn:n∈P.nd)(E:Zn n (f:Int)=true):f<P.nv:=by
 unfold Zn at E;simp only[dO,aS,bm,eJ]at E;rcases E with⟨⟨G,O⟩,Y⟩|⟨⟨G,O⟩,Y⟩
 ·have:=h.a n hn G O;omega
 have:=h.b n hn G O;omega
def vL(P:Pm)(S:SN->BS)(E:SN->Ef):RS:=(List.range P.nd.length).map fun n=>(S (P.at n),(P.qY n).map fun t=>(t,E (P.at n)))
def SQ(P:Pm)(S:SN->BS)(E:SN->Ef):Ht (vL P S E)=kn P.nd.length fun n=>(eG (S (P.at n)),(P.qY n).map fun t=>(t,u? (E (P.at n)))):=by
 unfold Ht vL;rw[kJ];refine eM fun n _=>?_
 simp[Function.comp]
def Xi{p:Prop}(h:p:=by
 have hl:=(bn.1 h).1;simp at hl;rw[bG,jX hl]at h;simp at h
 exact⟨hl,h.symm⟩):p:=h
def iV{E:SN->Ef}(h:(vL P S E)[n]?=some r):n<P.nd.length/\r=(S (P.at n),(P.qY n).map fun t=>(t,E (P.at n))):=by
 unfold vL at h;exact Xi
def Z3(h:cE P)(m:Nat):∀t∈P.qY m,t<P.nd.length:=by
 unfold Pm.qY;rw[List.getD];cases e:P.nx[m]? with
 |none=>simp
 |some l=>exact(h.nx l (aL e)).2
def at_mem{i:Nat}(hi:i<P.nd.length):P.at i∈P.nd:=by
 unfold Pm.at;rw[List.getD,bk hi];exact eL hi
def LY{E:SN->Ef}(h:cE P)(hS:∀n∈P.nd,bF (S n))(i:∀n∈P.nd,DF (E n)):DB (vL P S E) P.nd.length:=by
 refine⟨by simp[vL],h.most,fun r L=>?_⟩;obtain⟨n,J⟩:=i!.1 L;obtain⟨hl,rfl⟩:=iV J;refine⟨hS _ (at_mem hl),?_,fun e H=>?_⟩
 ·have:=sD h n
  simp;omega
 obtain⟨t,N,rfl⟩:=bP.1 H;exact⟨i _ (at_mem hl),Z3 h n t N⟩
def BQ:bF (0,0):=⟨aj,aj⟩
def aag(h:cE P){n:SN}(hn:n∈P.nd):DF (QW n):=by
 unfold QW;split
 ·rename_i hd
  have:=h.var n hn (by simpa[jf]using hd);have:=h.nv;exact⟨oT ah,BQ⟩
 exact⟨BQ,BQ⟩
def U3(h:cE P):zb P 2 (vL P Pw QW):=by
 have Z:=h.nv;have a:P.facts 2=P.nv:=by simp[Pm.facts]
 refine⟨LY h (fun n J=>by have:=Hj (nD n).length (nD n) (IJ h J);rw[cP (aF _)]at this;exact this) (fun n J=>aag h J),ah,?_,?_,?_,?_⟩
 ·intro n r L f V
  obtain⟨hl,rfl⟩:=iV L;have C:=at_mem hl;simp only;rw[ad4 (IJ h C) V,a];have e:P.st 2 n f=Zn (P.at n) f:=by simp[Pm.st]
  rw[e];cases E:Zn (P.at n) (f:Int)
  ·simp
  simp[T9 h C E]
 ·intro n r L
  obtain⟨hl,rfl⟩:=iV L;simp[Pm.Ya,wH]
 ·intro n r L e H f V
  obtain⟨hl,rfl⟩:=iV L;obtain⟨t,N,rfl⟩:=bP.1 H;have:(QW (P.at n)).add=(0,0):=by unfold QW;split<;>rfl
  simp only;rw[this,iW];simp[Pm.ad]
 intro n r L e H f V;obtain⟨hl,rfl⟩:=iV L;obtain⟨t,N,rfl⟩:=bP.1 H;have C:=at_mem hl;have z:P.ps 2 n t f=!(jf (P.at n)&&(P.at n).var==(f:Int)):=by simp[Pm.ps]
 simp only;rw[z,wR];unfold QW;cases hd:jf (P.at n)
 ·simp[YT,iW]
 have b:=h.var _ C (by simpa[jf]using hd);rw[aD rfl,k? _ _ ah (by simp;omega)];simp only[fj,ja];rw[cR,tM,eJ];omega
def U9(h:cE P):zb P 4 (vL P (Yh P.ex) (Yi P.ex)):=by
 have B:=h.most;have a:=rE P;have b:P.facts 4=P.ex.length:=by simp[Pm.facts]
 have c:∀n∈P.nd,bF (yR P.ex n):=fun n J=>JD (fun H=>uE J H) ah
 have k:∀i f,P.kl i f=true->f<P.ex.length:=by
  intro i f X;unfold Pm.kl at X;cases E:P.ex[f]? with
  |none=>rw[E]at X;simp at X
  |some y=>exact(bn.1 E).1
 refine⟨LY h (fun n J=>?_) (fun n J=>⟨c n J,BQ⟩),ah,?_,?_,?_,?_⟩
 ·unfold Yh
  split
  ·exact oG _ ah
  exact jj _ _
 ·intro n r L f V
  obtain⟨hl,rfl⟩:=iV L;have C:=at_mem hl;have e:P.st 4 n f=((P.at n).kind==6||(P.kl n f&&!P.ev n f)):=by simp[Pm.st]
  simp only;rw[e,b];unfold Yh;by_cases X:(P.at n).kind=6
  ·rw[aD X,vm _ _ ah V]
   simp[X]
  rw[aA X,kj _ _ _ (c _ C) V,YX B V,SY hl B V];have:((P.at n).kind==6)=false:=by simp[X]
  rw[this,jg];cases l:P.kl n f
  ·simp
  simp[k n f l]
 ·intro n r L
  obtain⟨hl,rfl⟩:=iV L;simp[Pm.Ya,wH]
 ·intro n r L e H f V
  obtain⟨hl,rfl⟩:=iV L;obtain⟨t,N,rfl⟩:=bP.1 H;simp[Yi,iW,Pm.ad]
 intro n r L e H f V;obtain⟨hl,rfl⟩:=iV L;obtain⟨t,N,rfl⟩:=bP.1 H;have z:P.ps 4 n t f=!P.ev n f:=by simp[Pm.ps]
 simp only[Yi];rw[z,wR,SY hl B ah]
def vF(P:Pm)(S:Nat->BS)(E:Nat->Ef):RS:=(List.range P.nd.length).map fun n=>(S n,(List.range P.nd.length).flatMap fun m=>(i7 n 0 (P.qY m)).map fun _=>(m,E m))
def RV(P:Pm)(S:Nat->BS)(E:Nat->Ef):Ht (vF P S E)=kn P.nd.length (uB P (fun n=>eG (S n)) E P.nd.length):=by
 unfold Ht vF;rw[kJ];refine eM fun n _=>?_
 simp[wH,uB,List.map_flatMap]
def iR{S:Nat->BS}(h:(vF P S E)[n]?=some r):n<P.nd.length/\r=(S n,(List.range P.nd.length).flatMap fun m=>(i7 n 0 (P.qY m)).map fun _=>(m,E m)):=by
 unfold vF at h;exact Xi
def A6(n:Nat):∀(l:List (List Nat)) (i:Nat),(gA n i l).map Prod.fst=(List.range l.length).flatMap fun j=>(i7 n 0 (l.getD j [])).map fun _=>i+j
 |[],i=>by simp[gA]
 |x :: l,i=>by
  have B:=A6 n l (i+1);rw[gA,iq,B,bT,List.range_succ_eq_map,bY,List.flatMap_map]
  congr 1
  ·simp[wH]
  have e:∀j,i+1+j=i+(j+1):=fun j=>ah
  simp[e]
def yp{e:Nat×Ef}(h:e∈(List.range P.nd.length).flatMap fun m=>(i7 n 0 (P.qY m)).map fun _=>(m,E m)):e.1<P.nd.length/\e.2=E e.1:=by
 obtain⟨m,C,H⟩:=List.mem_flatMap.1 h;obtain⟨_,_,rfl⟩:=bP.1 H;exact⟨bZ.1 C,rfl⟩
def LJ{S:Nat->BS}(h:cE P)(hS:∀n,bF (S n))(i:∀m,m<P.nd.length->DF (E m)):DB (vF P S E) P.nd.length:=by
 refine⟨by simp[vF],h.most,fun r L=>?_⟩;obtain⟨n,J⟩:=i!.1 L;obtain⟨hl,rfl⟩:=iR J;refine⟨hS n,?_,fun e H=>?_⟩
 ·have G:=wk (st:=fun n=>eG (S n)) (E:=E) (n:=n) (sD h) P.nd.length
  have O:=h.most;have Y:((List.range P.nd.length).flatMap fun m=>(i7 n 0 (P.qY m)).map fun _=>(m,E m)).length=(uB P (fun n=>eG (S n)) E P.nd.length n).2.length:=by simp[uB,List.length_flatMap]
  simp only;rw[Y];omega
 obtain⟨G,O⟩:=yp H;exact⟨by rw[O];exact i _ G,G⟩
def RU{p:Int}(hp:p=1∨p=3)(hx:P.nx.length=P.nd.length):((List.range P.nd.length).flatMap fun m=>(i7 n 0 (P.qY m)).map fun _=>(m,E m)).map Prod.fst=P.Ya p n:=by
 have a:¬(p=2∨p=4):=ah
 unfold Pm.Ya Pm.ins;rw[aA a,A6,hx,List.map_flatMap];simp[wH,Pm.qY]
def I8(h:cE P)(hx:P.nx.length=P.nd.length):zb P 3 (vF P (fun n=>if n=0 then jK P.ex.length else(0,0)) (fun m=>QZ P.ex (P.at m))):=by
 have B:=h.most;have a:=rE P;have b:P.facts 3=P.ex.length:=by simp[Pm.facts]
 have c:∀n∈P.nd,bF (yR P.ex n):=fun n J=>JD (fun H=>uE J H) ah
 have k:∀i f,P.kl i f=true->f<P.ex.length:=by
  intro i f X;unfold Pm.kl at X;cases hx:P.ex[f]? with
  |none=>rw[hx]at X;simp at X
  |some y=>exact(bn.1 hx).1
 refine⟨LJ h (fun n=>?_) (fun m C=>⟨c _ (at_mem C),Q! ah⟩),ah,?_,?_,?_,?_⟩
 ·split
  ·exact oG _ ah
  exact BQ
 ·intro n r L f V
  obtain⟨hl,rfl⟩:=iR L;have e:P.st 3 n f=(n==0):=by simp[Pm.st]
  simp only;rw[e,b];by_cases o:n=0
  ·rw[aD o,vm _ _ ah V]
   simp[o]
  rw[aA o,iW];simp[o]
 ·intro n r L
  obtain⟨hl,rfl⟩:=iR L;exact RU (aI rfl) hx
 ·intro n r L e H f V
  obtain⟨hl,rfl⟩:=iR L;obtain⟨G,O⟩:=yp H;have z:P.ad 3 e.1 f=P.kl e.1 f:=by simp[Pm.ad]
  rw[O,z,b];simp only[QZ];rw[YX B V];cases l:P.kl e.1 f
  ·simp
  simp[k _ f l]
 intro n r L e H f V;obtain⟨hl,rfl⟩:=iR L;obtain⟨G,O⟩:=yp H;have z:P.ps 3 n e.1 f=!P.ev e.1 f:=by simp[Pm.ps]
 rw[O,z,wR];simp only[QZ];rw[SY G B ah]
end
section
variable {P:Pm} {k f i:Nat}
def Dg:∀(l r:List SN) (i:Nat),qC i (l++r)=qC i l++qC (i+l.length) r
 |[],r,i=>by simp[qC]
 |n :: l,r,i=>by
  have B:=Dg l r (i+1);have e:i+1+l.length=i+(l.length+1):=ah
  rw[dw,qC,qC,B,bT,e];split<;>simp
def De:∀(l:List SN) (i m:Nat),m∈qC i l↔∃j n,l[j]?=some n/\jf n=true/\m=i+j
 |[],i,m=>by simp[qC]
 | x :: l,i,m=>by
  have B:=De l (i+1) m;constructor
  ·intro h
   rw[qC]at h;split at h
   ·rename_i E
    rcases cQ.1 h with rfl|h
    ·exact⟨0,x,rfl,E,ah⟩
    obtain⟨j,n,G,O,Y⟩:=B.1 h;exact⟨j+1,n,by simpa using G,O,ah⟩
   obtain⟨j,n,G,O,Y⟩:=B.1 h;exact⟨j+1,n,by simpa using G,O,ah⟩
  rintro⟨j,n,G,O,Y⟩;rw[qC];cases j with
  |zero=>
   simp at G;subst G;rw[aD O];simp[Y]
  |succ j=>
   have:=B.2 ⟨j,n,by simpa using G,O,ah⟩;split
   ·simp[this]
   exact this
def Bh:∀(l:List SN) (i:Nat),(qC i l).Nodup
 |[],i=>by simp[qC]
 | x :: l,i=>by
  have B:=Bh l (i+1);rw[qC];split
  ·refine tN.2 ⟨fun h=>?_,B⟩
   obtain⟨j,n,_,_,Y⟩:=(De l (i+1) i).1 h;omega
  exact B
def Df:∀(l:List SN) (i:Nat),(qC i l).length<=l.length
 |[],i=>by simp[qC]
 |x :: l,i=>by
  have B:=Df l (i+1);rw[qC];split<;>simp<;>omega
def pZ(P:Pm)(k:Nat):Nat:=P.nv+(qC 0 (P.nd.take k)).length
def Sl(P:Pm):pZ P 0=P.nv:=by simp[pZ,qC]
def V8(P:Pm):pZ P P.nd.length=P.facts 1:=by simp[pZ,Pm.facts]
def Sm(hk:k<P.nd.length):pZ P (k+1)=if jf (P.at k) then pZ P k+1 else pZ P k:=by
 have e:P.at k=P.nd[k]:=by unfold Pm.at;rw[List.getD,bk hk];rfl
 unfold pZ;rw[dS hk,Dg,e];simp only[qC];split<;>simp<;>omega
def JI(hk:k<P.nd.length)(hd:jf (P.at k)=true):(qC 0 P.nd)[pZ P k-P.nv]?=some k:=by
 have e:P.at k=P.nd[k]:=by unfold Pm.at;rw[List.getD,bk hk];rfl
 have G:P.nd=P.nd.take k++P.nd[k] :: P.nd.drop (k+1):=by rw[List.getElem_cons_drop,wY]
 have O:qC 0 P.nd=qC 0 (P.nd.take k)++k :: qC (k+1) (P.nd.drop (k+1)):=by
  conv=>lhs;rw[G]
  rw[Dg,qC,<-e,aD hd];have:0+(P.nd.take k).length=k:=by rw[dL];omega
  rw[this]
 rw[O];unfold pZ;rw[G9,fC (aF _)];simp
def p?{m:Nat}:P.pg f=some m↔m<P.nd.length/\jf (P.at m)=true/\f=pZ P m:=by
 constructor;rotate_left
 ·rintro⟨hl,hd,rfl⟩
  unfold Pm.pg;rw[aA (by unfold pZ;omega)];exact JI hl hd
 intro h;unfold Pm.pg at h;split at h
 ·cases h
 rename_i V
 obtain⟨j,n,G,O,Y⟩:=(De P.nd 0 m).1 (aL h);have U:m=j:=ah
 subst U;have hl:=(bn.1 G).1;have hd:jf (P.at m)=true:=by unfold Pm.at;rw[List.getD,G];exact O
 refine⟨hl,hd,?_⟩;have K:=JI hl hd;have H:=(List.getElem?_inj (bn.1 h).1 (Bh P.nd 0)).1 (h.trans K.symm);have:P.nv<=pZ P m:=by unfold pZ;omega
 omega
def Dh(hk:k<P.nd.length)(hd:jf (P.at k)=true):pZ P k<P.facts 1:=by
 have h:=(bn.1 (JI hk hd)).1;have:P.nv<=pZ P k:=by unfold pZ;omega
 have e:P.facts 1=P.nv+(qC 0 P.nd).length:=by simp[Pm.facts]
 omega
def yN(h:cE P):P.facts 1<=68:=by
 have e:P.facts 1=P.nv+(qC 0 P.nd).length:=by simp[Pm.facts]
 have:=Df P.nd 0;have:=h.most;have:=h.nv;omega
def qx(P:Pm)(i:Nat):BS:=if jf (P.at i) then cH [pZ P i] else(0,0)
def vX(P:Pm)(k v:Nat):BS:=(List.range k).foldl (fun s i=>if jf (P.at i)&&(P.at i).var==(v:Int) then eP s (qx P i) else s) (cH [v])
def uW(P:Pm)(i:Nat):Ef:=if jf (P.at i) then⟨vX P P.nd.length (P.at i).var.toNat,qx P i⟩ else YT
def MG(P:Pm)(n:Nat):BS:=if n=0 then jK P.nv else(0,0)
def Ig(h:cE P)(hi:i<P.nd.length):bF (qx P i):=by
 unfold qx;split
 ·rename_i hd
  have:=Dh hi hd;have:=yN h;exact oT ah
 exact BQ
def oN(P:Pm)(k v:Nat):vX P (k+1) v=if jf (P.at k)&&(P.at k).var==(v:Int) then eP (vX P k v) (qx P k) else vX P k v:=by simp[vX,kK]
def Cn{P:Pm}(h:cE P){v:Nat}(hv:v<128):∀k,k<=P.nd.length->bF (vX P k v)
 |0,_=>oT hv
 |k+1,hk=>by
  rw[oN];split
  ·exact gp (Cn h hv k ah) (Ig h ah)
  exact Cn h hv k ah
def abr(h:cE P)(hi:i<P.nd.length)(hf:f<128):bt (qx P i) f=(decide (f<P.facts 1)&&(P.pg f==some i)):=by
 have F:=yN h;have e:(P.pg f==some i)=decide (jf (P.at i)=true/\f=pZ P i):=by
  rw[cR,eJ,tM,p?];exact⟨fun x=>x.2,fun x=>⟨hi,x⟩⟩
 rw[e];unfold qx;by_cases hd:jf (P.at i)=true
 ·have J:=Dh hi hd
  rw[aD hd,k? _ _ hf (by simp;omega)];rw[cR];simp[hd];omega
 rw[aA hd,iW];simp[hd]
def SV{P:Pm}(h:cE P){v f:Nat}(hv:v<128)(hf:f<128):∀k,k<=P.nd.length->bt (vX P k v) f=(decide (f=v)||decide (∃i,i<k/\jf (P.at i)=true/\(P.at i).var=(v:Int)/\f=pZ P i))
 |0,_=>by
  rw[show vX P 0 v=cH [v] from rfl,k? _ _ hf (by simp;exact hv)];simp
 | k+1,hk=>by
  have B:=SV h hv hf k ah;have F:=yN h;rw[oN];by_cases Z:(jf (P.at k)&&(P.at k).var==(v:Int))=true;rotate_left
  ·rw[aA Z,B]
   congr 1
   refine wO.2 ⟨fun⟨i,G,O⟩=>⟨i,ah,O⟩,fun⟨i,G,O,Y,K⟩=>⟨i,?_,O,Y,K⟩⟩;by_cases H:i=k
   ·subst H
    exact absurd (by simp[O,Y]) Z
   omega
  rw[aD Z,gC,B];simp only[aS,eJ]at Z;have J:=Dh (P:=P) (k:=k) ah Z.1;have e:bt (qx P k) f=decide (f=pZ P k):=by unfold qx;rw[aD Z.1,k? _ _ hf (by simp;omega)];simp
  rw[e,wN]
  congr 1
  rw[cR];simp only[dO,bm];constructor
  ·rintro(⟨i,G,O⟩|G)
   ·exact⟨i,ah,O⟩
   exact⟨k,ah,Z.1,Z.2,G⟩
  rintro⟨i,G,O,Y,K⟩;by_cases H:i=k
  ·subst H;exact aI K
  exact aJ ⟨i,ah,O,Y,K⟩
end
section
variable {P:Pm}
def Sn{f v:Nat}(hf:f<P.facts 1)(hv:v<P.nv):(P.V9 f=(v:Int))↔(f=v∨∃i,i<P.nd.length/\jf (P.at i)=true/\(P.at i).var=(v:Int)/\f=pZ P i):=by
 unfold Pm.V9;by_cases h:f<P.nv
 ·rw[aD h]
  constructor
  ·intro e;left;omega
  rintro(e|⟨i,G,O,Y,K⟩)
  ·omega
  have:P.nv<=pZ P i:=by unfold pZ;omega
  omega
 rw[aA h];have hl:f-P.nv<(qC 0 P.nd).length:=by
  have e:P.facts 1=P.nv+(qC 0 P.nd).length:=by simp[Pm.facts]
  omega
 cases hd:P.pg f with
 |none=>
  unfold Pm.pg at hd;rw[aA h,bk hl]at hd;cases hd
 |some m=>
  obtain⟨G,O,Y⟩:=p?.1 hd;simp only;constructor
  ·intro e;exact aI ⟨m,G,O,e,Y⟩
  rintro(e|⟨i,u,q,S,D⟩)
  ·omega
  have:=p?.2 ⟨u,q,D⟩;rw[hd]at this;cases this;exact S
def ZE(h:cE P){i:Nat}(hi:i<P.nd.length):DF (uW P i):=by
 unfold uW;split
 ·rename_i hd
  have:=h.var _ (at_mem hi) (by simpa[jf]using hd);have:=h.nv;exact⟨Cn h ah _ (aF _),Ig h hi⟩
 exact⟨BQ,BQ⟩
def Ey(h:cE P)(hx:P.nx.length=P.nd.length):zb P 1 (vF P (MG P) (uW P)):=by
 have B:=h.most;have Z:=h.nv;have F:=yN h;have W:P.nv<=P.facts 1:=by simp[Pm.facts]
 refine⟨LJ h (fun n=>?_) (fun m C=>ZE h C),F,?_,?_,?_,?_⟩
 ·unfold MG
  split
  ·exact oG _ ah
  exact BQ
 ·intro n r L f V
  obtain⟨hl,rfl⟩:=iR L;have e:P.st 1 n f=(n==0&&decide (f<P.nv)):=by simp[Pm.st]
  simp only;rw[e];unfold MG;by_cases o:n=0
  ·rw[aD o,vm _ _ ah V,cR]
   simp[o];omega
  rw[aA o,iW];simp[o]
 ·intro n r L
  obtain⟨hl,rfl⟩:=iR L;exact RU (aJ rfl) hx
 ·intro n r L e H f V
  obtain⟨hl,rfl⟩:=iR L;obtain⟨G,O⟩:=yp H;have z:P.ad 1 e.1 f=(P.pg f==some e.1):=by simp[Pm.ad]
  rw[O,z];by_cases hd:jf (P.at e.1)=true
  ·have I:(uW P e.1).add=qx P e.1:=by unfold uW;rw[aD hd]
   rw[I,abr h G V]
  have I:(uW P e.1).add=(0,0):=by unfold uW;rw[aA hd];rfl
  have N:(P.pg f==some e.1)=false:=by
   rw[uL,Ne,eJ,p?];exact fun x=>hd x.2.1
  rw[I,N,iW,BG]
 intro n r L e H f V;obtain⟨hl,rfl⟩:=iR L;obtain⟨G,O⟩:=yp H;have z:P.ps 1 n e.1 f=!(jf (P.at e.1)&&(P.at e.1).var==P.V9 f):=by simp[Pm.ps]
 rw[O,z,wR];by_cases hd:jf (P.at e.1)=true
 ·have t:=h.var _ (at_mem G) (by simpa[jf]using hd)
  obtain⟨v,ev⟩:∃v:Nat,(P.at e.1).var=(v:Int):=⟨(P.at e.1).var.toNat,ah⟩;have I:(uW P e.1).drop=vX P P.nd.length v:=by unfold uW;rw[aD hd,ev];rfl
  have p:v<P.nv:=ah
  rw[I,SV h ah ah _ (aF _),hd,ev,fj,cR,dO,tM,tM,eJ];exact(Sn V p).symm.trans ⟨Eq.symm,Eq.symm⟩
 have I:(uW P e.1).drop=(0,0):=by unfold uW;rw[aA hd];rfl
 rw[I,iW];simp[hd]
end
def vS{w:World}{B rb:Nat}{rl:List RR}{R:RS}(h:Sys w B rb 2 393 404 rl)(hp:rl.map RR.pr=Ht R):nO w B rb R:=⟨rl,h,hp⟩
def adn(P:Pm):kn P.nd.length (QV P)=Ht (vL P Pw QW):=(SQ P Pw QW).symm
def adl(P:Pm):kn P.nd.length (QU P)=Ht (vL P (Yh P.ex) (Yi P.ex)):=(SQ P (Yh P.ex) (Yi P.ex)).symm
def adp(P:Pm):kn P.nd.length (lkR P)=Ht (vF P (fun n=>if n=0 then jK P.ex.length else(0,0)) (fun m=>QZ P.ex (P.at m))):=(RV P _ _).symm
def Pm.rs(P:Pm)(p:Int):RS:=if p=1 then vF P (MG P) (uW P) else if p=2 then vL P Pw QW else if p=3 then vF P (fun n=>if n=0 then jK P.ex.length else(0,0)) (fun m=>QZ P.ex (P.at m)) else vL P (Yh P.ex) (Yi P.ex)
def KE{P:Pm}(h:cE P)(hx:P.nx.length=P.nd.length){p:Int}(hp:1<=p/\p<=4):zb P p (P.rs p):=by
 unfold Pm.rs;by_cases G:p=1
 ·subst G;rw[aD rfl];exact Ey h hx
 rw[aA G];by_cases O:p=2
 ·subst O;rw[aD rfl];exact U3 h
 rw[aA O];by_cases Y:p=3
 ·subst Y;rw[aD rfl];exact I8 h hx
 rw[aA Y];obtain rfl:p=4:=ah
 exact U9 h
section
variable {W:World} {B q t n c k:Nat} {l:List BS}
def dh(l:List BS):List Value:=l.flatMap eG
def Ho(l:List BS)(s:BS):dh (l++[s])=dh l++eG s:=by simp[dh]
def Ar(l:List BS):(dh l).length=l.length*2:=by
 induction l with
 |nil=>rfl
 |cons a l B=>simp only[dh,bY,bu,bT,eG,eI]at B⊢;omega
def Aq:∀(l:List BS) (k:Nat) (z:BS),k<l.length->((dh l).set (k*2) (Uv z.1)).set (k*2+1) (Uv z.2)=dh (l.set k z)
 |[],k,z,h=>by simp at h
 |a :: l,0,z,_=>by simp[dh,eG]
 |a :: l,k+1,z,h=>by
  have B:=Aq l k z (by simpa using h);have Q:(k+1)*2=k*2+1+1:=ah
  have b:(k+1)*2+1=k*2+1+1+1:=ah
  simp only[dh,bY,eG,dw,dT,cU,Q]at B⊢;rw[B]
def Ed:∀(l:List BS) (k:Nat) (s:BS),l[k]?=some s->(dh l)[k*2]?=some (Uv s.1)/\(dh l)[k*2+1]?=some (Uv s.2)
 |[],k,s,h=>by simp at h
 |a :: l,0,s,h=>by simp at h;subst h;simp[dh,eG]
 |a :: l,k+1,s,h=>by
  have B:=Ed l k s (by simpa using h);have Q:(k+1)*2=k*2+1+1:=ah
  simp only[dh,bY,eG,dw,dT,Q,ox]at B⊢;exact B
def ET{z:BS}(h:W.ownsRow B t 2 (ix q n c) n (dh l))(hk:k<n):
  ((W.setCell (Ad q (k*2)) (Uv z.1)).setCell (Ad q (k*2+1)) (Uv z.2)).ownsRow B t 2 (ix q n c) n (dh (l.set k z)):=by
 have hl:l.length=n:=by have:=h.1;rw[Ar]at this;omega
 refine⟨by rw[Ar,ke,hl],?_⟩;rcases h.2 with⟨a,_⟩|⟨g,C,A,Q,e,I,N,m,b,d⟩
 ·cases a
 simp at Q;obtain⟨rfl,rfl⟩:=Q;refine aI ⟨q,c,_,rfl,e,aw (aw I _) _,N,m,by simp[b],?_⟩;rw[O7,O7,List.take_set,List.take_set,d];exact Aq l k z ah
def pO{s:BS}(h:W.ownsRow B t 2 (ix q n c) n (dh l))(hk:l[k]?=some s):
  (W.cell? (Ad q (k*2))=some (Uv s.1)/\W.frozen? (Ad q (k*2))=false)/\W.cell? (Ad q (k*2+1))=some (Uv s.2)/\W.frozen? (Ad q (k*2+1))=false:=by
 have Z:=fun j u U=>h.cells (g:=q) rfl j u U
 obtain⟨G,O⟩:=Ed l k s hk;have f:∀o,W.frozen? (Ad q o)=false:=by
  rcases h.2 with⟨a,_⟩|⟨g,C,A,Q,z,I,_⟩
  ·cases a
  simp at Q;obtain⟨rfl,rfl⟩:=Q;exact(ae I).2
 refine⟨⟨?_,f _⟩,?_,f _⟩
 ·have:=Z _ _ G
  simp only[Addr.add]at this;by_cases R:k*2=0
  ·simpa[R]using this
  simpa[R]using this
 have:=Z _ _ O;simpa[Addr.add]using this
def jC{b m o:Nat}{v u:Value}{M:List Value}(h:W.ownsRow B t m v n M)(hq:v.ownBlock=none∨v.ownBlock≠some b):(W.setCell (Ad b o) u).ownsRow B t m v n M:=by
 refine⟨h.1,?_⟩;rcases h.2 with a|⟨g,C,A,Q,z,I,N⟩
 ·exact aJ a
 refine aI ⟨g,C,A,Q,z,(aZ _ _ _ _ ?_).trans I,N⟩;rintro rfl;rw[Q]at hq;rcases hq with h|h
 ·cases h
 exact h rfl
end
end Go.Proofs.YtmipbiligijcpaaGreatDoor
