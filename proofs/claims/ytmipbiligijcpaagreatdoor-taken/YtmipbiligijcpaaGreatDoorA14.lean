import Derived.Test.YtmipbiligijcpaaGreatDoorA11
namespace Go.Proofs.YtmipbiligijcpaaGreatDoor
set_option linter.all false
set_option maxRecDepth 100000
set_option maxHeartbeats 8000000
section
open Go.RowKit Go.Proofs Go.Maps Tryz
def KC.Tr(a _:VV):Option VV:=some a
def KB.Tr(a b:VV):Option VV:=if (cI a b.lo b.hi).lo<=(cI a b.lo b.hi).hi then some (cI a b.lo b.hi) else none
def F7(a b:VV):n! (bQ a) (bQ b)=bQ (cI a b.lo b.hi):=by
 unfold n! bQ cI;simp only[fE];constructor<;>split<;>omega
def KC.KP(a b:VV):∃m ok,KC.Tr a b=(if ok then some m else none)/\∀w,Cl 388 #[.agg #[],KC.qv a,KC.qv b] w (Rb w (.tuple #[KC.qv m,.bool ok])):=⟨a,true,rfl,fun w=>Nq (.agg #[]) a.any b.any a.lo b.lo w rfl⟩
def KB.KP(a b:VV):∃m ok,KB.Tr a b=(if ok then some m else none)/\∀w,Cl 395 #[.agg #[],KB.qv a,KB.qv b] w (Rb w (.tuple #[KB.qv m,.bool ok])):=by
 refine⟨cI a b.lo b.hi,decide ((cI a b.lo b.hi).lo<=(cI a b.lo b.hi).hi),by unfold KB.Tr;simp,fun w=>?_⟩;have h:=Bk (.agg #[]) (bQ a) (bQ b) w rfl;rw[F7]at h;exact h
def KC.fP(e:PE)(o:ot)(x:VV):PE:=if e.r&&o.isVar then(match KC.Tr (e.at o.var.toNat) x with|some m=>e.put o.var.toNat m|none=>PE.zero) else e
def KB.fP(e:PE)(o:ot)(x:VV):PE:=if e.r&&o.isVar then(match KB.Tr (e.at o.var.toNat) x with|some m=>e.put o.var.toNat m|none=>PE.zero) else e
def qs2 {p:Prop} (h:p:=by
  obtain⟨iv,var,c⟩:=o;obtain⟨ne,P⟩:=Ea (fP e ⟨iv,var,c⟩ x);rw[<-P];simp only[KC.qv,KB.qv]at ho⊢;cases zL:e.r
  · have HN:Hd (ne=e):=by show _=_;rw[P];(first|unfold KC.fP|unfold KB.fP);simp[zL]
    clear P ho;have j:(aH e)[0]?=some (.bool false):=by rw[<-zL];rfl
    clear zL;go_enter qF7,qN8
    go_upto_region 2 with fail
    have HV:=hid (Aa (Gh w (.cells (aH e).toArray aV) (oD iv var c) (.cells #[(dp x),(dn x)] g!) (.cells dE aV)) (dD w (.cells (aH e).toArray aV) (oD iv var c) (.cells #[(dp x),(dn x)] g!) (.cells dE aV)));generalize((((w.alloc (.cells (aH e).toArray aV)).alloc (oD iv var c)).alloc (.cells #[(dp x),(dn x)] g!)).alloc (.cells dE aV))=V at HV⊢;have hr:=aT HV.a.1;have N:=bO (n:=17) HV.a.2.2.2 rfl
    go_wp2_with (first|(refine wpList_load_mid rfl aV (.tmp 5) rfl w.heap.size 0 rfl (aH e) _ hr fH rfl au ?_)|(refine wpList_store_mid rfl aV (.tmp 8) (.tmp 19) rfl (w.heap.size+1+1+1) 0 (aH e).toArray rfl rfl N au (a! _) ?_))
    have A:=bX (cs:=pK) HV.a.2.2.2 (vs:=aH e) rfl;have hL:=run_loadVar_mid (P:=Tryz.prog) (V.setCells (w.heap.size+1+1+1) 0 (aH e)) (w.heap.size+1+1+1) 0 aV (aH e) _ (aT A) fH rfl au;refine aG (v:=.agg (aH e).toArray) (by simp[results,results340,results341,hL,Act.put,asAddr]) rfl ⟨by rw[HN.o],aY _ ah _ _ _ HV.A⟩
  · cases iv
    · have HN:Hd (ne=e):=by show _=_;rw[P];(first|unfold KC.fP|unfold KB.fP);simp
      clear P ho;have j:(aH e)[0]?=some (.bool true):=by rw[<-zL];rfl
      clear zL;go_enter qF7,qN8
      go_upto_region 2 with fail
      have HV:=hid (Aa (Gh w (.cells (aH e).toArray aV) (.cells #[.bool false,Iv var,Iv c] 150) (.cells #[(dp x),(dn x)] g!) (.cells dE aV)) (dD w (.cells (aH e).toArray aV) (.cells #[.bool false,Iv var,Iv c] 150) (.cells #[(dp x),(dn x)] g!) (.cells dE aV)));generalize((((w.alloc (.cells (aH e).toArray aV)).alloc (.cells #[.bool false,Iv var,Iv c] 150)).alloc (.cells #[(dp x),(dn x)] g!)).alloc (.cells dE aV))=V at HV⊢;have hr:=aT HV.a.1;have N:=bO (n:=17) HV.a.2.2.2 rfl
      go_wp2_with (first|(refine wpList_load_mid rfl aV (.tmp 5) rfl w.heap.size 0 rfl (aH e) _ hr fH rfl au ?_)|(refine wpList_store_mid rfl aV (.tmp 8) (.tmp 19) rfl (w.heap.size+1+1+1) 0 (aH e).toArray rfl rfl N au (a! _) ?_))
      have A:=bX (cs:=pK) HV.a.2.2.2 (vs:=aH e) rfl;have hL:=run_loadVar_mid (P:=Tryz.prog) (V.setCells (w.heap.size+1+1+1) 0 (aH e)) (w.heap.size+1+1+1) 0 aV (aH e) _ (aT A) fH rfl au;refine aG (v:=.agg (aH e).toArray) (by simp[results,results340,results341,hL,Act.put,asAddr]) rfl ⟨by rw[HN.o],aY _ ah _ _ _ HV.A⟩
    · obtain⟨k,rfl⟩:∃k:Nat,var=(k:Int):=⟨var.toNat,by have:=(ho rfl).1;omega⟩
      have hk:k<8:=by have:=(ho rfl).2;omega
      have FL:(k:Int)<8:=ah
      have HN:Hd (ne=match Tr (e.at k) x with|some m=>e.put k m|none=>PE.zero):=by show _=_;rw[P];(first|unfold KC.fP|unfold KB.fP);simp[zL]
      have j:(aH e)[0]?=some (.bool true):=by rw[<-zL];rfl
      clear P ho zL;obtain⟨m,ok,hmt,U⟩:=KP (e.at k) x;have H:=hid U;have HWi:=hid (fun W=>kD e k m W hk);rw[hmt]at HN;clear U hmt;simp only[KC.qv,KB.qv]at H HWi;have C:=EH;have S:=EF;go_enter qF7,qN8
      go_upto_region 3 with fail
      have HV:=hid (Aa (Gh w (.cells (aH e).toArray aV) (qp k c) (.cells #[(dp x),(dn x)] g!) (.cells dE aV)) (dD w (.cells (aH e).toArray aV) (qp k c) (.cells #[(dp x),(dn x)] g!) (.cells dE aV)));generalize((((w.alloc (.cells (aH e).toArray aV)).alloc (qp k c)).alloc (.cells #[(dp x),(dn x)] g!)).alloc (.cells dE aV))=V at HV⊢;have z7:Hd (∀i,Below V.heap.size V i->i.cell? (Ad w.heap.size (1+k*2))=some (dp (e.at k))/\i.cell? (Ad w.heap.size (1+k*2+1))=some (dn (e.at k))/\i.cell? (Ad (w.heap.size+1) 0)=some (.bool true)/\i.cell? (Ad (w.heap.size+1) 1)=some (Iv k)/\i.cell? (Ad (w.heap.size+1) 2)=some (Iv c)/\i.cell? (Ad (w.heap.size+1+1) 0)=some (dp x)/\i.cell? (Ad (w.heap.size+1+1) 1)=some (dn x)):=by
        intro i hW;have q1:=(ae (aE hW HV.a.1)).1;have q2:=(ae (aE hW HV.a.2.1)).1;have y:=(ae (aE hW HV.a.2.2.1)).1;exact⟨by rw[q1];exact(de ..).trans (iJ e hk).1,by rw[q1];exact(de ..).trans (iJ e hk).2,q2 0,q2 1,q2 2,y 0,y 1⟩
      have J:w.heap.size+3<V.heap.size:=blt HV.a.2.2.2;have m1:w.heap.size≠V.heap.size:=ah
      have m2:=m1.symm;have m3:w.heap.size+1≠V.heap.size:=ah
      have m4:=m3.symm;have m5:w.heap.size+1+1≠V.heap.size:=ah
      have m6:=m5.symm;obtain⟨E,s1,s2,s3,v,s5,s6⟩:=z7.o V (aM _ _)
      go_region_held3 (fun i=>i.cell? (Ad w.heap.size (1+k*2))=some (dp (e.at k))/\i.cell? (Ad w.heap.size (1+k*2+1))=some (dn (e.at k))/\i.cell? (Ad (w.heap.size+1) 0)=some (.bool true)/\i.cell? (Ad (w.heap.size+1) 1)=some (Iv k)/\i.cell? (Ad (w.heap.size+1) 2)=some (Iv c)/\i.cell? (Ad (w.heap.size+1+1) 0)=some (dp x)/\i.cell? (Ad (w.heap.size+1+1) 1)=some (dn x)) (go_keep) (first|((first|go_at_call 388 | go_at_call 395);refine(H.o _).mono ?_;rintro r G ⟨rfl,hb⟩;have X:G.heap[V.heap.size]?=some (.cells Gr g! (0,0)):=aE hb (by first|exact bf V _|exact bf V.drew _);obtain⟨u,q⟩:=ae X;have Z:=hid X;clear X;have TC:Below V.heap.size V G:=aq ay hb;have z6:=hid TC;obtain⟨K,Q,I,R,M,p5,p6⟩:=z7.o G TC;clear hb TC)|((first|go_at_call 388 | go_at_call 395);refine(H.o _).mono ?_;rintro r G ⟨rfl,hb⟩;have TC:Below V.heap.size V G:=aq ay hb;have z6:=hid TC;obtain⟨K,Q,I,R,M,p5,p6⟩:=z7.o G TC;clear hb TC))
      all_goals
        first
        | (have f:Hd (Below V.heap.size V ((G.setCell (Ad V.heap.size 0) (dp m)).setCell (Ad V.heap.size 1) (dn m))/\((G.setCell (Ad V.heap.size 0) (dp m)).setCell (Ad V.heap.size 1) (dn m)).heap[V.heap.size]?=some (.cells #[(dp m),(dn m)] g! (0,0))):=⟨(z6.o.setCell (aF _) _).setCell (aF _) _,by rw[aw (aw Z.o _) _];rfl⟩
           generalize((G.setCell (Ad V.heap.size 0) (dp m)).setCell (Ad V.heap.size 1) (dn m))=O at f⊢;have zf:=hid f.o
           clear f Z u q)
        | (have zf:Hd (Below V.heap.size V (G.alloc (.cells #[(dp m),(dn m)] g!))/\(G.alloc (.cells #[(dp m),(dn m)] g!)).heap[G.heap.size]?=some (.cells #[(dp m),(dn m)] g! (0,0))):=⟨aq z6.o (aC _ _),bf _ _⟩
           generalize G.alloc (.cells #[(dp m),(dn m)] g!)=O at zf⊢
           generalize G.heap.size=mb at zf⊢)
        clear z6 E s1 s2 s3 v s5 s6 K Q I R M p5 p6;cases ok
        · have Tg:Hd (ne=PE.zero):=HN.o
          have l:Hd (Below V.heap.size V O):=zf.a;have N:=bO (n:=17) (aE l.o HV.a.2.2.2) rfl
          go_wp2_with (refine wpList_store_mid rfl aV (.tmp 8) (.tmp 36) rfl (w.heap.size+1+1+1) 0 (aH PE.zero).toArray rfl rfl N au (a! _) ?_)
          have A:=bX (cs:=pK) (aE l.o HV.a.2.2.2) (vs:=aH PE.zero) rfl;have hL:=run_loadVar_mid (P:=Tryz.prog) (O.setCells (w.heap.size+1+1+1) 0 (aH PE.zero)) (w.heap.size+1+1+1) 0 aV (aH PE.zero) _ (aT A) fH rfl au;refine aG (v:=.agg (aH PE.zero).toArray) (by simp[results,results340,results341,hL,Act.put,asAddr]) rfl ⟨by rw[Tg.o],aY _ ah _ _ _ (aq HV.A l.o)⟩
        · have Tg:Hd (ne=e.put k m):=HN.o
          have l:Hd (Below V.heap.size V O):=zf.a;have hr:=aT (aE l.o HV.a.1);obtain⟨y1,y2⟩:=ae (aE l.o HV.a.2.1);obtain⟨z1,z⟩:=ae zf.A
          go_wp2_with (first|(refine wpList_load_mid rfl aV (.tmp 5) rfl w.heap.size 0 rfl (aH e) _ hr fH rfl au ?_)|((first|go_at_call 309 | go_at_call 319);refine(HWi.o _).mono ?_;rintro r F ⟨rfl,Y⟩;have D:=hid (aq l.o Y);clear Y;have N:=bO (n:=17) (aE D.o HV.a.2.2.2) rfl)|(refine wpList_store_mid rfl aV (.tmp 8) (.tmp 41) rfl (w.heap.size+1+1+1) 0 (aH (e.put k m)).toArray rfl rfl N au (a! _) ?_))
          have A:=bX (cs:=pK) (aE D.o HV.a.2.2.2) (vs:=aH (e.put k m)) rfl;have hL:=run_loadVar_mid (P:=Tryz.prog) (F.setCells (w.heap.size+1+1+1) 0 (aH (e.put k m))) (w.heap.size+1+1+1) 0 aV (aH (e.put k m)) _ (aT A) fH rfl au
          refine aG (v:=.agg (aH (e.put k m)).toArray) (by simp[results,results340,results341,hL,Act.put,asAddr]) rfl ⟨by rw[Tg.o],aY _ ah _ _ _ (aq HV.A D.o)⟩):p:=h
open KC in
def KC.oO(e:PE)(o:ot)(x:VV)(w:World)(ho:o.isVar=true->0<=o.var/\o.var<8):
 Cl 340 #[.iface 328 (.agg #[]),.agg (KC.aH e).toArray,.agg #[.bool o.isVar,Iv o.var,Iv o.const],KC.qv x] w (Rb w (.agg (KC.aH (KC.fP e o x)).toArray)):=by exact qs2
open KB in
def KB.oO(e:PE)(o:ot)(x:VV)(w:World)(ho:o.isVar=true->0<=o.var/\o.var<8):
 Cl 341 #[.iface 331 (.agg #[]),.agg (KB.aH e).toArray,.agg #[.bool o.isVar,Iv o.var,Iv o.const],KB.qv x] w (Rb w (.agg (KB.aH (KB.fP e o x)).toArray)):=by exact qs2
end
section
open Go.RowKit Go.Proofs Go.Maps Tryz
def KC.UC(op:Int)(a b:VV):Option VV:=if op=3/\b.any=false/\b.lo=0 then none else if a.any||b.any then some VV.fA else if EW op b.lo then some (VV.one (qz op a.lo b.lo)) else none
def KB.UC(op:Int)(a b:VV):Option VV:=OW op a b
def KC.KT(op:Int)(a b:VV)(ha:dq (bQ a))(hb:dq (bQ b)):∃m ok,KC.UC op a b=(if ok then some m else none)/\∀w,Cl 384 #[.agg #[],Iv op,KC.qv a,KC.qv b] w (Rb w (.tuple #[KC.qv m,.bool ok])):=by
 have h:=fun w=>CV (.agg #[]) op a.any b.any a.lo b.lo w rfl ha.lo hb.lo
 unfold kcR at h;unfold KC.UC;by_cases G:op=3/\b.any=false/\b.lo=0
 ·simp only[aD G]at h⊢
  exact⟨VV.z,false,rfl,h⟩
 simp only[aA G]at h⊢;by_cases O:(a.any||b.any)=true
 ·simp only[aD O]at h⊢
  exact⟨VV.fA,true,rfl,h⟩
 simp only[aA O]at h⊢;exact⟨VV.one (qz op a.lo b.lo),EW op b.lo,rfl,h⟩
def KB.KT(op:Int)(a b:VV)(ha:dq (bQ a))(hb:dq (bQ b)):∃m ok,KB.UC op a b=(if ok then some m else none)/\∀w,Cl 391 #[.agg #[],Iv op,KB.qv a,KB.qv b] w (Rb w (.tuple #[KB.qv m,.bool ok])):=by
 have h:=fun w=>Dr (.agg #[]) op a b w rfl ha hb
 unfold KB.UC;cases Z:OW op a b with
 |none=>rw[Z]at h;exact⟨VV.z,false,rfl,h⟩
 |some v=>rw[Z]at h;exact⟨v,true,rfl,h⟩
def KC.qT(e:PE)(n:SN):PE:=match KC.UC n.op (iY e n.a) (iY e n.b)with|some v=>e.put n.var.toNat v|none=>PE.zero
def KB.qT(e:PE)(n:SN):PE:=match KB.UC n.op (iY e n.a) (iY e n.b)with|some v=>e.put n.var.toNat v|none=>PE.zero
def qs3{p:Prop}(h:p:=by
  obtain⟨m,ok,hcp,Y⟩:=KT n.op (iY e n.a) (iY e n.b) C1 sR;obtain⟨k,R⟩:∃k:Nat,n.var=(k:Int):=⟨n.var.toNat,ah⟩;have hk:k<8:=ah
  have hkt:n.var.toNat=k:=ah
  have HN:Hd (qT e n=if ok then e.put k m else PE.zero):=by show _=_;(first|unfold KC.qT|unfold KB.qT);rw[hcp,hkt];cases ok<;>rfl
  have j:=hid (fun W=>jo e n.a W ha);have Mb:=hid (fun W=>jo e n.b W hb);have b:=hid Y;have l:=hid (fun W=>kD e k m W hk);have C:=uY;have hna:=uX;generalize qT e n=ne at HN⊢;generalize iY e n.a=va at j b;generalize iY e n.b=vb at Mb b;clear hcp Y ha hb C1 sR hkt hv;obtain⟨kind,var,op,test,s,I,goal⟩:=n;simp only at R;subst R;simp only[aK,KC.qv,KB.qv]at j Mb b l⊢;go_enter qF9,acS
  go_upto_region 1 with fail
  have H:=hid (Aa (Gi w (.cells (aH e).toArray aV) (.cells #[.string bj,.slice wa wl wc,Iv kind,Iv k,Iv op,Iv test,.bool s.isVar,Iv s.var,Iv s.const,.bool I.isVar,Iv I.var,Iv I.const,.slice ea el ec,.string goal] 152) (.cells dE aV)) (cq w (.cells (aH e).toArray aV) (.cells #[.string bj,.slice wa wl wc,Iv kind,Iv k,Iv op,Iv test,.bool s.isVar,Iv s.var,Iv s.const,.bool I.isVar,Iv I.var,Iv I.const,.slice ea el ec,.string goal] 152) (.cells dE aV)));generalize(((w.alloc (.cells (aH e).toArray aV)).alloc (.cells #[.string bj,.slice wa wl wc,Iv kind,Iv k,Iv op,Iv test,.bool s.isVar,Iv s.var,Iv s.const,.bool I.isVar,Iv I.var,Iv I.const,.slice ea el ec,.string goal] 152)).alloc (.cells dE aV))=V at H⊢;have z7:Hd (∀W',Below V.heap.size V W'->e' W' (w.heap.size+1) 3 (Iv k)/\e' W' (w.heap.size+1) 4 (Iv op)/\e' W' (w.heap.size+1) 5 (Iv test)/\e' W' (w.heap.size+1) 6 (.bool s.isVar)/\e' W' (w.heap.size+1) 7 (Iv s.var)/\e' W' (w.heap.size+1) 8 (Iv s.const)/\e' W' (w.heap.size+1) 9 (.bool I.isVar)/\e' W' (w.heap.size+1) 10 (Iv I.var)/\e' W' (w.heap.size+1) 11 (Iv I.const)):=by
    intro W' hW;have t:=(ae (aE hW H.a.2.1)).1;exact⟨t 3,t 4,t 5,t 6,t 7,t 8,t 9,t 10,t 11⟩
  have lV : w.heap.size + 2 < V.heap.size := blt H.o.1.2.2;refine wp_region_held_drew (S := fun W' => Below V.heap.size V W') au ((aM _ _).drew) (fun aB => ?_);refine tq 0 (.iface gj (.agg #[])) (h := ?_);refine tq 1 (.pointer (some (Ad (w.heap.size + 1) 4))) (h := ?_);refine tq 2 (Iv op) (y := fun W' aU => by obtain ⟨M, U, k5, k6, k7, k8, k9, k10, k11⟩ := z7.o W' aU; clear aB; go_simp) (h := ?_);refine tq 3 (.iface gj (.agg #[])) (h := ?_);refine tz 4 (.agg (aH e).toArray) (y := yieldsIf_load_mid au _ _ rfl _ _ rfl _ _ (fun W' aU => aT (aE aU H.o.1.1)) fH rfl au) (h := ?_);refine tq 5 (.pointer (some (Ad (w.heap.size + 1) 6))) (h := ?_);refine tq 6 (.agg #[.bool s.isVar, Iv s.var, Iv s.const]) (y := fun W' aU => by obtain ⟨M, U, k5, k6, k7, k8, k9, k10, k11⟩ := z7.o W' aU; clear aB; go_simp) (h := ?_);refine tq 8 (.iface gj (.agg #[])) (h := ?_);refine tz 9 (.agg (aH e).toArray) (y := yieldsIf_load_mid au _ _ rfl _ _ rfl _ _ (fun W' aU => aT (aE aU H.o.1.1)) fH rfl au) (h := ?_);refine tq 10 (.pointer (some (Ad (w.heap.size + 1) 9))) (h := ?_);refine tq 11 (.agg #[.bool I.isVar, Iv I.var, Iv I.const]) (y := fun W' aU => by obtain ⟨M, U, k5, k6, k7, k8, k9, k10, k11⟩ := z7.o W' aU; clear aB; go_simp) (h := ?_);refine tq 13 (.func (.method "warrant/rules.compute") #[.iface gj (.agg #[])] #[]) (h := ?_);refine tq 14 (.func (.method "warrant/rules.compute") #[.iface gj (.agg #[])] #[]) (h := ?_);refine tq 15 (.iface gj (.agg #[])) (h := ?_);refine wpAnyH_ready (rs := [7, 20]) au ak ?_;refine AllReadyH.cons rfl (fun K A => ?_) (AllReadyH.cons rfl (fun K A => ?_) AllReadyH.nil)
  go_simp
  refine(j.o _).mono ?_;rintro r G ⟨rfl,hb⟩
  first|(have X:=aE hb Z.o;clear Z;have Z:=hid X;clear X)|(have X:d' G V.heap.size Gr g!:=aE hb (by first|exact bf V _|exact bf V.drew _);have Z:=hid X;clear X)|skip
  have g:Hd (Below V.heap.size V G):=aq ay hb;clear hb;refine A.out _ _ g.o (fun aB=>?_);clear A K;refine pt ?_;refine wpAnyH_ready (rs:=[12,20]) au ak ?_;refine AllReadyH.cons rfl (fun K A=>?_) (AllReadyH.cons rfl (fun K A=>?_) AllReadyH.nil)
  go_simp
  refine(Mb.o _).mono ?_;rintro r O ⟨rfl,hb⟩
  first|(have X:=aE hb Z.o;clear Z;have Z:=hid X;clear X)|(have X:d' O G.heap.size Gr g!:=aE hb (by first|exact bf G _|exact bf G.drew _);have Z:=hid X;clear X)|skip
  have J:Hd (Below V.heap.size V O):=aq (aq g.o ay) hb;clear hb;refine A.out _ _ J.o (fun aB=>?_);clear A K;refine pt ?_;refine wpAnyH_ready (rs:=[16,20]) au ak ?_;refine AllReadyH.cons rfl (fun K A=>?_) (AllReadyH.cons rfl (fun K A=>?_) AllReadyH.nil)
  go_simp
  refine(b.o _).mono ?_;rintro r F ⟨rfl,hb⟩
  first|(have X:=aE hb Z.o;clear Z;have Z:=hid X;clear X)|(have X:d' F O.heap.size Gr g!:=aE hb (by first|exact bf O _|exact bf O.drew _);have Z:=hid X;clear X)|skip
  have D:Hd (Below V.heap.size V F):=aq (aq J.o ay) hb;clear hb;refine A.out _ _ D.o (fun aB=>?_);clear A K;refine pt ?_;refine tq 17 (.tuple #[.agg #[(dp m),(dn m)],.bool ok]) (h:=?_);refine tq 18 (.agg #[(dp m),(dn m)]) (h:=?_);refine tq 19 (.bool ok) (h:=?_);refine r1 20 (h:=fun K A=>?_)
  go_simp
  refine A.out _ _ (aq D.o ay) (fun aB=>?_);clear A K;refine pt ?_;refine r1 21 (h:=fun K A=>?_)
  go_simp
  refine A.out _ _ (by first|exact((D.o.setCell (by show _<=F.heap.size;first|exact aF _|exact D.o.size) _).setCell (by show _<=F.heap.size;first|exact aF _|exact D.o.size) _)|exact aq D.o ay) (fun aB=>?_);clear A K;refine pt ?_;refine tq 22 (.bool ok) (h:=?_);refine wpAnyH_done au ?_ _;rotate_left 1
  go_simp
  refine A.out _ _ (aq J.o ay) (fun aB=>?_);clear A K;refine pt ?_;refine r1 16 (h:=fun K A=>?_)
  go_simp
  refine(b.o _).mono ?_;rintro r F ⟨rfl,hb⟩
  first|(have X:=aE hb Z.o;clear Z;have Z:=hid X;clear X)|(have X:d' F O.heap.size Gr g!:=aE hb (by first|exact bf O _|exact bf O.drew _);have Z:=hid X;clear X)|skip
  have D:Hd (Below V.heap.size V F):=aq (aq J.o ay) hb;clear hb;refine A.out _ _ D.o (fun aB=>?_);clear A K;refine pt ?_;refine tq 17 (.tuple #[.agg #[(dp m),(dn m)],.bool ok]) (h:=?_);refine tq 18 (.agg #[(dp m),(dn m)]) (h:=?_);refine tq 19 (.bool ok) (h:=?_);refine r1 21 (h:=fun K A=>?_);obtain⟨u,g2⟩:=ae Z.o
  go_simp
  refine A.out _ _ (by first|exact((D.o.setCell (by show _<=O.heap.size;first|exact aF _|exact J.o.size) _).setCell (by show _<=O.heap.size;first|exact aF _|exact J.o.size) _)|exact aq D.o ay) (fun aB=>?_);clear A K;refine pt ?_;clear u g2;refine tq 22 (.bool ok) (h:=?_);refine wpAnyH_done au ?_ _;rotate_left 1
  go_simp
  refine A.out _ _ (aq g.o ay) (fun aB=>?_);clear A K;refine pt ?_;refine r1 12 (h:=fun K A=>?_)
  go_simp
  refine(Mb.o _).mono ?_;rintro r O ⟨rfl,hb⟩
  first|(have X:=aE hb Z.o;clear Z;have Z:=hid X;clear X)|(have X:d' O G.heap.size Gr g!:=aE hb (by first|exact bf G _|exact bf G.drew _);have Z:=hid X;clear X)|skip
  have J:Hd (Below V.heap.size V O):=aq (aq g.o ay) hb;clear hb;refine A.out _ _ J.o (fun aB=>?_);clear A K;refine pt ?_;refine r1 16 (h:=fun K A=>?_)
  go_simp
  refine(b.o _).mono ?_;rintro r F ⟨rfl,hb⟩
  first|(have X:=aE hb Z.o;clear Z;have Z:=hid X;clear X)|(have X:d' F O.heap.size Gr g!:=aE hb (by first|exact bf O _|exact bf O.drew _);have Z:=hid X;clear X)|skip
  have D:Hd (Below V.heap.size V F):=aq (aq J.o ay) hb;clear hb;refine A.out _ _ D.o (fun aB=>?_);clear A K;refine pt ?_;refine tq 17 (.tuple #[.agg #[(dp m),(dn m)],.bool ok]) (h:=?_);refine tq 18 (.agg #[(dp m),(dn m)]) (h:=?_);refine tq 19 (.bool ok) (h:=?_);refine r1 21 (h:=fun K A=>?_);obtain⟨u,g2⟩:=ae Z.o
  go_simp
  refine A.out _ _ (by first|exact((D.o.setCell (by show _<=G.heap.size;first|exact aF _|exact g.o.size) _).setCell (by show _<=G.heap.size;first|exact aF _|exact g.o.size) _)|exact aq D.o ay) (fun aB=>?_);clear A K;refine pt ?_;clear u g2;refine tq 22 (.bool ok) (h:=?_);refine wpAnyH_done au ?_ _;rotate_left 1
  go_simp
  refine A.out _ _ ay (fun aB=>?_);clear A K;refine pt ?_;refine r1 7 (h:=fun K A=>?_)
  go_simp
  refine(j.o _).mono ?_;rintro r G ⟨rfl,hb⟩
  first|(have X:=aE hb Z.o;clear Z;have Z:=hid X;clear X)|(have X:d' G V.heap.size Gr g!:=aE hb (by first|exact bf V _|exact bf V.drew _);have Z:=hid X;clear X)|skip
  have g:Hd (Below V.heap.size V G):=aq ay hb;clear hb;refine A.out _ _ g.o (fun aB=>?_);clear A K;refine pt ?_;refine r1 12 (h:=fun K A=>?_)
  go_simp
  refine(Mb.o _).mono ?_;rintro r O ⟨rfl,hb⟩
  first|(have X:=aE hb Z.o;clear Z;have Z:=hid X;clear X)|(have X:d' O G.heap.size Gr g!:=aE hb (by first|exact bf G _|exact bf G.drew _);have Z:=hid X;clear X)|skip
  have J:Hd (Below V.heap.size V O):=aq (aq g.o ay) hb;clear hb;refine A.out _ _ J.o (fun aB=>?_);clear A K;refine pt ?_;refine r1 16 (h:=fun K A=>?_)
  go_simp
  refine(b.o _).mono ?_;rintro r F ⟨rfl,hb⟩
  first|(have X:=aE hb Z.o;clear Z;have Z:=hid X;clear X)|(have X:d' F O.heap.size Gr g!:=aE hb (by first|exact bf O _|exact bf O.drew _);have Z:=hid X;clear X)|skip
  have D:Hd (Below V.heap.size V F):=aq (aq J.o ay) hb;clear hb;refine A.out _ _ D.o (fun aB=>?_);clear A K;refine pt ?_;refine tq 17 (.tuple #[.agg #[(dp m),(dn m)],.bool ok]) (h:=?_);refine tq 18 (.agg #[(dp m),(dn m)]) (h:=?_);refine tq 19 (.bool ok) (h:=?_);refine r1 21 (h:=fun K A=>?_);obtain⟨u,g2⟩:=ae Z.o
  go_simp
  refine A.out _ _ (by exact((D.o.setCell (aF _) _).setCell (aF _) _)) (fun aB=>?_);clear A K;refine pt ?_;clear u g2;refine tq 22 (.bool ok) (h:=?_);refine wpAnyH_done au ?_ _
  all_goals
    first
    | (have f:Hd (Below V.heap.size V ((F.setCell (Ad V.heap.size 0) (dp m)).setCell (Ad V.heap.size 1) (dn m))/\((F.setCell (Ad V.heap.size 0) (dp m)).setCell (Ad V.heap.size 1) (dn m)).heap[V.heap.size]?=some (.cells #[(dp m),(dn m)] g! (0,0))):=⟨(D.o.setCell (aF _) _).setCell (aF _) _,by rw[aw (aw (show F.heap[V.heap.size]?=some (.cells Gr g! (0,0))from Z.o) _) _];rfl⟩
       generalize((F.setCell (Ad V.heap.size 0) (dp m)).setCell (Ad V.heap.size 1) (dn m))=L at f⊢)
    | (have f:Hd (Below V.heap.size V ((F.setCell (Ad G.heap.size 0) (dp m)).setCell (Ad G.heap.size 1) (dn m))/\((F.setCell (Ad G.heap.size 0) (dp m)).setCell (Ad G.heap.size 1) (dn m)).heap[G.heap.size]?=some (.cells #[(dp m),(dn m)] g! (0,0))):=⟨(D.o.setCell (g.o.size) _).setCell (g.o.size) _,by rw[aw (aw (show F.heap[G.heap.size]?=some (.cells Gr g! (0,0))from Z.o) _) _];rfl⟩
       generalize((F.setCell (Ad G.heap.size 0) (dp m)).setCell (Ad G.heap.size 1) (dn m))=L at f⊢)
    | (have f:Hd (Below V.heap.size V ((F.setCell (Ad O.heap.size 0) (dp m)).setCell (Ad O.heap.size 1) (dn m))/\((F.setCell (Ad O.heap.size 0) (dp m)).setCell (Ad O.heap.size 1) (dn m)).heap[O.heap.size]?=some (.cells #[(dp m),(dn m)] g! (0,0))):=⟨(D.o.setCell (J.o.size) _).setCell (J.o.size) _,by rw[aw (aw (show F.heap[O.heap.size]?=some (.cells Gr g! (0,0))from Z.o) _) _];rfl⟩
       generalize((F.setCell (Ad O.heap.size 0) (dp m)).setCell (Ad O.heap.size 1) (dn m))=L at f⊢)
    | (have f:Hd (Below V.heap.size V (F.alloc (.cells #[(dp m),(dn m)] g!))/\(F.alloc (.cells #[(dp m),(dn m)] g!)).heap[F.heap.size]?=some (.cells #[(dp m),(dn m)] g! (0,0))):=⟨aq D.o (aC _ _),bf _ _⟩
       generalize(F.alloc (.cells #[(dp m),(dn m)] g!))=L at f⊢)
    clear g J D;cases ok
    · have T:Hd (ne=PE.zero):=HN.o
      have N:=bO (n:=17) (aE f.a H.a.2.2) rfl
      go_wp2_with (refine wpList_store_mid rfl aV (.tmp 6) (.tmp 31) rfl (w.heap.size+1+1) 0 (aH PE.zero).toArray rfl rfl N au (a! _) ?_)
      have hq:=bX (cs:=pK) (aE f.a H.a.2.2) (vs:=aH PE.zero) rfl;have E:=run_loadVar_mid (P:=Tryz.prog) (L.setCells (w.heap.size+1+1) 0 (aH PE.zero)) (w.heap.size+1+1) 0 aV (aH PE.zero) _ (aT hq) fH rfl au;refine aG (v:=.agg (aH PE.zero).toArray) (by simp[results,results313,results323,E,Act.put,asAddr]) rfl ⟨by rw[T.o],aY _ ah _ _ _ (aq H.A f.a)⟩
    · have T:Hd (ne=e.put k m):=HN.o
      have hr:=aT (aE f.a H.a.1);obtain⟨B,o⟩:=ae (aE f.a H.a.2.1);obtain⟨x,z⟩:=ae f.A
      go_wp2_with (first|(refine wpList_load_mid rfl aV (.tmp 4) rfl w.heap.size 0 rfl (aH e) _ hr fH rfl au ?_)|((first|go_at_call 309 | go_at_call 319);refine(l.o _).mono ?_;rintro r X5 ⟨rfl,LC⟩;have zZ:=hid (aq f.a LC);clear LC;have N:=bO (n:=17) (aE zZ.o H.a.2.2) rfl)|(refine wpList_store_mid rfl aV (.tmp 6) (.tmp 36) rfl (w.heap.size+1+1) 0 (aH (e.put k m)).toArray rfl rfl N au (a! _) ?_))
      have hq:=bX (cs:=pK) (aE zZ.o H.a.2.2) (vs:=aH (e.put k m)) rfl;have E:=run_loadVar_mid (P:=Tryz.prog) (X5.setCells (w.heap.size+1+1) 0 (aH (e.put k m))) (w.heap.size+1+1) 0 aV (aH (e.put k m)) _ (aT hq) fH rfl au
      refine aG (v:=.agg (aH (e.put k m)).toArray) (by simp[results,results313,results323,E,Act.put,asAddr]) rfl ⟨by rw[T.o],aY _ ah _ _ _ (aq H.A zZ.o)⟩):p:=h
open KC in
def KC.su(e:PE)(bj:ByteArray)(wa ea:Option Addr)(wl wc el ec:Nat)(n:SN)(w:World)(hv:0<=n.var/\n.var<8)(ha:n.a.isVar=true->0<=n.a.var/\n.a.var<8)(hb:n.b.isVar=true->0<=n.b.var/\n.b.var<8)(C1:dq (bQ (iY e n.a)))(sR:dq (bQ (iY e n.b))):
 Cl 313 #[.iface 328 (.agg #[]),.agg (KC.aH e).toArray,.agg (aK bj (.slice wa wl wc) n (.slice ea el ec))] w (Rb w (.agg (KC.aH (KC.qT e n)).toArray)):=by exact qs3
open KB in
def KB.su(e:PE)(bj:ByteArray)(wa ea:Option Addr)(wl wc el ec:Nat)(n:SN)(w:World)(hv:0<=n.var/\n.var<8)(ha:n.a.isVar=true->0<=n.a.var/\n.a.var<8)(hb:n.b.isVar=true->0<=n.b.var/\n.b.var<8)(C1:dq (bQ (iY e n.a)))(sR:dq (bQ (iY e n.b))):
 Cl 323 #[.iface 331 (.agg #[]),.agg (KB.aH e).toArray,.agg (aK bj (.slice wa wl wc) n (.slice ea el ec))] w (Rb w (.agg (KB.aH (KB.qT e n)).toArray)):=by exact qs3
end
end Go.Proofs.YtmipbiligijcpaaGreatDoor
