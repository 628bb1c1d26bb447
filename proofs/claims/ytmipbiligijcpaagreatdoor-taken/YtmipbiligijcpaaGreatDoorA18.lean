import Derived.Test.YtmipbiligijcpaaGreatDoorA08
namespace Go.Proofs.YtmipbiligijcpaaGreatDoor
set_option linter.all false
set_option maxHeartbeats 20000000
set_option maxRecDepth 100000
open Go.RowKit Go.Proofs Go.Maps Tryz
theorem tp(g C nv rb B k:Nat)(S:List NC)(P:Pm)(rl:List RR)(e:Ef)(w:World)(hP:PM w g C S P)(hO:cE P)(hk:k<P.nd.length)(hS:Sys w B rb 2 393 404 rl)(hl:rl.length=P.nd.length)(hB:B<=w.heap.size)(TB:∀r∈rl,r.es.length<=200):
  Cl 285 #[cK rb P.nd.length,eV g P.nd.length C nv,Iv k,Dc e] w fun r I=>(∃v,r=.returned v)/\∃f,Sys I B rb 2 393 404 f/\f.map RR.pr=(P.qY k).foldl (fun l t=>vM l k (t,u? e)) (rl.map RR.pr)/\TF B 393 404 w I:=by
 obtain⟨i0,hi,lu,O,K⟩:=cY Fw;have b:Hd (_/\_/\_/\_):=⟨hi,lu,O,K⟩;clear hi lu O K;obtain⟨c,D,Z,x,hca,YI,hcy,hcE⟩:=hP.nodes hk;have Y:=hO.nx D (aL YI);obtain⟨ta,Lw,htI⟩:=hcE.ints;rw[br]at Lw;have hce:w.cell? (Ad g (k*14+12))=some (.slice ta D.length D.length):=by rw[hP.row.cells k c Z 12 ah,<-Lw];rfl
 rw[hcy];have hN:=hO.most;have HH:=(show Hd _ from Aa hP (Aa hO (Aa hS (Aa TB (Aa Y (Aa Z (Aa YI Lw)))))));obtain⟨N,Q⟩:=Ea P.nd.length;rw[<-Q]at hl hk hN⊢;have m:=(show Hd _ from Q);clear hP hO hS TB htI hcE Z x hca YI hcy Lw Q;go_enter func285,ntmps285;simp only[cK,eV,Dc]
 go_upto_region 1 with(fail)
 generalize hW0:((w.alloc (.cells (bV rb N) 260)).alloc (.cells (cN g N C nv) 86)).alloc (.cells #[Uv e.drop.1,Uv e.drop.2,Uv e.add.1,Uv e.add.2] 397)=H;have R:Hd (Below w.heap.size w H/\H.heap[w.heap.size]?=some (.cells (bV rb N) 260 (0,0))/\H.heap[w.heap.size+1]?=some (.cells (cN g N C nv) 86 (0,0))/\H.heap[w.heap.size+1+1]?=some (.cells #[Uv e.drop.1,Uv e.drop.2,Uv e.add.1,Uv e.add.2] 397 (0,0))):=by
  subst hW0;refine⟨cq _ _ _ _,?_,?_,?_⟩
  ·rw[ch _ _ _ (by simp;omega)];exact(aN w _ _).1
  ·rw[ch _ _ _ ak];exact(aN w _ _).2
  have:=bf ((w.alloc (.cells (bV rb N) 260)).alloc (.cells (cN g N C nv) 86)) (.cells #[Uv e.drop.1,Uv e.drop.2,Uv e.add.1,Uv e.add.2] 397)
  simpa using this
 clear hW0;have aaI:=ax hce R.o.1;obtain⟨x1,y⟩:=ae R.o.2.2.1;have z:(k:Int)<(N:Int):=by omega
 go_wp2_with fail
 clear x1 y hce aaI;generalize Value.agg (bV rb N)=sv0;generalize Value.agg (cN g N C nv)=sv1
 go_loopw[17] (fun i wr=>∃(j:Nat) (ql:List RR),j<=D.length/\i=Iv j/\Hd (Sys wr B rb 2 393 404 ql/\ql.map RR.pr=(D.take j).foldl (fun l t=>vM l k (t,u? e)) (rl.map RR.pr)/\TF B 393 404 H wr/\ql.length=N/\∀r∈ql,r.es.length<=200+j)) (fun i _=>D.length-(intOf i).toNat)
 case atStart=>exact⟨0,rl,bB _,rfl,HH.o.2.2.1.below R.o.1,rfl,TF.refl _ _ _ _,hl,HH.o.2.2.2.1⟩
 obtain⟨j,ql,U,rfl,M⟩:=hrel;by_cases J:j<D.length;rotate_left
 ·have s:¬(j:Int)<(D.length:Int):=by omega
  have Lz:D.take j=D:=cP ah
  go_wp2_with fail
  go_end0
  refine⟨⟨_,rfl⟩,ql,M.o.1,?_,(TF.aR R.o.1 hB).trans M.o.2.2.1⟩;rw[M.o.2.1,Lz]
 have s:(j:Int)<(D.length:Int):=by omega
 obtain⟨t,E⟩:=La J;have htN:t<N:=by rw[m.o];exact HH.o.2.2.2.2.1.2 t (aL E)
 have YN:=(HH.o.1.below R.o.1).tf M.o.2.2.1 aj aj aj aj;obtain⟨ta',a,FF⟩:=(YN.nx k c D HH.o.2.2.2.2.2.1 HH.o.2.2.2.2.2.2.1).ints;rw[br,HH.o.2.2.2.2.2.2.2]at a;obtain rfl:ta=ta':=by simpa using a
 obtain⟨b1,o1,rfl,c0⟩:=FF j (t:Int) (by rw[bG,E];rfl);obtain⟨r,L⟩:=La (l:=ql) (i:=k) (by rw[M.o.2.2.2.1];exact hk);have T:=M.o.1.cell (j:=2) L (v:=r.ev) (by have:=M.o.1.len r (aL L);simp[oh,this]);simp only[Nat.reduceAdd,RR.ev]at T;obtain⟨x1,y⟩:=ae (M.o.2.2.1.box R.o.2.1 aj aj);obtain⟨y1,y2⟩:=ae (M.o.2.2.1.box R.o.2.2.2 aj aj);have l0:=(bq.1 (M.o.2.2.1.box R.o.2.2.2 aj aj)).1;have lrb:=(bq.1 M.o.1.fB).1;have p:w.heap.size≠wr.heap.size:=by omega
 have V:w.heap.size+1+1≠wr.heap.size:=by omega
 have n3:rb≠wr.heap.size:=by omega
 have n4:=p.symm;have n5:=V.symm;have n6:=n3.symm;have ha1:∀(o:Obj) (i:Nat),(wr.alloc o).cell? (Ad w.heap.size i)=((bV rb N):Array Value)[i]?:=fun o i=>(dY (ch wr o _ ah)).trans (x1 i)
 have ha2:∀(o:Obj) (i:Nat),(wr.alloc o).cell? (Ad (w.heap.size+1+1) i)=(#[Uv e.drop.1,Uv e.drop.2,Uv e.add.1,Uv e.add.2]:Array Value)[i]?:=fun o i=>(dY (ch wr o _ ah)).trans (y1 i)
 have ha3:∀(o:Obj),(wr.alloc o).cell? (Ad rb (k*3+2))=some (bH r.ea r.es.length r.ec):=fun o=>(dY (ch wr o _ lrb)).trans T.1
 have lw:=(bq.1 HH.o.2.2.1.fB).1;have n7:rb≠w.heap.size:=by omega
 have n8:rb≠w.heap.size+1+1:=by omega
 have n9:=n7.symm;have n10:=n8.symm;have adx:(t:Int)<(N:Int):=by omega
 have Tw:=M.o.2.2.2.2 r (aL L);have X:=(show Hd _ from Aa L (Aa (M.o.1.row r (aL L)) E));have adw:=HH.o.2.2.2.2.1.1;clear L YN FF a E
 go_wp2_with fail
 go_region_law (refine e9 rfl (.tmp 29) (.tmp 34) 391 rfl B 404 i0 (.agg #[Iv 0,.nilFunc]) 2 16 underlying391 b.o.1 b.o.2.1 b.o.2.2.1 b.o.2.2.2 rfl aj (bH r.ea r.es.length r.ec) r.es.length (ia r.es) (by simp[Act.eval,Act.put]) (by exact bp X.o.2.1 ay) (Ad wr.heap.size 0) 1 1 [Iv t,u? e] (by simp[Act.eval,Act.put]) rfl (by exact E7 (bf wr _)) (by intro u hu;simp at hu;rcases hu with rfl|rfl<;>rfl) (by unfold maxLen;omega) ah (by have:=M.o.1.low;simp;omega) ?_;intro v4 W4 d G h;obtain⟨a4,c4,rfl⟩:=bS d;obtain⟨z1,z2⟩:=M.o.1.SI (j:=2) aj X.o.1 ay G (v:=r.ev) (by have:=M.o.1.len r (aL X.o.1);simp[oh,this]);simp only[Nat.reduceAdd,RR.ev]at z1 z2;obtain⟨n,v2⟩:=ae (M.o.1.Wh X.o.1 ay G (M.o.2.2.1.box R.o.2.1 aj aj) aj);obtain⟨u1,u2⟩:=ae (M.o.1.Wh X.o.1 ay G (M.o.2.2.1.box R.o.2.2.2 aj aj) aj))
 all_goals
  have F:=M.o.1.grow (e:=(t,u? e)) aj X.o.1 ay G d h;have iX:=M.o.1.frame (v:=.slice a4 (r.es.length+1) c4) X.o.1 ay (by have:=M.o.1.low;omega) G (k*3+2);have W:=(show Hd _ from Aa F iX);clear F iX d G h
  go_wp2_with fail
  go_roundw
  case rel=>
   refine⟨j+1,_,by omega,by go_num,W.o.1,?_,M.o.2.2.1.trans W.o.2,by rw[ke];exact M.o.2.2.2.1,?_⟩
   ·rw[Gj X.o.1,M.o.2.1,dS J,wW,(bn.1 X.o.2.2).2]
    rfl
   intro q A;rcases gN A with A|rfl
   ·have:=M.o.2.2.2.2 q A;omega
   simp;omega
  simp[intOf];omega
end Go.Proofs.YtmipbiligijcpaaGreatDoor
