import Derived.Test.YtmipbiligijcpaaGreatDoorA02
namespace Go.Proofs.YtmipbiligijcpaaGreatDoor
set_option linter.all false
set_option maxHeartbeats 8000000
open Go.RowKit Go.Proofs Go.Maps Tryz
def Rd.drew{w:World}{rb l:Nat}{vs:List cC}(h:Rd w rb l vs):Rd w.drew rb l vs:=⟨h.box,h.own,h.nodup⟩
def rD{a w:World}{row:Option Nat}(h:a.grownBy w row):a.grownBy w.drew row:=⟨h.os,h.tape,h.output,h.size,h.block⟩
def Xl{p:Prop}(h:p:=by
 go_wp2
 refine aG (v:=.tuple #[jl ⟨4,0,0,Wm.Ub z.data.toList,⟨p,va,K⟩,⟨Y,A,G⟩,Z⟩,.bool (fz S&&Wm.Tl z.data.toList&&fz s&&Wm.nm Z)]) (by simp[results,results195,go_sem,jl,aK,emp,gq,F,Q,o,B]) rfl ⟨by rw[j.o,x.o],?_,?_⟩
 ·refine Rd.drew ?_
  repeat(refine Rd.set ?_ (by simp;omega) (by simp;omega) _)
  exact a
 refine rD ?_
 repeat(refine cX ?_ (aF _) _)
 exact HG5.o):p:=h
def H?(rb l g t C:Nat)(V S z s J Z:ByteArray)(vs:List cC)(w:World)(A8:S.size<=3000)(hs3:s.size<=3000)(hs5:Z.size<=maxLen)(hn:vs.length+1<maxLen)(M:Rd w rb l vs)(X:en w)(hW:Ws w g t [V,S,z,s,J,Z])(h4:(J.toList==[103,111,116,111])=true):
  Cl 195 #[.pointer (some (Ad rb 0)),.slice (some (Ad g t)) 6 C] w fun e I=>
   e=.returned (.tuple #[jl ⟨4,0,0,Wm.Ub z.data.toList,tB vs S,tB (dP vs S) s,Z⟩,.bool (fz S&&Wm.Tl z.data.toList&&fz s&&Wm.nm Z)])/\Rd I rb l (dP (dP vs S) s)/\w.grownBy I (some l):=by
 have hc4:=hW.cell 4 J rfl;have y:=hW.cell 1 S rfl;have m:=hW.lt;have hm:=M.lt;have L:=M.Lf;have q:vs.length<maxLen:=ah
 have W:(dP vs S).length<maxLen:=by have:=kT vs S;omega
 go_enter func195,ntmps195
 go_wp2_with (first
  |(go_at_call_of 259 (Value.string S);refine(jt S rb l vs _ A8 q (M.alloc _) (X.alloc _)).mono ?_;rintro e r ⟨p,va,K,rfl,j,c,i⟩;have eB:=dA i (fun k e=>by cases e;exact M.lt);obtain⟨H,FD⟩:=ae eB;have R:w.heap.size<r.heap.size:=(bq.1 eB).1;have b:=(hW.alloc _).grown (M.alloc _).isMap i;have u:=(X.alloc _).grown (M.alloc _) i;have v:=b.cell 2 z rfl;have hd3:=b.cell 3 s rfl;have hgz:=b.lt)
  |(go_at_call_of 259 (Value.string s);refine(jt s rb l (dP vs S) _ hs3 W (c.alloc _) (u.alloc _)).mono ?_;rintro e n ⟨Y,A,G,rfl,x,hR2,D⟩;have U:=kW (nH eB _) (c.alloc _).isMap D;obtain⟨E,N⟩:=ae U;have P:=dA D (fun k e=>by cases e;exact c.lt);obtain⟨O,mC⟩:=ae P;have hz':r.heap.size<n.heap.size:=(bq.1 P).1;have T:=(b.alloc _).grown (c.alloc _).isMap D;have hd5:=T.cell 5 Z rfl;have adI:=T.lt)
  |(go_at_call 260;refine(zD _ _).mono ?_;rintro e I ⟨rfl,rfl⟩))
 clear hc4 y v hd3 H FD eB h4 b u T E N;have FJ:w.heap.size<n.heap.size:=ah
 obtain⟨W5,h⟩:∃W5,n.alloc (oD Y A G)=W5:=⟨_,rfl⟩;rw[h];have b1:=nH U (oD Y A G);have b2:=nH P (oD Y A G);have b3:d' (n.alloc (oD Y A G)) n.heap.size #[.bool Y,Iv A,Iv G] 150:=bf _ _;rw[h]at b1 b2 b3;have d:Hd (n.alloc (oD Y A G)=W5):=h;clear h O mC U P hW A8 hs3;obtain⟨F,x2⟩:=ae b1;obtain⟨y1,y2⟩:=ae b2;obtain⟨z1,z2⟩:=ae b3;clear b1 b2 b3;have n1:w.heap.size≠r.heap.size:=ah
 have n2:r.heap.size≠w.heap.size:=ah
 have n3:w.heap.size≠n.heap.size:=ah
 have n4:n.heap.size≠w.heap.size:=ah
 have a:Rd W5 rb l (dP (dP vs S) s):=by have:=hR2.alloc (oD Y A G);rw[d.o]at this;exact this
 have f:w.grownBy W5 (some l):=by
  have:=(cm i).trans ((cm D).trans (gJ n (oD Y A G) (some l)));rw[d.o]at this;exact this
 have HG5:Hd (w.grownBy W5 (some l)):=f;clear f c hR2 i D d hd5 M X hn q W hgz adI;cases Q:fz S
 case false=>
  go_region
  go_wp2
  refine aG (v:=.tuple #[jl ⟨4,0,0,Wm.Ub z.data.toList,⟨p,va,K⟩,⟨Y,A,G⟩,Z⟩,.bool (fz S&&Wm.Tl z.data.toList&&fz s&&Wm.nm Z)]) (by simp[results,results195,go_sem,jl,aK,emp,gq,F,Q]) rfl ⟨by rw[j.o,x.o],?_,?_⟩
  ·refine Rd.drew ?_
   repeat(refine Rd.set ?_ (by simp;omega) (by simp;omega) _)
   exact a
  refine rD ?_
  repeat(refine cX ?_ (aF _) _)
  exact HG5.o
 case true=>
 cases o:Wm.Tl z.data.toList
 case false=>
  go_region
  go_wp2
  refine aG (v:=.tuple #[jl ⟨4,0,0,Wm.Ub z.data.toList,⟨p,va,K⟩,⟨Y,A,G⟩,Z⟩,.bool (fz S&&Wm.Tl z.data.toList&&fz s&&Wm.nm Z)]) (by simp[results,results195,go_sem,jl,aK,emp,gq,F,Q,o]) rfl ⟨by rw[j.o,x.o],?_,?_⟩
  ·refine Rd.drew ?_
   repeat(refine Rd.set ?_ (by simp;omega) (by simp;omega) _)
   exact a
  refine rD ?_
  repeat(refine cX ?_ (aF _) _)
  exact HG5.o
 case true=>
 cases B:fz s
 case false=>
  go_region
  exact Xl
 go_region_held3 (fun I=>I.cell? (Ad r.heap.size 0)=some (.bool p)/\I.cell? (Ad r.heap.size 1)=some (Iv va)/\I.cell? (Ad r.heap.size 2)=some (Iv K)/\I.cell? (Ad n.heap.size 0)=some (.bool Y)/\I.cell? (Ad n.heap.size 1)=some (Iv A)/\I.cell? (Ad n.heap.size 2)=some (Iv G)) (go_keep) ((go_at_call 124;refine(dB _ _ hs5).mono ?_;rintro e I ⟨rfl,rfl⟩))
 exact Xl
open Go.RowKit Go.Proofs Go.Maps Tryz
def l9(rb:Nat)(a:Option Addr)(len C:Nat)(w:World)(h:decide ((len:Int)<3)=true):
  Cl 197 #[.pointer (some (Ad rb 0)),.slice a len C] w fun e I=>
   e=.returned (.tuple #[jl om,.bool false])/\Bl w I:=by
 go_enter func197,ntmps197
 go_wp2
 exact aG (v:=.tuple #[jl om,.bool false]) (by simp[results,results197,go_sem,jl,aK,om,o0,emp,gq]) rfl ⟨rfl,(aM _ _).alloc (aF _) _⟩
def Xk{p:Prop}(h:p:=by
 go_enter func197,ntmps197
 go_wp2_with (first|(go_at_call 124;refine(dB _ _ hs).mono ?_;rintro e I ⟨rfl,rfl⟩))
 exact aG (v:=.tuple #[jl om,.bool false]) (by simp[results,results197,go_sem,jl,aK,om,o0,emp,gq]) rfl ⟨rfl,(aM _ _).alloc (aF _) _⟩):p:=h
def Cg(rb g t len C:Nat)(V:ByteArray)(ws:List ByteArray)(w:World)(hW:Ws w g t (V :: ws))(hs:V.size<=maxLen)(h:decide ((len:Int)<3)=false)(hn:Wm.nm V=false):
  Cl 197 (km rb g t len C) w fun e I=>
   e=.returned (.tuple #[jl om,.bool false])/\Bl w I:=by
 have Z:e' w g t (.string V):=hW.cell 0 V rfl;have m:=hW.lt;have hl:(0:Int)<len:=by have:=l5 h;omega
 exact Xk
def Ib(rb g t len C:Nat)(V S:ByteArray)(ws:List ByteArray)(w:World)(hW:Ws w g t (V :: S :: ws))(hs:V.size<=maxLen)(h:decide ((len:Int)<3)=false)(hn:Wm.nm V=true)(he:(S.toList==[61])=false):
  Cl 197 (km rb g t len C) w fun e I=>
   e=.returned (.tuple #[jl om,.bool false])/\Bl w I:=by
 have Z:e' w g t (.string V):=hW.cell 0 V rfl;have y:=hW.cell 1 S rfl;have m:=hW.lt;have hl:(0:Int)<len:=by have:=l5 h;omega
 have F:(1:Int)<len:=by have:=l5 h;omega
 exact Xk
def zz(rb l g t C:Nat)(V S z:ByteArray)(vs:List cC)(w:World)(hW:Ws w g t [V,S,z])(hs:V.size<=maxLen)(hn:Wm.nm V=true)(he:(S.toList==[61])=true)(hi:(z.toList==[105,110,112,117,116])=true)(hl:vs.length<maxLen)(M:Rd w rb l vs):
  Cl 197 #[.pointer (some (Ad rb 0)),.slice (some (Ad g t)) 3 C] w fun e I=>
   e=.returned (.tuple #[jl ⟨2,lh vs V.data.toList,0,0,o0,o0,emp⟩,.bool true])/\Rd I rb l (dI vs V.data.toList)/\w.grownBy I (some l):=by
 have Z:e' w g t (.string V):=hW.cell 0 V rfl;have y:=hW.cell 1 S rfl;have m:=hW.lt;have a:=M.lt;have L:=M.Lf;go_enter func197,ntmps197
 go_wp2_with (first
  |(go_at_call 124;refine(dB _ _ hs).mono ?_;rintro e I ⟨rfl,rfl⟩)
  |(go_at_call 261;refine(iC V rb l vs _ hs hl (M.alloc _)).mono ?_;rintro e r ⟨rfl,c,i⟩;have eB:=dA i (fun k e=>by cases e;exact M.lt);obtain⟨H,q⟩:=ae eB;have R:w.heap.size<r.heap.size:=(bq.1 eB).1;have b:=(hW.alloc _).grown (M.alloc _).isMap i;have v:=b.cell 2 z rfl;have d:=b.lt))
 refine aG (v:=.tuple #[jl ⟨2,lh vs V.data.toList,0,0,o0,o0,emp⟩,.bool true]) (by simp[results,results197,go_sem,jl,aK,o0,emp,gq,H,R]) rfl ⟨rfl,?_,?_⟩
 ·repeat(refine Rd.set ?_ (by simp;omega) (by simp;omega) _)
  exact c
 repeat(refine cX ?_ (aF _) _)
 exact cm i
def Ch(rb l g t C:Nat)(V S z:ByteArray)(vs:List cC)(w:World)(hW:Ws w g t [V,S,z])(hs:V.size<=maxLen)(f:z.size<=3000)(hn:Wm.nm V=true)(he:(S.toList==[61])=true)(hi:(z.toList==[105,110,112,117,116])=false)(hl:vs.length+1<maxLen)(M:Rd w rb l vs)(X:en w):
  Cl 197 #[.pointer (some (Ad rb 0)),.slice (some (Ad g t)) 3 C] w fun e I=>
   e=.returned (.tuple #[jl ⟨0,lh vs V.data.toList,0,0,tB (dI vs V.data.toList) z,o0,emp⟩,.bool (fz z)])/\Rd I rb l (dP (dI vs V.data.toList) z)/\w.grownBy I (some l):=by
 have Z:e' w g t (.string V):=hW.cell 0 V rfl;have y:=hW.cell 1 S rfl;have m:=hW.lt;have a:=M.lt;have L:=M.Lf;have F:vs.length<maxLen:=ah
 have A:(dI vs V.data.toList).length<maxLen:=by have:=mK vs V.data.toList;omega
 go_enter func197,ntmps197
 go_wp2_with (first
  |(go_at_call 124;refine(dB _ _ hs).mono ?_;rintro e I ⟨rfl,rfl⟩)
  |(go_at_call 261;refine(iC V rb l vs _ hs F (M.alloc _)).mono ?_;rintro e r ⟨rfl,c,i⟩;have eB:=dA i (fun k e=>by cases e;exact M.lt);obtain⟨H,q⟩:=ae eB;have R:w.heap.size<r.heap.size:=(bq.1 eB).1;have b:=(hW.alloc _).grown (M.alloc _).isMap i;have u:=(X.alloc _).grown (M.alloc _) i;have v:=b.cell 2 z rfl;have d:=b.lt)
  |(go_at_call 259;refine(jt z rb l (dI vs V.data.toList) _ f A c u).mono ?_;rintro e n ⟨p,va,K,rfl,j,h,D⟩;have U:=kW eB c.isMap D;clear H q;obtain⟨H,q⟩:=ae U;have o:w.heap.size<n.heap.size:=(bq.1 U).1))
 refine aG (v:=.tuple #[jl ⟨0,lh vs V.data.toList,0,0,⟨p,va,K⟩,o0,emp⟩,.bool (fz z)]) (by simp[results,results197,go_sem,jl,aK,o0,emp,gq,H,o]) rfl ⟨by rw[j.o],?_,?_⟩
 ·refine Rd.alloc ?_ _
  repeat(refine Rd.set ?_ (by simp;omega) (by simp;omega) _)
  exact h
 refine wJ ?_ (gJ _ _ _)
 repeat(refine cX ?_ (aF _) _)
 exact(cm i).trans D
end Go.Proofs.YtmipbiligijcpaaGreatDoor
