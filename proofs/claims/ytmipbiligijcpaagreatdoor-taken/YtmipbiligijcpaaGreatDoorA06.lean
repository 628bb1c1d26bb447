import Derived.Test.YtmipbiligijcpaaGreatDoorA05
namespace Go.Proofs.YtmipbiligijcpaaGreatDoor
set_option linter.all false
set_option maxHeartbeats 4000000
open Go.RowKit Go.Proofs Go.Maps
open Go.RowKit Go.Proofs Go.Maps Tryz
def uV(rb l g t len C:Nat)(V S z:ByteArray)(ws:List ByteArray)(vs:List cC)(w:World)(hW:Ws w g t (V :: S :: z :: ws))(hs:V.size<=maxLen)(f:z.size<=3000)(hn:Wm.nm V=true)(he:(S.toList==[61])=true)(W:decide ((len:Int)<3)=false)(h3:((len:Int)==3)=false)(B:((len:Int)==5)=false)(hl:vs.length+1<maxLen)(M:Rd w rb l vs)(X:en w):
  Cl 197 (km rb g t len C) w fun e I=>
   e=.returned (.tuple #[jl om,.bool false])/\Rd I rb l (dP (dI vs V.data.toList) z)/\w.grownBy I (some l):=by
 have Z:e' w g t (.string V):=hW.cell 0 V rfl;have y:=hW.cell 1 S rfl;have m:=hW.lt;have x:=M.lt;have L:=M.Lf;have s:(0:Int)<len:=by have:=l5 W;omega
 have a:(1:Int)<len:=by have:=l5 W;omega
 have Y:(2:Int)<len:=by have:=l5 W;omega
 have F:vs.length<maxLen:=ah
 have A:(dI vs V.data.toList).length<maxLen:=by have:=mK vs V.data.toList;omega
 go_enter func197,ntmps197
 go_wp2_with (first
  |(go_at_call 124;refine(dB _ _ hs).mono ?_;rintro e I ⟨rfl,rfl⟩)
  |(go_at_call 261;refine(iC V rb l vs _ hs F (M.alloc _)).mono ?_;rintro e r ⟨rfl,c,i⟩;have eB:=dA i (fun k e=>by cases e;exact M.lt);obtain⟨H,q⟩:=ae eB;have R:w.heap.size<r.heap.size:=(bq.1 eB).1;have b:=(hW.alloc _).grown (M.alloc _).isMap i;have u:=(X.alloc _).grown (M.alloc _) i;have v:=b.cell 2 z rfl;have d:=b.lt)
  |(go_at_call 259;refine(jt z rb l (dI vs V.data.toList) _ f A c u).mono ?_;rintro e n ⟨p,va,K,rfl,j,h,D⟩;have U:=kW eB c.isMap D;clear H q;obtain⟨H,q⟩:=ae U;have o:w.heap.size<n.heap.size:=(bq.1 U).1))
 refine aG (v:=.tuple #[jl om,.bool false]) (by simp[results,results197,go_sem,jl,aK,om,o0,emp,gq,H,o]) rfl ⟨rfl,?_,?_⟩
 ·refine Rd.alloc ?_ _
  repeat(refine Rd.set ?_ (by simp;omega) (by simp;omega) _)
  exact h
 refine wJ ?_ (gJ _ _ _)
 repeat(refine cX ?_ (aF _) _)
 exact(cm i).trans D
def Ci(rb l g t C:Nat)(V S z s J:ByteArray)(vs:List cC)(w:World)(hW:Ws w g t [V,S,z,s,J])(hs:V.size<=maxLen)(f:z.size<=3000)(hs4:J.size<=3000)(hn:Wm.nm V=true)(he:(S.toList==[61])=true)(hl:vs.length+2<maxLen)(M:Rd w rb l vs)(X:en w):
  Cl 197 #[.pointer (some (Ad rb 0)),.slice (some (Ad g t)) 5 C] w fun e I=>
   e=.returned (.tuple #[jl ⟨1,lh vs V.data.toList,Wm.UJ s.data.toList,0,tB (dI vs V.data.toList) z,tB (dP (dI vs V.data.toList) z) J,emp⟩,.bool (fz z&&Wm.ZX s.data.toList&&fz J)])/\Rd I rb l (dP (dP (dI vs V.data.toList) z) J)/\w.grownBy I (some l):=by
 have Z:e' w g t (.string V):=hW.cell 0 V rfl;have y:=hW.cell 1 S rfl;have m:=hW.lt;have hm:=M.lt;have hr:=M.Lf;have F:vs.length<maxLen:=ah
 have hl2:(dI vs V.data.toList).length<maxLen:=by have:=mK vs V.data.toList;omega
 have O:(dP (dI vs V.data.toList) z).length<maxLen:=by have:=mK vs V.data.toList;have:=kT (dI vs V.data.toList) z;omega
 go_enter func197,ntmps197
 go_wp2_with (first
  |(go_at_call 124;refine(dB _ _ hs).mono ?_;rintro e I ⟨rfl,rfl⟩)
  |(go_at_call 262;refine(ER _ _).mono ?_;rintro e I ⟨rfl,rfl⟩)
  |(go_at_call 261;refine(iC V rb l vs _ hs F (M.alloc _)).mono ?_;rintro e r ⟨rfl,c,i⟩;have eB:=dA i (fun k e=>by cases e;exact M.lt);obtain⟨H,q⟩:=ae eB;have R:w.heap.size<r.heap.size:=(bq.1 eB).1;have b:=(hW.alloc _).grown (M.alloc _).isMap i;have u:=(X.alloc _).grown (M.alloc _) i;have v:=b.cell 2 z rfl;have d:=b.lt)
  |(go_at_call_of 259 (Value.string z);refine(jt z rb l (dI vs V.data.toList) _ f hl2 c u).mono ?_;rintro e n ⟨p,va,K,rfl,j,h,D⟩;have U:=kW eB c.isMap D;clear H q;have hz':w.heap.size<n.heap.size:=(bq.1 U).1;have T:=b.grown c.isMap D;have hG2:=u.grown c D;have W:=T.cell 3 s rfl;have hd4:=T.cell 4 J rfl;have adI:=T.lt))
 refine(jt J rb l (dP (dI vs V.data.toList) z) _ hs4 O (h.alloc _) (hG2.alloc _)).mono ?_;rintro e W6 ⟨Y,A,G,rfl,x,hR3,a⟩;have P:=kW (nH U _) (h.alloc _).isMap a;have L:=dA a (fun k e=>by cases e;exact h.lt);have hq:n.heap.size<W6.heap.size:=(bq.1 L).1;have hq':w.heap.size<W6.heap.size:=(bq.1 P).1;have ae7:w.heap.size≠n.heap.size:=ah
 have ae6:n.heap.size≠w.heap.size:=ah
 obtain⟨H,q⟩:=ae P;obtain⟨E,N⟩:=ae L;clear Z y v W hd4 eB U hW b T u hG2 X;cases Q:fz z<;>cases o:Wm.ZX s.data.toList<;>cases B:fz J
 all_goals
  go_wp2_with fail
  refine aG (v:=.tuple #[jl ⟨1,lh vs V.data.toList,Wm.UJ s.data.toList,0,⟨p,va,K⟩,⟨Y,A,G⟩,emp⟩,.bool (fz z&&Wm.ZX s.data.toList&&fz J)]) (by simp[results,results197,go_sem,jl,aK,o0,emp,gq,H,hq,hq',Q,o,B]) rfl ⟨by rw[j.o,x.o],?_,?_⟩
  ·refine Rd.alloc ?_ _
   repeat(refine Rd.set ?_ (by simp;omega) (by simp;omega) _)
   exact hR3
  refine wJ ?_ (gJ _ _ _)
  repeat(refine cX ?_ (aF _) _)
  exact(cm i).trans (D.trans (cm a))
section
variable {ws:List ByteArray} {w w':World} {rb l:Nat} {e:Ending}
abbrev St:=SN×Bool×List cC
def iZ(vs:List cC):St:=(om,false,vs)
def sA(vs:List cC)(ws:List ByteArray):St:=
 match ws with
 |[_,w1]=>(⟨3,0,0,0,tB vs w1,o0,emp⟩,fz w1,dP vs w1)
 |_=>iZ vs
def lP(vs:List cC)(ws:List ByteArray):St:=
 match ws with
 |[_,w1]=>(⟨5,0,0,0,o0,o0,w1⟩,Wm.nm w1,vs)
 |_=>iZ vs
def DI(vs:List cC)(ws:List ByteArray):St:=
 match ws with
 |[_,w1,w2,w3,w4,w5]=>
  if w4.toList==[103,111,116,111] then(⟨4,0,0,Wm.Ub w2.data.toList,tB vs w1,tB (dP vs w1) w3,w5⟩,fz w1&&Wm.Tl w2.data.toList&&fz w3&&Wm.nm w5,dP (dP vs w1) w3) else iZ vs
 |_=>iZ vs
def i?(vs:List cC)(ws:List ByteArray):St:=
 match ws with
 | w0 :: w1 :: w2 :: q=>
  if Wm.nm w0&&w1.toList==[61] then
   match q with
   |[]=>if w2.toList==[105,110,112,117,116] then(⟨2,lh vs w0.data.toList,0,0,o0,o0,emp⟩,true,dI vs w0.data.toList) else(⟨0,lh vs w0.data.toList,0,0,tB (dI vs w0.data.toList) w2,o0,emp⟩,fz w2,dP (dI vs w0.data.toList) w2)
   |[w3,w4]=>(⟨1,lh vs w0.data.toList,Wm.UJ w3.data.toList,0,tB (dI vs w0.data.toList) w2,tB (dP (dI vs w0.data.toList) w2) w4,emp⟩,fz w2&&Wm.ZX w3.data.toList&&fz w4,dP (dP (dI vs w0.data.toList) w2) w4)
   |_=>(om,false,dP (dI vs w0.data.toList) w2)
  else iZ vs
 |_=>iZ vs
def tw(vs:List cC)(ws:List ByteArray):St:=
 match ws with
 |[]=>iZ vs
 |w0 :: r=>
  if w0.toList==[111,117,116,112,117,116] then sA vs (w0 :: r)
  else if w0.toList==[105,102] then DI vs (w0 :: r)
  else if w0.toList==[103,111,116,111] then lP vs (w0 :: r)
  else if w0.toList==[114,101,116,117,114,110] then(⟨6,0,0,0,o0,o0,emp⟩,((r.length+1:Nat):Int)==1,vs)
  else i? vs (w0 :: r)
structure tv(ws:List ByteArray):Prop where
  len:ws.length<=3001
  word:∀x∈ws,x.size<=3000
def tv.max(h:tv ws){x:ByteArray}(hx:x∈ws):x.size<=maxLen:=by have:=h.word x hx;unfold maxLen;omega
def wF(w:World)(rb mb:Nat)(st:St)(e:Ending)(w':World):Prop:=
 ∃(n:SN) (ok:Bool) (zo:List cC),e=.returned (.tuple #[.agg #[.string ⟨#[]⟩,.slice none 0 0,Iv n.kind,Iv n.var,Iv n.op,Iv n.test,.bool n.a.isVar,Iv n.a.var,Iv n.a.const,.bool n.b.isVar,Iv n.b.var,Iv n.b.const,.slice none 0 0,.string n.goal],.bool ok])/\Hd ((n,ok,zo)=st)/\Rd w' rb mb zo/\w.grownBy w' (some mb)
def jz{vs:List cC}(M:Rd w rb l vs)(h:e=.returned (.tuple #[jl om,.bool false])/\Bl w w'):wF w rb l (iZ vs) e w':=
 ⟨om,false,vs,h.1,rfl,M.grown h.2,jQ (bC h.2) _⟩
def lY{zo:List cC}{n:SN}{ok:Bool}(h:e=.returned (.tuple #[jl n,.bool ok])/\Rd w' rb l zo/\w.grownBy w' (some l)):wF w rb l (n,ok,zo) e w':=
 ⟨n,ok,zo,h.1,rfl,h.2.1,h.2.2⟩
def I3{n m:Nat}(h:n≠m):((n:Int) !=(m:Int))=true:=by simp;omega
def xQ(rb l g t C:Nat)(ws:List ByteArray)(vs:List cC)(w:World)(R:tv ws)(hn:vs.length+3<maxLen)(M:Rd w rb l vs)(X:en w)(hW:Ws w g t ws):
  Cl 194 (km rb g t ws.length C) w (wF w rb l (sA vs ws)):=by
 match ws,R,hW with
 |[_,S],R,hW=>exact(xP rb l g t C _ S vs w (R.word S ak) ah M X hW).mono fun _ _ h=>lY h
 |[],R,_=>exact(l8 rb _ 0 C w aj ah).mono fun _ _ h=>jz M h
 |[_],R,_=>exact(l8 rb _ 1 C w aj ah).mono fun _ _ h=>jz M h
 |_ :: _ :: _ :: r,R,_=>exact(l8 rb _ _ C w (I3 (m:=2) ak) R.len).mono fun _ _ h=>jz M h
def Cf(rb l g t C:Nat)(ws:List ByteArray)(vs:List cC)(w:World)(R:tv ws)(M:Rd w rb l vs)(hW:Ws w g t ws):
  Cl 196 #[.slice (some (Ad g t)) ws.length C] w (wF w rb l (lP vs ws)):=by
 match ws,R,hW with
 |[_,S],R,hW=>exact(Ce g t C _ S w (R.word S ak) hW).mono fun _ _ h=>lY ⟨h.1,M.grown h.2,jQ (bC h.2) _⟩
 |[],R,_=>exact(oK _ 0 C w aj ah).mono fun _ _ h=>jz M h
 |[_],R,_=>exact(oK _ 1 C w aj ah).mono fun _ _ h=>jz M h
 |_ :: _ :: _ :: r,R,_=>exact(oK _ _ C w (I3 (m:=2) ak) R.len).mono fun _ _ h=>jz M h
def aaz(vs:List cC)(ws:List ByteArray)(h:ws.length≠6):DI vs ws=iZ vs:=by
 unfold DI;split
 ·simp at h
 rfl
def six(h:ws.length=6):∃a b c d e f,ws=[a,b,c,d,e,f]:=by
 match ws,h with
 |[a,b,c,d,e,f],_=>exact⟨a,b,c,d,e,f,rfl⟩
def Ia(rb l g t C:Nat)(ws:List ByteArray)(vs:List cC)(w:World)(R:tv ws)(hn:vs.length+3<maxLen)(M:Rd w rb l vs)(X:en w)(hW:Ws w g t ws):
  Cl 195 (km rb g t ws.length C) w (wF w rb l (DI vs ws)):=by
 by_cases E:ws.length=6;rotate_left
 ·rw[aaz vs ws E]
  exact(ME rb _ _ C w (I3 (m:=6) E) R.len).mono fun _ _ h=>jz M h
 obtain⟨V,S,z,s,J,Z,rfl⟩:=six E;cases K:(J.toList==[103,111,116,111])with
 | true=>
  have e:DI vs [V,S,z,s,J,Z]=(⟨4,0,0,Wm.Ub z.data.toList,tB vs S,tB (dP vs S) s,Z⟩,fz S&&Wm.Tl z.data.toList&&fz s&&Wm.nm Z,dP (dP vs S) s):=by
   show(if J.toList==[103,111,116,111] then _ else _)=_;rw[K];rfl
  rw[e];exact(H? rb l g t C V S z s J Z vs w (R.word S ak) (R.word s ak) (R.max ak) ah M X hW K).mono fun _ _ h=>lY h
 | false=>
  have e:DI vs [V,S,z,s,J,Z]=iZ vs:=by
   show(if J.toList==[103,111,116,111] then _ else _)=_;rw[K];rfl
  rw[e];exact(H! rb g t C V S z s J Z w hW K).mono fun _ _ h=>jz M h
def Ex(rb l g t C:Nat)(ws:List ByteArray)(vs:List cC)(w:World)(R:tv ws)(hn:vs.length+3<maxLen)(M:Rd w rb l vs)(X:en w)(hW:Ws w g t ws):
  Cl 197 (km rb g t ws.length C) w (wF w rb l (i? vs ws)):=by
 match ws,R,hW with
 |[],R,_=>exact(l9 rb _ 0 C w aj).mono fun _ _ h=>jz M h
 |[_],R,_=>exact(l9 rb _ 1 C w aj).mono fun _ _ h=>jz M h
 |[_,_],R,_=>exact(l9 rb _ 2 C w aj).mono fun _ _ h=>jz M h
 | V :: S :: z :: q,R,hW=>
  have hlen:decide (((V :: S :: z :: q).length:Int)<3)=false:=by rw[gK];simp;omega
  cases E:Wm.nm V with
  |false=>
   have e:i? vs (V :: S :: z :: q)=iZ vs:=by simp[i?,E]
   rw[e];exact(Cg rb g t _ C V _ w hW (R.max ak) hlen E).mono fun _ _ h=>jz M h
  | true=>
   cases H:(S.toList==[61])with
   |false=>
    have e:i? vs (V :: S :: z :: q)=iZ vs:=by simp only[i?,E,H];rfl
    rw[e];exact(Ib rb g t _ C V S _ w hW (R.max ak) hlen E H).mono fun _ _ h=>jz M h
   | true=>
    match q,R,hW,hlen with
    | [],R,hW,hlen=>
     cases hi:(z.toList==[105,110,112,117,116])with
     |true=>
      have e:i? vs [V,S,z]=(⟨2,lh vs V.data.toList,0,0,o0,o0,emp⟩,true,dI vs V.data.toList):=by simp only[i?,E,H,hi];rfl
      rw[e];exact(zz rb l g t C V S z vs w hW (R.max ak) E H hi ah M).mono fun _ _ h=>lY h
     |false=>
      have e:i? vs [V,S,z]=(⟨0,lh vs V.data.toList,0,0,tB (dI vs V.data.toList) z,o0,emp⟩,fz z,dP (dI vs V.data.toList) z):=by simp only[i?,E,H,hi];rfl
      rw[e];exact(Ch rb l g t C V S z vs w hW (R.max ak) (R.word z ak) E H hi ah M X).mono fun _ _ h=>lY h
    |[s,J],R,hW,hlen=>
     have e:i? vs [V,S,z,s,J]=(⟨1,lh vs V.data.toList,Wm.UJ s.data.toList,0,tB (dI vs V.data.toList) z,tB (dP (dI vs V.data.toList) z) J,emp⟩,fz z&&Wm.ZX s.data.toList&&fz J,dP (dP (dI vs V.data.toList) z) J):=by simp only[i?,E,H];rfl
     rw[e];exact(Ci rb l g t C V S z s J vs w hW (R.max ak) (R.word z ak) (R.word J ak) E H ah M X).mono fun _ _ h=>lY h
    |[s],R,hW,hlen=>
     have e:i? vs [V,S,z,s]=(om,false,dP (dI vs V.data.toList) z):=by simp only[i?,E,H];rfl
     rw[e];exact(uV rb l g t _ C V S z _ vs w hW (R.max ak) (R.word z ak) E H hlen ak ak ah M X).mono fun _ _ h=>lY h
    |s :: J :: Z :: r,R,hW,hlen=>
     have e:i? vs (V :: S :: z :: s :: J :: Z :: r)=(om,false,dP (dI vs V.data.toList) z):=by simp only[i?,E,H];rfl
     rw[e];exact(uV rb l g t _ C V S z _ vs w hW (R.max ak) (R.word z ak) E H hlen (by simp;omega) (by simp;omega) ah M X).mono fun _ _ h=>lY h
end
open Go.RowKit Go.Proofs Go.Maps Tryz
def BW{p:Prop}(h:p:=by
 clear Y;go_enter func125,ntmps125
 go_wp2_with fail
 refine bA (f.o _ (M.alloc _) (X.alloc _) (hW.alloc _)) ?_;rintro e r ⟨n,ok,d,rfl,j,c,i⟩;have eB:=dA i (fun k e=>by cases e;exact M.lt);obtain⟨H,q⟩:=ae eB;have R:w.heap.size<r.heap.size:=(bq.1 eB).1;clear eB Z
 go_wp2_with fail
 refine aG (v:=.tuple #[jl n,.bool ok]) (by simp[results,results125,go_sem,jl,aK,emp,gq,H,R]) rfl ⟨n,ok,d,rfl,j,?_,?_⟩
 ·repeat(refine Rd.set ?_ (by simp;omega) (by simp;omega) _)
  exact c
 repeat(refine cX ?_ (aF _) _)
 exact cm i):p:=h
def Ev(rb l g t len C:Nat)(V:ByteArray)(ws:List ByteArray)(vs:List cC)(st:St)(w:World)(hl:(0:Int)<len)(M:Rd w rb l vs)(X:en w)(hW:Ws w g t (V :: ws))(h0:(V.toList==[111,117,116,112,117,116])=true)
  (Y:∀W,Rd W rb l vs->en W->Ws W g t (V :: ws)->Cl 194 (km rb g t len C) W (wF W rb l st)):
  Cl 125 (km rb g t len C) w (wF w rb l st):=by
 have Z:e' w g t (.string V):=hW.cell 0 V rfl;have m:=hW.lt;have hm:=M.lt;have L:=M.Lf;have f:Hd (∀W,Rd W rb l vs->en W->Ws W g t (V :: ws)->Cl 194 (km rb g t len C) W (wF W rb l st)):=Y;exact BW
def HK(rb l g t len C:Nat)(V:ByteArray)(ws:List ByteArray)(vs:List cC)(st:St)(w:World)(hl:(0:Int)<len)(M:Rd w rb l vs)(X:en w)(hW:Ws w g t (V :: ws))(h0:(V.toList==[111,117,116,112,117,116])=false)(h1:(V.toList==[105,102])=true)
  (Y:∀W,Rd W rb l vs->en W->Ws W g t (V :: ws)->Cl 195 (km rb g t len C) W (wF W rb l st)):
  Cl 125 (km rb g t len C) w (wF w rb l st):=by
 have Z:e' w g t (.string V):=hW.cell 0 V rfl;have m:=hW.lt;have hm:=M.lt;have L:=M.Lf;have f:Hd (∀W,Rd W rb l vs->en W->Ws W g t (V :: ws)->Cl 195 (km rb g t len C) W (wF W rb l st)):=Y;exact BW
def Ca(rb l g t len C:Nat)(V:ByteArray)(ws:List ByteArray)(vs:List cC)(st:St)(w:World)(hl:(0:Int)<len)(M:Rd w rb l vs)(X:en w)(hW:Ws w g t (V :: ws))(h0:(V.toList==[111,117,116,112,117,116])=false)(h1:(V.toList==[105,102])=false)(h2:(V.toList==[103,111,116,111])=true)
  (Y:∀W,Rd W rb l vs->en W->Ws W g t (V :: ws)->Cl 196 #[.slice (some (Ad g t)) len C] W (wF W rb l st)):
  Cl 125 (km rb g t len C) w (wF w rb l st):=by
 have Z:e' w g t (.string V):=hW.cell 0 V rfl;have m:=hW.lt;have hm:=M.lt;have L:=M.Lf;have f:Hd (∀W,Rd W rb l vs->en W->Ws W g t (V :: ws)->Cl 196 #[.slice (some (Ad g t)) len C] W (wF W rb l st)):=Y;exact BW
def Ew(rb l g t len C:Nat)(V:ByteArray)(ws:List ByteArray)(vs:List cC)(st:St)(w:World)(hl:(0:Int)<len)(M:Rd w rb l vs)(X:en w)(hW:Ws w g t (V :: ws))(h0:(V.toList==[111,117,116,112,117,116])=false)(h1:(V.toList==[105,102])=false)(h2:(V.toList==[103,111,116,111])=false)(h3:(V.toList==[114,101,116,117,114,110])=false)
  (Y:∀W,Rd W rb l vs->en W->Ws W g t (V :: ws)->Cl 197 (km rb g t len C) W (wF W rb l st)):
  Cl 125 (km rb g t len C) w (wF w rb l st):=by
 have Z:e' w g t (.string V):=hW.cell 0 V rfl;have m:=hW.lt;have hm:=M.lt;have L:=M.Lf;have f:Hd (∀W,Rd W rb l vs->en W->Ws W g t (V :: ws)->Cl 197 (km rb g t len C) W (wF W rb l st)):=Y;exact BW
def Eu(rb l g t len C:Nat)(V:ByteArray)(ws:List ByteArray)(vs:List cC)(w:World)(hl:(0:Int)<len)(M:Rd w rb l vs)(hW:Ws w g t (V :: ws))(h0:(V.toList==[111,117,116,112,117,116])=false)(h1:(V.toList==[105,102])=false)(h2:(V.toList==[103,111,116,111])=false)(h3:(V.toList==[114,101,116,117,114,110])=true):
  Cl 125 (km rb g t len C) w (wF w rb l (⟨6,0,0,0,o0,o0,emp⟩,(len:Int)==1,vs)):=by
 have Z:e' w g t (.string V):=hW.cell 0 V rfl;have m:=hW.lt;go_enter func125,ntmps125
 go_wp2_with fail
 exact aG (v:=.tuple #[jl ⟨6,0,0,0,o0,o0,emp⟩,.bool ((len:Int)==1)]) (by simp[results,results125,go_sem,jl,aK,o0,emp,gq]) rfl ⟨_,_,vs,rfl,rfl,M.alloc _,gJ _ _ _⟩
def lG(rb l g t C:Nat)(ws:List ByteArray)(vs:List cC)(w:World)(h0:ws≠[])(R:tv ws)(hn:vs.length+3<maxLen)(M:Rd w rb l vs)(X:en w)(hW:Ws w g t ws):
  Cl 125 (km rb g t ws.length C) w (wF w rb l (tw vs ws)):=by
 match ws,h0,R,hW with
 | V :: r,_,R,hW=>
  have hl:(0:Int)<((V :: r).length:Int):=ak
  cases S:(V.toList==[111,117,116,112,117,116])with
  |true=>
   rw[show tw vs (V :: r)=sA vs (V :: r)by simp only[tw,S,dx]];exact Ev rb l g t _ C V r vs _ w hl M X hW S (fun W a b c=>xQ rb l g t C (V :: r) vs W R hn a b c)
  | false=>
   cases Q:(V.toList==[105,102])with
   |true=>
    rw[show tw vs (V :: r)=DI vs (V :: r)by simp only[tw,S,Q,bN,bR,dx]];exact HK rb l g t _ C V r vs _ w hl M X hW S Q (fun W a b c=>Ia rb l g t C (V :: r) vs W R hn a b c)
   | false=>
    cases z:(V.toList==[103,111,116,111])with
    |true=>
     rw[show tw vs (V :: r)=lP vs (V :: r)by simp only[tw,S,Q,z,bN,bR,dx]];exact Ca rb l g t _ C V r vs _ w hl M X hW S Q z (fun W a b c=>Cf rb l g t C (V :: r) vs W R a c)
    | false=>
     cases I:(V.toList==[114,101,116,117,114,110])with
     |true=>
      rw[show tw vs (V :: r)=(⟨6,0,0,0,o0,o0,emp⟩,((r.length+1:Nat):Int)==1,vs)by simp only[tw,S,Q,z,I,bN,bR,dx]];exact Eu rb l g t _ C V r vs w hl M hW S Q z I
     |false=>
      rw[show tw vs (V :: r)=i? vs (V :: r)by simp only[tw,S,Q,z,I,bN,bR]];exact Ew rb l g t _ C V r vs _ w hl M X hW S Q z I (fun W a b c=>Ex rb l g t C (V :: r) vs W R hn a b c)
open Go.RowKit Go.Proofs Go.Maps Tryz
def lS(s p:ByteArray)(w:World)(hs:s.size<=3000):
  Cl 123 #[.string s,.string p] w fun e I=>∃(D:ByteArray) (b:Bool),e=.returned (.tuple #[.string D,.bool b])/\Hd (D.data.toList=Lib.trimSuffix s.data.toList p.data.toList/\b=Lib.hasSuffix s.data.toList p.data.toList)/\I=w:=
 (Tryz.strings_CutSuffix s p w ah).mono fun _ _ h=>⟨_,_,h.1,⟨rfl,rfl⟩,h.2⟩
def zQ(s:ByteArray):Bool:=Lib.hasSuffix s.data.toList [58]
def lr(s:ByteArray):ByteArray:=⟨(Lib.trimSuffix s.data.toList [58]).toArray⟩
def pR(s:ByteArray):(lr s).size<=s.size:=by
 show(Lib.trimSuffix s.data.toList [58]).toArray.size<=s.data.size;unfold Lib.trimSuffix;split<;>simp
def FN{a w:World}{row:Option Nat}(h:a.drew.grownBy w row):a.grownBy w row:=⟨h.os,h.tape,h.output,h.size,h.block⟩
abbrev Ln:=ByteArray×Nat×St
def sJ(vs:List cC)(ws:List ByteArray):Ln:=
 match ws with
 |[]=>(emp,0,iZ vs)
 | w0 :: r=>
  if zQ w0 then
   (if Wm.nm (lr w0) then(match r with|[]=>(emp,0,iZ vs)|_=>(lr w0,1,tw vs r)) else(emp,0,iZ vs))
  else(emp,0,tw vs (w0 :: r))
def Tk(w:World)(rb mb g off len cap:Nat)(ln:Ln)(e:Ending)(w':World):Prop:=
 ∃(bj:ByteArray) (k:Nat) (ad:Option Addr) (l c:Nat) (n:SN) (ok:Bool) (zo:List cC),e=.returned (.tuple #[.agg #[.string bj,.slice ad l c,Iv n.kind,Iv n.var,Iv n.op,Iv n.test,.bool n.a.isVar,Iv n.a.var,Iv n.a.const,.bool n.b.isVar,Iv n.b.var,Iv n.b.const,.slice none 0 0,.string n.goal],.bool ok])/\Hd ((bj,k,n,ok,zo)=ln)/\Hd (ok=true->ad=some (Ad g (off+k))/\l=len-k/\c=cap-k)/\Rd w' rb mb zo/\w.grownBy w' (some mb)
def Cc(rb l g t len C:Nat)(V:ByteArray)(ws:List ByteArray)(vs:List cC)(w:World)(hl:(0:Int)<len)(hs:V.size<=3000)(M:Rd w rb l vs)(hW:Ws w g t (V :: ws))(Z:zQ V=true)(hn:Wm.nm (lr V)=false):
  Cl 79 (km rb g t len C) w fun e I=>
   e=.returned (.tuple #[jl om,.bool false])/\Bl w I:=by
 have G:e' w g t (.string V):=hW.cell 0 V rfl;have m:=hW.lt;have a:(lr V).size<=maxLen:=by have:=pR V;unfold maxLen;omega
 go_enter func79,ntmps79
 go_wp2_with fail
 refine(lS _ _ _ hs).mono ?_;rintro e I ⟨D,b,rfl,p,rfl⟩;obtain rfl:D=lr V:=by
  have:=p.a;cases D;simp only[lr]at this⊢;congr 1;exact TS.1 this
 obtain rfl:b=true:=p.A.trans Z
 go_wp2_with (first|(go_at_call 124;refine(dB _ _ a).mono ?_;rintro e I ⟨rfl,rfl⟩))
 exact aG (v:=.tuple #[jl om,.bool false]) (by simp[results,results79,go_sem,jl,aK,om,o0,emp,gq]) rfl ⟨rfl,(aM _ _).alloc (aF _) _⟩
def zx(rb l g t C:Nat)(V:ByteArray)(ws:List ByteArray)(vs:List cC)(w:World)(o:1<=C)(hs:V.size<=3000)(M:Rd w rb l vs)(hW:Ws w g t (V :: ws))(Z:zQ V=true)(hn:Wm.nm (lr V)=true):
  Cl 79 #[.pointer (some (Ad rb 0)),.slice (some (Ad g t)) 1 C] w fun e I=>
   e=.returned (.tuple #[jl om,.bool false])/\Bl w I:=by
 have G:e' w g t (.string V):=hW.cell 0 V rfl;have m:=hW.lt;have a:(lr V).size<=maxLen:=by have:=pR V;unfold maxLen;omega
 go_enter func79,ntmps79
 go_wp2_with fail
 refine(lS _ _ _ hs).mono ?_;rintro e I ⟨D,b,rfl,p,rfl⟩;obtain rfl:D=lr V:=by
  have:=p.a;cases D;simp only[lr]at this⊢;congr 1;exact TS.1 this
 obtain rfl:b=true:=p.A.trans Z;clear p
 go_wp2_with (first|(go_at_call 124;refine(dB _ _ a).mono ?_;rintro e I ⟨rfl,rfl⟩))
 go_region
 all_goals go_wp2
 all_goals exact aG (v:=.tuple #[jl om,.bool false]) (by simp[results,results79,go_sem,jl,aK,om,o0,emp,gq]) rfl ⟨rfl,((aM _ _).alloc (aF _) _).drew⟩
def Pt{p:Prop}(h:p:=by
 refine wJ ?_ (gJ _ _ _)
 repeat(refine cX ?_ (aF _) _)
 exact cm s):p:=h
def Cb(rb l g t len C:Nat)(V:ByteArray)(ws:List ByteArray)(vs:List cC)(st:St)(w:World)(hlen:2<=len)(o:len<=C)(u:C<=maxLen)(hs:V.size<=3000)(M:Rd w rb l vs)(X:en w)(hW:Ws w g t (V :: ws))(Z:zQ V=true)(hn:Wm.nm (lr V)=true)
  (Y:∀W,Rd W rb l vs->en W->Ws W g (t+1) ws->Cl 125 #[.pointer (some (Ad rb 0)),.slice (some (Ad g (t+1))) (len-1) (C-1)] W (wF W rb l st)):
  Cl 79 (km rb g t len C) w (Tk w rb l g t len C (lr V,1,st)):=by
 have G:e' w g t (.string V):=hW.cell 0 V rfl;have m:=hW.lt;have v:=M.lt;have B:=M.Lf;have hm:(lr V).size<=maxLen:=by have:=pR V;unfold maxLen;omega
 have f:Hd (∀W,Rd W rb l vs->en W->Ws W g (t+1) ws->Cl 125 #[.pointer (some (Ad rb 0)),.slice (some (Ad g (t+1))) (len-1) (C-1)] W (wF W rb l st)):=Y;clear Y;unfold maxLen at u;have A:(1:Int)<=len:=ah
 have E:(len:Int)<=C:=ah
 have x:(1:Int)<=C:=ah
 have L:(0:Int)<len:=ah
 have z:¬C=1:=ah
 have y:¬len=1:=ah
 go_enter func79,ntmps79
 go_wp2_with fail
 refine(lS _ _ _ hs).mono ?_;rintro e I ⟨D,b,rfl,p,rfl⟩;obtain rfl:D=lr V:=by
  have:=p.a;cases D;simp only[lr]at this⊢;congr 1;exact TS.1 this
 obtain rfl:b=true:=p.A.trans Z;clear p
 go_wp2_with (first|(go_at_call 124;refine(dB _ _ hm).mono ?_;rintro e I ⟨rfl,rfl⟩))
 go_region
 go_wp2_with fail
 refine bA (f.o _ (M.alloc _).drew (X.alloc _) (hW.alloc _).tail) ?_;rintro e r ⟨n,ok,d,rfl,j,c,i⟩;have s:=FN i;have eB:=dA s (fun k e=>by cases e;exact M.lt);obtain⟨H,q⟩:=ae eB;have R:w.heap.size<r.heap.size:=(bq.1 eB).1;clear eB G hW X f
 go_wp2_with fail
 refine aG (v:=.tuple #[.agg (aK (lr V) (.slice (some (Ad g (t+1))) (len-1) (C-1)) n gq),.bool ok]) (by simp[results,results79,go_sem,aK,gq,H,R]) rfl ⟨(lr V),1,_,_,_,n,ok,d,rfl,by show _=_;rw[<-j.o],fun _=>⟨rfl,rfl,rfl⟩,?_,?_⟩
 ·refine Rd.alloc ?_ _
  repeat(refine Rd.set ?_ (by simp;omega) (by simp;omega) _)
  exact c
 exact Pt
def zy(rb l g t len C:Nat)(V:ByteArray)(ws:List ByteArray)(vs:List cC)(st:St)(w:World)(hlen:1<=len)(hs:V.size<=3000)(M:Rd w rb l vs)(X:en w)(hW:Ws w g t (V :: ws))(Z:zQ V=false)
  (Y:∀W,Rd W rb l vs->en W->Ws W g t (V :: ws)->Cl 125 (km rb g t len C) W (wF W rb l st)):
  Cl 79 (km rb g t len C) w (Tk w rb l g t len C (emp,0,st)):=by
 have G:e' w g t (.string V):=hW.cell 0 V rfl;have m:=hW.lt;have v:=M.lt;have o:=M.Lf;have f:Hd (∀W,Rd W rb l vs->en W->Ws W g t (V :: ws)->Cl 125 (km rb g t len C) W (wF W rb l st)):=Y;clear Y;have L:(0:Int)<len:=ah
 have y:((len:Int)==0)=false:=by rw[er];omega
 go_enter func79,ntmps79
 go_wp2_with fail
 refine(lS _ _ _ hs).mono ?_;rintro e I ⟨D,b,rfl,p,rfl⟩;obtain rfl:b=false:=p.A.trans Z;clear p
 go_wp2_with fail
 refine bA (f.o _ (M.alloc _) (X.alloc _) (hW.alloc _)) ?_;rintro e r ⟨n,ok,d,rfl,j,c,i⟩;have s:=i;have eB:=dA s (fun k e=>by cases e;exact M.lt);obtain⟨H,q⟩:=ae eB;have R:w.heap.size<r.heap.size:=(bq.1 eB).1;clear eB G hW X f
 go_wp2_with fail
 refine aG (v:=.tuple #[.agg (aK emp (.slice (some (Ad g t)) len C) n gq),.bool ok]) (by simp[results,results79,go_sem,aK,gq,emp,H,R]) rfl ⟨emp,0,_,_,_,n,ok,d,rfl,by show _=_;rw[<-j.o],fun _=>⟨rfl,rfl,rfl⟩,?_,?_⟩
 ·refine Rd.alloc ?_ _
  repeat(refine Rd.set ?_ (by simp;omega) (by simp;omega) _)
  exact c
 exact Pt
def Q8{w w':World}{rb l g t len C:Nat}{vs:List cC}{e:Ending}(M:Rd w rb l vs)(h:e=.returned (.tuple #[jl om,.bool false])/\Bl w w'):Tk w rb l g t len C (emp,0,iZ vs) e w':=
 ⟨emp,0,none,0,0,om,false,vs,h.1,rfl,(fun e=>by cases e),M.grown h.2,jQ (bC h.2) _⟩
def tv.tail{x:ByteArray}{ws:List ByteArray}(h:tv (x :: ws)):tv ws:=⟨by have:=h.len;simp at this;omega,fun y T=>h.word y (by simp[T])⟩
def Cd(rb l g t C:Nat)(ws:List ByteArray)(vs:List cC)(w:World)(h0:ws≠[])(o:ws.length<=C)(u:C<=maxLen)(R:tv ws)(hn:vs.length+3<maxLen)(M:Rd w rb l vs)(X:en w)(hW:Ws w g t ws):
  Cl 79 (km rb g t ws.length C) w (Tk w rb l g t ws.length C (sJ vs ws)):=by
 match ws,h0,o,R,hW with
 | V :: r,_,o,R,hW=>
  have z:=R.word V ak;cases Z:zQ V with
  | true=>
   cases d:Wm.nm (lr V)with
   | true=>
    match r,o,R,hW with
    |[],o,R,hW=>
     rw[show sJ vs [V]=(emp,0,iZ vs)by simp only[sJ,Z,d,dx]];exact(zx rb l g t C V [] vs w o z M hW Z d).mono fun _ _ h=>Q8 M h
    |S :: r,o,R,hW=>
     rw[show sJ vs (V :: S :: r)=(lr V,1,tw vs (S :: r))by simp only[sJ,Z,d,dx]];exact Cb rb l g t _ C V (S :: r) vs _ w ak o u z M X hW Z d (fun W a b c=>lG rb l g (t+1) (C-1) (S :: r) vs W ak R.tail hn a b c)
   |false=>
    rw[show sJ vs (V :: r)=(emp,0,iZ vs)by simp only[sJ,Z,d,dx,bN,bR]];exact(Cc rb l g t _ C V r vs w ak z M hW Z d).mono fun _ _ h=>Q8 M h
  |false=>
   rw[show sJ vs (V :: r)=(emp,0,tw vs (V :: r))by simp only[sJ,Z,bN,bR]];exact zy rb l g t _ C V r vs _ w ak z M X hW Z (fun W a b c=>lG rb l g t C (V :: r) vs W ak R hn a b c)
end Go.Proofs.YtmipbiligijcpaaGreatDoor
