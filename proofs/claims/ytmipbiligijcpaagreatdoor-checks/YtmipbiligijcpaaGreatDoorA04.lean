import Derived.Test.YtmipbiligijcpaaGreatDoorA02
import Derived.Deep.LoopGhost
import Derived.Deep.AppendLies
namespace Go.Proofs.YtmipbiligijcpaaGreatDoor
set_option linter.all false
set_option maxHeartbeats 0
set_option maxRecDepth 99999
open Go.RowKit Go.Proofs Go.Maps List Tryz Go.WideMaps open List renaming length→ζ,toArray→θ open _root_.Array renaming size→δ open World renaming setCell→κ,ownsRow→ρ,cell?→χ,grownBy→ξ open Value renaming ownBlock→φ open Value renaming slice→i',bool→j',agg→l',string→m',pointer→o',tuple→t' open Obj renaming cells→k' open Ending renaming returned→p' open Option renaming some→B',none→C' open Bool renaming true→O',false→P'
variable {B a e g k n size:Nat}{D:List A'}{p:Int}{v:A'}{w:u'}
section
variable {x a b:Int}
structure VV where
  any:Bool
  lo:Int
  hi:Int
def VV.rZ(a b:VV):Bool:=a.any==b.any&&a.lo==b.lo&&a.hi==b.hi
def VV.tL(a b:VV):VV.rZ a b=O'↔a=b:=by obtain⟨N,c,c⟩:=a;obtain⟨a,o,x⟩:=b;simp[VV.rZ,and_assoc]
def VV.gT:VV:=⟨O',0,0⟩
def VV.one(c:Int):VV:=⟨P',c,c⟩
def VV.all:VV:=⟨P',-9223372036854775808,9223372036854775807⟩
abbrev EV:=Option (List VV)
structure oL(v:VV):Prop where
  lo:-2^63<=v.lo/\v.lo<=9223372036854775807
  hi:-2^63<=v.hi/\v.hi<=9223372036854775807
def aP(x:Int):Bool:=decide (-9223372036854775808<=x)&&decide (x<=9223372036854775807)
def kh(p:Int)(a b:VV):VV:=if p=5 then(if VV.rZ a b then a else VV.gT) else⟨a.any,if b.lo<a.lo then b.lo else a.lo,if b.hi>a.hi then b.hi else a.hi⟩
def Iu(p:Int):EV->EV->EV
 |none,b=>b
 |some a,none=>B' a
 |some a,some b=>B' (zipWith (kh p) a b)
def Ew(p:Int):EV->EV->Bool
 |none,_=>O'
 |some _,none=>P'
 |some a,some b=>(zip a b).all λx=>VV.rZ (kh p x.1 x.2) x.2
def cK(a:VV)(lo hi:Int):VV:=⟨a.any,if lo>a.lo then lo else a.lo,if hi<a.hi then hi else a.hi⟩
def zV(a b c d:Int)(f:Bool):VV:=if f then kh 6 (kh 6 (kh 6 (VV.one a) (VV.one b)) (VV.one c)) (VV.one d) else VV.all
def zI(a b:VV):VV:=zV (a.lo+b.lo) (a.hi+b.hi) (a.lo+b.lo) (a.hi+b.hi) (aP (a.lo+b.lo)&&aP (a.hi+b.hi))
def kP(a b:VV):VV:=zV (a.lo-b.hi) (a.hi-b.lo) (a.lo-b.hi) (a.hi-b.lo) (aP (a.lo-b.hi)&&aP (a.hi-b.lo))
def yF(a b:VV):VV:=zV (a.lo*b.lo) (a.lo*b.hi) (a.hi*b.lo) (a.hi*b.hi) (aP (a.lo*b.lo)&&aP (a.lo*b.hi)&&aP (a.hi*b.lo)&&aP (a.hi*b.hi))
def j6(a b:VV):Option VV:=
 if b.lo≠b.hi then B' VV.all
 else if b.lo=0 then C'
 else if b.lo=-1 then B' (kP ⟨P',0,0⟩ a)
 else if 0<b.lo then B' ⟨P',a.lo.tdiv b.lo,a.hi.tdiv b.lo⟩
 else B' ⟨P',a.hi.tdiv b.lo,a.lo.tdiv b.lo⟩
def cy(h:aP x=O'):wrap64 x=x:=by unfold aP at h;simp only[bh,bq]at h;unfold wrap64;omega
def Ja(x:Int):∃k:Int,wrap64 x=x+k*18446744073709551616:=by unfold wrap64;exact⟨-((x+2^63) / 18446744073709551616),I⟩
def wrap64_in(x:Int):aP (wrap64 x)=O':=by simp only[aP,wrap64,bh,bq];omega
def SV(e:aP b=O')(D:b≠0):((wrap64 (a*b)).tdiv b==a)=aP (a*b):=by
 by_cases Y:aP (a*b)=O'
 ·rw[Y,cy Y,Int.mul_tdiv_cancel _ D];simp
 rw[je]at Y;rw[Y,b?];intro l;obtain⟨k,c⟩:=Ja (a*b);have d:k≠0:=by rintro rfl;have:=wrap64_in (a*b);rw[c]at this;simp at this;rw[this]at Y;cases Y
 have d:=Int.tmod_add_mul_tdiv (wrap64 (a*b)) b;rw[l,c]at d;have c:(a*b+k*18446744073709551616).tmod b=k*18446744073709551616:=by have:=Int.mul_comm b a;omega
 have C:((a*b+k*18446744073709551616).tmod b).natAbs<b.natAbs:=by rw[Int.natAbs_tmod];exact AJ _ I
 rw[c]at C;unfold aP at e;simp only[bh,bq]at e;omega
def C?(F:aP x=O')(D:b≠0)(C:b≠-1):aP (x.tdiv b)=O':=by
 unfold aP at F⊢;simp only[bh,bq]at F⊢;by_cases a:b=1
 ·subst a;rw[LA];exact F
 have a:(x.tdiv b).natAbs<=x.natAbs / 2:=by rw[Int.natAbs_tdiv];exact Nat.div_le_div_left I I
 omega
def BD(c:aP b=O')(D:b≠0)(C:b≠-1):(wrap64 ((wrap64 (a*b)).tdiv b)==a)=aP (a*b):=by rw[cy (C? (wrap64_in _) D C)];exact SV c D
end
def Rd.drew{w:u'}{a x:Nat}{E:List bE}(h:Rd w a x E):Rd w.drew a x E:=⟨h.box,h.own,h.nodup⟩
def rX{a w:u'}{q:Option Nat}(h:ξ a w q):ξ a w.drew q:=⟨h.os,h.tape,h.output,h.size,h.block⟩
def YJ{p:Prop}(h:p:=by
 go_wp2;refine aC (v:=t' #[jr ⟨4,0,0,Wm.uw W.1.1,⟨y,va,o⟩,⟨D,X,U⟩,p⟩,j' (bY b&&Wm.xA W.1.1&&bY i&&Wm.nm p)]) (by simp[results195,go_sem,jr,aR,emp,gK,l.1,Q,h,j]) rfl ⟨by rw[V.o,S.o],?_,?_⟩
 ·refine Rd.drew ?_
  repeat(refine Rd.set ?_ H' H' _)
  exact d
 refine rX ?_
 repeat(refine dH ?_ aF _)
 exact a.o):p:=h
def JX(rb x g t f:Nat)(w0 b W i Y p:z')(E:List bE)(w:u')(hs1:b.size<=3000)(z:i.size<=3000)(pc:p.size<=maxLen)(K:ζ E+1<maxLen)(v:Rd w rb x E)(hG:eH w)(j:Ws w g t [w0,b,W,i,Y,p])(d:(Y.toList==[103,111,116,111])=O'):
  Cl 195 #[o' (B' (O rb 0)),i' (B' (O g t)) 6 f] w λe w'=>
   e=p' (t' #[jr ⟨4,0,0,Wm.uw W.1.1,oI E b,oI (bP E b) i,p⟩,j' (bY b&&Wm.xA W.1.1&&bY i&&Wm.nm p)])/\Rd w' rb x (bP (bP E b) i)/\ξ w w' (B' x):=by
 have pd:=j.cell 4 Y rfl;have c:=j.cell 1 b rfl;have f:=j.lt;have f:=v.lt;have f:=v.O?;have hn1:ζ E<maxLen:=I;have hn2:ζ (bP E b)<maxLen:=by have:=jS E b;omega
 go_enter func195,ntmps195
 go_wp2_with (first
  |(go_at_call_of 259 (Value.string b);refine(kC b rb x E _ hs1 hn1 (v.alloc _) (hG.alloc _)).mono ?_;rintro e F ⟨y,va,o,rfl,V,B,Q⟩;have r:=ep Q (λk e=>by cases e;exact v.lt);have L:=M r;have f:=(aY.1 r).1;have a:=(j.alloc _).grown (v.alloc _).isMap Q;have C:=(hG.alloc _).grown (v.alloc _) Q;have P:=a.cell 2 W rfl;have N:=a.cell 3 i rfl;have R:=a.lt)
  |(go_at_call_of 259 (Value.string i);refine(kC i rb x (bP E b) _ z hn2 (B.alloc _) (C.alloc _)).mono ?_;rintro e W4 ⟨D,X,U,rfl,S,mq,q⟩;have s:=nP (fK r _) (B.alloc _).isMap q;have u:=M s;have l:=ep q (λk e=>by cases e;exact B.lt);have tF:=M l;have f:=(aY.1 l).1;have h:=(a.alloc _).grown (B.alloc _).isMap q;have T:=h.cell 5 p rfl;have afu:=h.lt)
  |(go_at_call 260;refine F' (Af _ _) ?_))
 clear pd c P N L r d a C h u;have c:δ w.1<δ W4.1:=I;obtain⟨C,a⟩:∃C,W4.alloc (k' (cT D X U) 150)=C:=⟨_,rfl⟩;rw[a];have d:=fK s (k' (cT D X U) 150);have g:=fK l (k' (cT D X U) 150);have c:d' (W4.alloc (k' (cT D X U) 150)) W4.1.size (cT D X U) 150:=bV;rw[a]at d g c;have f:=hid a;clear a tF s l j hs1 z;have l:=M d;have k:=M g;have k:=M c;clear d g c;have s:δ w.1≠δ F.1:=I;have c:δ F.1≠δ w.1:=I;have c:δ w.1≠δ W4.1:=I;have c:δ W4.1≠δ w.1:=I;have d:Rd C rb x (bP (bP E b) i):=by have:=mq.alloc (k' (cT D X U) 150);rwa[f.o]at this
 have c:ξ w C (B' x):=by have:=(cI Q).trans ((cI q).trans (jO W4 (k' (cT D X U) 150) (B' x)));rwa[f.o]at this
 have a:=hid c;clear c B mq Q q f T v hG K hn1 hn2 R afu;cases Q:bY b
 case false=>
  go_region
  go_wp2;refine aC (v:=t' #[jr ⟨4,0,0,Wm.uw W.1.1,⟨y,va,o⟩,⟨D,X,U⟩,p⟩,j' (bY b&&Wm.xA W.1.1&&bY i&&Wm.nm p)]) (by simp[results195,go_sem,jr,aR,emp,gK,l.1,Q]) rfl ⟨by rw[V.o,S.o],?_,?_⟩
  ·refine Rd.drew ?_
   repeat(refine Rd.set ?_ H' H' _)
   exact d
  refine rX ?_
  repeat(refine dH ?_ aF _)
  exact a.o
 case true=>
 cases h:Wm.xA W.1.1
 case false=>
  go_region
  go_wp2;refine aC (v:=t' #[jr ⟨4,0,0,Wm.uw W.1.1,⟨y,va,o⟩,⟨D,X,U⟩,p⟩,j' (bY b&&Wm.xA W.1.1&&bY i&&Wm.nm p)]) (by simp[results195,go_sem,jr,aR,emp,gK,l.1,Q,h]) rfl ⟨by rw[V.o,S.o],?_,?_⟩
  ·refine Rd.drew ?_
   repeat(refine Rd.set ?_ H' H' _)
   exact d
  refine rX ?_
  repeat(refine dH ?_ aF _)
  exact a.o
 case true=>
 cases j:bY i
 case false=>
  go_region
  exact YJ
 go_region_held3 (λw'=>χ w' (O F.1.size 0)=B' (j' y)/\χ w' (O F.1.size 1)=B' (G va)/\χ w' (O F.1.size 2)=B' (G o)/\χ w' (O W4.1.size 0)=B' (j' D)/\χ w' (O W4.1.size 1)=B' (G X)/\χ w' (O W4.1.size 2)=B' (G U)) (go_keep) ((go_at_call 124;refine F' (eC _ _ pc) ?_))
 exact YJ
section
variable {R:List z'} {x:Nat} {e:Ending}
abbrev St:=SN×Bool×List bE
def gJ(vs:List bE):St:=(oM,P',vs)
def pw(vs:List bE)(ws:List z'):St:=
 match ws with
 |[_,w1]=>(⟨3,0,0,0,oI vs w1,o0,emp⟩,bY w1,bP vs w1)
 |_=>gJ vs
def j2(vs:List bE)(ws:List z'):St:=
 match ws with
 |[_,w1]=>(⟨5,0,0,0,o0,o0,w1⟩,Wm.nm w1,vs)
 |_=>gJ vs
def zT(vs:List bE)(ws:List z'):St:=
 match ws with
 |[_,w1,w2,w3,w4,w5]=>
  if w4.toList==[103,111,116,111] then(⟨4,0,0,Wm.uw w2.1.1,oI vs w1,oI (bP vs w1) w3,w5⟩,bY w1&&Wm.xA w2.1.1&&bY w3&&Wm.nm w5,bP (bP vs w1) w3) else gJ vs
 |_=>gJ vs
def fB(vs:List bE)(ws:List z'):St:=
 match ws with
 |w0::w1::w2::q=>
  if Wm.nm w0&&w1.toList==[61] then
   match q with
   |[]=>if w2.toList==[105,110,112,117,116] then(⟨2,eS vs w0.1.1,0,0,o0,o0,emp⟩,O',cB vs w0.1.1) else(⟨0,eS vs w0.1.1,0,0,oI (cB vs w0.1.1) w2,o0,emp⟩,bY w2,bP (cB vs w0.1.1) w2)
   |[w3,w4]=>(⟨1,eS vs w0.1.1,Wm.tZ w3.1.1,0,oI (cB vs w0.1.1) w2,oI (bP (cB vs w0.1.1) w2) w4,emp⟩,bY w2&&Wm.wC w3.1.1&&bY w4,bP (bP (cB vs w0.1.1) w2) w4)
   |_=>(oM,P',bP (cB vs w0.1.1) w2)
  else gJ vs
 |_=>gJ vs
def ix(vs:List bE)(ws:List z'):St:=
 match ws with
 |[]=>gJ vs
 |w0::r=>
  if w0.toList==[111,117,116,112,117,116] then pw vs (w0::r)
  else if w0.toList==[105,102] then zT vs (w0::r)
  else if w0.toList==[103,111,116,111] then j2 vs (w0::r)
  else if w0.toList==[114,101,116,117,114,110] then(⟨6,0,0,0,o0,o0,emp⟩,((ζ r+1:Nat):Int)==1,vs)
  else fB vs (w0::r)
structure vO(ws:List z'):Prop where
  len:ζ ws<=3001
  word:∀x∈ws,x.size<=3000
def vO.max(h:vO R){x:z'}(F:x∈R):x.size<=maxLen:=by have:=h.word x F;unfold maxLen;omega
def wS(w:u')(rb mb:Nat)(st:St)(e:Ending)(w':u'):Prop:=
 ∃(n:SN) (ok:Bool) (Ih:List bE),e=p' (t' #[l' #[m' ⟨#[]⟩,i' C' 0 0,G n.aG,G n.var,G n.op,G n.test,j' n.a.aS,G n.a.var,G n.a.cq,j' n.b.aS,G n.b.var,G n.b.cq,i' C' 0 0,m' n.bB],j' ok])/\J ((n,ok,Ih)=st)/\Rd w' rb mb Ih/\ξ w w' (B' mb)
def jG{a:u'}{b:Nat}{E:List bE}(v:Rd w b x E)(h:e=p' (t' #[jr oM,j' P'])/\Bl w a):wS w b x (gJ E) e a:=
 ⟨oM,P',E,h.1,rfl,v.grown h.2,j0 (bC h.2) _⟩
def lS{b:u'}{c:Nat}{a:List bE}{n:SN}{t:Bool}(h:e=p' (t' #[jr n,j' t])/\Rd b c x a/\ξ w b (B' x)):wS w c x (n,t,a) e b:=
 ⟨n,t,a,h.1,rfl,h.2.1,h.2.2⟩
def Ku{n m:Nat}(h:n≠m):((n:Int) !=(m:Int))=O':=by simp;omega
def xW(c x g t a:Nat)(R:List z')(E:List bE)(w:u')(f:vO R)(K:ζ E+3<maxLen)(v:Rd w c x E)(d:eH w)(hW:Ws w g t R):
  Cl 194 (j! c g t (ζ R) a) w (wS w c x (pw E R)):=by
 match R,f,hW with
 |[_,b],f,hW=>exact(xV c x g t a _ b E w (f.word b ak) I v d hW).mono λ_ _ h=>lS h
 |[],f,_=>exact(l7 c _ 0 a w aj I).mono λ_ _ h=>jG v h
 |[_],f,_=>exact(l7 c _ 1 a w aj I).mono λ_ _ h=>jG v h
 |_::_::_::r,f,_=>exact(l7 c _ _ a w (Ku (m:=2) ak) f.len).mono λ_ _ h=>jG v h
def C2(b x g t a:Nat)(R:List z')(E:List bE)(w:u')(f:vO R)(v:Rd w b x E)(hW:Ws w g t R):
  Cl 196 #[i' (B' (O g t)) (ζ R) a] w (wS w b x (j2 E R)):=by
 match R,f,hW with
 |[_,b],f,hW=>exact(C1 g t a _ b w (f.word b ak) hW).mono λ_ _ h=>lS ⟨h.1,v.grown h.2,j0 (bC h.2) _⟩
 |[],f,_=>exact(pf _ 0 a w aj I).mono λ_ _ h=>jG v h
 |[_],f,_=>exact(pf _ 1 a w aj I).mono λ_ _ h=>jG v h
 |_::_::_::r,f,_=>exact(pf _ _ a w (Ku (m:=2) ak) f.len).mono λ_ _ h=>jG v h
def yV(E:List bE)(R:List z')(h:ζ R≠6):zT E R=gJ E:=by
 unfold zT;split
 ·simp at h
 rfl
def six(h:ζ R=6):∃a b c d e f,R=[a,b,c,d,e,f]:=by
 match R,h with
 |[a,b,c,d,e,f],_=>exact⟨a,b,c,d,e,f,rfl⟩
def JZ(k x g t a:Nat)(R:List z')(E:List bE)(w:u')(f:vO R)(K:ζ E+3<maxLen)(v:Rd w k x E)(l:eH w)(j:Ws w g t R):
  Cl 195 (j! k g t (ζ R) a) w (wS w k x (zT E R)):=by
 by_cases c:ζ R=6;rotate_left
 ·rw[yV E R c];exact(Oz k _ _ a w (Ku (m:=6) c) f.len).mono λ_ _ h=>jG v h
 obtain⟨u,b,W,i,Y,p,rfl⟩:=six c;cases d:(Y.toList==[103,111,116,111])with
 |true=>
  have e:zT E [u,b,W,i,Y,p]=(⟨4,0,0,Wm.uw W.1.1,oI E b,oI (bP E b) i,p⟩,bY b&&Wm.xA W.1.1&&bY i&&Wm.nm p,bP (bP E b) i):=by show(if Y.toList==[103,111,116,111] then _ else _)=_;rw[d];rfl
  rw[e];exact(JX k x g t a u b W i Y p E w (f.word b ak) (f.word i ak) (f.max ak) I v l j d).mono λ_ _ h=>lS h
 |false=>
  have e:zT E [u,b,W,i,Y,p]=gJ E:=by show(if Y.toList==[103,111,116,111] then _ else _)=_;rw[d];rfl
  rw[e];exact(JY k g t a u b W i Y p w j d).mono λ_ _ h=>jG v h
def Fu(c x g t a:Nat)(R:List z')(E:List bE)(w:u')(f:vO R)(K:ζ E+3<maxLen)(v:Rd w c x E)(d:eH w)(hW:Ws w g t R):
  Cl 197 (j! c g t (ζ R) a) w (wS w c x (fB E R)):=by
 match R,f,hW with
 |[],f,_=>exact(l8 c _ 0 a w aj).mono λ_ _ h=>jG v h
 |[_],f,_=>exact(l8 c _ 1 a w aj).mono λ_ _ h=>jG v h
 |[_,_],f,_=>exact(l8 c _ 2 a w aj).mono λ_ _ h=>jG v h
 |u::b::W::q,f,hW=>
  have hlen:decide ((ζ (u::b::W::q):Int)<3)=P':=by rw[cR];simp;omega
  cases V:Wm.nm u with
  |false=>
   have e:fB E (u::b::W::q)=gJ E:=by simp[fB,V]
   rw[e];exact(C4 c g t _ a u _ w hW (f.max ak) hlen V).mono λ_ _ h=>jG v h
  |true=>
   cases l:(b.toList==[61])with
   |false=>
    have e:fB E (u::b::W::q)=gJ E:=by simp only[fB,V,l];rfl
    rw[e];exact(J0 c g t _ a u b _ w hW (f.max ak) hlen V l).mono λ_ _ h=>jG v h
   |true=>
    match q,f,hW,hlen with
    | [],f,hW,hlen=>
     cases S:(W.toList==[105,110,112,117,116])with
     |true=>
      have e:fB E [u,b,W]=(⟨2,eS E u.1.1,0,0,o0,o0,emp⟩,O',cB E u.1.1):=by simp only[fB,V,l,S];rfl
      rw[e];exact(z! c x g t a u b W E w hW (f.max ak) V l S I v).mono λ_ _ h=>lS h
     |false=>
      have e:fB E [u,b,W]=(⟨0,eS E u.1.1,0,0,oI (cB E u.1.1) W,o0,emp⟩,bY W,bP (cB E u.1.1) W):=by simp only[fB,V,l,S];rfl
      rw[e];exact(C5 c x g t a u b W E w hW (f.max ak) (f.word W ak) V l S I v d).mono λ_ _ h=>lS h
    |[i,Y],f,hW,hlen=>
     have e:fB E [u,b,W,i,Y]=(⟨1,eS E u.1.1,Wm.tZ i.1.1,0,oI (cB E u.1.1) W,oI (bP (cB E u.1.1) W) Y,emp⟩,bY W&&Wm.wC i.1.1&&bY Y,bP (bP (cB E u.1.1) W) Y):=by simp only[fB,V,l];rfl
     rw[e];exact(C6 c x g t a u b W i Y E w hW (f.max ak) (f.word W ak) (f.word Y ak) V l I v d).mono λ_ _ h=>lS h
    |[i],f,hW,hlen=>
     have e:fB E [u,b,W,i]=(oM,P',bP (cB E u.1.1) W):=by simp only[fB,V,l];rfl
     rw[e];exact(vr c x g t _ a u b W _ E w hW (f.max ak) (f.word W ak) V l hlen ak ak I v d).mono λ_ _ h=>lS h
    |i::Y::p::r,f,hW,hlen=>
     have e:fB E (u::b::W::i::Y::p::r)=(oM,P',bP (cB E u.1.1) W):=by simp only[fB,V,l];rfl
     rw[e];exact(vr c x g t _ a u b W _ E w hW (f.max ak) (f.word W ak) V l hlen H' H' I v d).mono λ_ _ h=>lS h
end
def CG{p:Prop}(h:p:=by
 clear e;go_enter func125,ntmps125;go_wp2_with fail;refine bK (Y.o _ (v.alloc _) (f.alloc _) (j.alloc _)) ?_;rintro e F ⟨n,t,c,rfl,p,B,b⟩;have r:=ep b (λk e=>by cases e;exact v.lt);have L:=M r;have f:δ w.1<δ F.1:=(aY.1 r).1;clear r T;go_wp2_with fail;refine aC (v:=t' #[jr n,j' t]) (by simp[results125,go_sem,jr,aR,emp,gK,L.1,f]) rfl ⟨n,t,c,rfl,p,?_,?_⟩
 ·repeat(refine Rd.set ?_ H' H' _)
  exact B
 repeat(refine dH ?_ aF _)
 exact cI b):p:=h
def Fs(b x g t c d:Nat)(u:z')(R:List z')(E:List bE)(st:St)(w:u')(X:(0:Int)<c)(v:Rd w b x E)(f:eH w)(j:Ws w g t (u::R))(D:(u.toList==[111,117,116,112,117,116])=O')
  (e:∀W,Rd W b x E->eH W->Ws W g t (u::R)->Cl 194 (j! b g t c d) W (wS W b x st)):
  Cl 125 (j! b g t c d) w (wS w b x st):=by
 have T:χ w (O g t)=B' (m' u):=j.cell 0 u rfl;have i:=j.lt;have hm:=v.lt;have i:=v.O?;have Y:J (∀W,Rd W b x E->eH W->Ws W g t (u::R)->Cl 194 (j! b g t c d) W (wS W b x st)):=e;exact CG
def JW(b x g t c d:Nat)(u:z')(R:List z')(E:List bE)(st:St)(w:u')(X:(0:Int)<c)(v:Rd w b x E)(f:eH w)(j:Ws w g t (u::R))(D:(u.toList==[111,117,116,112,117,116])=P')(C:(u.toList==[105,102])=O')
  (e:∀W,Rd W b x E->eH W->Ws W g t (u::R)->Cl 195 (j! b g t c d) W (wS W b x st)):
  Cl 125 (j! b g t c d) w (wS w b x st):=by
 have T:χ w (O g t)=B' (m' u):=j.cell 0 u rfl;have i:=j.lt;have hm:=v.lt;have i:=v.O?;have Y:J (∀W,Rd W b x E->eH W->Ws W g t (u::R)->Cl 195 (j! b g t c d) W (wS W b x st)):=e;exact CG
def CX(d x g t c b:Nat)(u:z')(R:List z')(E:List bE)(st:St)(w:u')(X:(0:Int)<c)(v:Rd w d x E)(f:eH w)(j:Ws w g t (u::R))(D:(u.toList==[111,117,116,112,117,116])=P')(C:(u.toList==[105,102])=P')(e:(u.toList==[103,111,116,111])=O')
  (e:∀W,Rd W d x E->eH W->Ws W g t (u::R)->Cl 196 #[i' (B' (O g t)) c b] W (wS W d x st)):
  Cl 125 (j! d g t c b) w (wS w d x st):=by
 have T:χ w (O g t)=B' (m' u):=j.cell 0 u rfl;have i:=j.lt;have hm:=v.lt;have i:=v.O?;have Y:J (∀W,Rd W d x E->eH W->Ws W g t (u::R)->Cl 196 #[i' (B' (O g t)) c b] W (wS W d x st)):=e;exact CG
def Ft(b x g t c d:Nat)(u:z')(R:List z')(E:List bE)(st:St)(w:u')(X:(0:Int)<c)(v:Rd w b x E)(f:eH w)(j:Ws w g t (u::R))(D:(u.toList==[111,117,116,112,117,116])=P')(C:(u.toList==[105,102])=P')(e:(u.toList==[103,111,116,111])=P')(N:(u.toList==[114,101,116,117,114,110])=P')
  (e:∀W,Rd W b x E->eH W->Ws W g t (u::R)->Cl 197 (j! b g t c d) W (wS W b x st)):
  Cl 125 (j! b g t c d) w (wS w b x st):=by
 have T:χ w (O g t)=B' (m' u):=j.cell 0 u rfl;have i:=j.lt;have hm:=v.lt;have i:=v.O?;have Y:J (∀W,Rd W b x E->eH W->Ws W g t (u::R)->Cl 197 (j! b g t c d) W (wS W b x st)):=e;exact CG
def Fq(b x g t c a:Nat)(u:z')(R:List z')(E:List bE)(w:u')(X:(0:Int)<c)(v:Rd w b x E)(j:Ws w g t (u::R))(D:(u.toList==[111,117,116,112,117,116])=P')(C:(u.toList==[105,102])=P')(d:(u.toList==[103,111,116,111])=P')(N:(u.toList==[114,101,116,117,114,110])=O'):
  Cl 125 (j! b g t c a) w (wS w b x (⟨6,0,0,0,o0,o0,emp⟩,(c:Int)==1,E)):=by
 have T:χ w (O g t)=B' (m' u):=j.cell 0 u rfl;have a:=j.lt;go_enter func125,ntmps125;go_wp2;exact aC (v:=t' #[jr ⟨6,0,0,0,o0,o0,emp⟩,j' ((c:Int)==1)]) (by simp[results125,go_sem,jr,aR,o0,emp,gK]) rfl ⟨_,_,E,rfl,rfl,v.alloc _,zJ⟩
def lC(e x g t d:Nat)(R:List z')(E:List bE)(w:u')(D:R≠[])(f:vO R)(K:ζ E+3<maxLen)(v:Rd w e x E)(i:eH w)(hW:Ws w g t R):
  Cl 125 (j! e g t (ζ R) d) w (wS w e x (ix E R)):=by
 match R,D,f,hW with
 |u::r,_,f,hW=>
  have X:(0:Int)<(ζ (u::r):Int):=ak;cases o:(u.toList==[111,117,116,112,117,116])with
  |true=>rw[show ix E (u::r)=pw E (u::r)by simp only[ix,o,c!]];exact Fs e x g t _ d u r E _ w X v i hW o (λW a b c=>xW e x g t d (u::r) E W f K a b c)
  |false=>
   cases V:(u.toList==[105,102])with
   |true=>rw[show ix E (u::r)=zT E (u::r)by simp only[ix,o,V,bO,bU,c!]];exact JW e x g t _ d u r E _ w X v i hW o V (λW a b c=>JZ e x g t d (u::r) E W f K a b c)
   |false=>
    cases h:(u.toList==[103,111,116,111])with
    |true=>rw[show ix E (u::r)=j2 E (u::r)by simp only[ix,o,V,h,bO,bU,c!]];exact CX e x g t _ d u r E _ w X v i hW o V h (λW a b c=>C2 e x g t d (u::r) E W f a c)
    |false=>
     cases j:(u.toList==[114,101,116,117,114,110])with
     |true=>rw[show ix E (u::r)=(⟨6,0,0,0,o0,o0,emp⟩,((ζ r+1:Nat):Int)==1,E)by simp only[ix,o,V,h,j,bO,bU,c!]];exact Fq e x g t _ d u r E w X v hW o V h j
     |false=>rw[show ix E (u::r)=fB E (u::r)by simp only[ix,o,V,h,j,bO,bU]];exact Ft e x g t _ d u r E _ w X v i hW o V h j (λW a b c=>Fu e x g t d (u::r) E W f K a b c)
def lM(s p:z')(w:u')(y:s.size<=3000):
  Cl 123 #[m' s,m' p] w λe a=>∃(D:z') (b:Bool),e=p' (t' #[m' D,j' b])/\J (D.1.1=Lib.trimSuffix s.1.1 p.1.1/\b=Lib.hasSuffix s.1.1 p.1.1)/\a=w:=
 (Tryz.strings_CutSuffix s p w I).mono λ_ _ h=>⟨_,_,h.1,⟨rfl,rfl⟩,h.2⟩
def r8(s:z'):Bool:=Lib.hasSuffix s.1.1 [58]
def jA(s:z'):z':=⟨θ (Lib.trimSuffix s.1.1 [58])⟩
def qc(s:z'):(jA s).size<=s.size:=by show(Lib.trimSuffix s.1.1 [58]).toArray.size<=s.data.size;unfold Lib.trimSuffix;split<;>simp
def pH{a w:u'}{q:Option Nat}(h:ξ a.drew w q):ξ a w q:=⟨h.os,h.tape,h.output,h.size,h.block⟩
abbrev Ln:=z'×Nat×St
def jU(vs:List bE)(ws:List z'):Ln:=
 match ws with
 |[]=>(emp,0,gJ vs)
 |w0::r=>
  if r8 w0 then
   (if Wm.nm (jA w0) then(match r with|[]=>(emp,0,gJ vs)|_=>(jA w0,1,ix vs r)) else(emp,0,gJ vs))
  else(emp,0,ix vs (w0::r))
def Vd(w:u')(rb mb g off len cap:Nat)(ln:Ln)(e:Ending)(w':u'):Prop:=
 ∃(bu:z') (k:Nat) (ad:x') (l c:Nat) (n:SN) (ok:Bool) (Ih:List bE),e=p' (t' #[l' #[m' bu,i' ad l c,G n.aG,G n.var,G n.op,G n.test,j' n.a.aS,G n.a.var,G n.a.cq,j' n.b.aS,G n.b.var,G n.b.cq,i' C' 0 0,m' n.bB],j' ok])/\J ((bu,k,n,ok,Ih)=ln)/\J (ok=O'->ad=B' (O g (off+k))/\l=len-k/\c=cap-k)/\Rd w' rb mb Ih/\ξ w w' (B' mb)
def CZ(b x g t c a:Nat)(u:z')(R:List z')(E:List bE)(w:u')(X:(0:Int)<c)(y:u.size<=3000)(v:Rd w b x E)(j:Ws w g t (u::R))(T:r8 u=O')(K:Wm.nm (jA u)=P'):
  Cl 79 (j! b g t c a) w λe a=>
   e=p' (t' #[jr oM,j' P'])/\Bl w a:=by
 have z:χ w (O g t)=B' (m' u):=j.cell 0 u rfl;have b:=j.lt;have d:(jA u).size<=maxLen:=by have:=qc u;unfold maxLen;omega
 go_enter func79,ntmps79;go_wp2_with fail;refine(lM _ _ _ y).mono ?_;rintro e a ⟨D,b,rfl,B,rfl⟩;obtain rfl:D=jA u:=by have:=B.a;cases D;simp only[jA]at this⊢;congr 1;exact VA.1 this
 obtain rfl:b=O':=B.A.trans T;go_wp2_with (first|(go_at_call 124;refine F' (eC _ _ d) ?_));exact aC (v:=t' #[jr oM,j' P']) (by simp[results79,go_sem,jr,aR,oM,o0,emp,gK]) rfl ⟨rfl,aQ.alloc aF _⟩
def z8(b x g t a:Nat)(u:z')(R:List z')(E:List bE)(w:u')(i:1<=a)(y:u.size<=3000)(v:Rd w b x E)(j:Ws w g t (u::R))(T:r8 u=O')(K:Wm.nm (jA u)=O'):
  Cl 79 #[o' (B' (O b 0)),i' (B' (O g t)) 1 a] w λe a=>
   e=p' (t' #[jr oM,j' P'])/\Bl w a:=by
 have z:χ w (O g t)=B' (m' u):=j.cell 0 u rfl;have b:=j.lt;have d:(jA u).size<=maxLen:=by have:=qc u;unfold maxLen;omega
 go_enter func79,ntmps79;go_wp2_with fail;refine(lM _ _ _ y).mono ?_;rintro e a ⟨D,b,rfl,B,rfl⟩;obtain rfl:D=jA u:=by have:=B.a;cases D;simp only[jA]at this⊢;congr 1;exact VA.1 this
 obtain rfl:b=O':=B.A.trans T;go_wp2_with (first|(go_at_call 124;refine F' (eC _ _ d) ?_))
 go_region
 all_goals go_wp2
 all_goals exact aC (v:=t' #[jr oM,j' P']) (by simp[results79,go_sem,jr,aR,oM,o0,emp,gK]) rfl ⟨rfl,(aQ.alloc aF _).drew⟩
theorem QM{p:Prop}(h:p:=by
 refine Cj ?_ zJ
 repeat(refine dH ?_ aF _)
 exact cI s):p:=h
def CY(b x g t c U:Nat)(u:z')(R:List z')(E:List bE)(st:St)(w:u')(L:2<=c)(i:c<=U)(l:U<=maxLen)(y:u.size<=3000)(v:Rd w b x E)(V:eH w)(j:Ws w g t (u::R))(T:r8 u=O')(K:Wm.nm (jA u)=O')
  (d:∀W,Rd W b x E->eH W->Ws W g (t+1) R->Cl 125 #[o' (B' (O b 0)),i' (B' (O g (t+1))) (c-1) (U-1)] W (wS W b x st)):
  Cl 79 (j! b g t c U) w (Vd w b x g t c U (jA u,1,st)):=by
 have z:χ w (O g t)=B' (m' u):=j.cell 0 u rfl;have e:=j.lt;have C:=v.lt;have e:=v.O?;have hm:(jA u).size<=maxLen:=by have:=qc u;unfold maxLen;omega
 have Y:J (∀W,Rd W b x E->eH W->Ws W g (t+1) R->Cl 125 #[o' (B' (O b 0)),i' (B' (O g (t+1))) (c-1) (U-1)] W (wS W b x st)):=d;clear d;unfold maxLen at l;have X:(1:Int)<=c:=I;have d:(c:Int)<=U:=I;have o:(1:Int)<=U:=I;have N:(0:Int)<c:=I;have o:¬U=1:=I;have q:¬c=1:=I;go_enter func79,ntmps79;go_wp2_with fail;refine(lM _ _ _ y).mono ?_;rintro e d ⟨D,b,rfl,B,rfl⟩;obtain rfl:D=jA u:=by have:=B.a;cases D;simp only[jA]at this⊢;congr 1;exact VA.1 this
 obtain rfl:b=O':=B.A.trans T;go_wp2_with (first|(go_at_call 124;refine(eC _ _ hm).mono ?_;rintro e d ⟨rfl,rfl⟩))
 go_region
 go_wp2_with fail;refine bK (Y.o _ (v.alloc _).drew (V.alloc _) (j.alloc _).tail) ?_;rintro e F ⟨n,i,d,rfl,p,B,b⟩;have s:=pH b;have r:=ep s (λk e=>by cases e;exact v.lt);have L:=M r;have f:δ w.1<δ F.1:=(aY.1 r).1;clear r z j V;go_wp2_with fail;refine aC (v:=t' #[l' (aR (jA u) (i' (B' (O g (t+1))) (c-1) (U-1)) n gK),j' i]) (by simp[results79,go_sem,aR,gK,L.1,f]) rfl ⟨(jA u),1,_,_,_,n,i,d,rfl,by show _=_;rw[<-p.o],λ_=>⟨rfl,rfl,rfl⟩,?_,?_⟩
 ·refine Rd.alloc ?_ _
  repeat(refine Rd.set ?_ H' H' _)
  exact B
 exact QM
def z?(b x g t c d:Nat)(u:z')(R:List z')(E:List bE)(st:St)(w:u')(L:1<=c)(y:u.size<=3000)(v:Rd w b x E)(o:eH w)(j:Ws w g t (u::R))(T:r8 u=P')
  (e:∀W,Rd W b x E->eH W->Ws W g t (u::R)->Cl 125 (j! b g t c d) W (wS W b x st)):
  Cl 79 (j! b g t c d) w (Vd w b x g t c d (emp,0,st)):=by
 have z:χ w (O g t)=B' (m' u):=j.cell 0 u rfl;have f:=j.lt;have C:=v.lt;have f:=v.O?;have Y:J (∀W,Rd W b x E->eH W->Ws W g t (u::R)->Cl 125 (j! b g t c d) W (wS W b x st)):=e;clear e;have N:(0:Int)<c:=I;have q:((c:Int)==0)=P':=by rw[b?];omega
 go_enter func79,ntmps79;go_wp2_with fail;refine(lM _ _ _ y).mono ?_;rintro e b ⟨D,b,rfl,B,rfl⟩;obtain rfl:b=P':=B.A.trans T;go_wp2_with fail;refine bK (Y.o _ (v.alloc _) (o.alloc _) (j.alloc _)) ?_;rintro e F ⟨n,l,i,rfl,p,B,b⟩;have s:=b;have r:=ep s (λk e=>by cases e;exact v.lt);have L:=M r;have f:δ w.1<δ F.1:=(aY.1 r).1;clear r z j o;go_wp2_with fail;refine aC (v:=t' #[l' (aR emp (oY g t c d) n gK),j' l]) (by simp[results79,go_sem,aR,gK,emp,L.1,f]) rfl ⟨emp,0,_,_,_,n,l,i,rfl,by show _=_;rw[<-p.o],λ_=>⟨rfl,rfl,rfl⟩,?_,?_⟩
 ·refine Rd.alloc ?_ _
  repeat(refine Rd.set ?_ H' H' _)
  exact B
 exact QM
def S7{w b:u'}{d x g t c a:Nat}{E:List bE}{e:Ending}(v:Rd w d x E)(h:e=p' (t' #[jr oM,j' P'])/\Bl w b):Vd w d x g t c a (emp,0,gJ E) e b:=
 ⟨emp,0,C',0,0,oM,P',E,h.1,rfl,(λe=>by cases e),v.grown h.2,j0 (bC h.2) _⟩
def vO.tail{x:z'}{R:List z'}(h:vO (x::R)):vO R:=⟨by have:=h.len;simp at this;omega,λy B=>h.word y (by simp[B])⟩
def C0(e x g t d:Nat)(R:List z')(E:List bE)(w:u')(D:R≠[])(i:ζ R<=d)(l:d<=maxLen)(f:vO R)(K:ζ E+3<maxLen)(v:Rd w e x E)(o:eH w)(hW:Ws w g t R):
  Cl 79 (j! e g t (ζ R) d) w (Vd w e x g t (ζ R) d (jU E R)):=by
 match R,D,i,f,hW with
 |u::r,_,i,f,hW=>
  have y:=f.word u ak;cases T:r8 u with
  |true=>
   cases j:Wm.nm (jA u)with
   |true=>
    match r,i,f,hW with
    |[],i,f,hW=>rw[show jU E [u]=(emp,0,gJ E)by simp only[jU,T,j,c!]];exact(z8 e x g t d u [] E w i y v hW T j).mono λ_ _ h=>S7 v h
    |k::r,i,f,hW=>rw[show jU E (u::k::r)=(jA u,1,ix E (k::r))by simp only[jU,T,j,c!]];exact CY e x g t _ d u (k::r) E _ w ak i l y v o hW T j (λW a b c=>lC e x g (t+1) (d-1) (k::r) E W ak f.tail K a b c)
   |false=>rw[show jU E (u::r)=(emp,0,gJ E)by simp only[jU,T,j,c!,bO,bU]];exact(CZ e x g t _ d u r E w ak y v hW T j).mono λ_ _ h=>S7 v h
  |false=>rw[show jU E (u::r)=(emp,0,ix E (u::r))by simp only[jU,T,bO,bU]];exact z? e x g t _ d u r E _ w ak y v o hW T (λW a b c=>lC e x g t d (u::r) E W ak f K a b c)
structure NC where
  bu:z'
  wa:x'
  wl:Nat
  wc:Nat
  n:SN
  ea:x'
  el:Nat
  ec:Nat
abbrev NC.wv(c:NC):A':=i' c.wa c.wl c.wc
abbrev NC.ev(c:NC):A':=i' c.ea c.el c.ec
def NC.on(c:NC)(a:x')(l k:Nat):NC:={c with ea:=a,el:=l,ec:=k}
def p!(c:NC):List A':=(aR c.bu c.wv c.n c.ev).toList
def fN(l:List NC):List A':=l.flatMap p!
def ij(c:NC):ζ (p! c)=14:=rfl
def zZ(l:List NC)(c:NC):fN (l++[c])=fN l++p! c:=by simp[fN]
def fU(c:NC)(l:List NC):fN (c::l)=p! c++fN l:=by simp[fN]
def vj:∀(l:List NC) (k:Nat) (c:NC) (j:Nat),l[k]?=B' c->j<14->(fN l)[k*14+j]?=(p! c)[j]?
 |[],k,c,j,h,_=>by simp at h
 |d::l,0,c,j,h,hj=>by simp at h;subst h;rw[fU,e?,bW,jN (by rw[ij];exact hj)]
 |d::l,k+1,c,j,h,hj=>by rw[fU,ek (by rw[ij];omega),ij,show(k+1)*14+j-14=k*14+j by omega];exact vj l k c j (I' h) hj
def sK(a:x')(V B:Nat):∀(l:List NC) (k:Nat) (c:NC),l[k]?=B' c->(fN l).set (k*14+12) (i' a V B)=fN (l.set k (c.on a V B))
 |[],k,c,h=>by simp at h
 |d::l,0,c,h=>by simp at h;subst h;rw[dN,fU,fU,I5 _ _ (by rw[ij];omega)];rfl
 |d::l,k+1,c,h=>by rw[cO,fU,fU,sk _ _ (by rw[ij];omega),ij,show(k+1)*14+12-14=k*14+12 by omega,sK a V B l k c (I' h)]
def jH(w:u')(g cap:Nat)(nl:List NC):Prop:=∃cur,w.1[g]?=B' (k' cur 152 (0,0))/\cur.size=cap*14/\cur.toList.take (ζ nl*14)=fN nl/\ζ nl<=cap
def jH.cells{D:List NC}(h:jH w g a D)(k:Nat)(c:NC)(a:D[k]?=B' c)(j:Nat)(f:j<14):χ w (O g (k*14+j))=(aR c.bu c.wv c.n c.ev)[j]?:=by obtain⟨Y,b,_,U,_⟩:=h;have X:=(bm.1 a).1;have C:=vj D k c j a f;rw[<-U,u4,aB I]at C;simp only[World.cell?,b];simpa[p!]using C
def jH.all{D:List NC}(h:jH w g a D)(k:Nat)(c:NC)(a:D[k]?=B' c):χ w (O g (k*14))=B' (m' c.bu)/\χ w (O g (k*14+1))=B' (aO c.wa c.wl c.wc)/\χ w (O g (k*14+2))=B' (G c.n.aG)/\χ w (O g (k*14+3))=B' (G c.n.var)/\χ w (O g (k*14+4))=B' (G c.n.op)/\χ w (O g (k*14+5))=B' (G c.n.test)/\χ w (O g (k*14+6))=B' (j' c.n.a.aS)/\χ w (O g (k*14+7))=B' (G c.n.a.var)/\χ w (O g (k*14+8))=B' (G c.n.a.cq)/\χ w (O g (k*14+9))=B' (j' c.n.b.aS)/\χ w (O g (k*14+10))=B' (G c.n.b.var)/\χ w (O g (k*14+11))=B' (G c.n.b.cq)/\χ w (O g (k*14+12))=B' (aO c.ea c.el c.ec)/\χ w (O g (k*14+13))=B' (m' c.n.bB):=
 ⟨h.cells k c a 0 I,h.cells k c a 1 I,h.cells k c a 2 I,h.cells k c a 3 I,h.cells k c a 4 I,h.cells k c a 5 I,h.cells k c a 6 I,h.cells k c a 7 I,h.cells k c a 8 I,h.cells k c a 9 I,h.cells k c a 10 I,h.cells k c a 11 I,h.cells k c a 12 I,h.cells k c a 13 I⟩
def jH.frozen{D:List NC}(h:jH w g a D)(o:Nat):w.frozen? (O g o)=P':=by obtain⟨Y,a,_⟩:=h;simp[World.frozen?,a]
def jH.lt{D:List NC}(h:jH w g a D):g<δ w.1:=by obtain⟨Y,a,_⟩:=h;exact(aY.1 a).1
def jH.of_block{b:u'}{D:List NC}(h:jH w g a D)(c:b.1[g]?=w.1[g]?):jH b g a D:=by obtain⟨Y,C,a⟩:=h;exact⟨Y,c.trans C,a⟩
def jH.alloc{D:List NC}(h:jH w g a D)(o:Obj):jH (w.alloc o) g a D:=h.of_block (qq w o g h.lt)
def jH.N?{b:Nat}{D:List NC}(h:jH w g b D)(k:Nat)(c:NC)(d:D[k]?=B' c)(a:x')(V B:Nat):jH (κ w (O g (k*14+12)) (i' a V B)) g b (D.set k (c.on a V B)):=by
 obtain⟨Y,b,y,U,T⟩:=h;have X:=(bm.1 d).1;refine⟨Y.setIfInBounds (k*14+12) (i' a V B),?_,I' y,?_,I' T⟩
 ·have L:=(aY.1 b);simp only[World.setCell,LI];simp[b]
 rw[de,<-sK a V B D k c d,<-U,I4,take_set]
def Er(w:u')(ev:A')(es:List Int):Prop:=(es=[]/\ev=i' C' 0 0)\/∃b,ev=i' (B' (O b 0)) (ζ es) (ζ es)/\w.1[b]?=B' (k' (θ (es.map G)) 3 (0,0))
def G8(aG bB next:Int):List Int:=if aG==4 then[bB,next] else if aG==5 then[bB] else if aG==6 then[] else[next]
def PA(k g n:Int)(w:u'):
  Cl 128 #[G k,G g,G n] w λe b=>∃a V B,e=p' (i' a V B)/\J (Er b (i' a V B) (G8 k g n))/\Bl w b:=by
 go_enter func128,ntmps128;go_wp2
 all_goals
  go_ret;refine⟨_,_,_,rfl,?_,?_⟩
 ·exact aK ⟨δ w.1,by simp[G8, *],by rw[cv];simp[G8, *]⟩
 ·exact aQ.alloc aF _
 ·exact aK ⟨δ w.1,by simp[G8, *],by rw[cv];simp[G8, *]⟩
 ·exact aQ.alloc aF _
 ·exact aI ⟨by simp[G8, *],rfl⟩
 ·exact aQ
 ·exact aK ⟨δ w.1,by simp[G8, *],by rw[cv];simp[G8, *]⟩
 exact aQ.alloc aF _
def N9{W:u'}{k:Nat}{d c:z'}{u v:A'}{x q i a f b D X:Int}{L F:Bool}(h:∀j,j<14->χ W (O g (k+j))=(aR d u ⟨x,q,i,a,⟨L,f,b⟩,⟨F,D,X⟩,c⟩ v)[j]?):χ W (O g k)=B' (m' d)/\χ W (O g (k+1))=B' u/\χ W (O g (k+2))=B' (G x)/\χ W (O g (k+3))=B' (G q)/\χ W (O g (k+4))=B' (G i)/\χ W (O g (k+5))=B' (G a)/\χ W (O g (k+6))=B' (j' L)/\χ W (O g (k+7))=B' (G f)/\χ W (O g (k+8))=B' (G b)/\χ W (O g (k+9))=B' (j' F)/\χ W (O g (k+10))=B' (G D)/\χ W (O g (k+11))=B' (G X)/\χ W (O g (k+12))=B' v/\χ W (O g (k+13))=B' (m' c):=
 ⟨h 0 I,h 1 I,h 2 I,h 3 I,h 4 I,h 5 I,h 6 I,h 7 I,h 8 I,h 9 I,h 10 I,h 11 I,h 12 I,h 13 I⟩
def qs(ps:List (bE×Nat)):DataW Unit:=ps.foldl (λD p=>D.put (k7 p.1) (.lit (.int .i64 (p.2:Int)))) (.map [])
def pX(S:List (bE×Nat))(p:bE×Nat):qs (S++[p])=(qs S).put (k7 p.1) (.lit (.int .i64 (p.2:Int))):=by simp[qs]
def xD{α:Type}{P:List α->Prop}(h0:P [])(h1:∀l a,P l->P (l++[a]))(l:List α):P l:=by
 suffices h:∀n (l:List α),ζ l=n->P l from h _ l rfl
 intro n;induction n with
 |zero=>intro l h;rw[du.1 h];exact h0
 |succ n B=>intro l h;obtain⟨r,a,rfl⟩:∃r a,l=r++[a]:=⟨l.dropLast,l.getLast (by intro e;simp[e]at h),(wW _).symm⟩;exact h1 r a (B r (I' h))
def ZB(S:List (bE×Nat)):Tidy (qs S):=by
 induction S using xD with
 |h0=>exact tidy_empty
 |h1 l a B=>rw[pX];exact B.put (qf a.1) _
def iq(ps:List (bE×Nat)):List bE:=ps.map Prod.fst
def nn(ps:List (bE×Nat))(v:bE):Int:=match ps.reverse.find? (λp=>p.1==v)with|some p=>(p.2:Int)|none=>0
def mj(S:List (bE×Nat))(v:bE):Maps.has (qs S) (k7 v)=decide (v∈iq S):=by
 induction S using xD with
 |h0=>rfl
 |h1 l a B=>
  rw[pX];by_cases e:v=a.1
  ·subst e;rw[Maps.has_put_same (ZB l).isMap (qf _)];simp[iq]
  rw[Maps.has_put_other (λL=>e (tA L)),B,wY];simp[iq,e]
def atA(S:List (bE×Nat))(v:bE):(qs S).atKey (k7 v) (.lit (.int .i64 0))=.lit (.int .i64 (nn S v)):=by
 induction S using xD with
 |h0=>rfl
 |h1 l a B=>
  rw[pX];by_cases e:v=a.1
  ·subst e;rw[Maps.atKey_put_same (ZB l).isMap (qf _)];simp[nn]
  rw[Maps.atKey_put_other (λL=>e (tA L)),B];have:(a.1==v)=P':=by simpa using λL=>e L.symm
  simp[nn,this]
def ly(i:Nat)(ps:List (bE×Nat)):List z'->Option (List (bE×Nat))
 |[]=>B' ps
 |b::r=>if b.toList.isEmpty then ly (i+1) ps r else if b.1.1∈iq ps then C' else ly (i+1) (ps++[(b.1.1,i)]) r
def FU(i:Nat)(S:List (bE×Nat))(l:List z')(k:Nat):ly i S l=(ly i S (l.take k)).bind (λq=>ly (i+ζ (l.take k)) q (l.drop k)):=by
 induction l generalizing i S k with
 |nil=>simp[ly]
 |cons b r B=>
  cases k with
  |zero=>simp[ly]
  |succ k=>
   rw[take_succ_cons,drop_succ_cons];simp only[ly];split
   ·rw[B];simp only[cC];congr 1;funext q;congr 1;omega
   split
   ·rfl
   rw[B];simp only[cC];congr 1;funext q;congr 1;omega
def yo{a:List z'}{S:List (bE×Nat)}{b:z'}(h:ly 0 [] (a.take k)=B' S)(c:a[k]?=B' b):
  ly 0 [] (a.take (k+1))=if b.toList.isEmpty then B' S else if b.1.1∈iq S then C' else B' (S++[(b.1.1,k)]):=by
 have X:=(bm.1 c).1;rw[FU 0 [] (a.take (k+1)) k,LH,nX I,h];have e:(a.take (k+1)).drop k=[b]:=by rw[drop_take,show k+1-k=1 by omega,take_one,head?_drop,c];rfl
 have u:ζ (a.take k)=k:=by simp;omega
 simp only[Option.bind_some,e,u,bW,ly]
def FV{WM:List z'}(h:ly 0 [] (WM.take k)=C'):ly 0 [] WM=C':=by rw[FU 0 [] WM k,h];rfl
def CE{D:List NC}{c:NC}(h:D[k]?=B' c):(D.map NC.bu)[k]?=B' c.bu:=by simp[h]
def vU(g a:Nat)(D:List NC)(w:u')(p:jH w g a D)(L:ζ D<=60)(f:∀c∈D,c.bu.size<=3000):
  Cl 126 #[i' (B' (O g 0)) (ζ D) a] w λe a=>
   (
    (∃S b,ly 0 [] (D.map NC.bu)=B' S/\e=p' (t' #[.map (B' b),j' O'])/\δ w.1<=b/\a.ownsMap Tryz.prog 9 (plainElem Tryz.prog 3) b 60 (qs S))\/
    (ly 0 [] (D.map NC.bu)=C'/\e=p' (t' #[.map C',j' P'])))/\Bl w a:=by
 have C:=@run_makeMap Tryz.prog;have a:=p.lt;go_enter func126,ntmps126;go_wp2;go_loopw[12] (λi wr=>∃(k:Nat) (S:List (bE×Nat)),k<=ζ D/\i=G k/\J (ly 0 [] ((D.map NC.bu).take k)=B' S)/\wr.ownsMap Tryz.prog 9 (plainElem Tryz.prog 3) w.1.size k (qs S)/\Bl w wr) (λi _=>ζ D-(intOf i).toNat)
 ·exact⟨0,[],bj,rfl,rfl,World.ownsMap_made _ _ _ _,aQ.alloc aF _⟩
 obtain⟨k,S,b,rfl,Q,o,i⟩:=hrel;by_cases L:k<ζ D;rotate_left
 ·obtain rfl:k=ζ D:=I;go_wp2;go_ret2;have e:=Q.o;rw[cH ak]at e;exact⟨aI ⟨S,δ w.1,e,rfl,aF,o.mono I⟩,i⟩
 obtain⟨c,T⟩:=La L;have r:=(p.of_block (i.block g a)).all k c T;have a:c.bu.size<=maxLen:=by have:=f c (aT T);unfold maxLen;omega
 have f:=hid (yo Q.o (CE T))
 skip
 have b:(k:Int)<(ζ D:Int):=I;have l:=i.size;have q:keyOf Tryz.prog 9 (m' c.bu)=B' (k7 c.bu.1.1):=keyOf_string_mk underlying9 a;cases a:c.bu.toList.isEmpty with
 |true=>
  go_wp2;have e:ly 0 [] ((D.map NC.bu).take (k+1))=B' S:=by rw[f.o,a];rfl
  exact⟨⟨k+1,S,I,f',e,(o.alloc _).mono I,i.alloc l _⟩,by simp[intOf];omega⟩
 |false=>
  by_cases B:c.bu.1.1∈iq S
  ·have V:Maps.has (qs S) (k7 c.bu.1.1)=O':=by rw[mj];simpa using B
   go_wp2_with (first
     |(at_lookup;refine Ci _ rfl _ _ 141 rfl 9 3 .i64 Gk underlying141 underlying3 (AU _) w.1.size k (qs S) rfl (o.alloc _) _ _ rfl q ?_;intro z W h))
   go_ret2;refine⟨aK ⟨FV (k:=k+1) ?_,rfl⟩,i.alloc l _⟩;rw[f.o,a];simp[B]
  have V:Maps.has (qs S) (k7 c.bu.1.1)=P':=by rw[mj];simpa using B
  go_wp2_with (first
   |(at_lookup;refine Ci _ rfl _ _ 141 rfl 9 3 .i64 Gk underlying141 underlying3 (AU _) w.1.size k (qs S) rfl (o.alloc _) _ _ rfl q ?_;intro z W h)
   |(at_mapUpdate;refine wpList_mapUpdate_own _ rfl _ _ _ 141 rfl 9 3 Gk underlying141 _ w.1.size k (qs S) rfl (o.alloc _) (by unfold maxLen;omega) _ _ _ rfl rfl q _ [] (plainElem_int underlying3 (WalkArith.wf_i64 I)) ?_;intro b b d))
  go_roundw
  ·
   have e:ly 0 [] ((D.map NC.bu).take (k+1))=B' (S++[(c.bu.1.1,k)]):=by rw[f.o,a];simp[B]
   refine⟨k+1,_,I,f',e,?_,?_⟩
   · rw[pX];exact b
   exact(i.alloc l _).grown d H' (λj f=>by cases f;exact aF)
  exact G'
section
variable {b:u'} {c:List Int} {D:List NC} {S:List (bE×Nat)}
def jumps(k:Int):Bool:=k==4||k==5
def pC(c:NC)(w:u'):
  Cl 127 #[l' #[m' c.bu,i' c.wa c.wl c.wc,G c.n.aG,G c.n.var,G c.n.op,G c.n.test,j' c.n.a.aS,G c.n.a.var,G c.n.a.cq,j' c.n.b.aS,G c.n.b.var,G c.n.b.cq,i' c.ea c.el c.ec,m' c.n.bB]] w λe a=>
   e=p' (j' (jumps c.n.aG))/\Bl w a:=by
 go_enter func127,ntmps127;go_wp2
 all_goals
  go_ret;refine⟨aN ?_,aQ.alloc aF _⟩;simp_all[jumps]
def lI(ps:List (bE×Nat))(nl:List NC):Bool:=nl.all (λc=>!jumps c.n.aG||decide (c.n.bB.1.1∈iq ps))
def jb(ps:List (bE×Nat))(c:NC)(j:Nat):List Int:=G8 c.n.aG (nn ps c.n.bB.1.1) ((j:Int)+1)
def rR(ps:List (bE×Nat))(nl:List NC):Bool:=match nl.getLast? with|some c=>!(jb ps c (ζ nl-1)).contains (ζ nl:Int)|none=>P'
def dX(nl:List NC):Bool:=match ly 0 [] (nl.map NC.bu)with|some ps=>lI ps nl&&rR ps nl|none=>P'
structure X9(c c':NC):Prop where
  bu:c'.bu=c.bu
  wa:c'.wa=c.wa
  wl:c'.wl=c.wl
  wc:c'.wc=c.wc
  n:c'.n=c.n
def X9.on(c:NC)(a:x')(l k:Nat):X9 c (c.on a l k):=⟨rfl,rfl,rfl,rfl,rfl⟩
structure Lk(w:u')(ps:List (bE×Nat))(nl iS:List NC)(k:Nat):Prop where
  len:ζ iS=ζ nl
  done:∀j c,j<k->nl[j]?=B' c->∃c',iS[j]?=B' c'/\X9 c c'/\Er w c'.ev (jb ps c j)/\(!jumps c.n.aG||decide (c.n.bB.1.1∈iq ps))=O'
  rest:∀j,k<=j->iS[j]?=nl[j]?
def Er.aX{a:A'}(h:Er w a c)(d:Bl w b):Er b a c:=by
 rcases h with h|⟨b,C,a⟩
 ·exact aI h
 exact aK ⟨b,C,(d.block b (aY.1 a).1).trans a⟩
def Er.SJ{b:A'}(h:Er w b c)(p:jH w g a D)(o:Nat)(v:A'):Er (κ w (O g o) v) b c:=by
 rcases h with h|⟨b,C,a⟩
 ·exact aI h
 refine aK ⟨b,C,(aJ ?_).trans a⟩;rintro rfl;obtain⟨Y,T,_⟩:=p;rw[T]at a;simp at a
def Lk.aX{a:List NC}(h:Lk w S D a k)(i:Bl w b):Lk b S D a k:=
 ⟨h.len,λj c f T=>let ⟨g,a,b,d,e⟩:=h.done j c f T;⟨g,a,b,d.aX i,e⟩,h.rest⟩
def Lk.step{b:List NC}{c:NC}(h:Lk w S D b k)(p:jH w g a b)(T:D[k]?=B' c)(K:b[k]?=B' c)(a:x')(V B:Nat)(l:Er w (i' a V B) (jb S c k))(i:(!jumps c.n.aG||decide (c.n.bB.1.1∈iq S))=O'):
  Lk (κ w (O g (k*14+12)) (i' a V B)) S D (b.set k (c.on a V B)) (k+1):=by
 have X:=(bm.1 K).1;refine⟨I' h.len,λj d f Q=>?_,λj f=>?_⟩;rotate_left
 ·rw[getElem?_set_ne I];exact h.rest j I
 by_cases e:j=k
 ·subst e;rw[T]at Q;cases Q;exact⟨c.on a V B,by simp[X],X9.on c a V B,l.SJ p _ _,i⟩
 obtain⟨a,x,y,z,u⟩:=h.done j d I Q;exact⟨a,by rw[getElem?_set_ne I];exact x,y,z.SJ p _ _,u⟩
def Pa(a:x')(b:Nat)(w:u'):
  Cl 80 #[i' a 0 b] w λe a=>e=p' (j' P')/\a=w:=by
 go_enter func80,ntmps80;go_wp2;go_ret;exact⟨rfl,rfl⟩
def Pb(a:x')(c b:Nat)(w:u')(D:((c:Int)==0)=P')(h:decide (60<(c:Int))=O'):
  Cl 80 #[i' a c b] w λe a=>e=p' (j' P')/\a=w:=by
 go_enter func80,ntmps80;go_wp2;go_ret;exact⟨rfl,rfl⟩
end
section
variable {D:List NC} {S:List (bE×Nat)} {c:NC}
def Gg{k:Nat}(U:ly 0 [] (D.map NC.bu)=B' S)(T:D[k]?=B' c)(h:(!jumps c.n.aG||decide (c.n.bB.1.1∈iq S))=P'):dX D=P':=by
 have:lI S D=P':=by rw[lI,all_eq_false];exact⟨c,aT T,by rw[h];simp⟩
 simp[dX,U,this]
def Kx{a:List NC}(U:ly 0 [] (D.map NC.bu)=B' S)(h:Lk w S D a (ζ D))(K:0<ζ D)(T:D[ζ D-1]?=B' c):dX D=!(jb S c (ζ D-1)).contains (ζ D:Int):=by
 have C:lI S D=O':=by rw[lI,cF];intro d Q;obtain⟨j,f,rfl⟩:=w? Q;obtain⟨_,_,_,_,e⟩:=h.done j _ f (bR f);exact e
 have a:D.getLast?=B' c:=by rw[Cn,T]
 simp[dX,U,C,rR,a]
def Hn{a:x'}{l c:Nat}{d:List Int}(h:Er w (i' a l c) d)(X:ζ d<=2)(x:Int):
  Cl 129 #[i' a l c,G x] w λe a=>e=p' (j' (d.contains x))/\a=w:=by
 rcases h with⟨rfl,h⟩|⟨b,h,a⟩
 ·cases h;exact Tryz.slices_Contains_int_empty C' 0 x w
 cases h
 have:=Tryz.slices_Contains_int b 0 (ζ d) (ζ d) d x w aF I (λj f=>by
  simp[World.cell?,a,f,getD_eq_getElem?_getD])
 rwa[gg]at this
def Xx(k g n:Int):ζ (G8 k g n)<=2:=by unfold G8;split;simp;split;simp;split<;>simp
def S5(g E:Nat)(D:List NC)(w:u')(p:jH w g E D)(h0:0<ζ D)(L:ζ D<=60)(i:∀c∈D,c.bu.size<=3000)(mz:∀c∈D,c.n.bB.size<=3000):
  Cl 80 #[i' (B' (O g 0)) (ζ D) E] w λe R=>
   e=p' (j' (dX D))/\ξ w R (B' g)/\(dX D=true->∃S y,ly 0 [] (D.map NC.bu)=B' S/\jH R g E y/\Lk R S D y (ζ D)):=by
 have hg:=p.lt;have t:((ζ D:Int)==0)=false:=by rw[b?];omega
 have t:decide (60<(ζ D:Int))=false:=by rw[cR];omega
 go_enter func80,ntmps80;go_wp2_with fail;refine(vU g E D w p L i).mono ?_;rintro e t ⟨a,l⟩;rcases a with⟨S,x,U,rfl,hmb,o⟩|⟨U,rfl⟩;rotate_left
 ·have v:J (dX D=false):=by show _=_;simp[dX,U]
  clear U;go_wp2_with fail;go_ret;exact⟨aN v.o.symm,j0 (bC l) _,λh=>by rw[v.o]at h;cases h⟩
 have Q:J (ly 0 [] (D.map NC.bu)=B' S):=U;clear U;have a:=p.of_block (l.block g hg);have i:=a.lt;go_wp2_with fail;go_loopw[26] (λi wr=>∃(k:Nat) (y:List NC),k<=ζ D/\i=G k/\jH wr g E y/\Lk wr S D y k/\wr.ownsMap Tryz.prog 9 (plainElem Tryz.prog 3) x 60 (qs S)/\ξ w wr (B' g)) (λi _=>ζ D-(intOf i).toNat)
 case atStart=>exact⟨0,D,bj,rfl,a,⟨rfl,λj c f=>I,λ_ _=>rfl⟩,o,j0 (bC l) _⟩
 clear o a;obtain⟨k,y,i,rfl,d,C,o,b⟩:=hrel;by_cases rW:k<ζ D;rotate_left
 ·obtain rfl:k=ζ D:=I;obtain⟨c,T⟩:=La (l:=D) (i:=ζ D-1) I;obtain⟨t,K,i,l,_⟩:=C.done (ζ D-1) c I T;have v:J (dX D=!(jb S c (ζ D-1)).contains (ζ D:Int)):=Kx Q.o C h0 T;obtain⟨_,_,_,_,_,_,_,_,_,_,_,_,mw,_⟩:=d.all (ζ D-1) t K;have i:((ζ D-1:Nat):Int)=(ζ D:Int)-1:=I;clear p;go_wp2_with fail;refine(Hn l (Xx _ _ _) _).mono ?_;rintro e R ⟨rfl,rfl⟩;go_wp2;go_ret;exact⟨aN (by rw[v.o];simp),b,λ_=>⟨S,y,Q.o,d,C⟩⟩
 obtain⟨c,T⟩:=La rW;have K:y[k]?=B' c:=by rw[C.rest k aF];exact T
 obtain⟨i,R,i,i,i,y,i,i,i,i,i,i,mw,i⟩:=d.all k c K;have i:c.n.bB.size<=maxLen:=by have:=mz c (aT T);unfold maxLen;omega
 have l:(k:Int)<(ζ D:Int):=I;have q:keyOf Tryz.prog 9 (m' c.n.bB)=B' (k7 c.n.bB.1.1):=keyOf_string_mk underlying9 i;have hat:=atA S c.n.bB.1.1;have sr:=mj S c.n.bB.1.1;have E:=d.frozen (k*14+12);obtain⟨W,mm⟩:∃W,jumps c.n.aG=W:=⟨_,rfl⟩;obtain⟨s,a⟩:∃s,decide (c.n.bB.1.1∈iq S)=s:=⟨_,rfl⟩;rw[a]at sr;cases U:(!W||s)with
 |false=>
  obtain⟨rfl,rfl⟩:W=true/\s=false:=by cases W<;>cases s<;>simp_all
  have v:J (dX D=false):=Gg Q.o T (by rw[mm,a];rfl);clear a
  go_wp2_with (first
   |(at_lookup;refine Ci _ rfl _ _ 141 rfl 9 3 .i64 Gk underlying141 underlying3 (AU _) x 60 (qs S) rfl (o.alloc _) _ _ rfl q ?_;intro z P ow)
   |(go_at_call 127;refine(pC c _).mono ?_;rintro e F ⟨rfl,X⟩))
  go_ret;exact⟨aN v.o.symm,b.trans (cI (j0 (bC X) _)),λh=>by rw[v.o]at h;cases h⟩
 |true=>
  have N:J ((!jumps c.n.aG||decide (c.n.bB.1.1∈iq S))=true):=by show _=_;rw[mm,a];exact U
  clear a;cases W<;>cases s<;>simp only[Bool.not_true,Bool.not_false,wZ,Bool.or_true,bO]at U
  all_goals
   go_wp2_with (first
    |(at_lookup;refine Ci _ rfl _ _ 141 rfl 9 3 .i64 Gk underlying141 underlying3 (AU _) x 60 (qs S) rfl (o.alloc _) _ _ rfl q ?_;intro z P ow)
    |(go_at_call 127;refine(pC c _).mono ?_;rintro e F ⟨rfl,X⟩;have r:=ep (bC X) (λk e=>by cases e);have L:=M r;have R:g<δ F.1:=mG d.lt (by have:=X.size;simp at this;omega);have a:=((d.alloc _).of_block (X.block g (by have:=d.lt;simp;omega))).all k c K;have h:=((d.alloc _).of_block (X.block g (by have:=d.lt;simp;omega))).frozen (k*14+12);obtain⟨_,_,_,_,_,_,_,_,_,_,_,_,a,_⟩:=a)
    |(go_at_call 128;refine(PA _ _ _ _).mono ?_;rintro e W3 ⟨ea,V,B,rfl,HE,Y⟩;have u:=((d.alloc _).of_block (X.block g (by have:=d.lt;simp;omega))).of_block (Y.block g R);have a:=u.all k c K;have d:=u.frozen (k*14+12);obtain⟨_,_,_,_,_,_,_,_,_,_,_,_,a,_⟩:=a))
   go_roundw
   case rel=>
    have ez:z=nn S c.n.bB.1.1:=by have:=P.symm.trans hat;simpa using this
    subst ez;have a:Bl wr W3:=(((sn _ wr).alloc aF _).trans (X.mono ak)).trans (Y.mono (by have:=X.size;simp at this;omega));have d:Er W3 (i' ea V B) (jb S c k):=HE.o;refine⟨k+1,_,I,f',u.N? k c K ea V B,(C.aX a).step u T K ea V B d N.o,?_,?_⟩
    ·refine World.ownsMap.setCell ?_ ?_ _
     ·exact o.kept (bC a) ak
     show x≠g;omega
    have C:=b.trans (j0 (bC a) (B' g));refine⟨C.os,C.tape,C.output,by simpa[World.setCell]using C.size,λj f z=>?_⟩;rw[aJ (by intro e;exact z (by rw[e]))];exact C.block j f z
   simp[intOf];omega
end
section
variable {a:u'} {c:NC} {D:List NC}
structure PN where
  bu:z'
  ws:List z'
  n:SN
def PN.nc(p:PN):NC:=⟨p.bu,C',0,0,p.n,C',0,0⟩
def og(vs:List bE)(acc:List PN):List (List z')->Option (List PN×List bE)
 |[]=>B' (acc,vs)
 |ws::r=>if kQ ws then og vs acc r else if (jU vs ws).2.2.2.1 then og (jU vs ws).2.2.2.2 (acc++[⟨(jU vs ws).1,ws.drop (jU vs ws).2.1,(jU vs ws).2.2.1⟩]) r else C'
def MV(s:z'):List z':=Lib.splitB ⟨#[10]⟩ 0 (Lib.countB s ⟨#[10]⟩) s
def BH(s:z'):List (List z'):=(MV s).map Ig
abbrev Pr:=Bool ⊕ (List PN×List bE)
abbrev Pr.P5:Pr:=.inl P'
abbrev Pr.prg:Pr:=.inl O'
abbrev Pr.ok(pl:List PN)(vs:List bE):Pr:=.inr (pl,vs)
def hU(pl:List PN)(vs:List bE):Bool:=decide (ζ vs<=8)&&decide (0<ζ pl)&&decide (ζ pl<=60)&&dX (pl.map PN.nc)
def kW(s:z'):Pr:=
 if 3000<s.size then Pr.P5 else
 match og [] [] (BH s)with
 |none=>Pr.P5
 |some (pl,vs)=>if hU pl vs then Pr.ok pl vs else Pr.prg
def L8(E:List bE)(R:List z'):ζ (ix E R).2.2<=ζ E+3:=by
 have a:∀R,ζ (pw E R).2.2<=ζ E+3:=by
  intro R;unfold pw;split
  ·rename_i b;have:=jS E b;simp only;omega
  simp[gJ]
 have d:∀R,ζ (j2 E R).2.2<=ζ E+3:=by intro R;unfold j2;split<;>simp[gJ]
 have S:∀R,ζ (zT E R).2.2<=ζ E+3:=by
  intro R;unfold zT;split
  ·rename_i _ b W i Y p;split
   ·have:=jS E b;have:=jS (bP E b) i;simp only;omega
   simp[gJ]
  simp[gJ]
 have c:∀R,ζ (fB E R).2.2<=ζ E+3:=by
  intro R;unfold fB;split;rotate_left
  ·simp[gJ]
  rename_i u b W q;have C:=kO E u.1.1;have b:=jS (cB E u.1.1) W;split;rotate_left
  ·simp[gJ]
  split
  ·split<;>(simp only;omega)
  ·rename_i i Y;have N:=jS (bP (cB E u.1.1) W) Y;simp only;omega
  simp only;omega
 unfold ix;split
 ·simp[gJ]
 split
 ·exact a _
 split
 ·exact S _
 split
 ·exact d _
 split
 ·simp
 exact c _
def Dq(E:List bE)(R:List z'):ζ (jU E R).2.2.2.2<=ζ E+3:=by
 unfold jU;split
 ·simp[gJ]
 split
 ·split
  ·split
   ·simp[gJ]
   exact L8 _ _
  simp[gJ]
 exact L8 _ _
structure Rep(w:u')(c:NC)(p:PN):Prop where
  bu:c.bu=p.bu
  n:c.n=p.n
  ws:∃g off,c.wa=B' (O g off)/\Ws w g off p.ws
  wl:c.wl=ζ p.ws
structure wq(w:u')(nl:List NC)(pl:List PN):Prop where
  len:ζ nl=ζ pl
  each:∀(j:Nat) (c:NC) (p:PN),nl[j]?=B' c->pl[j]?=B' p->Rep w c p
def Rep.mono{p:PN}(h:Rep w c p)(B:∀g t R,Ws w g t R->Ws a g t R):Rep a c p:=by obtain⟨g,t,C,a⟩:=h.ws;exact⟨h.bu,h.n,⟨g,t,C,B _ _ _ a⟩,h.wl⟩
def wq.mono{b:List PN}(h:wq w D b)(B:∀g t R,Ws w g t R->Ws a g t R):wq a D b:=
 ⟨h.len,λj c p a b=>(h.each j c p a b).mono B⟩
def afC{p:Prop}(h:p:=by
 refine⟨by simp[h.len],λj a b c d=>?_⟩;by_cases f:j<ζ D
 ·rw[jN f]at c;rw[jN (J' h.len)]at d;exact h.each j a b c d
 have X:=h.len;rw[ek I]at c;rw[ek I]at d;have a:j-ζ D=0:=by have:=(bm.1 c).1;simp at this;omega
 rw[a]at c;rw[<-X,a]at d;simp at c d;subst c;subst d
 exact T):p:=h
def wq.snoc{a:List PN}{p:PN}(h:wq w D a)(T:Rep w c p):wq w (D++[c]) (a++[p]):=by exact afC
def sB(b:Bl w a):∀g t R,Ws w g t R->Ws a g t R:=λg _ _ h=>h.of_block (b.block g h.lt)
def GB{x:Nat}(d:∃b c,w.1[x]?=B' (.map b c))(b:ξ w a (B' x)):∀g t R,Ws w g t R->Ws a g t R:=λ_ _ _ h=>h.grown d b
def Qw{q:Option Nat}(l:∀k,q=B' k->∃Y f,w.1[k]?=B' (k' Y 152 f))(b:ξ w a q):∀g t R,Ws w g t R->Ws a g t R:=by intro g t R h;refine h.of_block (b.block g h.lt ?_);intro e;obtain⟨Y,f,T⟩:=l g e.symm;obtain⟨N,K,_⟩:=h;rw[T]at K;simp at K
def Pc(D:List NC)(d:List PN)(X:ζ D=ζ d)(h:∀(j:Nat) (c:NC) (p:PN),D[j]?=B' c->d[j]?=B' p->c.bu=p.bu/\c.n=p.n):dX D=dX (d.map PN.nc):=by
 have V:D.map NC.bu=(d.map PN.nc).map NC.bu:=by
  apply lV;intro j;simp only[cg];by_cases f:j<ζ D
  ·have a:=bR f;have b:=bR (l:=d) (i:=j) I;rw[a,b];simp[(h j _ _ a b).1,PN.nc]
  rw[dA I,dA (l:=d) I];rfl
 have u:D.map NC.n=(d.map PN.nc).map NC.n:=by
  apply lV;intro j;simp only[cg];by_cases f:j<ζ D
  ·have a:=bR f;have b:=bR (l:=d) (i:=j) I;rw[a,b];simp[(h j _ _ a b).2,PN.nc]
  rw[dA I,dA (l:=d) I];rfl
 unfold dX;rw[V];split;rotate_left
 ·rfl
 rename_i S _;have N:∀l:List NC,lI S l=(l.map NC.n).all (λn=>!jumps n.aG||decide (n.bB.1.1∈iq S)):=by intro l;simp[lI,all_map];rfl
 have k:∀l:List NC,rR S l=match (l.map NC.n).getLast? with|some n=>!(G8 n.aG (nn S n.bB.1.1) ((ζ (l.map NC.n)-1:Nat)+1)).contains (ζ (l.map NC.n):Int)|none=>P':=by intro l;unfold rR jb;rw[getLast?_map];simp only[b!];cases l.getLast?<;>rfl
 rw[N,k,N,k,u]
end
section
variable {a:u'} {s:z'} {q:Option Nat}
def Tv:(Tryz.prog.info? 152).map (λi=>(i.zero,i.size,i.bytes))=B' (B' (l' #[m' ⟨#[]⟩,i' C' 0 0,G 0,G 0,G 0,G 0,j' P',G 0,G 0,j' P',G 0,G 0,i' C' 0 0,m' ⟨#[]⟩]),14,160):=au
structure Env(w:u'):Prop where
  glob:eH w
  abN:∃m,χ w (O 1 0)=B' (G m)
def mh(w:u')(r:Pr)(e:Ending)(w':u'):Prop:=
 Bl w w' /\
 match r with
 | .inl false=>e=p' (t' #[l' n0,G 1])
 | .inl true=>e=p' (t' #[l' n0,G 2])
 | .inr (pl,vs)=>∃g cap nl ps,e=p' (t' #[l' (e! g (ζ pl) cap (ζ vs)),G 0])/\δ w.1<=g/\jH w' g cap nl/\wq w' nl pl/\ly 0 [] (pl.map PN.bu)=B' ps/\(∀(j:Nat) (c:NC) (p:PN),nl[j]?=B' c->pl[j]?=B' p->Er w' c.ev (jb ps p.nc j))
def Kl(s:z')(w:u')(h:decide (3000<(s.size:Int))=O'):
  Cl 40 #[m' s] w (mh w Pr.P5):=by
 go_enter func40,ntmps40;go_wp2;exact aC (v:=t' #[l' n0,G 1]) (by simp[results40,go_sem]) rfl ⟨aQ.alloc aF _,rfl⟩
def Env.alloc(h:Env w)(o:Obj):Env (w.alloc o):=
 ⟨h.glob.alloc o,let ⟨m,d⟩:=h.abN;⟨m,(jO w o C').cell d ak⟩⟩
def Env.below(h:Env w)(b:Bl w a):Env a:=by obtain⟨⟨i,z,T⟩,m,d⟩:=h;exact⟨⟨i,z,(bC b).cell T ak⟩,m,(bC b).cell d ak⟩
def gA{W:u'}(h:ρ W B e size v n D)(b:Bl W a):ρ a B e size v n D:=
 h.kept (row:=C') (bC b) (Classical.em _)
def MU(s:z'):ζ (MV s)=Lib.countB s ⟨#[10]⟩+1:=by have h:=dZ length (Wm.yI s);rw[b!,Wm.WE]at h;exact h
def WG(s:z'):ζ (MV s)<=s.size+2:=by rw[MU];have:=Wm.Lf s.1.1;have e:Lib.countB s ⟨#[10]⟩=Lib.count s.1.1 [10]:=rfl;have:=Wm.bS s;omega
def Ge(s x:z')(h:x∈MV s):x.size<=s.size:=by
 have:x.1.1∈Wm.zS [] s.1.1:=by rw[<-Wm.yI s];exact AK h
 have:=Wm.abQ _ _ _ this;have C:=Wm.bS s;have a:=Wm.bS x;simp only[gN]at this;omega
def xo(s x:z')(h:x∈Ig s):x.size<=s.size/\0<x.size:=by
 have:x.1.1∈Wm.jc [] s.1.1:=by rw[<-Jd s];exact AK h
 have:=Wm.XH _ _ _ this;have C:=Wm.bS s;have a:=Wm.bS x;simp only[gN]at this;refine⟨I,?_⟩;rcases Cy x.size with e|e
 ·exact absurd (du.1 (a.trans e)) this.2
 exact e
def LV(s:z'):ζ (Ig s)<=s.size+1:=by have h:=dZ length (Jd s);rw[b!]at h;have:=Wm.Up s.1.1 [];have:=Wm.bS s;omega
def Jc(s:z')(h:s.size<=3000):vO (Ig s):=
 ⟨J' (LV s),λx F=>J' ((xo s x F).1)⟩
structure Pre(B:Nat)(s:z')(w:u'):Prop where
  res:w.1[B]?=B' (k' n0 86 (0,0))
  lines:w.1[B+3]?=B' (k' (θ ((MV s).map m')) 9 (0,0))
def Pre.grown(h:Pre B s w)(b:ξ w a q)(C:some B≠q)(c:some (B+3)≠q):Pre B s a:=
 ⟨(b.block B (aY.1 h.res).1 C).trans h.res,(b.block (B+3) (aY.1 h.lines).1 c).trans h.lines⟩
def Pre.line(h:Pre B s w)(k:Nat)(x:z')(F:(MV s)[k]?=B' x):χ w (O (B+3) k)=B' (m' x):=by simp[World.cell?,h.lines,F]
def Hk(x:z')(R:List z')(F:Ig x=R)(w:u')(y:x.size<=3000):
  Cl 77 #[m' x] w λe a=>∃(g c:Nat),e=p' (iF g (ζ R) c)/\δ w.1<=g/\ζ R<=c/\c<=maxLen/\Ws a g 0 R/\Bl w a:=by
 subst F;have a:=Tryz.strings_FieldsFunc_runes 122 #[] (enters_of func122 au rfl) Wm.De x w I (Lj w);go_enter func77,ntmps77;go_wp2_with fail;refine a.mono ?_;rintro e b ⟨a,rfl,s,o,b⟩;go_wp2;go_ret;have C:=LV x;refine⟨a,ζ (Ig x),rfl,s,aF,by unfold maxLen;omega,?_,b⟩;rcases o.2 with⟨D,_⟩|⟨g,c,Y,R,_,a,_,_,_,U⟩
 ·cases D
 cases R;exact⟨Y,a,by simpa[Ig]using U⟩
def ES(E:List bE)(R:List z')(h:vO R):(ix E R).1.bB.size<=3000:=by
 have l:emp.size<=3000:=aj;have a:∀R,(pw E R).1.bB.size<=3000:=by intro R;unfold pw;split<;>exact l
 have c:∀R,vO R->(j2 E R).1.bB.size<=3000:=by
  intro R f;unfold j2;split
  ·rename_i b;exact f.word b ak
  exact l
 have S:∀R,vO R->(zT E R).1.bB.size<=3000:=by
  intro R f;unfold zT;split
  ·rename_i _ b W i Y p;split
   ·exact f.word p ak
   exact l
  exact l
 have b:∀R,(fB E R).1.bB.size<=3000:=by
  intro R;unfold fB;split;rotate_left
  ·exact l
  split
  ·split
   ·split<;>exact l
   ·exact l
   exact l
  exact l
 unfold ix;split
 ·exact l
 split
 ·exact a _
 split
 ·exact S _ h
 split
 ·exact c _ h
 split
 ·exact l
 exact b _
def S6(E:List bE)(R:List z')(h:vO R):(jU E R).1.size<=3000/\(jU E R).2.2.1.bB.size<=3000:=by
 have l:emp.size<=3000:=aj;unfold jU;split
 ·exact⟨l,l⟩
 rename_i u r;have X:(jA u).size<=3000:=by have:=qc u;have:=h.word u ak;omega
 split
 ·split
  ·split
   ·exact⟨l,l⟩
   exact⟨X,ES _ _ h.tail⟩
  exact⟨l,l⟩
 exact⟨l,ES _ _ h⟩
def BC(h:ρ w (B+4) e size v n D):φ v=C'\/φ v≠B' (B+1):=by
 cases R:φ v with
 |none=>exact aI rfl
 |some k=>have:=(h.lt k R).1;exact aK H'
def vA(W:u')(o:Obj)(L:Array A')(t:TypeId):∀(j:Nat) (u:A'),L.toList[j]?=B' u->χ ((W.alloc o).alloc (k' L t)) (((O (δ W.1+1) 0):Addr).add j)=B' u:=by
 intro j u f;have h:((W.alloc o).alloc (k' L t)).1[δ (W.alloc o).1]?=B' (c7 L t):=bV;have a:δ (W.alloc o).1=δ W.1+1:=ak;rw[a]at h;have a:((O (δ W.1+1) 0):Addr).add j=(O (δ W.1+1) j):=by unfold Addr.add;split<;>simp_all
 rw[a];simp only[World.cell?,h];simpa using f
def E2(b:z')(a:x')(l c:Nat)(n:SN):∀u∈(aR b (i' a l c) n gK).toList,u.oneCell'=O':=by intro u C;simp only[aR,gK,dr,mem_nil_iff,jf]at C;rcases C with rfl|rfl|rfl|rfl|rfl|rfl|rfl|rfl|rfl|rfl|rfl|rfl|rfl|rfl<;>rfl
def VD{t:Nat}{R:List z'}(h:Ws w g t R):∀k,Ws w g (t+k) (R.drop k):=by
 intro k;induction k with
 |zero=>simpa using h
 |succ k B=>
  by_cases a:k<ζ R
  ·rw[qF a]at B;exact B.tail
  rw[qE I];obtain⟨Y,C,_⟩:=h;exact⟨Y,C,ak⟩
def AM(w:u')(a f e b:Obj):((((w.alloc a).alloc f).alloc e).alloc b).1[δ w.1]?=B' a/\((((w.alloc a).alloc f).alloc e).alloc b).1[δ w.1+1]?=B' f/\((((w.alloc a).alloc f).alloc e).alloc b).1[δ w.1+1+1]?=B' e/\((((w.alloc a).alloc f).alloc e).alloc b).1[δ w.1+3]?=B' b:=by
 have W:δ (w.alloc a).1=δ w.1+1:=ak;have k:δ ((w.alloc a).alloc f).1=δ w.1+1+1:=ak;have c:δ (((w.alloc a).alloc f).alloc e).1=δ w.1+3:=ak;have C:=cv w a;have g:=cv (w.alloc a) f;have N:=cv ((w.alloc a).alloc f) e;have d:=cv (((w.alloc a).alloc f).alloc e) b;rw[W]at g;rw[k]at N;rw[c]at d;refine⟨?_,?_,?_,d⟩
 ·rw[bQ I,bQ I,bQ I];exact C
 ·rw[bQ I,bQ I];exact g
 rw[bQ I];exact N
def F7{D:List NC}(h:ρ w B 152 14 v (ζ D) (fN D))(a:0<ζ D):∃g a,v=i' (B' (O g 0)) (ζ D) a/\B<=g/\jH w g a D:=by
 rcases h.2 with⟨_,e⟩|⟨g,a,Y,R,b,c,T,_,y,U⟩
 ·omega
 exact⟨g,a,R,b,Y,c,y,U,T⟩
def Kt(h:ρ w B 152 14 v n D):∃a b,v=i' a n b:=by
 rcases h.2 with⟨rfl,e⟩|⟨g,b,Y,R,_⟩
 ·exact⟨C',0,by rw[e]⟩
 exact⟨_,_,R⟩
def CI(D:List NC)(d:List PN)(X:ζ D=ζ d)(h:∀(j:Nat) (c:NC) (p:PN),D[j]?=B' c->d[j]?=B' p->c.bu=p.bu):D.map NC.bu=d.map PN.bu:=by
 apply lV;intro j;simp only[cg];by_cases f:j<ζ D
 ·have a:=bR f;have b:=bR (l:=d) (i:=j) I;rw[a,b];simp[h j _ _ a b]
 rw[dA I,dA (l:=d) I];rfl
def T?{a:A'}{b:List Int}{Y:Array A'}{t:TypeId}{f:Nat×Nat}(h:Er w a b)(T:w.1[g]?=B' (k' Y t f))(U:t≠3)(o:Nat)(v:A'):Er (κ w (O g o) v) a b:=by
 rcases h with h|⟨b,C,a⟩
 ·exact aI h
 refine aK ⟨b,C,(aJ ?_).trans a⟩;rintro rfl;rw[T]at a;simp at a;exact U a.2.1
def Rd.tB{b:u'}{a x:Nat}{E:List bE}(h:Rd w a x E)(c:ξ w b q)(C:some a≠q)(d:some x≠q):Rd b a x E:=
 ⟨(c.block a h.O? C).trans h.box,h.own.kept c d,h.nodup⟩
def Env.tB(h:Env w)(b:ξ w a q)(C:B' 5≠q)(c:B' 1≠q):Env a:=by obtain⟨⟨i,z,T⟩,m,d⟩:=h;exact⟨⟨i,z,b.cell T C⟩,m,b.cell d c⟩
def BF{b j:Nat}(h:∀k,q=B' k->b<=k)(f:j<b):some j≠q:=by intro e;have:=h j e.symm;omega
def xz(h:Env w):1<δ w.1:=by obtain⟨m,d⟩:=h.abN;exact World.block_lt_of_cell? w _ d
def QL{p:Prop}(h:p:=by
 refine aC (v:=t' #[l' n0,G 2]) (by simp[results40,go_sem,L.1]) rfl ?_;rw[HN.o]
 exact⟨(hb.setCell aF _).setCell aF _,rfl⟩):p:=h
def OY(s:z')(w:u')(y:s.size<=3000)(c:Env w):
  Cl 40 #[m' s] w (mh w (kW s)):=by
 have i:decide (3000<(s.size:Int))=P':=by rw[cR];omega
 have i:=@run_makeMap Tryz.prog;obtain⟨N,S,D,P,a⟩:=cQ Tv;have HI:J (Tryz.prog.info? 152=B' N/\N.zero=B' (l' #[m' ⟨#[]⟩,i' C' 0 0,G 0,G 0,G 0,G 0,j' P',G 0,G 0,j' P',G 0,G 0,i' C' 0 0,m' ⟨#[]⟩])/\N.size=14/\N.bytes=160):=⟨S,D,P,a⟩;clear S D P a;go_enter func40,ntmps40;go_wp2_with fail;have b:=((c.alloc (k' n0 86)).alloc (.map #[] 0)).alloc (k' #[.map (B' (δ w.1+1))] 143);obtain⟨m,d⟩:=b.abN;refine D' (Tryz.strings_Split s ⟨#[10]⟩ m _ I d aj) λv a=>?_;have i:=MU s;have y:=WG s;rw[<-i]at *;have f:Env v:=by rw[a];exact b.alloc _
 have l:Bl w v:=by rw[a];exact(((aQ.alloc aF _).alloc ak _).alloc H' _).alloc H' _
 have h4:=AM w (k' n0 86) (.map #[] 0) (k' #[.map (B' (δ w.1+1))] 143) (k' (θ ((MV s).map m')) 9);have vY:Pre w.1.size s v:=by rw[a];exact⟨h4.1,h4.2.2.2⟩
 have Vm:Rd v (δ w.1+1+1) (δ w.1+1) []:=by
  rw[a];refine⟨h4.2.2.1,?_,xg⟩;obtain⟨es,i,hb,F,hs',hD⟩:=World.ownsMap_made (H:=Unit) (w.alloc (k' n0 86)) Tryz.prog 9 (plainElem Tryz.prog 3);have y:(((w.alloc (k' n0 86)).alloc (.map #[] 0))).1[δ w.1+1]?=B' (.map es i):=by have:δ (w.alloc (k' n0 86)).1=δ w.1+1:=ak;rw[<-this];exact hb
  refine⟨es,i,?_,F,hs',hD⟩;rw[bQ ak,bQ ak];exact y
 clear h4;have P:δ v.1=δ w.1+4:=by rw[a];simp
 have HG:J (5<δ w.1/\1<δ w.1):=⟨c.glob.lt,xz c⟩;have y:J (δ v.1=δ w.1+4):=P;clear a d P b c;go_wp2;go_loopw[5,20] (λv i wr=>∃(k:Nat) (E:List bE) (V:List PN) (nl:List NC),k<=ζ (MV s)/\i=G k/\J (og [] [] (BH s)=og E V ((BH s).drop k))/\ρ wr (δ w.1+4) 152 14 v (ζ nl) (fN nl)/\wq wr nl V/\Rd wr (δ w.1+1+1) (δ w.1+1) E/\Env wr/\Pre w.1.size s wr/\Bl w wr/\J (ζ E<=3*k/\ζ nl<=k/\(∀c∈nl,c.bu.size<=3000/\c.n.bB.size<=3000)/\δ w.1+4<=δ wr.1)) (λ_ i _=>ζ (MV s)-(intOf i).toNat)
 ·
  refine⟨0,[],[],[],bj,rfl,rfl,cb,⟨rfl,λj c p h=>by simp at h⟩,Vm,f,vY,l,?_⟩;exact⟨ak,ak,ak,J' y.o⟩
 clear Vm f vY l;obtain⟨k,E,V,nl,i,rfl,a,o,P,Vm,ma,vY,hb,U⟩:=hrel;by_cases rW:k<ζ (MV s)
 ·obtain⟨x,u⟩:=La rW;have hxs:x.size<=3000:=by have:=Ge s x (aT u);omega
  obtain⟨R,l⟩:∃R,Ig x=R:=⟨_,rfl⟩;have ue:=vY.line k x u;have i:(k:Int)<(ζ (MV s):Int):=I;have Pl:vO R:=l▸Jc x hxs;have Ao:∀y∈R,0<y.size:=by rw[<-l];exact λy i=>(xo x y i).2
  have i:=λW=>Hk x R l W hxs;have r:=(show J (∀W,Cl 77 #[m' x] W λe w'=>∃(g cap:Nat),e=p' (iF g (ζ R) cap)/\δ W.1<=g/\ζ R<=cap/\cap<=maxLen/\Ws w' g 0 R/\Bl W w')from i);have d:(BH s).drop k=R::(BH s).drop (k+1):=by rw[qF (by simpa[BH]using rW)];congr 1;have v:=(bm.1 u);simp only[BH,IP,v.2,l]
  have B:J (og [] [] (BH s)=og E V (R::(BH s).drop (k+1))):=by show _=_;rw[a.o,d]
  clear i d l a u;have i:=hb.size;go_wp2_with fail;refine bK (r.o _) ?_;clear r;rintro e W2 ⟨d,cap,rfl,v,Xb,s8,TR,X⟩;have Xc:=hb.trans (X.mono i)
  match R,Pl,Ao,B,Xb,TR with
  | [],Pl,Ao,B,Xb,TR=>
   go_wp2_with (go_at_call 78;refine F' (uz _ _ _) ?_);refine⟨⟨k+1,E,V,nl,I,f',?_,gA o X,P.mono (sB X),Vm.grown X,ma.below X,vY.grown (bC X) ak ak,Xc,?_⟩,by simp[intOf];omega⟩
   ·show _=_;rw[B.o];rfl
   have:=U.o;exact⟨I,I,this.2.2.1,J' X.size⟩
  |u::r,Pl,Ao,B,Xb,TR=>
   have hw0:=Ao u ak;have hw3:=Pl.word u ak;have hl0:((ζ (u::r):Int)==0)=P':=by rw[b?];simp;omega
   have Xg:=Vm.grown X;have mi:=ma.below X;have i:=C0 (δ w.1+1+1) (δ w.1+1) d 0 cap (u::r) E W2 ak Xb s8 Pl (by have:=U.a;unfold maxLen;omega) Xg mi.glob TR;have l:J (Cl 79 #[o' (B' (O (δ w.1+1+1) 0)),i' (B' (O d 0)) (ζ (u::r)) cap] W2 (Vd W2 (δ w.1+1+1) (δ w.1+1) d 0 (ζ (u::r)) cap (jU E (u::r)))):=i;clear i;cases Vh:kQ (u::r)with
   |true=>
    go_wp2_with (go_at_call 78;refine F' (od d 0 _ cap u r _ hl0 hw0 hw3 TR) ?_);refine⟨⟨k+1,E,V,nl,I,f',?_,gA o X,P.mono (sB X),Xg,mi,vY.grown (bC X) ak ak,Xc,?_⟩,by simp[intOf];omega⟩
    ·show _=_;rw[B.o,og,Vh,aB rfl]
    have:=U.o;exact⟨I,I,this.2.2.1,J' X.size⟩
   |false=>
    go_wp2_with (go_at_call 78;refine F' (od d 0 _ cap u r _ hl0 hw0 hw3 TR) ?_);refine bK l.o ?_;clear l;rintro e W3 ⟨bu,kk,ad,l,c,n,ok,Ih,rfl,HS,HOK,sm,Q⟩;have TT:=(vY.grown (bC X) ak ak).grown Q ak ak;have L:=M TT.res;have hBz:δ w.1<δ W3.1:=(aY.1 TT.res).1;have Y:Bl w W3:=Xc.trans ⟨Q.os,Q.tape,Q.output,Q.size,λj f=>Q.block j (J' Xc.size) H'⟩;have h4:δ w.1+4<=δ W3.1:=by have:=U.C;have:=X.size;have:=Q.size;omega
    cases ok with
    |false=>
     have HN:J (kW s=Pr.P5):=by show _=_;unfold kW;rw[aA I,B.o,og,Vh,<-HS.o];rfl
     go_wp2;refine aC (v:=t' #[l' n0,G 1]) (by simp[results40,go_sem,L.1,hBz]) rfl ?_;rw[HN.o];refine⟨?_,rfl⟩;refine lz ?_ (by simp[World.setCell];omega) _;exact(Y.setCell aF _).setCell aF _
    |true=>
     have v:=((((gA o X).kept Q (BC o))).alloc (k' (aR bu (i' ad l c) n gK) 152)).alloc (k' (aR bu (i' ad l c) n gK) 152);have i:=vA W3 (k' (aR bu (i' ad l c) n gK) 152) (aR bu (i' ad l c) n gK) 152;have y:=E2 bu ad l c n;have F:ζ nl+1<=maxLen:=by have:=U.b;unfold maxLen;omega
     have GJ:(ζ nl+1)*160<=140737488355328:=by have:=U.b;omega
     have x:δ w.1+4<=δ ((W3.alloc (k' (aR bu (i' ad l c) n gK) 152)).alloc (k' (aR bu (i' ad l c) n gK) 152)).1:=by simp;omega
     have HH:J (_/\_/\_/\_):=⟨v,i,y,x⟩;have hR3:=(P.mono (sB X)).mono (GB Xg.isMap Q);have X:Env W3:=mi.tB Q (by have:=HG.a;first|(simp;omega)|(intro e;have:=I1 e;omega)) (by have:=HG.A;first|(simp;done)|(simp;omega)|(intro e;have:=I1 e;omega));have mn:=TR.grown Xg.isMap Q;have Q:J (wq W3 nl V/\Env W3/\Ws W3 d 0 (u::r)):=⟨hR3,X,mn⟩;clear hR3 X mn;simp only[aR,gK]at HH;clear o v i y x P Vm ma vY ue;go_wp2_with (at_builtin;go_must (refine gu rfl (.tmp 36) (.tmp 38) 84 rfl (δ w.1+4) 152 N _ 14 160 underlying84 HI.a HI.b HI.c HI.C rfl aj _ _ _ rfl HH.a (O (δ W3.1+1) 0) 1 1 _ rfl rfl HH.b HH.c F GJ HH.C ?_;intro i F y x i));have i:=HH.a.lt;have v:=((jO W3 (k' #[m' bu,i' ad l c,G n.aG,G n.var,G n.op,G n.test,j' n.a.aS,G n.a.var,G n.a.cq,j' n.b.aS,G n.b.var,G n.b.cq,i' C' 0 0,m' n.bB] 152) (φ u5)).trans (jO _ (k' #[m' bu,i' ad l c,G n.aG,G n.var,G n.op,G n.test,j' n.a.aS,G n.a.var,G n.a.cq,j' n.b.aS,G n.b.var,G n.b.cq,i' C' 0 0,m' n.bB] 152) (φ u5))).trans x;have z:∀j,j<δ w.1+4->some j≠φ u5:=λj f=>BF (λq hq=>(i q hq).1) f;have Qd:=S6 E (u::r) Pl;have i:=Dq E (u::r);rw[<-HS.o]at Qd i;simp only at Qd i;have hB:=U.o;have i:∀g t R,Ws W3 g t R->Ws F g t R:=by intro g t R h;exact Qw (eI HH.a) x g t R ((h.alloc _).alloc _)
     refine⟨⟨k+1,Ih,V++[⟨bu,(u::r).drop kk,n⟩],nl++[⟨bu,ad,l,c,n,C',0,0⟩],I,f',?_,?_,?_,sm.tB v (z _ I) (z _ I),Q.b.tB v (z _ (J' HG.a)) (z _ (J' HG.A)),TT.grown v (z _ I) (z _ I),?_,?_⟩,by simp[intOf];omega⟩
     ·show _=_;rw[B.o,og,Vh,<-HS.o];rfl
     ·rw[bF,zZ];exact y
     ·refine(Q.a.mono i).snoc ⟨rfl,rfl,?_,?_⟩
      ·obtain⟨l,u,r⟩:=HOK.o trivial;refine⟨d,0+kk,l,i _ _ _ ?_⟩;exact VD Q.B kk
      obtain⟨l,u,r⟩:=HOK.o trivial;rw[u];simp
     ·refine⟨v.os.trans Y.os,v.tape.trans Y.tape,v.output.trans Y.output,bD Y.size v.size,λj f=>(v.block j I (z j I)).trans (Y.block j f)⟩
     refine⟨I,H',?_,J' v.size⟩;intro d Q;rcases eE.1 Q with h|h
     ·exact hB.2.2.1 d h
     simp at h;subst h;exact Qd
 obtain rfl:k=ζ (MV s):=I;have HF:J (og [] [] (BH s)=B' (V,E)):=by show _=_;rw[a.o,qE (by simp[BH])];rfl
 clear a;have Y:=Vm.cell;have js:=Vm.own;have d:=E5 E Vm.nodup;have L:=M vY.res;have hB:=U.o;by_cases d:8<ζ E
 ·have d:decide (8<(ζ E:Int))=O':=by rw[bq];omega
  have HN:J (kW s=Pr.prg):=by show _=_;unfold kW;rw[aA I,HF.o];simp only;rw[aA (by simp[hU];omega)]
  go_wp2_with (at_len;refine wT _ rfl _ 141 rfl 9 3 underlying141 _ (δ w.1+1) (ζ E) (tab E) rfl js ?_);exact QL
 have d:decide (8<(ζ E:Int))=P':=by rw[cR];omega
 by_cases v:ζ nl=0\/60<ζ nl
 ·have HN:J (kW s=Pr.prg):=by show _=_;unfold kW;rw[aA I,HF.o];simp only;rw[aA (by have:=P.len;simp[hU];intros;omega)]
  obtain⟨a,cp,rfl⟩:=Kt o;have C:∀W,Cl 80 #[i' a (ζ nl) cp] W λe w'=>e=p' (j' P')/\w'=W:=by
   intro W;by_cases d:ζ nl=0
   ·rw[d];exact Pa a cp W
   exact Pb a _ cp W (by rw[b?];omega) (by rw[bq];omega)
  have d:J (∀W,Cl 80 #[i' a (ζ nl) cp] W λe w'=>e=p' (j' P')/\w'=W):=C;clear C
  go_wp2_with (first
   |(at_len;refine wT _ rfl _ 141 rfl 9 3 underlying141 _ (δ w.1+1) (ζ E) (tab E) rfl js ?_)
   |(go_at_call 80;refine bK (d.o _) ?_;rintro e w' ⟨rfl,rfl⟩))
  exact QL
 obtain⟨g,cp,rfl,hgB,K⟩:=F7 o I;have k:=hid (S5 g cp nl wr K I I (λc T=>(hB.2.2.1 c T).1) (λc T=>(hB.2.2.1 c T).2));have C:dX nl=dX (V.map PN.nc):=Pc nl V P.len (λj c p a b=>⟨(P.each j c p a b).bu,(P.each j c p a b).n⟩);have i:some w.1.size≠B' g:=by simp;omega
 have x:some (δ w.1+3)≠B' g:=by simp;omega
 have l:some (δ w.1+1+1)≠B' g:=by simp;omega
 have o:some (δ w.1+1)≠B' g:=by simp;omega
 have d:J (_/\_/\_/\_):=⟨i,x,l,o⟩;clear i x l o;have r:J (dX nl=dX (V.map PN.nc)):=C;clear C;cases o:dX nl with
 |false=>
  have HN:J (kW s=Pr.prg):=by show _=_;unfold kW;rw[aA I,HF.o];simp only;rw[aA (by simp only[hU,<-r.o,o];simp)]
  go_wp2_with (first
   |(at_len;refine wT _ rfl _ 141 rfl 9 3 underlying141 _ (δ w.1+1) (ζ E) (tab E) rfl js ?_)
   |(go_at_call 80;refine bK k.o ?_;rintro e C ⟨rfl,D,i⟩;clear L;have L:=M (vY.grown D d.a d.b).res))
  refine aC (v:=t' #[l' n0,G 2]) (by simp[results40,go_sem,L.1]) rfl ?_;rw[HN.o];refine⟨?_,rfl⟩;have l:Bl w C:=hb.trans ⟨D.os,D.tape,D.output,D.size,λj f=>D.block j (J' hb.size) H'⟩;exact(l.setCell aF _).setCell aF _
 |true=>
  have HN:J (kW s=Pr.ok V E):=by show _=_;unfold kW;rw[aA I,HF.o];simp only;rw[aB (by have:=P.len;simp only[hU,<-r.o,o];simp;omega)]
  go_wp2_with (first
   |(at_len;first|refine wT _ rfl _ 141 rfl 9 3 underlying141 _ (δ w.1+1) (ζ E) (tab E) rfl r ?_|refine wT _ rfl _ 141 rfl 9 3 underlying141 _ (δ w.1+1) (ζ E) (tab E) rfl js ?_)
   |(go_at_call 80;refine bK k.o ?_;rintro e C ⟨rfl,D,i⟩;clear L;have L:=M (vY.grown D d.a d.b).res;have k:=Vm.tB D d.c d.C;have s:=k.cell;have r:=k.own))
  refine aC (v:=t' #[l' (e! g (ζ nl) cp (ζ E)),G 0]) (by simp[results40,go_sem,L.1]) rfl ?_;rw[HN.o];have l:Bl w C:=hb.trans ⟨D.os,D.tape,D.output,D.size,λj f=>D.block j (J' hb.size) H'⟩;refine⟨(l.setCell aF _).setCell aF _,?_⟩;obtain⟨S,iS,hp,q6,Xi⟩:=i o;have ml:=(vY.grown D d.a d.b).res;have mo:wq C nl V:=P.mono (Qw (λq hq=>by cases hq;obtain⟨cur,T,_⟩:=K;exact⟨cur,(0,0),T⟩) D);refine⟨g,cp,iS,S,by rw[P.len],I,?_,?_,?_,?_⟩
  ·exact q6.of_block ((aJ H').trans (aJ H'))
  ·refine wq.mono (w:=C) ?_ ?_
   ·refine⟨Xi.len.trans P.len,λj c' p K hp'=>?_⟩;have f:j<ζ nl:=by have:=(bm.1 K).1;have:=Xi.len;omega
    have T:=bR f;obtain⟨c2,a1,a2,a3,a4⟩:=Xi.done j _ f T;rw[K]at a1;cases a1;have hr:=mo.each j _ p T hp';exact⟨a2.bu.trans hr.bu,a2.n.trans hr.n,by rw[a2.wa];exact hr.ws,a2.wl.trans hr.wl⟩
   intro a t R h;have z:a≠δ w.1:=by rintro rfl;obtain⟨cur,T,_⟩:=h;rw[ml]at T;simp at T
   exact(h.set z _).set z _
  ·rw[<-CI nl V P.len (λj c p a b=>(P.each j c p a b).bu)];exact hp
  intro j c' p K hp';have f:j<ζ nl:=by have:=(bm.1 K).1;have:=Xi.len;omega
  have T:=bR f;obtain⟨c2,a1,a2,a3,a4⟩:=Xi.done j _ f T;rw[K]at a1;cases a1;have hr:=mo.each j _ p T hp';have e:jb S p.nc j=jb S nl[j] j:=by unfold jb;rw[hr.n];rfl
  rw[e];have v:(κ C (O w.1.size 0) (iF g (ζ nl) cp)).1[δ w.1]?=B' (k' #[i' (B' (O g 0)) (ζ nl) cp,G 0] 86 (0,0)):=by simp[World.setCell,LI,ml]
  exact T? (T? a3 ml aj 0 _) v aj 1 _
def O1(s:z')(w:u')(a:Env w):Cl 40 #[m' s] w (mh w (kW s)):=by
 by_cases h:3000<s.size
 ·have e:kW s=Pr.P5:=by rw[kW,aB h]
  rw[e];exact Kl s w (by rw[bq];omega)
 exact OY s w I a
end
structure Psz(pl:List PN):Prop where
  len:ζ pl<=60
  bu:∀p∈pl,p.bu.size<=3000
  ws:∀p∈pl,vO p.ws
def Qv{R:List z'}(h:vO R)(k:Nat):vO (R.drop k):=⟨by have:=h.len;simp;omega,λx F=>h.word x (mem_of_mem_drop F)⟩
def CC:∀(L:List (List z')) (E:List bE) (V b:List PN) (a:List bE),(∀R∈L,vO R)->(∀p∈V,p.bu.size<=3000/\vO p.ws)->og E V L=B' (b,a)->∀p∈b,p.bu.size<=3000/\vO p.ws:=by
 intro L;induction L with
 |nil=>intro E V b a _ c h;simp[og]at h;rw[<-h.1];exact c
 |cons R r B=>
  intro E V b a C c h;have f:=C R ak;rw[og]at h;split at h
  ·exact B E V b a (λx F=>C x (by simp[F])) c h
  split at h
  ·refine B _ _ b a (λx F=>C x (by simp[F])) ?_ h;intro p U;rcases eE.1 U with U|U
   ·exact c p U
   simp at U;subst U;exact⟨(S6 E R f).1,Qv f _⟩
  cases h
def CR(s:z')(h:s.size<=3000):∀R∈BH s,vO R:=by intro R z;obtain⟨x,F,rfl⟩:=cZ.1 z;exact Jc x (J' (Ge s x F))
def ym{s:z'}{b:List PN}{E:List bE}(h:kW s=Pr.ok b E):Psz b/\0<ζ b/\hU b E=O'/\og [] [] (BH s)=B' (b,E)/\s.size<=3000:=by
 unfold kW at h;split at h
 ·cases h
 rename_i y;split at h
 ·cases h
 rename_i a a a;split at h;rotate_left
 ·cases h
 rename_i U;cases h;have f:=CC (BH s) [] [] b E (CR s I) ak a;have c:=U;simp only[hU,bh,bq]at c;exact⟨⟨c.1.2,λp U=>(f p U).1,λp U=>(f p U).2⟩,c.1.1.2,U,a,I⟩
def jT(o a b:Int):Int:=if o=0 then wrap64 (a+b) else if o=1 then wrap64 (a-b) else if o=2 then wrap64 (a*b) else if b=0 then 0 else wrap64 (a.tdiv b)
def vV(o b:Int):Bool:=o==0||o==1||o==2||!(b==0)
def ru(t a b:Int):Bool:=if t=0 then decide (a<b) else if t=1 then decide (a<=b) else if t=2 then a==b else a !=b
def LS:wrap64 0=0:=by unfold wrap64;omega
def S9(a b:Int):(decide (a<b)||a==b)=decide (a<=b):=by rw[cj];simp;omega
def YN{p:Prop}(h:p:=by
 go_enter func172,ntmps172;go_wp2
 all_goals
  go_ret2
  refine⟨fW ?_ ?_,rfl⟩<;>simp_all[jT,vV,LS]):p:=h
def PV(o a b:Int)(w:u'):
  Cl 172 #[G o,G a,G b] w λe c=>e=p' (t' #[G (jT o a b),j' (vV o b)])/\c=w:=by
 by_cases a:b=0
 ·subst a;exact YN
 have D:(b==0)=P':=by simp[a]
 exact YN
def Pn(t a b:Int)(w:u'):
  Cl 173 #[G t,G a,G b] w λe c=>e=p' (j' (ru t a b))/\c=w:=by
 go_enter func173,ntmps173;go_wp2
 all_goals
  go_ret;refine⟨aN ?_,rfl⟩<;>simp_all[ru]
section
variable {K:Type}
structure Pm where
  nd:List SN
  nx:List (List Nat)
  nv:Nat
def yx(ps:List (bE×Nat)):Nat->List PN->List (List Nat)
 |_,[]=>[]
 |j,p::r=>(jb ps p.nc j).map Int.toNat::yx ps (j+1) r
def nI(pl:List PN)(ps:List (bE×Nat))(nv:Nat):Pm:=⟨pl.map PN.n,yx ps 0 pl,nv⟩
def Pm.at(P:Pm)(j:Nat):SN:=P.nd.getD j oM
def Pm.si(P:Pm)(j:Nat):List Nat:=P.nx.getD j []
def gU(n:SN):Bool:=decide (n.aG<=2)
abbrev Key:=(Bool×Int×Int)×Int×(Bool×Int×Int)
def jW(o:lU):Bool×Int×Int:=(o.aS,o.var,o.cq)
def t!(n:SN):Option Key:=if n.aG=1/\(n.a.aS=O'\/n.b.aS=O') then B' (jW n.a,n.op,jW n.b) else C'
def eF[DecidableEq K](acc:List K)(o:Option K):List K:=match o with|none=>acc|some x=>if x∈acc then acc else acc++[x]
def ze[DecidableEq K](ks:List (Option K)):List K:=ks.foldl eF []
def Pm.ex(P:Pm):List Key:=ze (P.nd.map t!)
def qS(k:Key)(v:Int):Bool:=(k.1.1&&k.1.2.1==v)||(k.2.2.1&&k.2.2.2.1==v)
def Pm.ev(P:Pm)(i f:Nat):Bool:=match t! (P.at i),P.ex[f]? with|some x,some y=>decide (x=y)|_,_=>P'
def Pm.kl(P:Pm)(i f:Nat):Bool:=gU (P.at i)&&(match P.ex[f]? with|some y=>qS y (P.at i).var|none=>P')
def oz:Nat->List SN->List Nat
 |_,[]=>[]
 |i,n::r=>if gU n then i::oz (i+1) r else oz (i+1) r
def Pm.mT(P:Pm)(f:Nat):Option Nat:=if f<P.nv then C' else(oz 0 P.nd)[f-P.nv]?
def Pm.Lc(P:Pm)(f:Nat):Int:=if f<P.nv then f else match P.mT f with|some i=>(P.at i).var|none=>-1
def d!(n:SN):Nat:=if n.aG=0\/n.aG=3 then 1 else if n.aG=1\/n.aG=4 then 2 else 0
def VJ(n:SN)(v:Int):Bool:=(decide (0<d! n)&&n.a.aS&&n.a.var==v)||(decide (1<d! n)&&n.b.aS&&n.b.var==v)
def Pm.facts(P:Pm)(p:Int):Nat:=if p=1 then P.nv+ζ (oz 0 P.nd) else if p=2 then P.nv else ζ P.ex
def Pm.st(P:Pm)(p:Int)(n f:Nat):Bool:=
 if p=1 then n==0&&decide (f<P.nv)
 else if p=2 then VJ (P.at n) f
 else if p=3 then n==0
 else(P.at n).aG==6||(P.kl n f&&!P.ev n f)
def Pm.ad(P:Pm)(p:Int)(m f:Nat):Bool:=if p=1 then P.mT f==B' m else if p=3 then P.kl m f else P'
def Pm.ps(P:Pm)(p:Int)(n m f:Nat):Bool:=
 if p=1 then !(gU (P.at m)&&(P.at m).var==P.Lc f)
 else if p=2 then !(gU (P.at n)&&(P.at n).var==f)
 else if p=3 then !P.ev m f
 else !P.ev n f
def fA(n:Nat):Nat->List Nat->List Nat
 |_,[]=>[]
 |k,t::r=>if t=n then k::fA n (k+1) r else fA n (k+1) r
def dQ(n:Nat):Nat->List (List Nat)->List (Nat×Nat)
 |_,[]=>[]
 |i,l::r=>(fA n 0 l).map (λk=>(i,k))++dQ n (i+1) r
def Pm.ins(P:Pm)(n:Nat):List (Nat×Nat):=dQ n 0 P.nx
def Pm.P!(P:Pm)(p:Int)(n:Nat):List Nat:=if p=2\/p=4 then P.si n else(P.ins n).map Prod.fst
def Pm.rule(P:Pm)(p:Int)(f n:Nat)(th:Nat->Bool):Bool:=P.st p n f||(P.P! p n).any λm=>P.ad p m f||(P.ps p n m f&&th m)
def uK:Nd:=⟨[],[],P',0,[]⟩
def Ct.at(c:Ct)(j:Nat):Nd:=c.nodes.getD j uK
def Nd.k9(x:Nd)(f:Nat):Bool:=decide ((f:Int)∈x.facts)
def Nd.nz(x:Nd)(f:Nat):Int:=x.aW.getD (x.facts.idxOf (f:Int)) 0
def sg(c:Ct)(f:Nat)(r:Int)(n:Nat):Bool:=(c.at n).k9 f&&(decide (r<0)||decide ((c.at n).nz f<r))
def Jt(P:Pm)(c:Ct):Bool:=(range (P.facts c.aE)).all λf=>(range (ζ P.nd)).all λn=>!P.rule c.aE f n (sg c f (-1))||sg c f (-1) n
def Dp(P:Pm)(c:Ct):Bool:=(range (P.facts c.aE)).all λf=>(range (ζ P.nd)).all λn=>!sg c f (-1) n||P.rule c.aE f n (sg c f ((c.at n).nz f))
def gQ(vs:List VV)(o:lU):VV:=if o.aS then vs.getD o.var.toNat ⟨P',0,0⟩ else VV.one o.cq
def Em (n:SN) (k:Nat) (vs:List VV):EV:=
  if n.aG=2 then B' (vs.set n.var.toNat VV.gT)
  else if n.aG=0 then B' (vs.set n.var.toNat (gQ vs n.a))
  else if n.aG=4 then(if (gQ vs n.a).any||(gQ vs n.b).any||ru n.test (gQ vs n.a).lo (gQ vs n.b).lo==decide (k=0) then B' vs else C')
  else if n.aG=1 then
    (if n.op=3/\(gQ vs n.b).any=P'/\(gQ vs n.b).lo=0 then C'
     else if (gQ vs n.a).any||(gQ vs n.b).any then B' (vs.set n.var.toNat VV.gT)
     else B' (vs.set n.var.toNat (VV.one (jT n.op (gQ vs n.a).lo (gQ vs n.b).lo))))
  else B' vs
def wQ(t:Int)(yes:Bool)(a b:VV):Option (VV×VV):=
 if t=0/\yes=O' then(if b.hi=-2^63\/a.lo=9223372036854775807 then C' else B' (cK a (-2^63) (b.hi-1),cK b (a.lo+1) 9223372036854775807))
 else if t=1/\yes=O' then B' (cK a (-2^63) b.hi,cK b a.lo 9223372036854775807)
 else if t=0 then B' (cK a b.lo 9223372036854775807,cK b (-2^63) a.hi)
 else if t=1 then(if a.hi=-2^63\/b.lo=9223372036854775807 then C' else B' (cK a (b.lo+1) 9223372036854775807,cK b (-2^63) (a.hi-1)))
 else if (t=2/\yes=O')\/(t≠2/\yes=P') then B' (cK a b.lo b.hi,cK a b.lo b.hi)
 else if a.lo=a.hi/\VV.rZ a b=O' then C'
 else B' (a,b)
def yv(q:VV×VV):Option (VV×VV):=if q.1.hi<q.1.lo\/q.2.hi<q.2.lo then C' else B' q
def oK(t:Int)(yes:Bool)(a b:VV):Option (VV×VV):=match wQ t yes a b with|none=>C'|some q=>yv q
def Uy (av bv:Int) (vs:List VV) (x y:VV):EV:=
  if 0<=bv then
    (if (if bv=av then cK x y.lo y.hi else y).hi<(if bv=av then cK x y.lo y.hi else y).lo then C'
     else B' ((if 0<=av then vs.set av.toNat x else vs).set bv.toNat (if bv=av then cK x y.lo y.hi else y)))
  else B' (if 0<=av then vs.set av.toNat x else vs)
def l?(o:lU):Int:=if o.aS then o.var else -1
def chV(n:SN)(vs:List VV)(x y:VV):EV:=Uy (l? n.a) (l? n.b) vs x y
def cpV(op:Int)(a b:VV):Option VV:=if op=0 then B' (zI a b) else if op=1 then B' (kP a b) else if op=2 then B' (yF a b) else j6 a b
def El(n:SN)(k:Nat)(vs:List VV):EV:=
 if n.aG=2 then B' (vs.set n.var.toNat VV.all)
 else if n.aG=0 then B' (vs.set n.var.toNat (gQ vs n.a))
 else if n.aG=4 then(match oK n.test (decide (k=0)) (gQ vs n.a) (gQ vs n.b)with|none=>C'|some q=>chV n vs q.1 q.2)
 else if n.aG=1 then(match cpV n.op (gQ vs n.a) (gQ vs n.b)with|none=>C'|some v=>B' (vs.set n.var.toNat v))
 else B' vs
def Ag(p:Int)(n:SN)(k:Nat)(e:EV):EV:=match e with|none=>C'|some vs=>if p=5 then Em n k vs else El n k vs
def Pm.Ij(P:Pm)(n:Nat):EV:=if n=0 then B' (replicate P.nv ⟨P',0,0⟩) else C'
def Pm.say(P:Pm)(p:Int)(n:Nat)(at_:Nat->EV):EV:=(P.ins n).foldl (λout q=>Iu p out (Ag p (P.at q.1) q.2 (at_ q.1))) (P.Ij n)
def eZ(r:Int)(v:Vl):VV:=if v.aG=3 then⟨P',v.lo,v.hi⟩ else if v.aG=1 then VV.one v.lo else if v.bJ&&decide (0<=r)&&decide (r<=v.rank) then VV.one v.first else VV.gT
def oO(x:Nd)(r:Int):EV:=if x.aD=P'\/(0<=r/\r<=x.rank) then C' else B' (x.vals.map (eZ r))
def jL(c:Ct)(r:Int)(n:Nat):EV:=oO (c.at n) r
def qt(P:Pm)(c:Ct):Bool:=(range (ζ P.nd)).all λn=>Ew c.aE (P.say c.aE n (jL c (-1))) (jL c (-1) n)
def K6(e:EV)(j:Nat):Bool:=match e with|none=>P'|some vs=>(vs.getD j ⟨P',0,0⟩).any
def vW(P:Pm)(c:Ct)(n:Nat):Bool:=
 !(c.at n).aD||(Ew c.aE (oO (c.at n) ((c.at n).rank+1)) (P.say c.aE n (jL c (c.at n).rank)) &&
  (range (ζ (c.at n).vals)).all λj=>match (c.at n).vals[j]? with|some v=>!v.bJ||K6 (P.say c.aE n (jL c v.rank)) j|none=>O')
def Ai(P:Pm)(c:Ct):Bool:=(range (ζ P.nd)).all λn=>vW P c n
def v8(P:Pm)(c:Ct):Bool:=decide (ζ c.nodes=ζ P.nd)&&c.nodes.all λx=>(x.facts.all λf=>decide (f<(if c.aE<=4 then(P.facts c.aE:Int) else 0)))&&(!x.aD||decide (ζ x.vals=P.nv))
def jF(P:Pm)(c:Ct):Int:=
 if v8 P c=P' then 6
 else if c.aE<=4 then(if Jt P c=P' then 7 else if c.grade=2\/Dp P c=O' then 0 else 8)
 else(if qt P c=P' then 7 else if c.grade=1/\Ai P c=P' then 8 else 0)
def plV(v:Vl):Vl:=⟨v.aG,v.lo,v.hi,P',0,0⟩
def qQ(x:Nd):Nd:=⟨x.facts,[],x.aD,0,x.vals.map plV⟩
end
def wH(a:List PN):(a.map PN.nc).map NC.bu=a.map PN.bu:=by simp[PN.nc,ui]
def pV(E:List bE)(v:bE):0<=eS E v:=by unfold eS;split<;>omega
section
variable {x y:VV} {a b:EV}
structure okV(p:Int)(x:VV):Prop where
  bd:oL x
  form:if p=5 then x=VV.gT\/x=VV.one x.lo else x.any=P'/\x.lo<=x.hi
def DO(F:okV p x)(B:okV p y):okV p (kh p x y):=by
 unfold kh;split
 ·split
  ·exact F
  rename_i l _;exact⟨⟨aj,aj⟩,by rw[aB l];exact aI rfl⟩
 rename_i l;have L:=F.form;have u:=B.form;rw[aA l]at L u;have g:=F.bd;have a:=B.bd;have N:=g.lo;have b:=g.hi;have b:=a.lo;have C:=a.hi;refine⟨⟨?_,?_⟩,?_⟩
 ·simp only;split<;>omega
 ·simp only;split<;>omega
 rw[aA l];refine⟨L.1,?_⟩;simp only;split<;>split<;>omega
def kf(p:Int)(n:Nat)(e:EV):Prop:=∀vs,e=B' vs->ζ vs=n/\∀v∈vs,okV p v
def gl(p:Int)(n:Nat):kf p n C':=λ_ h=>by cases h
def Aa{α β γ:Type}{f:α->β->γ}{a:List α}{b:List β}{j:Nat}{z:γ}(h:(zipWith f a b)[j]?=B' z):∃x y,a[j]?=B' x/\b[j]?=B' y/\z=f x y:=by
 rw[I9]at h;cases F:a[j]? with
 |none=>rw[F]at h;simp at h
 |some x=>
  cases B:b[j]? with
  |none=>rw[F,B]at h;simp at h
  |some y=>rw[F,B]at h;simp at h;exact⟨x,y,rfl,rfl,h.symm⟩
def KL(c:kf p n a)(d:kf p n b):kf p n (Iu p a b):=by
 match a,b with
 |none,_=>exact d
 |some a,none=>exact c
 |some a,some b=>intro E h;have C:=c a rfl;have a:=d b rfl;simp only[Iu,fD]at h;subst h;refine⟨by simp[C.1,a.1],λv R=>?_⟩;obtain⟨j,f⟩:=oP.1 R;obtain⟨x,y,F,B,rfl⟩:=Aa f;exact DO (C.2 x (aT F)) (a.2 y (aT B))
end
section
variable {a:List VV} {x:VV}
def kt{n:Nat}(k:Nat)(h:kf p n (B' a))(R:okV p x):kf p n (B' (a.set k x)):=by
 intro E e;cases e;have C:=h a rfl;refine⟨by simp[C.1],λv d=>?_⟩;rcases mZ d with d|rfl
 ·exact C.2 v d
 exact R
def tg(p:Int){c:Int}(T:-9223372036854775808<=c/\c<=9223372036854775807):okV p (VV.one c):=⟨⟨T,T⟩,by split;exact aK rfl;exact⟨rfl,uh _⟩⟩
def F4(p:Int):okV p ⟨P',0,0⟩:=tg p aj
def Dh:okV 5 VV.gT:=⟨⟨aj,aj⟩,ak⟩
def Hm(o:lU):Prop:=-9223372036854775808<=o.cq/\o.cq<=9223372036854775807
def pT(x:Int):-9223372036854775808<=wrap64 x/\wrap64 x<=9223372036854775807:=by unfold wrap64;omega
def SH(o a b:Int):-9223372036854775808<=jT o a b/\jT o a b<=9223372036854775807:=by
 unfold jT;split
 ·exact pT _
 split
 ·exact pT _
 split
 ·exact pT _
 split
 ·decide
 exact pT _
def Xj(h:∀v∈a,okV p v)(k:Nat):okV p (a.getD k ⟨P',0,0⟩):=by
 cases e:a[k]? with
 |none=>rw[getD,e];exact F4 p
 |some x=>rw[getD,e];exact h x (aT e)
def kY(h:∀v∈a,okV p v)(o:lU)(b:Hm o):okV p (gQ a o):=by
 unfold gQ;split
 ·exact Xj h _
 exact tg _ b
def C3{n:SN}{k m:Nat}{E:List VV}(T:Hm n.a/\Hm n.b)(h:kf 5 m (B' E)):kf 5 m (Em n k E):=by
 have C:=(h E rfl).2;unfold Em;split
 ·exact kt _ h Dh
 split
 ·exact kt _ h (kY C _ T.1)
 split
 ·split
  ·exact h
  exact gl _ _
 split
 ·split
  ·exact gl _ _
  split
  ·exact kt _ h Dh
  exact kt _ h (tg _ (SH _ _ _))
 exact h
def ok6(h:okV 6 x):x.any=P'/\x.lo<=x.hi:=I' h.form
def rO(h:x.any=P')(X:x.lo<=x.hi)(a:oL x):okV 6 x:=⟨a,by rw[aA aj];exact⟨h,X⟩⟩
def Dv(a:VV)(c:Int):∃j S,kh 6 a (VV.one c)=⟨a.any,j,S⟩/\j<=a.lo/\j<=c/\(j=a.lo\/j=c)/\a.hi<=S/\c<=S/\(S=a.hi\/S=c):=by
 have e:kh 6 a (VV.one c)=⟨a.any,if c<a.lo then c else a.lo,if c>a.hi then c else a.hi⟩:=by rw[kh,aA aj];rfl
 rw[e];by_cases C:c<a.lo
 ·by_cases b:c>a.hi
  ·rw[aB C,aB b];exact⟨_,_,rfl,I⟩
  rw[aB C,aA b];exact⟨_,_,rfl,I⟩
 by_cases b:c>a.hi
 ·rw[aA C,aB b];exact⟨_,_,rfl,I⟩
 rw[aA C,aA b];exact⟨_,_,rfl,I⟩
def AR(a b c d:Int):∃j S,kh 6 (kh 6 (kh 6 (VV.one a) (VV.one b)) (VV.one c)) (VV.one d)=⟨P',j,S⟩/\(j<=a/\j<=b/\j<=c/\j<=d)/\(a<=S/\b<=S/\c<=S/\d<=S)/\(j=a\/j=b\/j=c\/j=d)/\(S=a\/S=b\/S=c\/S=d):=by obtain⟨e,C,V,E⟩:=Dv (VV.one a) b;rw[V];obtain⟨P,f,u,g⟩:=Dv ⟨(VV.one a).any,e,C⟩ c;rw[u];obtain⟨D,N,b,q⟩:=Dv ⟨(⟨(VV.one a).any,e,C⟩:VV).any,P,f⟩ d;rw[b];simp only[VV.one]at E g q;exact⟨D,N,rfl,I,I,I,I⟩
def DE(x:Int):aP x=O'↔-9223372036854775808<=x/\x<=9223372036854775807:=by simp[aP]
end
section
variable {a b v:VV} {c t:Int} {Q:Bool} {q:VV×VV} {m:Nat} {n:SN}
def mv(x y:Bool):(x&&y)=O'↔x=O'/\y=O'/\x=O'/\y=O':=by cases x<;>cases y<;>simp
def wg(x y z u:Bool):(x&&y&&z&&u)=O'↔x=O'/\y=O'/\z=O'/\u=O':=by cases x<;>cases y<;>cases z<;>cases u<;>simp
def Lt:okV 6 VV.all:=rO rfl aj ⟨aj,aj⟩
def D?{a b d:Int}{f:Bool}(Y:f=O'->aP a=O'/\aP b=O'/\aP c=O'/\aP d=O'):okV 6 (zV a b c d f):=by
 obtain⟨j,S,e,C,g,N,g⟩:=AR a b c d;rw[zV,e];cases f with
 |false=>exact Lt
 |true=>have Y:=Y rfl;simp only[DE]at Y;have N:=Y;rw[aB rfl];exact rO rfl (by simp only;omega) ⟨by simp only;omega,by simp only;omega⟩
def X5(a b:VV):okV 6 (zI a b):=D? (mv _ _).1
def L7(a b:VV):okV 6 (kP a b):=D? (mv _ _).1
def WB(a b:VV):okV 6 (yF a b):=D? (wg _ _ _ _).1
def EP{a b:Int}(T:c<0)(h:a<=b):b.tdiv c<=a.tdiv c:=by have C:b.tdiv (-c)=-(b.tdiv c):=Cw ..;have d:a.tdiv (-c)=-(a.tdiv c):=Cw ..;have N:a.tdiv (-c)<=b.tdiv (-c):=Int.tdiv_le_tdiv I h;omega
def C!{x:Int}(F:-9223372036854775808<=x/\x<=9223372036854775807)(D:c≠0)(C:c≠-1):-9223372036854775808<=x.tdiv c/\x.tdiv c<=9223372036854775807:=(DE _).1 (C? ((DE _).2 F) D C)
def XA(c:okV 6 a)(h:j6 a b=B' v):okV 6 v:=by
 unfold j6 at h;have C:=(ok6 c).2;have b:=c.bd;split at h
 ·cases h;exact Lt
 split at h
 ·cases h
 rename_i a;split at h
 ·cases h;exact L7 _ _
 rename_i c;split at h
 ·rename_i U;cases h;exact rO rfl (Int.tdiv_le_tdiv U C) ⟨C! b.lo a c,C! b.hi a c⟩
 cases h;exact rO rfl (EP I C) ⟨C! b.hi a c,C! b.lo a c⟩
def AD{o:Int}(c:okV 6 a)(h:cpV o a b=B' v):okV 6 v:=by
 unfold cpV at h;split at h
 ·cases h;exact X5 _ _
 split at h
 ·cases h;exact L7 _ _
 split at h
 ·cases h;exact WB _ _
 exact XA c h
def XI(a:VV)(l h:Int):∃j S,cK a l h=⟨a.any,j,S⟩/\a.lo<=j/\l<=j/\(j=a.lo\/j=l)/\S<=a.hi/\S<=h/\(S=a.hi\/S=h):=by
 unfold cK;by_cases C:l>a.lo
 ·by_cases b:h<a.hi
  ·rw[aB C,aB b];exact⟨_,_,rfl,I⟩
  rw[aB C,aA b];exact⟨_,_,rfl,I⟩
 by_cases b:h<a.hi
 ·rw[aA C,aB b];exact⟨_,_,rfl,I⟩
 rw[aA C,aA b];exact⟨_,_,rfl,I⟩
def iY{l h:Int}(b:oL a)(X:-9223372036854775808<=l/\l<=9223372036854775807)(V:-9223372036854775808<=h/\h<=9223372036854775807):oL (cK a l h):=by obtain⟨E,g,V,W⟩:=XI a l h;have:=b.lo;have:=b.hi;rw[V];exact⟨by simp only;omega,by simp only;omega⟩
def A9(f:okV 6 a)(g:okV 6 b)(h:wQ t Q a b=B' q):oL q.1/\oL q.2/\q.1.any=P'/\q.2.any=P':=by
 have c:=(ok6 f).1;have l:=(ok6 g).1;have X:=g.bd.hi;have Y:=g.bd.lo;have e:=f.bd.lo;have d:=f.bd.hi;have a:-2^63<=(-2^63:Int)/\(-2^63:Int)<=9223372036854775807:=aj;have X:-2^63<=(9223372036854775807:Int)/\(9223372036854775807:Int)<=9223372036854775807:=aj;unfold wQ at h;split at h
 ·split at h
  ·cases h
  cases h;exact⟨iY f.bd a I,iY g.bd I X,c,l⟩
 split at h
 ·cases h;exact⟨iY f.bd a I,iY g.bd I X,c,l⟩
 split at h
 ·cases h;exact⟨iY f.bd I X,iY g.bd a I,c,l⟩
 split at h
 ·split at h
  ·cases h
  cases h;exact⟨iY f.bd I X,iY g.bd a I,c,l⟩
 split at h
 ·cases h;exact⟨iY f.bd I I,iY f.bd I I,c,c⟩
 split at h
 ·cases h
 cases h;exact⟨f.bd,g.bd,c,l⟩
def Ad(c:okV 6 a)(e:okV 6 b)(h:oK t Q a b=B' q):okV 6 q.1/\okV 6 q.2:=by
 unfold oK at h;cases F:wQ t Q a b with
 |none=>rw[F]at h;cases h
 |some r=>
  rw[F]at h;simp only[yv]at h;split at h
  ·cases h
  cases h;obtain⟨C,a,N,d⟩:=A9 c e F;exact⟨rO N I C,rO d I a⟩
def At{f D:Int}{a:List VV}{x y:VV}(h:kf 6 m (B' a))(F:okV 6 x)(B:okV 6 y):kf 6 m (Uy f D a x y):=by
 have C:kf 6 m (B' (if 0<=f then a.set f.toNat x else a)):=by
  split
  ·exact kt _ h F
  exact h
 unfold Uy;split;rotate_left
 ·exact C
 have a:oL (if D=f then cK x y.lo y.hi else y)/\(if D=f then cK x y.lo y.hi else y).any=P':=by
  split
  ·exact⟨iY F.bd B.bd.lo B.bd.hi,(ok6 F).1⟩
  exact⟨B.bd,(ok6 B).1⟩
 generalize(if D=f then cK x y.lo y.hi else y)=z at *;split
 ·exact gl _ _
 exact kt _ C (rO a.2 I a.1)
def DD{E:List VV}(T:Hm n.a/\Hm n.b)(h:kf 6 m (B' E)):kf 6 m (El n k E):=by
 have C:=(h E rfl).2;unfold El;split
 ·exact kt _ h Lt
 split
 ·exact kt _ h (kY C _ T.1)
 split
 ·cases F:oK n.test (decide (k=0)) (gQ E n.a) (gQ E n.b)with
  |none=>exact gl _ _
  |some q=>have:=Ad (kY C _ T.1) (kY C _ T.2) F;exact At h this.1 this.2
 split
 ·cases F:cpV n.op (gQ E n.a) (gQ E n.b)with
  |none=>exact gl _ _
  |some v=>exact kt _ h (AD (kY C _ T.1) F)
 exact h
def uL(U:p=5\/p=6){e:EV}(T:Hm n.a/\Hm n.b)(h:kf p m e):kf p m (Ag p n k e):=by
 cases e with
 |none=>exact gl _ _
 |some E=>
  unfold Ag;rcases U with rfl|rfl
  ·exact C3 T h
  exact DD T h
def wR(P:Pm):Prop:=∀i,Hm (P.at i).a/\Hm (P.at i).b
def CL(p:Int)(P:Pm)(n:Nat):kf p P.nv (P.Ij n):=by
 unfold Pm.Ij;split
 ·intro E h;cases h;exact⟨ak,λv R=>by rw[q! R];exact F4 p⟩
 exact gl _ _
def DB{p:Int}(U:p=5\/p=6){P:Pm}(T:wR P){a:Nat->EV}(c:∀m,kf p P.nv (a m)):∀(l:List (Nat×Nat)) (e:EV),kf p P.nv e->kf p P.nv (l.foldl (λb q=>Iu p b (Ag p (P.at q.1) q.2 (a q.1))) e)
 |[],e,h=>h
 |q::l,e,h=>DB U T c l _ (KL h (uL U (T q.1) (c q.1)))
def aaU(U:p=5\/p=6){P:Pm}(T:wR P){a:Nat->EV}(n:Nat)(b:∀m,kf p P.nv (a m)):kf p P.nv (P.say p n a):=DB U T b _ _ (CL p P n)
end
section
variable {P:Program} {o:Obj} {t i E:Nat} {W:u'} {pt V:List A'} {x l r j g y z:A'} {L Y:Array A'} {α:Type}
def mu(v:A'):Nat:=match v with | .slice _ n _=>n|_=>0
def vR(w:u')(k:Nat)(t ty e:TypeId)(i:TypeInfo)(z:A')(size bytes:Nat)(U:P.underlying t=B' (.slice e))(hi:P.info? e=B' i)(f:i.zero=B' z)
  (E:i.size=size) (s:i.bytes=bytes) (L:z.cells.size=size) (uR:0<size)
  (v:A') (n:Nat) (D:List A') (o:ρ w k e size v n D)
  (a:Addr) (m c:Nat) (b:List A') (X:ζ b=m*size) (p:∀j u,b[j]?=B' u->χ w (a.add j)=B' u) (C:∀u∈b,u.oneCell'=O')
  (h63:n+m<=maxLen) (x:(n+m)*bytes<=140737488355328) (l:k<=δ w.1):
  ∃R u,(Builtin.append_ #[t,t] ty #[v,i' (B' a) m c]).run P w=.ok R u/\ρ u k e size R (n+m) (D++b)/\ρ u k e size v n D/\ξ w u (φ v)/\(φ R=φ v\/φ R=B' w.1.size):=by
 obtain⟨R,u,r,r1,q,_,r4⟩:=Qr (P:=P) w k t ty e i z size bytes U hi f E s L uR v n D o a m c b X p C h63 x l;refine⟨R,u,r,r1,?_,q,r4⟩;have hxl:=o.1;rcases o.2 with⟨rfl,rfl⟩|⟨g,cap,Y,rfl,hb,hg,T,hm,y,W⟩
 ·obtain rfl:D=[]:=eq_nil_of_length_eq_zero (I' hxl);exact cb
 by_cases F:n+m<=cap;rotate_left
 ·obtain⟨R,W,B,_,g2⟩:=run_append_arg_grows (P:=P) w t ty e i z size bytes U hi f E s L uR (O g 0) n cap D hxl (o.cells rfl) a m c b X p I h63 x;rw[B]at r;cases r;exact o.kept g2 (aK (by simp[Value.ownBlock]))
 have B:∀j,j<ζ b->0+n*i.size+j<Y.size:=by intro j f;rw[y,E];have h2:(n+m)*size<=cap*size:=qG _ F;rw[oR]at h2;omega
 have hr:=run_append_room_cells (P:=P) w t ty e i U hi g 0 n cap a m c b (by rw[E];exact X) p C F (by
  intro j f;simp only[World.cell?,hg];rw[oQ (B j f)]
  rfl) (by
  intro j f
  simp[World.frozen?,hg])
 rw[hr]at r;cases r;rcases r1.2 with⟨V,_⟩|⟨b,b,N,V,_,hg',b,b,hs',tx⟩
 ·cases V
 cases V;refine⟨hxl,aK ⟨g,cap,N,rfl,hb,hg',T,hm,hs',?_⟩⟩;have h2:=dZ (take (n*size)) tx;rw[LH,nX (qG _ I),take_left' hxl]at h2;exact h2
def cD(w:u'){d:Array Oper}{q:List Oper}{o:Oper}{a:Act}{Q:Exit->Act->u'->Prop}(V:o.guard=C')(s x:Operand)(t:TypeId)
  (Y:o.op=.call {callee:=.builtin .append,args:=#[s,x],argTypes:=#[t,t]})
  (k:Nat) (e:TypeId) (i:TypeInfo) (z:A') (size bytes:Nat) (U:P.underlying t=B' (.slice e)) (S:P.info? e=B' i) (f:i.zero=B' z)
  (E:i.size=size) (W:i.bytes=bytes) (L:z.cells.size=size) (T:0<size)
  (v:A') (n:Nat) (D:List A') (y:a.eval s=v) (B:ρ w k e size v n D)
  (R:Addr) (m c:Nat) (b:List A') (F:a.eval x=i' (B' R) m c) (X:ζ b=m*size) (p:∀j u,b[j]?=B' u->χ w (R.add j)=B' u) (C:∀u∈b,u.oneCell'=O')
  (r:n+m<=maxLen) (j:(n+m)*bytes<=140737488355328) (l:k<=δ w.1)
  (h:∀g u,ρ u k e size g (n+m) (D++b)->ρ u k e size v n D->ξ w u (φ v)->(φ g=φ v\/φ g=B' w.1.size)->wpList P d Q q (a.put o.dst g) u):
  wpList P d Q (o::q) a w:=by
 refine wpList_plain V λK q=>?_;obtain⟨g,u,Q,a,N,d,K⟩:=vR (P:=P) w k t o.type e i z size bytes U S f E W L T v n D B R m c b X p C r j l;simp only[Oper.wp,execOp,Y,resolve,invoke,builtin,LG,Sem.run_pure,LD,map_toArray,u?,Ez,y,F,Q];exact q _ _ (h g u a N d K)
def marks(n:Nat)(pt:List A'):List A':=(replicate n pt).flatten
def kF(n:Nat)(pt:List A'):ζ (marks n pt)=n*ζ pt:=by rw[marks,length_flatten];simp
def yH(pt:List A'):marks 0 pt=[]:=rfl
def kZ(n:Nat)(pt:List A'):marks (n+1) pt=marks n pt++pt:=by unfold marks;rw[Qq,LC];simp
def rP(n m:Nat)(pt:List A')(h:n<=m):(marks m pt).take (n*ζ pt)=marks n pt:=by
 obtain⟨d,rfl⟩:∃d,m=n+d:=⟨m-n,I⟩;have:marks (n+d) pt=marks n pt++marks d pt:=by unfold marks;rw[<-replicate_append_replicate,LC]
 rw[this,take_left' (kF n pt)]
def SX(n:Nat)(pt:List A')(j i:Nat)(f:j<n)(S:i<ζ pt):(marks n pt)[j*ζ pt+i]?=pt[i]?:=by
 have C:=rP j n pt I;have a:=rP (j+1) n pt f;rw[kZ]at a;have N:((marks n pt).take ((j+1)*ζ pt))[j*ζ pt+i]?=pt[i]?:=by rw[a,ek (by rw[kF];omega),kF];congr 1;omega
 rw[u4,aB (by rw[oR];omega)]at N;exact N
def lq(W:u')(t:TypeId)(pt:List A')(v:A'):Prop:=(v=i' C' 0 0)\/∃b n c cur,v=i' (B' (O b 0)) n c/\W.1[b]?=B' (c7 cur t)/\cur.toList.take (n*ζ pt)=marks n pt/\n<=maxLen
def lq.Dj(h:ρ W B t (ζ pt) v n (marks n pt)):lq W t pt v:=by
 rcases h.2 with⟨e,_⟩|⟨g,a,Y,e,_,b,T,d,_,U⟩
 ·exact aI e
 exact aK ⟨g,n,a,Y,e,b,U,bD T d⟩
def lq.of_block{a:u'}{t:TypeId}(h:lq W t pt v)(d:∀k,φ v=B' k->a.1[k]?=W.1[k]?):lq a t pt v:=by
 rcases h with e|⟨b,n,c,Y,rfl,C,a⟩
 ·exact aI e
 exact aK ⟨b,n,c,Y,rfl,(d b rfl).trans C,a⟩
def lq.lt{t:TypeId}(h:lq W t pt v)(k:Nat)(a:φ v=B' k):k<δ W.1:=by
 rcases h with rfl|⟨b,n,c,Y,rfl,C,b⟩
 ·cases a
 cases a;exact(aY.1 C).1
def lq.ty{t:TypeId}(h:lq W t pt v)(k:Nat)(a:φ v=B' k):∃Y,W.1[k]?=B' (c7 Y t):=by
 rcases h with rfl|⟨b,n,c,Y,rfl,C,b⟩
 ·cases a
 cases a;exact⟨Y,C⟩
def lq.step{i:u'}(h:lq W t pt v)(F:ρ i B t (ζ pt) x n (marks n pt))(j:ξ W i (φ x))(X:mu v<=n):lq i t pt v:=by
 by_cases R:φ v=φ x;rotate_left
 ·exact h.of_block (λk i=>j.block k (h.lt k i) (by rw[<-i];exact R))
 rcases h with e|⟨b,m,c,Y,rfl,C,a⟩
 ·exact aI e
 obtain⟨a,y⟩:=a;have d:m<=n:=X;rcases F.2 with⟨rfl,_⟩|⟨g,l,N,rfl,_,f,_,_,_,U⟩
 ·cases R
 have a:b=g:=by simpa[Value.ownBlock]using R
 subst a;refine aK ⟨b,m,c,N,rfl,f,?_,y⟩;rw[<-rP m n pt d,<-U,LH,nX (qG _ d)]
def lq.form{t:TypeId}(h:lq W t pt v):∃a n c,v=i' a n c/\n<=maxLen/\∀j i u,j<n->pt[i]?=B' u->∃b,a=B' (O b 0)/\χ W (O b (j*ζ pt+i))=B' u:=by
 rcases h with rfl|⟨b,n,c,Y,rfl,C,a⟩
 ·exact⟨C',0,0,rfl,bj,λj i u f=>I⟩
 obtain⟨a,y⟩:=a;refine⟨_,n,c,rfl,y,λj i u f S=>⟨b,rfl,?_⟩⟩;have d:=(bm.1 S).1;have N:=SX n pt j i f d;rw[<-a,u4,aB (by have:=qG (ζ pt) (show j+1<=n from f);rw[oR]at this;omega),S]at N;simp only[World.cell?,C];simpa using N
def mM{t:TypeId}(h:ρ w B e size v n D)(b:w.1[a]?=B' (c7 L t))(l:e≠t):some a≠φ v:=by intro o;obtain⟨Q,K,C⟩:=eI h a o.symm;rw[C]at b;simp at b;exact l b.2.1
structure AP(w W:u')(B t n:Nat)(pt:List A')(l x:A')(V:List A'):Prop where
  row:ρ W B t (ζ pt) x n (marks n pt)
  SW:∀v∈V,lq W t pt v/\mu v<=n/\(φ v=φ l\/∃q,φ v=B' q/\δ w.1<=q)
  xb:φ x=φ l\/∃q,φ x=B' q/\δ w.1<=q
  fr:Fr (λk=>some k≠φ l) w W
def AP.base(h:AP w W B t n pt l x V)(v:B<=δ w.1)(o:Obj):B<=δ (W.alloc o).1:=by have:=h.fr.size;simp;omega
def AP.step{F:u'}{i:A'}(h:AP w W B t n pt l x V)(C:ρ F B t (ζ pt) i (n+1) (marks n pt++pt))(f:ρ F B t (ζ pt) x n (marks n pt))(a:ξ (W.alloc o) F (φ x))(K:φ i=φ x\/φ i=B' (W.alloc o).1.size):AP w F B t (n+1) pt l i (V++[i]):=by
 have d:ξ W F (φ x):=(jO W o _).trans a;rw[<-kZ]at C;have a:=h.fr.size;have r:φ i=φ l\/∃q,φ i=B' q/\δ w.1<=q:=by
  rcases K with e|e
  ·rw[e];exact h.xb
  exact aK ⟨_,e,H'⟩
 refine⟨C,?_,r,?_⟩
 ·intro v R;rcases eE.1 R with R|R
  ·obtain⟨a,b,c⟩:=h.SW v R;exact⟨a.step f d b,I,c⟩
  simp only[jg]at R;subst R;refine⟨lq.Dj C,?_,r⟩;obtain⟨a,c,rfl⟩:=aV C;exact aF
 refine h.fr.grown d (λk a U e=>?_);rcases h.xb with u|⟨q,u,hq⟩
 ·exact U (e.trans u)
 rw[u]at e;cases e;omega
def uZ(w:u')(a b c d:A')(t:TypeId):∀j u,[a,b,c,d][j]?=B' u->χ (w.alloc (k' #[a,b,c,d] t)) (((O w.1.size 0):Addr).add j)=B' u:=by
 intro j u hj
 match j,hj with
 |0,hj=>simp at hj;subst hj;simp[Addr.add]
 |1,hj=>simp at hj;subst hj;simp[Addr.add]
 |2,hj=>simp at hj;subst hj;simp[Addr.add]
 |3,hj=>simp at hj;subst hj;simp[Addr.add]
def iN(h:ρ w B e size v n D)(a:w.1[k]?=B' (c7 Y t))(U:t≠e):some k≠φ v:=by intro o;obtain⟨Q,K,C⟩:=eI h k o.symm;rw[C]at a;simp at a;exact U a.2.1.symm
def dP(b:ρ w B e size v n D)(c:∀k Y,φ v=B' k->w.1[k]?=B' (c7 Y e)->W.1[k]?=w.1[k]?):ρ W B e size v n D:=by
 refine⟨b.1,?_⟩;rcases b.2 with o|⟨g,a,Y,V,Q,p,d⟩
 ·exact aI o
 subst V;exact aK ⟨g,a,Y,rfl,Q,(c g Y rfl p).trans p,d⟩
structure mY(w W:u')(bb B:Nat)(cs':Array A')(te tl:TypeId)(lv lj kv:A')(ls pt:List A')(x y z:A'):Prop where
  box:W.1[bb]?=B' (k' cs' 32 (0,0))
  row:ρ W B tl 1 kv (ζ ls+4) (ls++[lv,x,y,z])
  SW:∀v∈[lv,x,y,z],lq W te pt v/\(φ v=φ lv\/∃q,φ v=B' q/\δ w.1<=q)
  new:φ kv=φ lj\/∃q,φ kv=B' q/\δ w.1<=q
  fr:Fr (λk=>k≠bb/\some k≠φ lv/\some k≠φ lj) w W
def yk{C:u'}{s off:Nat}{b:A'}{a:List A'}(h:AP w W B i n pt r b ([r]++[x]++[y]++[z]))(d:W.1[s]?=B' (k' L 32 (0,0)))(P:ρ W B E 1 j (ζ a) a)(b:some s≠φ j)(l:s<δ w.1)(t:ξ W C (φ j))(c:ρ C B E 1 g (ζ a+4) (a++[r,x,y,z]))(K:φ g=φ j\/φ g=B' (W.alloc o).1.size)(S:i≠E)(N:i≠32)(l:E≠32):mY w (κ C (O s off) g) s B (L.setIfInBounds off g) i E r j g a pt x y z:=by
 have f:=h.fr.size;have z:d' C s L 32:=(t.block s I b).trans d;refine⟨?_,?_,?_,?_,?_⟩
 ·rw[lT z]
 ·refine c.kept (bX C s off g) ?_;have:=mM c z l;exact aK (λe=>this e.symm)
 ·intro v R;obtain⟨a,_,c⟩:=h.SW v (I' R);refine⟨a.of_block (λk D=>?_),c⟩;obtain⟨Y,T⟩:=a.ty k D;have F:=a.lt k D;have V:=iN P T S;have u:k≠s:=by intro e;subst e;rw[d]at T;simp at T;exact N T.2.symm
  exact(aJ u).trans (t.block k F V)
 ·rcases K with e|e
  ·exact aI e
  exact aK ⟨_,e,H'⟩
 refine(h.fr.mono (Q:=λk=>k≠s/\some k≠φ r/\some k≠φ j) (λk _ U=>U.2.1)).trans (Q:=λk=>k≠s/\some k≠φ j) ?_ (λk _ U=>⟨U.1,U.2.2⟩);refine⟨t.os,t.tape,t.output,by have:=t.size;simp[World.setCell];omega,λk D U=>?_⟩;exact(aJ U.1).trans (t.block k D U.2)
def mY.keep{c:Nat}{b:List A'}{s:Array A'}(h:mY w W c B s i E r j g b pt x y z)(d:w.1[c]?=B' (k' L 32 (0,0)))(c:ρ w B E 1 j (ζ b) b)(X:ρ w B i a r n D)(a:w.1[k]?=B' (c7 Y t))(C:t≠32)(b:t≠E)(N:t≠i\/some k≠φ r):W.1[k]?=w.1[k]?:=by
 refine h.fr.block k (aY.1 a).1 ⟨?_,?_,iN c a b⟩
 ·intro e;subst e;rw[d]at a;simp at a;exact C a.2.symm
 rcases N with N|N
 ·exact iN X a N
 exact N
def Jx(k:Nat)(a:A')(D:List A')(b:k<ζ D):(marks k [a]++D.drop k).set k a=marks (k+1) [a]++D.drop (k+1):=by
 have d:ζ (marks k [a])=k:=by rw[kF];simp
 rw[sk _ _ I,d,kH,qF b,dN,kZ];simp
def GA(l:List α)(h:6<=ζ l):∃F E g q a c r,l=F::E::g::q::a::c::r:=by
 match l,h with
 |F::E::g::q::a::c::r,_=>exact⟨F,E,g,q,a,c,r,rfl⟩
def Xq(l:List α)(h:5<=ζ l):∃F E g q a r,l=F::E::g::q::a::r:=by
 match l,h with
 |F::E::g::q::a::r,_=>exact⟨F,E,g,q,a,r,rfl⟩
def Jv(k:Nat)(U N f b C t:A')(D:List A')(a:(k+1)*6<=ζ D):((((((marks k [U,N,f,b,C,t]++D.drop (k*6)).set (k*6) U).set (k*6+1) N).set (k*6+2) f).set (k*6+3) b).set (k*6+4) C).set (k*6+5) t=marks (k+1) [U,N,f,b,C,t]++D.drop ((k+1)*6):=by
 have d:ζ (marks k [U,N,f,b,C,t])=k*6:=by rw[kF];rfl
 obtain⟨F,E,g,q,a,c,r,e⟩:=GA (D.drop (k*6)) (by rw[nW];omega);have u:D.drop ((k+1)*6)=r:=by rw[show(k+1)*6=k*6+6 by omega,<-AQ,e];rfl
 rw[e,u,kZ];have o:∀(l:List A') (y:A'),(marks k [U,N,f,b,C,t]++l).set (k*6) y=marks k [U,N,f,b,C,t]++l.set 0 y:=λl y=>xF _ l _ 0 y d;rw[o,jl d,jl d,jl d,jl d,jl d];simp
def Jw(k:Nat)(U N c b C:A')(D:List A')(a:(k+1)*5<=ζ D):(((((marks k [U,N,c,b,C]++D.drop (k*5)).set (k*5) U).set (k*5+1) N).set (k*5+2) c).set (k*5+3) b).set (k*5+4) C=marks (k+1) [U,N,c,b,C]++D.drop ((k+1)*5):=by
 have d:ζ (marks k [U,N,c,b,C])=k*5:=by rw[kF];rfl
 obtain⟨F,E,g,q,a,r,e⟩:=Xq (D.drop (k*5)) (by rw[nW];omega);have u:D.drop ((k+1)*5)=r:=by rw[show(k+1)*5=k*5+5 by omega,<-AQ,e];rfl
 rw[e,u,kZ];have o:∀(l:List A') (y:A'),(marks k [U,N,c,b,C]++l).set (k*5) y=marks k [U,N,c,b,C]++l.set 0 y:=λl y=>xF _ l _ 0 y d;rw[o,jl d,jl d,jl d,jl d];simp
end
