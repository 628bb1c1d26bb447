import Derived.Test.YtmipbiligijcpaaGreatDoorA01
import Derived.BigQuiet
import Derived.Deep.AppendLies
import Derived.Deep.Cut
namespace Go.Proofs.YtmipbiligijcpaaGreatDoor
set_option linter.all false
set_option maxHeartbeats 0
set_option maxRecDepth 99999
open Go.RowKit Go.Proofs Go.Maps Tryz List Go.Lib Go.WideMaps open List renaming length->ζ,toArray->θ open _root_.Array renaming size->δ open World renaming setCell->κ,ownsRow->ρ,cell?->χ,grownBy->ξ open Value renaming ownBlock->φ open Value renaming slice->h',bool->i',agg->k',string->m',pointer->n',tuple->p' open Obj renaming cells->j' open Ending renaming returned->o' open Option renaming some->C',none->D' open Bool renaming true->P',false->Q'
variable {B b g k x:Nat}{R:List z'}{a w:t'}{p:Prop}{q:Option Nat}{t:TypeId}
section
variable {E:List bD}
structure kE where
  aN:Bool
  var:Int
  bJ:Int
def qP(vs:List bD)(s:z'):kE:=if Wm.nm s then⟨P',fY vs s.1.1,0⟩ else⟨Q',0,zZ s.1.1⟩
def ej(s:z'):Bool:=Wm.nm s||wP s.1.1
def dx(vs:List bD)(s:z'):List bD:=if Wm.nm s then cZ vs s.1.1 else vs
def lz(E:List bD)(s:z'):ζ (dx E s)<=ζ E+1:=by unfold dx;split;exact j4 _ _;omega
def ey(w:t'):Prop:=∃te pe,χ w (O 5 0)=C' (.iface te pe)
def ey.kept{row:Option Nat}(h:ey w)(d:∃b c,w.1[x]?=C' (.map b c))(g:ξ w a row)(e:row=D'\/row=C' x):ey a:=by
 obtain⟨i,z,T⟩:=h;obtain⟨c,t,f,a⟩:=ft T;refine⟨i,z,g.cell T ?_⟩;rcases e with rfl|rfl
 .simp
 intro e;simp only[dq]at e;subst e;obtain⟨b,b,d⟩:=d;rw[a]at d;cases d
def Rd.grown(h:Rd w b x E)(c:Bl w a):Rd a b x E:=h.kept<|bI c
def kd{c:t'}(h:ξ a c D')(q:Option Nat):ξ a c q:=⟨h.os,h.tape,h.output,h.size,λi S _=>h.block i S ak⟩
def Mk(o:kE):A':=k' #[i' o.aN,G o.var,G o.bJ]
def Rd.alloc{a:Nat}(h:Rd w a x E)(o:Obj):Rd (w.alloc o) a x E:=h.kept<|gY _ _ _
def ey.alloc(h:ey w)(o:Obj):ey (w.alloc o):=by obtain⟨i,z,T⟩:=h;exact⟨i,z,(gY w o D').cell T ak⟩
def Rd.lt{a:Nat}(h:Rd w a x E):x<δ w.1:=h.own.lt
def dV{b:t'}{L:Array A'}{t:TypeId}(a:ξ (w.alloc<|j' L t) b q)(d:∀k,q=C' k->k<δ w.1):b.1[δ w.1]?=C' (cL L t):=by rw[a.block w.1.size ak λe=>L'<|d _ e.symm];exact bj w _
def dy{b:t'}(h:ξ w b q){a:Addr}(c:δ w.1<=a.block)(v:A'):ξ w (b.setCell a v) q:=
 ⟨h.os,h.tape,h.output,by simpa[World.setCell]using h.size,λk a b=>(bh _ _ _ _ I).trans<|h.block k a b⟩
def Rd.set(h:Rd w b x E){a:Addr}(C:a.block≠b)(c:a.block≠x)(v:A'):Rd (w.setCell a v) b x E:=
 ⟨(bh _ _ _ _<|oh C).trans h.box,h.own.setCell (oh c) v,h.nodup⟩
def Rd.PV{a:Nat}(h:Rd w a x E):a<δ w.1:=(bG.1 h.box).1
def cC{o:Obj}(h:ξ (w.alloc o) a q):ξ w a q:=(gY w o q).trans h
def Gw(s:z')(a x:Nat)(E:List bD)(w:t')(y:s.size<=3000)(K:ζ E<maxLen)(v:Rd w a x E)(f:ey w):
  Cl 259 (Bv a s) w λe c=>
   e=o' (p' #[Mk<|qP E s,i'<|ej s])/\Rd c a x (dx E s)/\ξ w c (C' x):=by
 have d:s.size<=maxLen:=by unfold maxLen;omega
 have C:=v.lt;have b:=v.PV;cases j:Wm.nm s with
 |true=>
  go_enter func259,ntmps259;go_wp2_with (first|(go_at_call 124;refine(eg _ _ d).mono ?_;rintro e c ⟨rfl,rfl⟩)|(go_at_call 261;refine(kQ s a x E _ d K<|v.alloc _).mono ?_;rintro e b ⟨rfl,B,a⟩;have r:=dV a (λk e=>by cases e;exact v.lt);have L:=A r));refine aC (v:=p' #[k' #[i' P',G<|fY E s.1.1,G 0],i' P']) (by simp[results259,go_sem,L.1]) rfl ⟨by simp[qP,Mk,ej,j],?_,?_⟩
  .rw[show dx E s=cZ E s.1.1 by simp[dx,j]];exact((B.set I' I' _).set I' I' _).set I' I' _
  exact dy (dy (dy (cC a) (aD _) _) (aD _) _) (aD _) _
 |false=>
  obtain⟨i,z,T⟩:=f.alloc<|j' #[i' Q',Value.int IntKind.i64 0,Value.int IntKind.i64 0] 150;go_enter func259,ntmps259;go_wp2_with (first|(go_at_call 124;refine(eg _ _ d).mono ?_;rintro e c ⟨rfl,rfl⟩)|(go_at_call 304;refine(s9 s (.iface i z) _ y T ⟨i,z,rfl⟩).mono ?_;rintro e b ⟨rfl,l⟩;have r:=dV (bI l) (λk e=>by cases e);have L:=A r));refine aC (v:=p' #[k' #[i' Q',G 0,G<|zZ s.1.1],i'<|wP s.1.1]) (by simp[results259,go_sem,L.1]) rfl ⟨by simp[qP,Mk,ej,j],?_,?_⟩
  .rw[show dx E s=E by simp[dx,j]];exact((((v.alloc _).kept<|bI l).set I' I' _).set I' I' _).set I' I' _
  exact dy (dy (dy (cC<|kd (bI l)<|C' x) (aD _) _) (aD _) _) (aD _) _
def k7(s:z')(a x:Nat)(E:List bD)(w:t')(c:s.size<=3000)(K:ζ E<maxLen)(v:Rd w a x E)(d:ey w):
  Cl 259 (Bv a s) w λe b=>∃(y:Bool)(z o:Int),
   e=o' (p' #[k' #[i' y,G z,G o],i'<|ej s])/\J (qP E s=⟨y,z,o⟩)/\Rd b a x (dx E s)/\ξ w b (C' x):=
 (Gw s a x E w c K v d).mono λ_ _ h=>⟨_,_,_,h.1,rfl,h.2.1,h.2.2⟩
def ey.grown(h:ey w)(v:Rd w b x E)(b:ξ w a<|C' x):ey a:=h.kept v.isMap b<|aH rfl
def ey.set(h:ey w){a:Addr}(b:a.block≠5)(v:A'):ey (w.setCell a v):=by obtain⟨i,z,T⟩:=h;refine⟨i,z,?_⟩;rw[World.cell?_of_block (w:=w)<|bh _ _ _ _<|oh b];exact T
def ey.lt(h:ey w):5<δ w.1:=by obtain⟨i,z,T⟩:=h;exact World.block_lt_of_cell? w _ T
end
section
variable {t:Nat}
def Ws(w:t')(g off:Nat)(ws:List z'):Prop:=∃cur,w.1[g]?=C' (j' cur 9 (0,0))/\(cur.toList.drop off).take (ζ ws)=ws.map m'
def Ws.cell(h:Ws w g t R)(j:Nat)(x:z')(f:R[j]?=C' x):χ w (O g<|t+j)=C' (m' x):=by
 obtain⟨Y,a,U⟩:=h;have X:=(aV.1 f).1;have C:((Y.toList.drop t).take<|ζ R)[j]?=C' (m' x):=by rw[U];simp[f]
 rw[xH,aB X,C5]at C;simp[World.cell?,a];simpa using C
def Ws.lt(h:Ws w g t R):g<δ w.1:=by obtain⟨Y,a,_⟩:=h;exact(bG.1 a).1
def Ws.of_block(h:Ws w g t R)(b:a.1[g]?=w.1[g]?):Ws a g t R:=by obtain⟨Y,C,a⟩:=h;exact⟨Y,b.trans C,a⟩
def Ws.acD(h:Ws w g t R)(d:∃a c,w.1[x]?=C' (.map a c)):g≠x:=by rintro rfl;obtain⟨Y,C,_⟩:=h;obtain⟨a,c,a⟩:=d;rw[C]at a;cases a
def Ws.grown(h:Ws w g t R)(d:∃b c,w.1[x]?=C' (.map b c))(b:ξ w a<|C' x):Ws a g t R:=
 h.of_block (b.block g h.lt<|by simp;exact h.acD d)
def Ws.alloc(h:Ws w g t R)(o:Obj):Ws (w.alloc o) g t R:=h.of_block<|ch w o g h.lt
def Ws.set(h:Ws w g t R){a:Addr}(b:g≠a.block)(v:A'):Ws (w.setCell a v) g t R:=h.of_block<|bh _ _ _ _ b
def Ws.tail{x:z'}(h:Ws w g t<|x::R):Ws w g (t+1) R:=by obtain⟨Y,C,a⟩:=h;refine⟨Y,C,?_⟩;have:=cQ (drop 1) a;simpa[drop_take,drop_drop,xS]using this
structure SN where
  aO:Int
  var:Int
  op:Int
  test:Int
  a:kE
  b:kE
  dz:z'
def o0:kE:=⟨Q',0,0⟩
def emp:z':=⟨#[]⟩
def aJ(bL:z')(wv:A')(n:SN)(ev:A'):Array A':=
 #[m' bL,wv,G n.aO,G n.var,G n.op,G n.test,i' n.a.aN,G n.a.var,G n.a.bJ,i' n.b.aN,G n.b.var,G n.b.bJ,ev,m' n.dz]
def gH:A':=h' D' 0 0
def jB(n:SN):A':=k'<|aJ emp gH n gH
def oT:SN:=⟨0,0,0,0,o0,o0,emp⟩
def mC(d:Nat)(a:u')(c b:Nat)(w:t')(h:((c:Int) !=2)=P')(X:c<=3001):
  Cl 194 #[n'<|C'<|O d 0,h' a c b] w λe a=>
   e=o' (p' #[jB oT,i' Q'])/\Bl w a:=by
 go_enter func194,ntmps194;go_wp2;exact aC (v:=p' #[jB oT,i' Q']) (by simp[results194,go_sem,jB,aJ,oT,o0,emp,gH]) rfl ⟨rfl,(aP _ _).alloc (aD _) _⟩
def yL(c x g t d:Nat)(u b:z')(E:List bD)(w:t')(y:b.size<=3000)(K:ζ E<maxLen)(v:Rd w c x E)(f:ey w)(j:Ws w g t [u,b]):
  Cl 194 #[n'<|C'<|O c 0,h' (C'<|O g t) 2 d] w λe d=>
   e=o' (p' #[jB ⟨3,0,0,0,qP E b,o0,emp⟩,i'<|ej b])/\Rd d c x (dx E b)/\ξ w d (C' x):=by
 have T:=j.cell 1 b rfl;have d:=j.lt;have d:=v.lt;have d:=v.PV;go_enter func194,ntmps194;go_wp2_with (first|(go_at_call 259;refine(k7 b c x E _ y K (v.alloc _)<|f.alloc _).mono ?_;rintro e W ⟨h,z,o,rfl,V,B,a⟩;have r:=dV a (λk e=>by cases e;exact v.lt);have L:=A r;have f:=(bG.1 r).1));refine aC (v:=p' #[jB ⟨3,0,0,0,⟨h,z,o⟩,o0,emp⟩,i'<|ej b]) (by simp[results194,go_sem,jB,aJ,o0,emp,gH,L.1,f]) rfl ⟨by rw[V.o],?_,?_⟩
 .refine Rd.alloc ?_ _
  repeat(refine Rd.set ?_ I' I' _)
  exact B
 refine CU ?_<|gY _ _ _
 repeat(refine dy ?_ (aD _) _)
 exact cC a
end
section
variable {L:Array A'}
def pw(a:u')(c b:Nat)(w:t')(h:((c:Int) !=2)=P')(X:c<=3001):
  Cl 196 #[h' a c b] w λe a=>
   e=o' (p' #[jB oT,i' Q'])/\Bl w a:=by
 go_enter func196,ntmps196;go_wp2;exact aC (v:=p' #[jB oT,i' Q']) (by simp[results196,go_sem,jB,aJ,oT,o0,emp,gH]) rfl ⟨rfl,(aP _ _).alloc (aD _) _⟩
def DH(g t a:Nat)(u b:z')(w:t')(y:b.size<=3000)(j:Ws w g t [u,b]):
  Cl 196 #[h' (C'<|O g t) 2 a] w λe a=>
   e=o' (p' #[jB ⟨5,0,0,0,o0,o0,b⟩,i'<|Wm.nm b])/\Bl w a:=by
 have T:=j.cell 1 b rfl;have c:=j.lt;have d:b.size<=maxLen:=by unfold maxLen;omega
 have z:=World.new_ne w (O g<|t+1) T;go_enter func196,ntmps196;go_wp2
 go_region_held3 (λa=>χ a (O g<|t+1)=C' (m' b)) (go_keep) ((go_at_call 124;refine(eg _ _ d).mono ?_;rintro e a ⟨rfl,rfl⟩))
 go_wp2;exact aC (v:=p' #[jB ⟨5,0,0,0,o0,o0,b⟩,i'<|Wm.nm b]) (by simp[results196,go_sem,jB,aJ,o0,emp,gH]) rfl ⟨rfl,((aP _ _).alloc (aD _) _).drew⟩
def nU{a:World}{x:Nat}(h:w.heap[b]?=some (cL L t))(d:∃e c,w.heap[x]?=some (.map e c))(f:ξ w a<|some x):a.heap[b]?=some (cL L t):=by refine(f.block b (bG.1 h).1 ?_).trans h;simp only[ne_eq,dq];rintro rfl;obtain⟨e,c,e⟩:=d;rw[h]at e;cases e
def nV(h:w.1[b]?=C' (cL L t))(o:Obj):(w.alloc o).1[b]?=C' (cL L t):=
 (ch w o b (bG.1 h).1).trans h
def NP{p:Prop}(h:p:=by
 go_enter func195,ntmps195;go_wp2
 exact aC (v:=p' #[jB oT,i' Q']) (by simp[results195,go_sem,jB,aJ,oT,o0,emp,gH]) rfl ⟨rfl,(aP _ _).alloc (aD _) _⟩):p:=h
def O!(d:Nat)(a:u')(c b:Nat)(w:t')(h:((c:Int) !=6)=P')(X:c<=3001):
  Cl 195 #[n'<|C'<|O d 0,h' a c b] w λe a=>
   e=o' (p' #[jB oT,i' Q'])/\Bl w a:=by
 exact NP
def J4(c g t a:Nat)(u b W i Y p:z')(w:t')(j:Ws w g t [u,b,W,i,Y,p])(d:(Y.toList==[103,111,116,111])=Q'):
  Cl 195 #[n'<|C'<|O c 0,h' (C'<|O g t) 6 a] w λe a=>
   e=o' (p' #[jB oT,i' Q'])/\Bl w a:=by
 have T:=j.cell 4 Y rfl;have a:=j.lt;exact NP
end
def Rd.drew{w:t'}{a x:Nat}{E:List bD}(h:Rd w a x E):Rd w.drew a x E:=⟨h.box,h.own,h.nodup⟩
def sj{a w:t'}{q:Option Nat}(h:ξ a w q):ξ a w.drew q:=⟨h.os,h.tape,h.output,h.size,h.block⟩
def NT{p:Prop}(h:p:=by
 go_wp2;refine aC (v:=p' #[jB ⟨4,0,0,Wm.WW W.1.1,⟨y,va,o⟩,⟨D,X,U⟩,p⟩,i'<|ej b&&Wm.V! W.1.1&&ej i&&Wm.nm p]) (by simp[results195,go_sem,jB,aJ,emp,gH,l.1,Q,h,j]) rfl ⟨by rw[V.o,S.o],?_,?_⟩
 .refine Rd.drew ?_
  repeat(refine Rd.set ?_ I' I' _)
  exact d
 refine sj ?_
 repeat(refine dy ?_ (aD _) _)
 exact a.o):p:=h
def J3(rb x g t f:Nat)(w0 b W i Y p:z')(E:List bD)(w:t')(ed:b.size<=3000)(z:i.size<=3000)(kv:p.size<=maxLen)(K:ζ E+1<maxLen)(v:Rd w rb x E)(hG:ey w)(j:Ws w g t [w0,b,W,i,Y,p])(d:(Y.toList==[103,111,116,111])=P'):
  Cl 195 #[n'<|C'<|O rb 0,h' (C'<|O g t) 6 f] w λe w'=>
   e=o' (p' #[jB ⟨4,0,0,Wm.WW W.1.1,qP E b,qP (dx E b) i,p⟩,i'<|ej b&&Wm.V! W.1.1&&ej i&&Wm.nm p])/\Rd w' rb x (dx (dx E b) i)/\ξ w w' (C' x):=by
 have ml:=j.cell 4 Y rfl;have c:=j.cell 1 b rfl;have f:=j.lt;have f:=v.lt;have f:=v.PV;have ee:ζ E<maxLen:=I;have Wk:ζ (dx E b)<maxLen:=by have:=lz E b;omega
 go_enter func195,ntmps195
 go_wp2_with (first
  |(go_at_call_of 259 (Value.string b);refine(k7 b rb x E _ ed ee (v.alloc _)<|hG.alloc _).mono ?_;rintro e F ⟨y,va,o,rfl,V,B,Q⟩;have r:=dV Q (λk e=>by cases e;exact v.lt);have L:=A r;have f:=(bG.1 r).1;have a:=(j.alloc _).grown (v.alloc _).isMap Q;have C:=(hG.alloc _).grown (v.alloc _) Q;have P:=a.cell 2 W rfl;have N:=a.cell 3 i rfl;have R:=a.lt)
  |(go_at_call_of 259 (Value.string i);refine(k7 i rb x (dx E b) _ z Wk (B.alloc _)<|C.alloc _).mono ?_;rintro e W4 ⟨D,X,U,rfl,S,fy,q⟩;have s:=nU (nV r _) (B.alloc _).isMap q;have u:=A s;have l:=dV q (λk e=>by cases e;exact B.lt);have Em:=A l;have f:=(bG.1 l).1;have h:=(a.alloc _).grown (B.alloc _).isMap q;have T:=h.cell 5 p rfl;have mq:=h.lt)
  |(go_at_call 260;refine(A4 _ _).mono ?_;rintro e w' ⟨rfl,rfl⟩))
 clear ml c P N L r d a C h u;have c:δ w.1<δ W4.1:=I;obtain⟨C,a⟩:∃C,W4.alloc (oZ D X U)=C:=⟨_,rfl⟩;rw[a];have d:=nV s<|oZ D X U;have g:=nV l<|oZ D X U;have c:d' (W4.alloc<|oZ D X U) W4.1.size #[i' D,G X,G U] 150:=bj _ _;rw[a]at d g c;have f:=ſ a;clear a Em s l j ed z;have l:=A d;have k:=A g;have k:=A c;clear d g c;have s:δ w.1≠δ F.1:=I;have c:δ F.1≠δ w.1:=I;have c:δ w.1≠δ W4.1:=I;have c:δ W4.1≠δ w.1:=I;have d:Rd C rb x (dx (dx E b) i):=by have:=fy.alloc<|oZ D X U;rwa[f.o]at this
 have c:ξ w C (C' x):=by have:=(cC Q).trans<|(cC q).trans<|gY W4 (oZ D X U)<|C' x;rwa[f.o]at this
 have a:=ſ c;clear c B fy Q q f T v hG K ee Wk R mq;cases Q:ej b
 case false=>
  go_region
  go_wp2;refine aC (v:=p' #[jB ⟨4,0,0,Wm.WW W.1.1,⟨y,va,o⟩,⟨D,X,U⟩,p⟩,i'<|ej b&&Wm.V! W.1.1&&ej i&&Wm.nm p]) (by simp[results195,go_sem,jB,aJ,emp,gH,l.1,Q]) rfl ⟨by rw[V.o,S.o],?_,?_⟩
  .refine Rd.drew ?_
   repeat(refine Rd.set ?_ I' I' _)
   exact d
  refine sj ?_
  repeat(refine dy ?_ (aD _) _)
  exact a.o
 case true=>
 cases h:Wm.V! W.1.1
 case false=>
  go_region
  go_wp2;refine aC (v:=p' #[jB ⟨4,0,0,Wm.WW W.1.1,⟨y,va,o⟩,⟨D,X,U⟩,p⟩,i'<|ej b&&Wm.V! W.1.1&&ej i&&Wm.nm p]) (by simp[results195,go_sem,jB,aJ,emp,gH,l.1,Q,h]) rfl ⟨by rw[V.o,S.o],?_,?_⟩
  .refine Rd.drew ?_
   repeat(refine Rd.set ?_ I' I' _)
   exact d
  refine sj ?_
  repeat(refine dy ?_ (aD _) _)
  exact a.o
 case true=>
 cases j:ej i
 case false=>
  go_region
  exact NT
 go_region_held3 (λw'=>χ w' (O F.1.size 0)=C' (i' y)/\χ w' (O F.1.size 1)=C' (G va)/\χ w' (O F.1.size 2)=C' (G o)/\χ w' (O W4.1.size 0)=C' (i' D)/\χ w' (O W4.1.size 1)=C' (G X)/\χ w' (O W4.1.size 2)=C' (G U)) (go_keep) ((go_at_call 124;refine(eg _ _ kv).mono ?_;rintro e w' ⟨rfl,rfl⟩))
 exact NT
def mD(d:Nat)(a:u')(c b:Nat)(w:t')(h:decide ((c:Int)<3)=P'):
  Cl 197 #[n'<|C'<|O d 0,h' a c b] w λe a=>
   e=o' (p' #[jB oT,i' Q'])/\Bl w a:=by
 go_enter func197,ntmps197;go_wp2;exact aC (v:=p' #[jB oT,i' Q']) (by simp[results197,go_sem,jB,aJ,oT,o0,emp,gH]) rfl ⟨rfl,(aP _ _).alloc (aD _) _⟩
def NU(h:p:=by
 go_enter func197,ntmps197;go_wp2_with (first|(go_at_call 124;refine(eg _ _ y).mono ?_;rintro e a ⟨rfl,rfl⟩))
 exact aC (v:=p' #[jB oT,i' Q']) (by simp[results197,go_sem,jB,aJ,oT,o0,emp,gH]) rfl ⟨rfl,(aP _ _).alloc (aD _) _⟩):p:=h
def DJ(b g t c a:Nat)(u:z')(R:List z')(w:t')(j:Ws w g t<|u::R)(y:u.size<=maxLen)(h:decide ((c:Int)<3)=Q')(K:Wm.nm u=Q'):
  Cl 197 (ko b g t c a) w λe a=>
   e=o' (p' #[jB oT,i' Q'])/\Bl w a:=by
 have T:χ w (O g t)=C' (m' u):=j.cell 0 u rfl;have b:=j.lt;have X:(0:Int)<c:=by have:=gZ h;omega
 exact NU
def J6(d g t c a:Nat)(u b:z')(R:List z')(w:t')(j:Ws w g t<|u::b::R)(y:u.size<=maxLen)(h:decide ((c:Int)<3)=Q')(K:Wm.nm u=P')(l:(b.toList==[61])=Q'):
  Cl 197 (ko d g t c a) w λe a=>
   e=o' (p' #[jB oT,i' Q'])/\Bl w a:=by
 have T:χ w (O g t)=C' (m' u):=j.cell 0 u rfl;have d:=j.cell 1 b rfl;have b:=j.lt;have X:(0:Int)<c:=by have:=gZ h;omega
 have b:(1:Int)<c:=by have:=gZ h;omega
 exact NU
def A0(a x g t c:Nat)(u b W:z')(E:List bD)(w:t')(j:Ws w g t [u,b,W])(y:u.size<=maxLen)(K:Wm.nm u=P')(l:(b.toList==[61])=P')(S:(W.toList==[105,110,112,117,116])=P')(X:ζ E<maxLen)(v:Rd w a x E):
  Cl 197 #[n'<|C'<|O a 0,h' (C'<|O g t) 3 c] w λe f=>
   e=o' (p' #[jB ⟨2,fY E u.1.1,0,0,o0,o0,emp⟩,i' P'])/\Rd f a x (cZ E u.1.1)/\ξ w f (C' x):=by
 have T:χ w (O g t)=C' (m' u):=j.cell 0 u rfl;have c:=j.cell 1 b rfl;have b:=j.lt;have d:=v.lt;have b:=v.PV;go_enter func197,ntmps197
 go_wp2_with (first
  |(go_at_call 124;refine(eg _ _ y).mono ?_;rintro e f ⟨rfl,rfl⟩)
  |(go_at_call 261;refine(kQ u a x E _ y X<|v.alloc _).mono ?_;rintro e F ⟨rfl,B,b⟩;have r:=dV b (λk e=>by cases e;exact v.lt);have L:=A r;have f:δ w.1<δ F.1:=(bG.1 r).1;have a:=(j.alloc _).grown (v.alloc _).isMap b;have P:=a.cell 2 W rfl;have R:=a.lt))
 refine aC (v:=p' #[jB ⟨2,fY E u.1.1,0,0,o0,o0,emp⟩,i' P']) (by simp[results197,go_sem,jB,aJ,o0,emp,gH,L.1,f]) rfl ⟨rfl,?_,?_⟩
 .repeat(refine Rd.set ?_ I' I' _)
  exact B
 repeat(refine dy ?_ (aD _) _)
 exact cC b
def No(h:p:=by
 have T:χ w (O g off)=C' (m' w0):=hW.cell 0 w0 rfl;have c:=hW.cell 1 w1 rfl;have b:=hW.lt;have d:=hR.lt;have b:=hR.PV
 first|(have _:=gz;(have b:(0:Int)<len:=L'<|gZ hle);(have b:(1:Int)<len:=L'<|gZ hle);(have D:(2:Int)<len:=L'<|gZ hle))|skip
 have b:ζ vs<maxLen:=I;have i:ζ (cZ vs w0.1.1)<maxLen:=by have:=j4 vs w0.1.1;omega
 go_enter func197,ntmps197
 go_wp2_with (first
  |(go_at_call 124;refine(eg _ _ hs).mono ?_;rintro e w' ⟨rfl,rfl⟩)
  |(go_at_call 261;refine(kQ w0 rb mb vs _ hs b<|hR.alloc _).mono ?_;rintro e F ⟨rfl,B,c⟩;have r:=dV c (λk e=>by cases e;exact hR.lt);have L:=A r;have f:δ w.1<δ F.1:=(bG.1 r).1;have d:=(hW.alloc _).grown (hR.alloc _).isMap c;have b:=(hG.alloc _).grown (hR.alloc _) c;have P:=d.cell 2 w2 rfl;have f:=d.lt)
  |(go_at_call 259;refine(k7 w2 rb mb (cZ vs w0.1.1) _ Wj i B b).mono ?_;rintro e b ⟨y,z,o,rfl,V,C,q⟩;have s:=nU r B.isMap q;clear L;have L:=A s;have j:δ w.1<δ b.1:=(bG.1 s).1))
 first|(have _:=gz;refine aC (v:=p' #[jB oT,i' Q']) (by simp[results197,go_sem,jB,aJ,oT,o0,emp,gH,L.1,j]) rfl ⟨rfl,?_,?_⟩)|(refine aC (v:=p' #[jB ⟨0,fY vs w0.1.1,0,0,⟨y,z,o⟩,o0,emp⟩,i'<|ej w2]) (by simp[results197,go_sem,jB,aJ,o0,emp,gH,L.1,j]) rfl ⟨by rw[V.o],?_,?_⟩)
 .refine Rd.alloc ?_ _
  repeat(refine Rd.set ?_ I' I' _)
  exact C
 refine CU ?_<|gY _ _ _
 repeat(refine dy ?_ (aD _) _)
 exact(cC c).trans q):p:=h
def DK(rb mb g off a:Nat)(w0 w1 w2:ByteArray)(vs:List bD)(w:World)(hW:Ws w g off [w0,w1,w2])(hs:w0.size<=maxLen)(Wj:w2.size<=3000)(K:Wm.nm w0=true)(l:(w1.toList==[61])=true)(S:(w2.toList==[105,110,112,117,116])=false)(X:vs.length+1<maxLen)(hR:Rd w rb mb vs)(hG:ey w):
  Cl 197 #[.pointer<|some<|O rb 0,.slice (some<|O g off) 3 a] w λe w'=>
   e=.returned (.tuple #[jB ⟨0,fY vs w0.data.toList,0,0,qP (cZ vs w0.data.toList) w2,o0,emp⟩,.bool<|ej w2])/\Rd w' rb mb (dx (cZ vs w0.data.toList) w2)/\w.grownBy w' (some mb):=by
 exact No
def vM(rb mb g off len a:Nat)(w0 w1 w2:z')(R:List z')(vs:List bD)(w:t')(hW:Ws w g off<|w0::w1::w2::R)(hs:w0.size<=maxLen)(Wj:w2.size<=3000)(K:Wm.nm w0=P')(l:(w1.toList==[61])=P')(hle:decide ((len:Int)<3)=Q')(N:((len:Int)==3)=Q')(l:((len:Int)==5)=Q')(X:ζ vs+1<maxLen)(hR:Rd w rb mb vs)(hG:ey w):
  Cl 197 (ko rb g off len a) w λe w'=>
   e=o' (p' #[jB oT,i' Q'])/\Rd w' rb mb (dx (cZ vs w0.1.1) w2)/\ξ w w' (C' mb):=by
 have gz:=True.intro;exact No
def DL(Q x g t R:Nat)(u d W i Y:z')(E:List bD)(w:t')(j:Ws w g t [u,d,W,i,Y])(y:u.size<=maxLen)(Wj:W.size<=3000)(mh:Y.size<=3000)(K:Wm.nm u=P')(K:(d.toList==[61])=P')(K:ζ E+2<maxLen)(v:Rd w Q x E)(hG:ey w):
  Cl 197 #[n'<|C'<|O Q 0,h' (C'<|O g t) 5 R] w λe f=>
   e=o' (p' #[jB ⟨1,fY E u.1.1,Wm.Q5 i.1.1,0,qP (cZ E u.1.1) W,qP (dx (cZ E u.1.1) W) Y,emp⟩,i'<|ej W&&Wm.Ts i.1.1&&ej Y])/\Rd f Q x (dx (dx (cZ E u.1.1) W) Y)/\ξ w f (C' x):=by
 have T:χ w (O g t)=C' (m' u):=j.cell 0 u rfl;have c:=j.cell 1 d rfl;have d:=j.lt;have d:=v.lt;have d:=v.PV;have hl1:ζ E<maxLen:=I;have I1:ζ (cZ E u.1.1)<maxLen:=by have:=j4 E u.1.1;omega
 have hl3:ζ (dx (cZ E u.1.1) W)<maxLen:=by have:=j4 E u.1.1;have:=lz (cZ E u.1.1) W;omega
 go_enter func197,ntmps197
 go_wp2_with (first
  |(go_at_call 124;refine(eg _ _ y).mono ?_;rintro e f ⟨rfl,rfl⟩)
  |(go_at_call 262;refine(Gt _ _).mono ?_;rintro e f ⟨rfl,rfl⟩)
  |(go_at_call 261;refine(kQ u Q x E _ y hl1<|v.alloc _).mono ?_;rintro e F ⟨rfl,B,hg1⟩;have r:=dV hg1 (λk e=>by cases e;exact v.lt);have L:=A r;have f:δ w.1<δ F.1:=(bG.1 r).1;have a:=(j.alloc _).grown (v.alloc _).isMap hg1;have b:=(hG.alloc _).grown (v.alloc _) hg1;have P:=a.cell 2 W rfl;have R:=a.lt)
  |(go_at_call_of 259 (Value.string W);refine(k7 W Q x (cZ E u.1.1) _ Wj I1 B b).mono ?_;rintro e W4 ⟨iv,z,co,rfl,V,C,q⟩;have s:=nU r B.isMap q;clear L;have d:δ w.1<δ W4.1:=(bG.1 s).1;have h:=a.grown B.isMap q;have gk:=b.grown B q;have N:=h.cell 3 i rfl;have o:=h.cell 4 Y rfl;have d:=h.lt))
 refine(k7 Y Q x (dx (cZ E u.1.1) W) _ mh hl3 (C.alloc _)<|gk.alloc _).mono ?_;rintro e W6 ⟨D,X,U,rfl,S,ar,hg3⟩;have l:=nU (nV s _) (C.alloc _).isMap hg3;have p:=dV hg3 (λk e=>by cases e;exact C.lt);have f:δ W4.1<δ W6.1:=(bG.1 p).1;have d:δ w.1<δ W6.1:=(bG.1 l).1;have e:δ w.1≠δ W4.1:=I;have e:δ W4.1≠δ w.1:=I;have L:=A l;have e:=A p;clear T c P N o r s j a h b gk hG;cases Q:ej W<;>cases b:Wm.Ts i.1.1<;>cases a:ej Y
 all_goals
  go_wp2_with fail;refine aC (v:=p' #[jB ⟨1,fY E u.1.1,Wm.Q5 i.1.1,0,⟨iv,z,co⟩,⟨D,X,U⟩,emp⟩,i'<|ej W&&Wm.Ts i.1.1&&ej Y]) (by simp[results197,go_sem,jB,aJ,o0,emp,gH,L.1,f,d,Q,b,a]) rfl ⟨by rw[V.o,S.o],?_,?_⟩
  .refine Rd.alloc ?_ _
   repeat(refine Rd.set ?_ I' I' _)
   exact ar
  refine CU ?_<|gY _ _ _
  repeat(refine dy ?_ (aD _) _)
  exact(cC hg1).trans<|q.trans<|cC hg3
section
variable {e:Ending}
abbrev St:=SN×Bool×List bD
def gn(vs:List bD):St:=(oT,Q',vs)
def qO(vs:List bD)(ws:List z'):St:=
 match ws with
 |[_,w1]=>(⟨3,0,0,0,qP vs w1,o0,emp⟩,ej w1,dx vs w1)
 |_=>gn vs
def kP(vs:List bD)(ws:List z'):St:=
 match ws with
 |[_,w1]=>(⟨5,0,0,0,o0,o0,w1⟩,Wm.nm w1,vs)
 |_=>gn vs
def Cm(vs:List bD)(ws:List z'):St:=
 match ws with
 |[_,w1,w2,w3,w4,w5]=>
  if w4.toList==[103,111,116,111] then(⟨4,0,0,Wm.WW w2.1.1,qP vs w1,qP (dx vs w1) w3,w5⟩,ej w1&&Wm.V! w2.1.1&&ej w3&&Wm.nm w5,dx (dx vs w1) w3) else gn vs
 |_=>gn vs
def iG(vs:List bD)(ws:List z'):St:=
 match ws with
 |w0::w1::w2::q=>
  if Wm.nm w0&&w1.toList==[61] then
   match q with
   |[]=>if w2.toList==[105,110,112,117,116] then(⟨2,fY vs w0.1.1,0,0,o0,o0,emp⟩,P',cZ vs w0.1.1) else(⟨0,fY vs w0.1.1,0,0,qP (cZ vs w0.1.1) w2,o0,emp⟩,ej w2,dx (cZ vs w0.1.1) w2)
   |[w3,w4]=>(⟨1,fY vs w0.1.1,Wm.Q5 w3.1.1,0,qP (cZ vs w0.1.1) w2,qP (dx (cZ vs w0.1.1) w2) w4,emp⟩,ej w2&&Wm.Ts w3.1.1&&ej w4,dx (dx (cZ vs w0.1.1) w2) w4)
   |_=>(oT,Q',dx (cZ vs w0.1.1) w2)
  else gn vs
 |_=>gn vs
def kV(vs:List bD)(ws:List z'):St:=
 match ws with
 |[]=>gn vs
 |w0::r=>
  if w0.toList==[111,117,116,112,117,116] then qO vs (w0::r)
  else if w0.toList==[105,102] then Cm vs (w0::r)
  else if w0.toList==[103,111,116,111] then kP vs (w0::r)
  else if w0.toList==[114,101,116,117,114,110] then(⟨6,0,0,0,o0,o0,emp⟩,((ζ r+1:Nat):Int)==1,vs)
  else iG vs (w0::r)
structure ud(ws:List z'):Prop where
  len:ζ ws<=3001
  word:∀x∈ws,x.size<=3000
def ud.max(h:ud R){x:z'}(F:x∈R):x.size<=maxLen:=by have:=h.word x F;unfold maxLen;omega
def xF(w:t')(rb mb:Nat)(st:St)(e:Ending)(w':t'):Prop:=
 ∃(n:SN)(ok:Bool)(rR:List bD),e=o' (p' #[k' #[m' ⟨#[]⟩,h' D' 0 0,G n.aO,G n.var,G n.op,G n.test,i' n.a.aN,G n.a.var,G n.a.bJ,i' n.b.aN,G n.b.var,G n.b.bJ,h' D' 0 0,m' n.dz],i' ok])/\J ((n,ok,rR)=st)/\Rd w' rb mb rR/\ξ w w' (C' mb)
def jP{a:t'}{b:Nat}{E:List bD}(v:Rd w b x E)(h:e=o' (p' #[jB oT,i' Q'])/\Bl w a):xF w b x (gn E) e a:=
 ⟨oT,Q',E,h.1,rfl,v.grown h.2,kd (bI h.2) _⟩
def mg{b:t'}{c:Nat}{a:List bD}{n:SN}{t:Bool}(h:e=o' (p' #[jB n,i' t])/\Rd b c x a/\ξ w b (C' x)):xF w c x (n,t,a) e b:=
 ⟨n,t,a,h.1,rfl,h.2.1,h.2.2⟩
def KM{n m:Nat}(h:n≠m):((n:Int) !=(m:Int))=P':=by simp;omega
def yM(c x g t a:Nat)(R:List z')(E:List bD)(w:t')(f:ud R)(K:ζ E+3<maxLen)(v:Rd w c x E)(d:ey w)(hW:Ws w g t R):
  Cl 194 (ko c g t (ζ R) a) w (xF w c x<|qO E R):=by
 match R,f,hW with
 |[_,b],f,hW=>exact(yL c x g t a _ b E w (f.word b ak) I v d hW).mono λ_ _ h=>mg h
 |[],f,_=>exact(mC c _ 0 a w aj I).mono λ_ _ h=>jP v h
 |[_],f,_=>exact(mC c _ 1 a w aj I).mono λ_ _ h=>jP v h
 |_::_::_::r,f,_=>exact(mC c _ _ a w (KM (m:=2) ak) f.len).mono λ_ _ h=>jP v h
def DI(b x g t a:Nat)(R:List z')(E:List bD)(w:t')(f:ud R)(v:Rd w b x E)(hW:Ws w g t R):
  Cl 196 #[h' (C'<|O g t) (ζ R) a] w (xF w b x<|kP E R):=by
 match R,f,hW with
 |[_,b],f,hW=>exact(DH g t a _ b w (f.word b ak) hW).mono λ_ _ h=>mg ⟨h.1,v.grown h.2,kd (bI h.2) _⟩
 |[],f,_=>exact(pw _ 0 a w aj I).mono λ_ _ h=>jP v h
 |[_],f,_=>exact(pw _ 1 a w aj I).mono λ_ _ h=>jP v h
 |_::_::_::r,f,_=>exact(pw _ _ a w (KM (m:=2) ak) f.len).mono λ_ _ h=>jP v h
def OR(E:List bD)(R:List z')(h:ζ R≠6):Cm E R=gn E:=by
 unfold Cm;split
 .simp at h
 rfl
def six(h:ζ R=6):∃a b c d e f,R=[a,b,c,d,e,f]:=by
 match R,h with
 |[a,b,c,d,e,f],_=>exact⟨a,b,c,d,e,f,rfl⟩
def J5(k x g t a:Nat)(R:List z')(E:List bD)(w:t')(f:ud R)(K:ζ E+3<maxLen)(v:Rd w k x E)(l:ey w)(j:Ws w g t R):
  Cl 195 (ko k g t (ζ R) a) w (xF w k x<|Cm E R):=by
 by_cases c:ζ R=6;rotate_left
 .rw[OR E R c];exact(O! k _ _ a w (KM (m:=6) c) f.len).mono λ_ _ h=>jP v h
 obtain⟨u,b,W,i,Y,p,rfl⟩:=six c;cases d:(Y.toList==[103,111,116,111])with
 |true=>
  have e:Cm E [u,b,W,i,Y,p]=(⟨4,0,0,Wm.WW W.1.1,qP E b,qP (dx E b) i,p⟩,ej b&&Wm.V! W.1.1&&ej i&&Wm.nm p,dx (dx E b) i):=by show(if Y.toList==[103,111,116,111] then _ else _)=_;rw[d];rfl
  rw[e];exact(J3 k x g t a u b W i Y p E w (f.word b ak) (f.word i ak) (f.max ak) I v l j d).mono λ_ _ h=>mg h
 |false=>
  have e:Cm E [u,b,W,i,Y,p]=gn E:=by show(if Y.toList==[103,111,116,111] then _ else _)=_;rw[d];rfl
  rw[e];exact(J4 k g t a u b W i Y p w j d).mono λ_ _ h=>jP v h
def F?(c x g t a:Nat)(R:List z')(E:List bD)(w:t')(f:ud R)(K:ζ E+3<maxLen)(v:Rd w c x E)(d:ey w)(hW:Ws w g t R):
  Cl 197 (ko c g t (ζ R) a) w (xF w c x<|iG E R):=by
 match R,f,hW with
 |[],f,_=>exact(mD c _ 0 a w aj).mono λ_ _ h=>jP v h
 |[_],f,_=>exact(mD c _ 1 a w aj).mono λ_ _ h=>jP v h
 |[_,_],f,_=>exact(mD c _ 2 a w aj).mono λ_ _ h=>jP v h
 |u::b::W::q,f,hW=>
  have hlen:decide ((ζ (u::b::W::q):Int)<3)=Q':=by rw[gB];simp;omega
  cases V:Wm.nm u with
  |false=>
   have e:iG E (u::b::W::q)=gn E:=by simp[iG,V]
   rw[e];exact(DJ c g t _ a u _ w hW (f.max ak) hlen V).mono λ_ _ h=>jP v h
  |true=>
   cases l:(b.toList==[61])with
   |false=>
    have e:iG E (u::b::W::q)=gn E:=by simp only[iG,V,l];rfl
    rw[e];exact(J6 c g t _ a u b _ w hW (f.max ak) hlen V l).mono λ_ _ h=>jP v h
   |true=>
    match q,f,hW,hlen with
    | [],f,hW,hlen=>
     cases S:(W.toList==[105,110,112,117,116])with
     |true=>
      have e:iG E [u,b,W]=(⟨2,fY E u.1.1,0,0,o0,o0,emp⟩,P',cZ E u.1.1):=by simp only[iG,V,l,S];rfl
      rw[e];exact(A0 c x g t a u b W E w hW (f.max ak) V l S I v).mono λ_ _ h=>mg h
     |false=>
      have e:iG E [u,b,W]=(⟨0,fY E u.1.1,0,0,qP (cZ E u.1.1) W,o0,emp⟩,ej W,dx (cZ E u.1.1) W):=by simp only[iG,V,l,S];rfl
      rw[e];exact(DK c x g t a u b W E w hW (f.max ak) (f.word W ak) V l S I v d).mono λ_ _ h=>mg h
    |[i,Y],f,hW,hlen=>
     have e:iG E [u,b,W,i,Y]=(⟨1,fY E u.1.1,Wm.Q5 i.1.1,0,qP (cZ E u.1.1) W,qP (dx (cZ E u.1.1) W) Y,emp⟩,ej W&&Wm.Ts i.1.1&&ej Y,dx (dx (cZ E u.1.1) W) Y):=by simp only[iG,V,l];rfl
     rw[e];exact(DL c x g t a u b W i Y E w hW (f.max ak) (f.word W ak) (f.word Y ak) V l I v d).mono λ_ _ h=>mg h
    |[i],f,hW,hlen=>
     have e:iG E [u,b,W,i]=(oT,Q',dx (cZ E u.1.1) W):=by simp only[iG,V,l];rfl
     rw[e];exact(vM c x g t _ a u b W _ E w hW (f.max ak) (f.word W ak) V l hlen ak ak I v d).mono λ_ _ h=>mg h
    |i::Y::p::r,f,hW,hlen=>
     have e:iG E (u::b::W::i::Y::p::r)=(oT,Q',dx (cZ E u.1.1) W):=by simp only[iG,V,l];rfl
     rw[e];exact(vM c x g t _ a u b W _ E w hW (f.max ak) (f.word W ak) V l hlen I' I' I v d).mono λ_ _ h=>mg h
end
def Dn{p:Prop}(h:p:=by
 clear e;go_enter func125,ntmps125;go_wp2_with fail;refine bE (Y.o _ (v.alloc _) (f.alloc _)<|j.alloc _) ?_;rintro e F ⟨n,t,c,rfl,p,B,b⟩;have r:=dV b (λk e=>by cases e;exact v.lt);have L:=A r;have f:=(bG.1 r).1;clear r T;go_wp2_with fail;refine aC (v:=p' #[jB n,i' t]) (by simp[results125,go_sem,jB,aJ,emp,gH,L.1,f]) rfl ⟨n,t,c,rfl,p,?_,?_⟩
 .repeat(refine Rd.set ?_ I' I' _)
  exact B
 repeat(refine dy ?_ (aD _) _)
 exact cC b):p:=h
def F8(b x g t c d:Nat)(u:z')(R:List z')(E:List bD)(st:St)(w:t')(X:(0:Int)<c)(v:Rd w b x E)(f:ey w)(j:Ws w g t<|u::R)(D:(u.toList==[111,117,116,112,117,116])=P')
  (e:∀W,Rd W b x E->ey W->Ws W g t (u::R)->Cl 194 (ko b g t c d) W (xF W b x st)):
  Cl 125 (ko b g t c d) w (xF w b x st):=by
 have T:χ w (O g t)=C' (m' u):=j.cell 0 u rfl;have i:=j.lt;have hm:=v.lt;have i:=v.PV;have Y:J (∀W,Rd W b x E->ey W->Ws W g t (u::R)->Cl 194 (ko b g t c d) W (xF W b x st)):=e;exact Dn
def J2(b x g t c d:Nat)(u:z')(R:List z')(E:List bD)(st:St)(w:t')(X:(0:Int)<c)(v:Rd w b x E)(f:ey w)(j:Ws w g t<|u::R)(D:(u.toList==[111,117,116,112,117,116])=Q')(C:(u.toList==[105,102])=P')
  (e:∀W,Rd W b x E->ey W->Ws W g t (u::R)->Cl 195 (ko b g t c d) W (xF W b x st)):
  Cl 125 (ko b g t c d) w (xF w b x st):=by
 have T:χ w (O g t)=C' (m' u):=j.cell 0 u rfl;have i:=j.lt;have hm:=v.lt;have i:=v.PV;have Y:J (∀W,Rd W b x E->ey W->Ws W g t (u::R)->Cl 195 (ko b g t c d) W (xF W b x st)):=e;exact Dn
def DC(d x g t c b:Nat)(u:z')(R:List z')(E:List bD)(st:St)(w:t')(X:(0:Int)<c)(v:Rd w d x E)(f:ey w)(j:Ws w g t<|u::R)(D:(u.toList==[111,117,116,112,117,116])=Q')(C:(u.toList==[105,102])=Q')(e:(u.toList==[103,111,116,111])=P')
  (e:∀W,Rd W d x E->ey W->Ws W g t (u::R)->Cl 196 #[h' (C'<|O g t) c b] W (xF W d x st)):
  Cl 125 (ko d g t c b) w (xF w d x st):=by
 have T:χ w (O g t)=C' (m' u):=j.cell 0 u rfl;have i:=j.lt;have hm:=v.lt;have i:=v.PV;have Y:J (∀W,Rd W d x E->ey W->Ws W g t (u::R)->Cl 196 #[h' (C'<|O g t) c b] W (xF W d x st)):=e;exact Dn
def F9(b x g t c d:Nat)(u:z')(R:List z')(E:List bD)(st:St)(w:t')(X:(0:Int)<c)(v:Rd w b x E)(f:ey w)(j:Ws w g t<|u::R)(D:(u.toList==[111,117,116,112,117,116])=Q')(C:(u.toList==[105,102])=Q')(e:(u.toList==[103,111,116,111])=Q')(N:(u.toList==[114,101,116,117,114,110])=Q')
  (e:∀W,Rd W b x E->ey W->Ws W g t (u::R)->Cl 197 (ko b g t c d) W (xF W b x st)):
  Cl 125 (ko b g t c d) w (xF w b x st):=by
 have T:χ w (O g t)=C' (m' u):=j.cell 0 u rfl;have i:=j.lt;have hm:=v.lt;have i:=v.PV;have Y:J (∀W,Rd W b x E->ey W->Ws W g t (u::R)->Cl 197 (ko b g t c d) W (xF W b x st)):=e;exact Dn
def F7(b x g t c a:Nat)(u:z')(R:List z')(E:List bD)(w:t')(X:(0:Int)<c)(v:Rd w b x E)(j:Ws w g t<|u::R)(D:(u.toList==[111,117,116,112,117,116])=Q')(C:(u.toList==[105,102])=Q')(d:(u.toList==[103,111,116,111])=Q')(N:(u.toList==[114,101,116,117,114,110])=P'):
  Cl 125 (ko b g t c a) w (xF w b x (⟨6,0,0,0,o0,o0,emp⟩,(c:Int)==1,E)):=by
 have T:χ w (O g t)=C' (m' u):=j.cell 0 u rfl;have a:=j.lt;go_enter func125,ntmps125;go_wp2_with fail;exact aC (v:=p' #[jB ⟨6,0,0,0,o0,o0,emp⟩,i'<|(c:Int)==1]) (by simp[results125,go_sem,jB,aJ,o0,emp,gH]) rfl ⟨_,_,E,rfl,rfl,v.alloc _,gY _ _ _⟩
def lV(e x g t d:Nat)(R:List z')(E:List bD)(w:t')(D:R≠[])(f:ud R)(K:ζ E+3<maxLen)(v:Rd w e x E)(i:ey w)(hW:Ws w g t R):
  Cl 125 (ko e g t (ζ R) d) w (xF w e x<|kV E R):=by
 match R,D,f,hW with
 |u::r,_,f,hW=>
  have X:(0:Int)<(ζ (u::r):Int):=ak;cases o:(u.toList==[111,117,116,112,117,116])with
  |true=>rw[show kV E (u::r)=qO E (u::r)by simp only[kV,o,b8]];exact F8 e x g t _ d u r E _ w X v i hW o λW a b c=>yM e x g t d (u::r) E W f K a b c
  |false=>
   cases V:(u.toList==[105,102])with
   |true=>rw[show kV E (u::r)=Cm E (u::r)by simp only[kV,o,V,bV,bB,b8]];exact J2 e x g t _ d u r E _ w X v i hW o V λW a b c=>J5 e x g t d (u::r) E W f K a b c
   |false=>
    cases h:(u.toList==[103,111,116,111])with
    |true=>rw[show kV E (u::r)=kP E (u::r)by simp only[kV,o,V,h,bV,bB,b8]];exact DC e x g t _ d u r E _ w X v i hW o V h λW a b c=>DI e x g t d (u::r) E W f a c
    |false=>
     cases j:(u.toList==[114,101,116,117,114,110])with
     |true=>rw[show kV E (u::r)=(⟨6,0,0,0,o0,o0,emp⟩,((ζ r+1:Nat):Int)==1,E)by simp only[kV,o,V,h,j,bV,bB,b8]];exact F7 e x g t _ d u r E w X v hW o V h j
     |false=>rw[show kV E (u::r)=iG E (u::r)by simp only[kV,o,V,h,j,bV,bB]];exact F9 e x g t _ d u r E _ w X v i hW o V h j λW a b c=>F? e x g t d (u::r) E W f K a b c
def me(s p:z')(w:t')(y:s.size<=3000):
  Cl 123 #[m' s,m' p] w λe a=>∃(D:z')(b:Bool),e=o' (p' #[m' D,i' b])/\J (D.1.1=Lib.trimSuffix s.1.1 p.1.1/\b=Lib.hasSuffix s.1.1 p.1.1)/\a=w:=
 (Tryz.strings_CutSuffix s p w I).mono λ_ _ h=>⟨_,_,h.1,⟨rfl,rfl⟩,h.2⟩
def pN(s:z'):Bool:=Lib.hasSuffix s.1.1 [58]
def jL(s:z'):z':=⟨θ<|Lib.trimSuffix s.1.1 [58]⟩
def qu(s:z'):(jL s).size<=s.size:=by show(Lib.trimSuffix s.1.1 [58]).toArray.size<=s.data.size;unfold Lib.trimSuffix;split<;>simp
def Ht{a w:t'}{q:Option Nat}(h:ξ a.drew w q):ξ a w q:=⟨h.os,h.tape,h.output,h.size,h.block⟩
abbrev Ln:=z'×Nat×St
def gK(vs:List bD)(ws:List z'):Ln:=
 match ws with
 |[]=>(emp,0,gn vs)
 |w0::r=>
  if pN w0 then
   (if Wm.nm (jL w0) then(match r with|[]=>(emp,0,gn vs)|_=>(jL w0,1,kV vs r)) else(emp,0,gn vs))
  else(emp,0,kV vs<|w0::r)
def V?(w:t')(rb mb g off len cap:Nat)(ln:Ln)(e:Ending)(w':t'):Prop:=
 ∃(bL:z')(k:Nat)(ad:u')(l c:Nat)(n:SN)(ok:Bool)(rR:List bD),e=o' (p' #[k' #[m' bL,h' ad l c,G n.aO,G n.var,G n.op,G n.test,i' n.a.aN,G n.a.var,G n.a.bJ,i' n.b.aN,G n.b.var,G n.b.bJ,h' D' 0 0,m' n.dz],i' ok])/\J ((bL,k,n,ok,rR)=ln)/\J (ok=P'->ad=C' (O g<|off+k)/\l=len-k/\c=cap-k)/\Rd w' rb mb rR/\ξ w w' (C' mb)
def DF(b x g t c a:Nat)(u:z')(R:List z')(E:List bD)(w:t')(X:(0:Int)<c)(y:u.size<=3000)(v:Rd w b x E)(j:Ws w g t<|u::R)(T:pN u=P')(K:Wm.nm (jL u)=Q'):
  Cl 79 (ko b g t c a) w λe a=>
   e=o' (p' #[jB oT,i' Q'])/\Bl w a:=by
 have z:χ w (O g t)=C' (m' u):=j.cell 0 u rfl;have b:=j.lt;have d:(jL u).size<=maxLen:=by have:=qu u;unfold maxLen;omega
 go_enter func79,ntmps79;go_wp2_with fail;refine(me _ _ _ y).mono ?_;rintro e a ⟨D,b,rfl,B,rfl⟩;obtain rfl:D=jL u:=by have:=B.a;cases D;simp only[jL]at this|-;congr 1;exact WC.1 this
 obtain rfl:b=P':=B.A.trans T;go_wp2_with (first|(go_at_call 124;refine(eg _ _ d).mono ?_;rintro e a ⟨rfl,rfl⟩));exact aC (v:=p' #[jB oT,i' Q']) (by simp[results79,go_sem,jB,aJ,oT,o0,emp,gH]) rfl ⟨rfl,(aP _ _).alloc (aD _) _⟩
def AY(b x g t a:Nat)(u:z')(R:List z')(E:List bD)(w:t')(i:1<=a)(y:u.size<=3000)(v:Rd w b x E)(j:Ws w g t<|u::R)(T:pN u=P')(K:Wm.nm (jL u)=P'):
  Cl 79 #[n'<|C'<|O b 0,h' (C'<|O g t) 1 a] w λe a=>
   e=o' (p' #[jB oT,i' Q'])/\Bl w a:=by
 have z:χ w (O g t)=C' (m' u):=j.cell 0 u rfl;have b:=j.lt;have d:(jL u).size<=maxLen:=by have:=qu u;unfold maxLen;omega
 go_enter func79,ntmps79;go_wp2_with fail;refine(me _ _ _ y).mono ?_;rintro e a ⟨D,b,rfl,B,rfl⟩;obtain rfl:D=jL u:=by have:=B.a;cases D;simp only[jL]at this|-;congr 1;exact WC.1 this
 obtain rfl:b=P':=B.A.trans T;go_wp2_with (first|(go_at_call 124;refine(eg _ _ d).mono ?_;rintro e a ⟨rfl,rfl⟩))
 go_region
 all_goals go_wp2
 all_goals exact aC (v:=p' #[jB oT,i' Q']) (by simp[results79,go_sem,jB,aJ,oT,o0,emp,gH]) rfl ⟨rfl,((aP _ _).alloc (aD _) _).drew⟩
def RP{p:Prop}(h:p:=by
 refine CU ?_<|gY _ _ _
 repeat(refine dy ?_ (aD _) _)
 exact cC s):p:=h
def DE(b x g t c U:Nat)(u:z')(R:List z')(E:List bD)(st:St)(w:t')(L:2<=c)(i:c<=U)(l:U<=maxLen)(y:u.size<=3000)(v:Rd w b x E)(V:ey w)(j:Ws w g t<|u::R)(T:pN u=P')(K:Wm.nm (jL u)=P')
  (d:∀W,Rd W b x E->ey W->Ws W g (t+1) R->Cl 125 #[n'<|C'<|O b 0,h' (C'<|O g<|t+1) (c-1)<|U-1] W (xF W b x st)):
  Cl 79 (ko b g t c U) w (V? w b x g t c U (jL u,1,st)):=by
 have z:χ w (O g t)=C' (m' u):=j.cell 0 u rfl;have e:=j.lt;have C:=v.lt;have e:=v.PV;have hm:(jL u).size<=maxLen:=by have:=qu u;unfold maxLen;omega
 have Y:J (∀W,Rd W b x E->ey W->Ws W g (t+1) R->Cl 125 #[n'<|C'<|O b 0,h' (C'<|O g<|t+1) (c-1)<|U-1] W (xF W b x st)):=d;clear d;unfold maxLen at l;have X:(1:Int)<=c:=I;have d:(c:Int)<=U:=I;have o:(1:Int)<=U:=I;have N:(0:Int)<c:=I;have o:¬U=1:=I;have q:¬c=1:=I;go_enter func79,ntmps79;go_wp2_with fail;refine(me _ _ _ y).mono ?_;rintro e d ⟨D,b,rfl,B,rfl⟩;obtain rfl:D=jL u:=by have:=B.a;cases D;simp only[jL]at this|-;congr 1;exact WC.1 this
 obtain rfl:b=P':=B.A.trans T;go_wp2_with (first|(go_at_call 124;refine(eg _ _ hm).mono ?_;rintro e d ⟨rfl,rfl⟩))
 go_region
 go_wp2_with fail;refine bE (Y.o _ (v.alloc _).drew (V.alloc _) (j.alloc _).tail) ?_;rintro e F ⟨n,i,d,rfl,p,B,b⟩;have s:=Ht b;have r:=dV s (λk e=>by cases e;exact v.lt);have L:=A r;have f:δ w.1<δ F.1:=(bG.1 r).1;clear r z j V;go_wp2_with fail;refine aC (v:=p' #[k'<|aJ (jL u) (h' (C'<|O g<|t+1) (c-1)<|U-1) n gH,i' i]) (by simp[results79,go_sem,aJ,gH,L.1,f]) rfl ⟨(jL u),1,_,_,_,n,i,d,rfl,by show _=_;rw[<-p.o],λ_=>⟨rfl,rfl,rfl⟩,?_,?_⟩
 .refine Rd.alloc ?_ _
  repeat(refine Rd.set ?_ I' I' _)
  exact B
 exact RP
def AZ(b x g t c d:Nat)(u:z')(R:List z')(E:List bD)(st:St)(w:t')(L:1<=c)(y:u.size<=3000)(v:Rd w b x E)(o:ey w)(j:Ws w g t<|u::R)(T:pN u=Q')
  (e:∀W,Rd W b x E->ey W->Ws W g t (u::R)->Cl 125 (ko b g t c d) W (xF W b x st)):
  Cl 79 (ko b g t c d) w (V? w b x g t c d (emp,0,st)):=by
 have z:χ w (O g t)=C' (m' u):=j.cell 0 u rfl;have f:=j.lt;have C:=v.lt;have f:=v.PV;have Y:J (∀W,Rd W b x E->ey W->Ws W g t (u::R)->Cl 125 (ko b g t c d) W (xF W b x st)):=e;clear e;have N:(0:Int)<c:=I;have q:((c:Int)==0)=Q':=by rw[dO];omega
 go_enter func79,ntmps79;go_wp2_with fail;refine(me _ _ _ y).mono ?_;rintro e b ⟨D,b,rfl,B,rfl⟩;obtain rfl:b=Q':=B.A.trans T;go_wp2_with fail;refine bE (Y.o _ (v.alloc _) (o.alloc _)<|j.alloc _) ?_;rintro e F ⟨n,l,i,rfl,p,B,b⟩;have s:=b;have r:=dV s (λk e=>by cases e;exact v.lt);have L:=A r;have f:δ w.1<δ F.1:=(bG.1 r).1;clear r z j o;go_wp2_with fail;refine aC (v:=p' #[k'<|aJ emp (h' (C'<|O g t) c d) n gH,i' l]) (by simp[results79,go_sem,aJ,gH,emp,L.1,f]) rfl ⟨emp,0,_,_,_,n,l,i,rfl,by show _=_;rw[<-p.o],λ_=>⟨rfl,rfl,rfl⟩,?_,?_⟩
 .refine Rd.alloc ?_ _
  repeat(refine Rd.set ?_ I' I' _)
  exact B
 exact RP
def T5{w b:t'}{d x g t c a:Nat}{E:List bD}{e:Ending}(v:Rd w d x E)(h:e=o' (p' #[jB oT,i' Q'])/\Bl w b):V? w d x g t c a (emp,0,gn E) e b:=
 ⟨emp,0,D',0,0,oT,Q',E,h.1,rfl,(λe=>by cases e),v.grown h.2,kd (bI h.2) _⟩
def ud.tail{x:z'}{R:List z'}(h:ud<|x::R):ud R:=⟨by have:=h.len;simp at this;omega,λy B=>h.word y<|by simp[B]⟩
def DG(e x g t d:Nat)(R:List z')(E:List bD)(w:t')(D:R≠[])(i:ζ R<=d)(l:d<=maxLen)(f:ud R)(K:ζ E+3<maxLen)(v:Rd w e x E)(o:ey w)(hW:Ws w g t R):
  Cl 79 (ko e g t (ζ R) d) w (V? w e x g t (ζ R) d<|gK E R):=by
 match R,D,i,f,hW with
 |u::r,_,i,f,hW=>
  have y:=f.word u ak;cases T:pN u with
  |true=>
   cases j:Wm.nm (jL u)with
   |true=>
    match r,i,f,hW with
    |[],i,f,hW=>rw[show gK E [u]=(emp,0,gn E)by simp only[gK,T,j,b8]];exact(AY e x g t d u [] E w i y v hW T j).mono λ_ _ h=>T5 v h
    |k::r,i,f,hW=>rw[show gK E (u::k::r)=(jL u,1,kV E<|k::r)by simp only[gK,T,j,b8]];exact DE e x g t _ d u (k::r) E _ w ak i l y v o hW T j λW a b c=>lV e x g (t+1) (d-1) (k::r) E W ak f.tail K a b c
   |false=>rw[show gK E (u::r)=(emp,0,gn E)by simp only[gK,T,j,b8,bV,bB]];exact(DF e x g t _ d u r E w ak y v hW T j).mono λ_ _ h=>T5 v h
  |false=>rw[show gK E (u::r)=(emp,0,kV E<|u::r)by simp only[gK,T,bV,bB]];exact AZ e x g t _ d u r E _ w ak y v o hW T λW a b c=>lV e x g t d (u::r) E W ak f K a b c
namespace Wm
def fE(c:UInt8):Bool:=c.toNat==32||c.toNat==9||c.toNat==13
def ik(cur:List UInt8):List UInt8->List (List UInt8)
 |[]=>if cur=[] then[] else[cur]
 |c :: r=>if fE c then(if cur=[] then ik [] r else cur :: ik [] r) else ik (cur++[c]) r
def D3(x:Nat):Bool:=x==32||x==9||x==13
theorem Oa(n d a o x:Nat)(h:128<=d):128<=(decodeN n d a o x).1/\(2<=(decodeN n d a o x).2->128<=a)/\(3<=(decodeN n d a o x).2->128<=o)/\(4<=(decodeN n d a o x).2->128<=x)/\(decodeN n d a o x).2<=4:=by
 unfold decodeN
 repeat' split
 all_goals(simp only;omega)
theorem Zf(n d a o x:Nat)(h:d<128):decodeN n d a o x=(d,1):=by unfold decodeN;rw[aB h]
theorem O0(c:UInt8)(h:128<=c.toNat):fE c=false:=by simp[fE];omega
theorem mZ(s:ByteArray)(k:Nat)(h:k<s.size):s.get! k=s[k]:=by simp[ByteArray.get!,ByteArray.getElem_eq_getElem_data];rw[getElem!_pos]
theorem QD(Y:List UInt8):∀(a b:List UInt8),(∀x∈a,fE x=false)->ik Y (a++b)=ik (Y++a) b:=by
 intro a;induction a generalizing Y with
 |nil=>intro b _;simp
 |cons c a B=>intro b h;have T:=h c ak;rw[dA,ik,T];simp only[bV,bB];rw[B _ b λx F=>h x<|by simp[F]];simp
def sub(l:List UInt8)(a b:Nat):List UInt8:=(l.drop a).take<|b-a
theorem sub_self(l:List UInt8)(a:Nat):sub l a a=[]:=by simp[sub]
theorem yo(l:List UInt8)(a b c:Nat)(C:a<=b)(d:b<=c):sub l a c=sub l a b++sub l b c:=by
 unfold sub;have V:l.drop b=(l.drop a).drop (b-a):=by rw[List.drop_drop];congr 1;omega
 rw[V,show c-a=(b-a)+(c-b)by omega,List.take_add]
theorem U!(l:List UInt8)(a b:Nat)(h:a<=b):l.drop a=sub l a b++l.drop b:=by
 unfold sub;have V:l.drop b=(l.drop a).drop (b-a):=by rw[List.drop_drop];congr 1;omega
 rw[V,xY]
def ry(l:List UInt8)(st:Option Nat)(pos:Nat):List UInt8:=match st with|none=>[]|some a=>sub l a pos
theorem Se(l:List UInt8)(a b:Nat)(h:a<b)(c:b<=l.length):sub l a b≠[]:=by intro e;have:=cQ List.length e;simp[sub]at this;omega
theorem Vv(s:ByteArray)(c:Nat)(U:c<s.size)(h:128<=s[c].toNat):∀x∈sub s.data.toList c (c+(Utf8.decode s c).2),fE x=false:=by
 have Q:=Oa (s.size-c) (s.get! c).toNat (s.get!<|c+1).toNat (s.get!<|c+2).toNat (s.get!<|c+3).toNat (by rw[mZ s c U];exact h);rw[<-decode_at]at Q;obtain⟨_,C,a,N,d⟩:=Q;intro x F;obtain⟨j,f,rfl⟩:=Jn F;have r:j<(Utf8.decode s c).2/\c+j<s.size:=by
  simp[sub]at f;have:=bS s;have V:s.data.toList.length=s.data.size:=by simp
  omega
 have e:(sub s.data.toList c<|c+(Utf8.decode s c).2)[j]=s[c+j]:=by simp[sub];rfl
 rw[e];apply O0;rcases j with _|_|_|_|j
 .simpa using h
 .rw[<-mZ s (c+1) r.2];exact C I
 .rw[<-mZ s (c+2) r.2];exact a I
 .rw[<-mZ s (c+3) r.2];exact N I
 omega
theorem NB{p:Prop}(h:p:=by
 cases st with
 |none=>simp[ry,ik]
 |some a=>
  have:=Se s.data.toList a s.size (N a rfl) I
  simp[ry,ik,this]):p:=h
theorem Î(s:ByteArray):∀(f c:Nat)(st:Option Nat)(V:List<|Nat×Nat),s.size<=c+f->c<=s.size->(∀a,st=some a->a<c) ->
  (closeSpans s<|spansFromP D3 s f c st V).map (λx=>sub s.data.toList x.1 x.2)=V.map (λx=>sub s.data.toList x.1 x.2)++ik (ry s.data.toList st c) (s.data.toList.drop c):=by
 have L:=bS s;intro f;induction f with
 |zero=>
  intro c st V C b N;obtain rfl:c=s.size:=by omega
  rw[show s.data.toList.drop s.size=[] from xU I];unfold spansFromP closeSpans;exact NB
 |succ f B=>
  intro c st V C b N;by_cases L:c<s.size;rotate_left
  .rw[spansFromP_end _ _ _ _ _ _ L];obtain rfl:c=s.size:=by omega
   rw[show s.data.toList.drop s.size=[] from xU I];unfold closeSpans;exact NB
  have b:=width_pos s c;have g:c+(Utf8.decode s c).2<=s.size:=by have:=decodeN_le_n' (s.size-c) (s.get! c).toNat (s.get!<|c+1).toNat (s.get!<|c+2).toNat (s.get!<|c+3).toNat I;rw[<-decode_at]at this;omega
  unfold spansFromP;rw[aB L];by_cases d:s[c].toNat<128;rotate_left
  .have R:=Vv s c L I;have b:=Oa (s.size-c) (s.get! c).toNat (s.get!<|c+1).toNat (s.get!<|c+2).toNat (s.get!<|c+3).toNat (by rw[mZ s c L];omega);rw[<-decode_at]at b;have U:D3 (Utf8.decode s c).1=false:=by simp[D3];omega
   rw[U];simp only[bV,bB];rw[U! s.data.toList c (c+(Utf8.decode s c).2) I,QD _ _ _ R];cases st with
   |none=>simp only;rw[B _ (some c) V I g (λa h=>by cases h;omega)];simp[ry]
   |some a=>simp only;rw[B _ (some a) V I g (λb h=>by cases h;have:=N a rfl;omega)];simp only[ry];rw[yo s.data.toList a c _ (by have:=N a rfl;omega) I]
  have i:Utf8.decode s c=(s[c].toNat,1):=by rw[decode_at,mZ s c L];exact Zf _ _ _ _ _ d
  have d:s.data.toList.drop c=s[c] :: s.data.toList.drop (c+1):=by rw[nC I];rfl
  have E:sub s.data.toList c (c+1)=[s[c]]:=by unfold sub;rw[d];simp
  rw[i];simp only;have e:D3 s[c].toNat=fE s[c]:=rfl;cases r:fE s[c]with
  |true=>
   rw[e,r,aB rfl,d,ik,r];cases st with
   |none=>simp only;rw[B (c+1) none V I I (λa h=>by cases h)];simp[ry]
   |some a=>simp only;rw[B (c+1) none _ I I (λa h=>by cases h)];have:=Se s.data.toList a c (N a rfl) I;simp[ry,this]
  |false=>
   rw[e,r,d,ik,r];simp only[bV,bB];cases st with
   |none=>simp only;rw[B (c+1) (some c) V I I (λa h=>by cases h;omega)];simp[ry,E]
   |some a=>simp only;rw[B (c+1) (some a) V I I (λb h=>by cases h;have:=N a rfl;omega)];simp only[ry];rw[yo s.data.toList a c (c+1) (by have:=N a rfl;omega) I,E]
theorem Qq(s:ByteArray):(goFieldsP D3 s).map (·.data.toList)=ik [] s.data.toList:=by have h:=Î s s.size 0 none [] I I (λa h=>by cases h);simp only[ry,C6,rI,c!]at h;rw[<-h];unfold goFieldsP spansOfP;rw[fF];apply eJ;intro x _;simp only[Function.comp];rw[extract_data];simp[sub,List.take_drop]
def uZ(cur:List UInt8):List UInt8->List (List UInt8)
 |[]=>[cur]
 |c :: r=>if c=10 then cur :: uZ [] r else uZ (cur++[c]) r
theorem M0(c d:UInt8)(r:List UInt8):([c].isPrefixOf<|d :: r)=(c==d):=by simp[List.isPrefixOf]
theorem GZ:∀(l Y:List UInt8),(index l [10]=-1/\uZ Y l=[Y++l])∨∃a b,l=a++10 :: b/\index l [10]=(a.length:Int)/\uZ Y l=(Y++a) :: uZ [] b:=by
 intro l;induction l with
 |nil=>intro Y;exact aI ⟨by simp[index],by simp[uZ]⟩
 |cons c r B=>
  intro Y;by_cases T:c=10
  .subst T;exact aH ⟨[],r,rfl,by simp[index,M0],by simp[uZ]⟩
  have U:([10].isPrefixOf<|c :: r)=false:=by rw[M0];simp;exact λe=>T e.symm
  rcases B (Y++[c])with⟨C,d⟩|⟨a,b,D,C,d⟩
  .refine aI ⟨?_,?_⟩
   .simp[index,U,C]
   rw[uZ,ax T,d];simp
  refine aH ⟨c :: a,b,by rw[D];rfl,?_,?_⟩
  .have z:¬(index r [10]==-1)=true:=by rw[C];simp
   rw[index,U];simp only[bV,bB];rw[ax z,C];simp
  rw[uZ,ax T,d];simp
theorem OQ:∀(n:Nat)(l:List UInt8),l.length<=n->splitK [10] 0 (count l [10]) l=uZ [] l:=by
 intro n;induction n with
 |zero=>intro l h;obtain rfl:l=[]:=fg.1 I;rw[count_miss<|by simp[index]];rfl
 |succ n B=>
  intro l h;rcases GZ l []with⟨C,c⟩|⟨a,b,D,C,c⟩
  .rw[count_miss C,c];rfl
  rw[count_hit ak C,xS 1,splitK,c];have z:¬(index l [10]==-1)=true:=by rw[C];simp
  rw[ax z,C];have V:l.take ((a.length:Int).toNat+0)=a:=by rw[D];simp
  have u:l.drop ((a.length:Int).toNat+([10]:List UInt8).length)=b:=by rw[D];simp
  have c:l.drop (a.length+([10]:List UInt8).length)=b:=by rw[D];simp
  rw[V,u,c,B b (by rw[D]at h;simp at h;omega)];simp
theorem pI(s:ByteArray):(splitB ⟨#[10]⟩ 0 (countB s ⟨#[10]⟩) s).map (·.data.toList)=uZ [] s.data.toList:=by rw[splitB_data];exact OQ _ _<|aD _
end Wm
def kf(s:z'):List z':=Lib.goFieldsP Wm.D3 s
def yd(s:z'):(kf s).map (·.data.toList)=Wm.ik [] s.1.1:=Wm.Qq s
def LL(w:t'):PredAtRunes Tryz.prog 122 #[] Wm.D3 w:=by intro W x F a;refine(Hf x W).mono λe a h=>?_;refine⟨h.1.trans<|aZ ?_,0,h.2⟩;rw[Wm.D3,cK];simp;omega
def po(ws:List z'):Bool:=match ws with|[]=>P'|x::_=>match x.1.1 with|c::_=>c==35|[]=>Q'
def uE(a:u')(b:Nat)(w:t'):
  Cl 78 #[h' a 0 b] w λe a=>e=o' (i' P')/\a=w:=by
 go_enter func78,ntmps78;go_wp2;go_ret;exact⟨rfl,rfl⟩
def ou(g t c a:Nat)(x:z')(R:List z')(w:t')(X:((c:Int)==0)=Q')(F:0<x.size)(d:x.size<=3000)(j:Ws w g t<|x::R):
  Cl 78 #[h' (C'<|O g t) c a] w λe a=>e=o' (i'<|po<|x::R)/\a=w:=by
 have T:χ w (O g t)=C' (m' x):=j.cell 0 x rfl;have b:(0:Int)<c:=by rw[dO]at X;omega
 have e:po (x::R)=((x[0].toNat:Int)==35):=by
  have:=Wm.vr x F;simp only[po];rw[this];simp only;rw[cK];simp;constructor
  .intro h;rw[h];rfl
  intro h;exact Bq.1 (by simpa using(by omega:x[0].toNat=35))
 rw[e];go_enter func78,ntmps78;go_wp2;go_ret;exact⟨rfl,rfl⟩
section
variable {a:Nat}
structure NC where
  bL:z'
  wa:u'
  wl:Nat
  wc:Nat
  n:SN
  ea:u'
  el:Nat
  ec:Nat
abbrev NC.wv(c:NC):A':=h' c.wa c.wl c.wc
abbrev NC.ev(c:NC):A':=h' c.ea c.el c.ec
def NC.on(c:NC)(a:u')(l k:Nat):NC:={c with ea:=a,el:=l,ec:=k}
def qp(c:NC):List A':=(aJ c.bL c.wv c.n c.ev).toList
def fp(l:List NC):List A':=l.flatMap qp
def iA(c:NC):ζ (qp c)=14:=rfl
def AV(l:List NC)(c:NC):fp (l++[c])=fp l++qp c:=by simp[fp]
def fC(c:NC)(l:List NC):fp (c::l)=qp c++fp l:=by simp[fp]
def vJ:∀(l:List NC)(k:Nat)(c:NC)(j:Nat),l[k]?=C' c->j<14->(fp l)[k*14+j]?=(qp c)[j]?
 |[],k,c,j,h,_=>by simp at h
 |d::l,0,c,j,h,hj=>by simp at h;subst h;rw[fC,gN,bW,iC<|by rw[iA];exact hj]
 |d::l,k+1,c,j,h,hj=>by rw[fC,fh<|by rw[iA];omega,iA,show(k+1)*14+j-14=k*14+j by omega];exact vJ l k c j (J' h) hj
def sU(a:u')(V B:Nat):∀(l:List NC)(k:Nat)(c:NC),l[k]?=C' c->(fp l).set (k*14+12) (h' a V B)=fp (l.set k<|c.on a V B)
 |[],k,c,h=>by simp at h
 |d::l,0,c,h=>by simp at h;subst h;rw[dp,fC,fC,Fg _ _<|by rw[iA];omega];rfl
 |d::l,k+1,c,h=>by rw[da,fC,fC,oX _ _<|by rw[iA];omega,iA,show(k+1)*14+12-14=k*14+12 by omega,sU a V B l k c<|J' h]
def fN(w:t')(g cap:Nat)(nl:List NC):Prop:=∃cur,w.1[g]?=C' (j' cur 152 (0,0))/\cur.size=cap*14/\cur.toList.take (ζ nl*14)=fp nl/\ζ nl<=cap
def fN.cells{D:List NC}(h:fN w g a D)(k:Nat)(c:NC)(a:D[k]?=C' c)(j:Nat)(f:j<14):χ w (O g<|k*14+j)=(aJ c.bL c.wv c.n c.ev)[j]?:=by obtain⟨Y,b,_,U,_⟩:=h;have X:=(aV.1 a).1;have C:=vJ D k c j a f;rw[<-U,xH,aB I]at C;simp only[World.cell?,b];simpa[qp]using C
def fN.all{D:List NC}(h:fN w g a D)(k:Nat)(c:NC)(a:D[k]?=C' c):χ w (O g<|k*14)=C' (m' c.bL)/\χ w (O g<|k*14+1)=C' (bk c.wa c.wl c.wc)/\χ w (O g<|k*14+2)=C' (G c.n.aO)/\χ w (O g<|k*14+3)=C' (G c.n.var)/\χ w (O g<|k*14+4)=C' (G c.n.op)/\χ w (O g<|k*14+5)=C' (G c.n.test)/\χ w (O g<|k*14+6)=C' (i' c.n.a.aN)/\χ w (O g<|k*14+7)=C' (G c.n.a.var)/\χ w (O g<|k*14+8)=C' (G c.n.a.bJ)/\χ w (O g<|k*14+9)=C' (i' c.n.b.aN)/\χ w (O g<|k*14+10)=C' (G c.n.b.var)/\χ w (O g<|k*14+11)=C' (G c.n.b.bJ)/\χ w (O g<|k*14+12)=C' (bk c.ea c.el c.ec)/\χ w (O g<|k*14+13)=C' (m' c.n.dz):=
 ⟨h.cells k c a 0 I,h.cells k c a 1 I,h.cells k c a 2 I,h.cells k c a 3 I,h.cells k c a 4 I,h.cells k c a 5 I,h.cells k c a 6 I,h.cells k c a 7 I,h.cells k c a 8 I,h.cells k c a 9 I,h.cells k c a 10 I,h.cells k c a 11 I,h.cells k c a 12 I,h.cells k c a 13 I⟩
def fN.frozen{D:List NC}(h:fN w g a D)(o:Nat):w.frozen? (O g o)=Q':=by obtain⟨Y,a,_⟩:=h;simp[World.frozen?,a]
def fN.lt{D:List NC}(h:fN w g a D):g<δ w.1:=by obtain⟨Y,a,_⟩:=h;exact(bG.1 a).1
def fN.of_block{b:t'}{D:List NC}(h:fN w g a D)(c:b.1[g]?=w.1[g]?):fN b g a D:=by obtain⟨Y,C,a⟩:=h;exact⟨Y,c.trans C,a⟩
def fN.alloc{D:List NC}(h:fN w g a D)(o:Obj):fN (w.alloc o) g a D:=h.of_block<|ch w o g h.lt
def fN.OV{b:Nat}{D:List NC}(h:fN w g b D)(k:Nat)(c:NC)(d:D[k]?=C' c)(a:u')(V B:Nat):fN (κ w (O g<|k*14+12)<|h' a V B) g b (D.set k<|c.on a V B):=by
 obtain⟨Y,b,y,U,T⟩:=h;have X:=(aV.1 d).1;refine⟨Y.setIfInBounds (k*14+12)<|h' a V B,?_,J' y,?_,J' T⟩
 .have L:=(bG.1 b);simp only[World.setCell,sH];simp[b]
 rw[jn,<-sU a V B D k c d,<-U,Rk,take_set]
def Er(w:t')(ev:A')(es:List Int):Prop:=(es=[]/\ev=h' D' 0 0)\/∃b,ev=h' (C'<|O b 0) (ζ es) (ζ es)/\w.1[b]?=C' (j' (θ<|es.map G) 3 (0,0))
def I4(aO dz next:Int):List Int:=if aO==4 then[dz,next] else if aO==5 then[dz] else if aO==6 then[] else[next]
def QA(k g n:Int)(w:t'):
  Cl 128 #[G k,G g,G n] w λe b=>∃a V B,e=o' (h' a V B)/\J (Er b (h' a V B)<|I4 k g n)/\Bl w b:=by
 go_enter func128,ntmps128;go_wp2
 all_goals
  go_ret;refine⟨_,_,_,rfl,?_,?_⟩
 .exact aH ⟨δ w.1,by simp[I4, *],by rw[bj];simp[I4, *]⟩
 .exact(aP _ _).alloc (aD _) _
 .exact aH ⟨δ w.1,by simp[I4, *],by rw[bj];simp[I4, *]⟩
 .exact(aP _ _).alloc (aD _) _
 .exact aI ⟨by simp[I4, *],rfl⟩
 .exact aP _ _
 .exact aH ⟨δ w.1,by simp[I4, *],by rw[bj];simp[I4, *]⟩
 exact(aP _ _).alloc (aD _) _
def OU{W:t'}{k:Nat}{d c:z'}{u v:A'}{x q i a f b D X:Int}{L F:Bool}(h:∀j,j<14->χ W (O g<|k+j)=(aJ d u ⟨x,q,i,a,⟨L,f,b⟩,⟨F,D,X⟩,c⟩ v)[j]?):χ W (O g k)=C' (m' d)/\χ W (O g<|k+1)=C' u/\χ W (O g<|k+2)=C' (G x)/\χ W (O g<|k+3)=C' (G q)/\χ W (O g<|k+4)=C' (G i)/\χ W (O g<|k+5)=C' (G a)/\χ W (O g<|k+6)=C' (i' L)/\χ W (O g<|k+7)=C' (G f)/\χ W (O g<|k+8)=C' (G b)/\χ W (O g<|k+9)=C' (i' F)/\χ W (O g<|k+10)=C' (G D)/\χ W (O g<|k+11)=C' (G X)/\χ W (O g<|k+12)=C' v/\χ W (O g<|k+13)=C' (m' c):=
 ⟨h 0 I,h 1 I,h 2 I,h 3 I,h 4 I,h 5 I,h 6 I,h 7 I,h 8 I,h 9 I,h 10 I,h 11 I,h 12 I,h 13 I⟩
end
def qN(ps:List<|bD×Nat):DataW Unit:=ps.foldl (λD p=>D.put (lC p.1)<|.lit<|.int .i64 (p.2:Int))<|.map []
def p5(S:List<|bD×Nat)(p:bD×Nat):qN (S++[p])=(qN S).put (lC p.1) (.lit<|.int .i64 (p.2:Int)):=by simp[qN]
def yr{α:Type}{P:List α->Prop}(h0:P [])(h1:∀l a,P l->P (l++[a]))(l:List α):P l:=by
 suffices h:∀n (l:List α),ζ l=n->P l from h _ l rfl
 intro n;induction n with
 |zero=>intro l h;rw[fg.1 h];exact h0
 |succ n B=>intro l h;obtain⟨r,a,rfl⟩:∃r a,l=r++[a]:=⟨l.dropLast,l.getLast (by intro e;simp[e]at h),(xL _).symm⟩;exact h1 r a<|B r<|J' h
def NX(S:List<|bD×Nat):Tidy (qN S):=by
 induction S using yr with
 |h0=>exact tidy_empty
 |h1 l a B=>rw[p5];exact B.put (qw a.1) _
def lB(ps:List<|bD×Nat):List bD:=ps.map Prod.fst
def Dl(ps:List<|bD×Nat)(v:bD):Int:=match ps.reverse.find? (λp=>p.1==v)with|some p=>(p.2:Int)|none=>0
def L1(S:List<|bD×Nat)(v:bD):Maps.has (qN S) (lC v)=decide (v∈lB S):=by
 induction S using yr with
 |h0=>rfl
 |h1 l a B=>
  rw[p5];by_cases e:v=a.1
  .subst e;rw[Maps.has_put_same (NX l).isMap<|qw _];simp[lB]
  rw[Maps.has_put_other λL=>e<|tF L,B,xO];simp[lB,e]
def atA(S:List<|bD×Nat)(v:bD):(qN S).atKey (lC v) (.lit<|.int .i64 0)=.lit (.int .i64<|Dl S v):=by
 induction S using yr with
 |h0=>rfl
 |h1 l a B=>
  rw[p5];by_cases e:v=a.1
  .subst e;rw[Maps.atKey_put_same (NX l).isMap<|qw _];simp[Dl]
  rw[Maps.atKey_put_other λL=>e<|tF L,B];have:(a.1==v)=Q':=by simpa using λL=>e L.symm
  simp[Dl,this]
def kN(i:Nat)(ps:List<|bD×Nat):List z'->Option (List<|bD×Nat)
 |[]=>C' ps
 |b::r=>if b.toList.isEmpty then kN (i+1) ps r else if b.1.1∈lB ps then D' else kN (i+1) (ps++[(b.1.1,i)]) r
def Gr(i:Nat)(S:List<|bD×Nat)(l:List z')(k:Nat):kN i S l=(kN i S<|l.take k).bind (λq=>kN (i+ζ (l.take k)) q<|l.drop k):=by
 induction l generalizing i S k with
 |nil=>simp[kN]
 |cons b r B=>
  cases k with
  |zero=>simp[kN]
  |succ k=>
   rw[take_succ_cons,drop_succ_cons];simp only[kN];split
   .rw[B];simp only[bR];congr 1;funext q;congr 1;omega
   split
   .rfl
   rw[B];simp only[bR];congr 1;funext q;congr 1;omega
def S!{a:List z'}{S:List (bD×Nat)}{b:z'}(h:kN 0 [] (a.take k)=C' S)(c:a[k]?=C' b):
  kN 0 [] (a.take<|k+1)=if b.toList.isEmpty then C' S else if b.1.1∈lB S then D' else C' (S++[(b.1.1,k)]):=by
 have X:=(aV.1 c).1;rw[Gr 0 [] (a.take<|k+1) k,take_take,kj I,h];have e:(a.take<|k+1).drop k=[b]:=by rw[drop_take,show k+1-k=1 by omega,take_one,head?_drop,c];rfl
 have u:ζ (a.take k)=k:=by simp;omega
 simp only[Option.bind_some,e,u,bW,kN]
def Tb{cd:List z'}(h:kN 0 [] (cd.take k)=D'):kN 0 [] cd=D':=by rw[Gr 0 [] cd k,h];rfl
def Q2{D:List NC}{c:NC}(h:D[k]?=C' c):(D.map NC.bL)[k]?=C' c.bL:=by simp[h]
def wG(g a:Nat)(D:List NC)(w:t')(p:fN w g a D)(L:ζ D<=60)(f:∀c∈D,c.bL.size<=3000):
  Cl 126 #[h' (C'<|O g 0) (ζ D) a] w λe a=>
   (
    (∃S b,kN 0 [] (D.map NC.bL)=C' S/\e=o' (p' #[.map<|C' b,i' P'])/\δ w.1<=b/\a.ownsMap Tryz.prog 9 (plainElem Tryz.prog 3) b 60 (qN S))\/
    (kN 0 [] (D.map NC.bL)=D'/\e=o' (p' #[.map D',i' Q'])))/\Bl w a:=by
 have C:=@run_makeMap Tryz.prog;have a:=p.lt;go_enter func126,ntmps126;go_wp2;go_loopw[12] (λi wr=>∃(k:Nat)(S:List<|bD×Nat),k<=ζ D/\i=G k/\J (kN 0 [] ((D.map NC.bL).take k)=C' S)/\wr.ownsMap Tryz.prog 9 (plainElem Tryz.prog 3) w.1.size k (qN S)/\Bl w wr) (λi _=>ζ D-(intOf i).toNat)
 case atStart=>exact⟨0,[],bq _,rfl,rfl,World.ownsMap_made _ _ _ _,(aP _ _).alloc (aD _) _⟩
 obtain⟨k,S,b,rfl,Q,o,i⟩:=hrel;by_cases L:k<ζ D;rotate_left
 .obtain rfl:k=ζ D:=I;go_wp2;go_ret2;have e:=Q.o;rw[b! ak]at e;exact⟨aI ⟨S,δ w.1,e,rfl,aD _,o.mono I⟩,i⟩
 obtain⟨c,T⟩:=La L;have r:=(p.of_block<|i.block g a).all k c T;have a:c.bL.size<=maxLen:=by have:=f c<|aK T;unfold maxLen;omega
 have f:J (kN 0 [] ((D.map NC.bL).take<|k+1)=if c.bL.toList.isEmpty then C' S else if c.bL.1.1∈lB S then D' else C' (S++[(c.bL.1.1,k)])):=S! Q.o<|Q2 T
 skip
 have b:(k:Int)<(ζ D:Int):=I;have l:=i.size;have q:keyOf Tryz.prog 9 (m' c.bL)=C' (lC c.bL.1.1):=keyOf_string_mk underlying9 a;cases a:c.bL.toList.isEmpty with
 |true=>
  go_wp2_with fail;have e:kN 0 [] ((D.map NC.bL).take<|k+1)=C' S:=by rw[f.o,a];rfl
  exact⟨⟨k+1,S,I,f',e,(o.alloc _).mono I,i.alloc l _⟩,by simp[intOf];omega⟩
 |false=>
  by_cases B:c.bL.1.1∈lB S
  .have V:Maps.has (qN S) (lC c.bL.1.1)=P':=by rw[L1];simpa using B
   go_wp2_with (first
     |(at_lookup;refine CT _ rfl _ _ 141 rfl 9 3 .i64 G7 underlying141 underlying3 (Bt _) w.1.size k (qN S) rfl (o.alloc _) _ _ rfl q ?_;intro z W h))
   go_ret2;refine⟨aH ⟨Tb (k:=k+1) ?_,rfl⟩,i.alloc l _⟩;rw[f.o,a];simp[B]
  have V:Maps.has (qN S) (lC c.bL.1.1)=Q':=by rw[L1];simpa using B
  go_wp2_with (first
   |(at_lookup;refine CT _ rfl _ _ 141 rfl 9 3 .i64 G7 underlying141 underlying3 (Bt _) w.1.size k (qN S) rfl (o.alloc _) _ _ rfl q ?_;intro z W h)
   |(at_mapUpdate;refine wpList_mapUpdate_own _ rfl _ _ _ 141 rfl 9 3 G7 underlying141 _ w.1.size k (qN S) rfl (o.alloc _) (by unfold maxLen;omega) _ _ _ rfl rfl q _ [] (plainElem_int underlying3<|WalkArith.wf_i64 I) ?_;intro b b d))
  go_roundw
  case rel=>
   have e:kN 0 [] ((D.map NC.bL).take<|k+1)=C' (S++[(c.bL.1.1,k)]):=by rw[f.o,a];simp[B]
   refine⟨k+1,_,I,f',e,?_,?_⟩
   · rw[p5];exact b
   exact(i.alloc l _).grown d I' (λj f=>by cases f;exact aD _)
  exact H'
section
variable {b:t'}{a:Nat}{c:List Int}{D:List NC}{S:List (bD×Nat)}
def Ì(k:Int):Bool:=k==4||k==5
def pH(c:NC)(w:t'):
  Cl 127 #[k' #[m' c.bL,h' c.wa c.wl c.wc,G c.n.aO,G c.n.var,G c.n.op,G c.n.test,i' c.n.a.aN,G c.n.a.var,G c.n.a.bJ,i' c.n.b.aN,G c.n.b.var,G c.n.b.bJ,h' c.ea c.el c.ec,m' c.n.dz]] w λe a=>
   e=o' (i'<|Ì c.n.aO)/\Bl w a:=by
 go_enter func127,ntmps127;go_wp2
 all_goals
  go_ret;refine⟨aZ ?_,(aP _ _).alloc (aD _) _⟩;simp_all[Ì]
def l8(ps:List<|bD×Nat)(nl:List NC):Bool:=nl.all λc=>!Ì c.n.aO||decide (c.n.dz.1.1∈lB ps)
def fK(ps:List<|bD×Nat)(c:NC)(j:Nat):List Int:=I4 c.n.aO (Dl ps c.n.dz.1.1)<|(j:Int)+1
def u!(ps:List<|bD×Nat)(nl:List NC):Bool:=match nl.getLast? with|some c=>!(fK ps c<|ζ nl-1).contains (ζ nl:Int)|none=>Q'
def ef(nl:List NC):Bool:=match kN 0 [] (nl.map NC.bL)with|some ps=>l8 ps nl&&u! ps nl|none=>Q'
structure QS(c c':NC):Prop where
  bL:c'.bL=c.bL
  wa:c'.wa=c.wa
  wl:c'.wl=c.wl
  wc:c'.wc=c.wc
  n:c'.n=c.n
def QS.refl(c:NC):QS c c:=⟨rfl,rfl,rfl,rfl,rfl⟩
def QS.on(c:NC)(a:u')(l k:Nat):QS c (c.on a l k):=⟨rfl,rfl,rfl,rfl,rfl⟩
structure Lk(w:t')(ps:List<|bD×Nat)(nl ae:List NC)(k:Nat):Prop where
  len:ζ ae=ζ nl
  done:∀j c,j<k->nl[j]?=C' c->∃c',ae[j]?=C' c'/\QS c c'/\Er w c'.ev (fK ps c j)/\(!Ì c.n.aO||decide (c.n.dz.1.1∈lB ps))=P'
  rest:∀j,k<=j->ae[j]?=nl[j]?
def Er.aR{a:A'}(h:Er w a c)(d:Bl w b):Er b a c:=by
 rcases h with h|⟨b,C,a⟩
 .exact aI h
 exact aH ⟨b,C,(d.block b (bG.1 a).1).trans a⟩
def Er.Tw{b:A'}(h:Er w b c)(p:fN w g a D)(o:Nat)(v:A'):Er (κ w (O g o) v) b c:=by
 rcases h with h|⟨b,C,a⟩
 .exact aI h
 refine aH ⟨b,C,(bh _ _ _ _ ?_).trans a⟩;rintro rfl;obtain⟨Y,T,_⟩:=p;rw[T]at a;simp at a
def Lk.aR{a:List NC}(h:Lk w S D a k)(i:Bl w b):Lk b S D a k:=
 ⟨h.len,λj c f T=>let ⟨g,a,b,d,e⟩:=h.done j c f T;⟨g,a,b,d.aR i,e⟩,h.rest⟩
def Lk.step{b:List NC}{c:NC}(h:Lk w S D b k)(p:fN w g a b)(T:D[k]?=C' c)(K:b[k]?=C' c)(a:u')(V B:Nat)(l:Er w (h' a V B)<|fK S c k)(i:(!Ì c.n.aO||decide (c.n.dz.1.1∈lB S))=P'):
  Lk (κ w (O g<|k*14+12)<|h' a V B) S D (b.set k<|c.on a V B) (k+1):=by
 have X:=(aV.1 K).1;refine⟨J' h.len,λj d f Q=>?_,λj f=>?_⟩;rotate_left
 .rw[C9 I];exact h.rest j I
 by_cases e:j=k
 .subst e;rw[T]at Q;cases Q;exact⟨c.on a V B,by simp[X],QS.on c a V B,l.Tw p _ _,i⟩
 obtain⟨a,x,y,z,u⟩:=h.done j d I Q;exact⟨a,by rw[C9 I];exact x,y,z.Tw p _ _,u⟩
def PX(a:u')(b:Nat)(w:t'):
  Cl 80 #[h' a 0 b] w λe a=>e=o' (i' Q')/\a=w:=by
 go_enter func80,ntmps80;go_wp2;go_ret;exact⟨rfl,rfl⟩
def PY(a:u')(c b:Nat)(w:t')(D:((c:Int)==0)=Q')(h:decide (60<(c:Int))=P'):
  Cl 80 #[h' a c b] w λe a=>e=o' (i' Q')/\a=w:=by
 go_enter func80,ntmps80;go_wp2;go_ret;exact⟨rfl,rfl⟩
end
section
variable {D:List NC}{S:List (bD×Nat)}{c:NC}
def G3{k:Nat}(U:kN 0 [] (D.map NC.bL)=C' S)(T:D[k]?=C' c)(h:(!Ì c.n.aO||decide (c.n.dz.1.1∈lB S))=Q'):ef D=Q':=by
 have:l8 S D=Q':=by rw[l8,all_eq_false];exact⟨c,aK T,by rw[h];simp⟩
 simp[ef,U,this]
def KR{a:List NC}(U:kN 0 [] (D.map NC.bL)=C' S)(h:Lk w S D a<|ζ D)(K:0<ζ D)(T:D[ζ D-1]?=C' c):ef D=!(fK S c<|ζ D-1).contains (ζ D:Int):=by
 have C:l8 S D=P':=by rw[l8,bZ];intro d Q;obtain⟨j,f,rfl⟩:=Jn Q;obtain⟨_,_,_,_,e⟩:=h.done j _ f<|aQ f;exact e
 have a:D.getLast?=C' c:=by rw[C7,T]
 simp[ef,U,C,u!,a]
def Iq{a:u'}{l c:Nat}{d:List Int}(h:Er w (h' a l c) d)(X:ζ d<=2)(x:Int):
  Cl 129 #[h' a l c,G x] w λe a=>e=o' (i'<|d.contains x)/\a=w:=by
 rcases h with⟨rfl,h⟩|⟨b,h,a⟩
 .cases h;exact Tryz.slices_Contains_int_empty D' 0 x w
 cases h
 have:=Tryz.slices_Contains_int b 0 (ζ d) (ζ d) d x w (aD _) I (λj f=>by
  simp[World.cell?,a,f,cy])
 rwa[nB]at this
def Zb(k g n:Int):ζ (I4 k g n)<=2:=by unfold I4;split;simp;split;simp;split<;>simp
def T2(g E:Nat)(D:List NC)(w:t')(p:fN w g E D)(h0:0<ζ D)(L:ζ D<=60)(i:∀c∈D,c.bL.size<=3000)(iS:∀c∈D,c.n.dz.size<=3000):
  Cl 80 #[h' (C'<|O g 0) (ζ D) E] w λe R=>
   e=o' (i'<|ef D)/\ξ w R (C' g)/\(ef D=P'->∃S y,kN 0 [] (D.map NC.bL)=C' S/\fN R g E y/\Lk R S D y (ζ D)):=by
 have hg:=p.lt;have t:((ζ D:Int)==0)=Q':=by rw[dO];omega
 have t:decide (60<(ζ D:Int))=Q':=by rw[gB];omega
 go_enter func80,ntmps80;go_wp2_with fail;refine(wG g E D w p L i).mono ?_;rintro e t ⟨a,l⟩;rcases a with⟨S,x,U,rfl,hmb,o⟩|⟨U,rfl⟩;rotate_left
 .have v:J (ef D=Q'):=by show _=_;simp[ef,U]
  clear U;go_wp2_with fail;go_ret;exact⟨aZ v.o.symm,kd (bI l) _,λh=>by rw[v.o]at h;cases h⟩
 have Q:J (kN 0 [] (D.map NC.bL)=C' S):=U;clear U;have a:=p.of_block<|l.block g hg;have i:=a.lt;go_wp2_with fail;go_loopw[26] (λi wr=>∃(k:Nat)(y:List NC),k<=ζ D/\i=G k/\fN wr g E y/\Lk wr S D y k/\wr.ownsMap Tryz.prog 9 (plainElem Tryz.prog 3) x 60 (qN S)/\ξ w wr (C' g)) (λi _=>ζ D-(intOf i).toNat)
 case atStart=>exact⟨0,D,bq _,rfl,a,⟨rfl,λj c f=>I,λ_ _=>rfl⟩,o,kd (bI l) _⟩
 clear o a;obtain⟨k,y,i,rfl,d,C,o,b⟩:=hrel;by_cases lG:k<ζ D;rotate_left
 .obtain rfl:k=ζ D:=I;obtain⟨c,T⟩:=La (l:=D) (i:=ζ D-1) I;obtain⟨t,K,i,l,_⟩:=C.done (ζ D-1) c I T;have v:J (ef D=!(fK S c<|ζ D-1).contains (ζ D:Int)):=KR Q.o C h0 T;obtain⟨_,_,_,_,_,_,_,_,_,_,_,_,aa,_⟩:=d.all (ζ D-1) t K;have i:((ζ D-1:Nat):Int)=(ζ D:Int)-1:=I;clear p;go_wp2_with fail;refine(Iq l (Zb _ _ _) _).mono ?_;rintro e R ⟨rfl,rfl⟩;go_wp2;go_ret;exact⟨aZ<|by rw[v.o];simp,b,λ_=>⟨S,y,Q.o,d,C⟩⟩
 obtain⟨c,T⟩:=La lG;have K:y[k]?=C' c:=by rw[C.rest k<|aD _];exact T
 obtain⟨i,R,i,i,i,y,i,i,i,i,i,i,aa,i⟩:=d.all k c K;have i:c.n.dz.size<=maxLen:=by have:=iS c<|aK T;unfold maxLen;omega
 have l:(k:Int)<(ζ D:Int):=I;have q:keyOf Tryz.prog 9 (m' c.n.dz)=C' (lC c.n.dz.1.1):=keyOf_string_mk underlying9 i;have hat:=atA S c.n.dz.1.1;have mv:=L1 S c.n.dz.1.1;have E:=d.frozen<|k*14+12;obtain⟨W,fi⟩:∃W,Ì c.n.aO=W:=⟨_,rfl⟩;obtain⟨s,a⟩:∃s,decide (c.n.dz.1.1∈lB S)=s:=⟨_,rfl⟩;rw[a]at mv;cases U:(!W||s)with
 |false=>
  obtain⟨rfl,rfl⟩:W=P'/\s=Q':=by cases W<;>cases s<;>simp_all
  have v:J (ef D=Q'):=G3 Q.o T (by rw[fi,a];rfl);clear a
  go_wp2_with (first
   |(at_lookup;refine CT _ rfl _ _ 141 rfl 9 3 .i64 G7 underlying141 underlying3 (Bt _) x 60 (qN S) rfl (o.alloc _) _ _ rfl q ?_;intro z P js)
   |(go_at_call 127;refine(pH c _).mono ?_;rintro e F ⟨rfl,X⟩))
  go_ret;exact⟨aZ v.o.symm,b.trans<|cC<|kd (bI X) _,λh=>by rw[v.o]at h;cases h⟩
 |true=>
  have N:J ((!Ì c.n.aO||decide (c.n.dz.1.1∈lB S))=P'):=by show _=_;rw[fi,a];exact U
  clear a;cases W<;>cases s<;>simp only[Bool.not_true,Bool.not_false,Bool.or_false,Bool.or_true,bV]at U
  all_goals
   go_wp2_with (first
    |(at_lookup;refine CT _ rfl _ _ 141 rfl 9 3 .i64 G7 underlying141 underlying3 (Bt _) x 60 (qN S) rfl (o.alloc _) _ _ rfl q ?_;intro z P js)
    |(go_at_call 127;refine(pH c _).mono ?_;rintro e F ⟨rfl,X⟩;have r:=dV (bI X) (λk e=>by cases e);have L:=A r;have R:g<δ F.1:=ep d.lt (by have:=X.size;simp at this;omega);have a:=((d.alloc _).of_block<|X.block g (by have:=d.lt;simp;omega)).all k c K;have h:=((d.alloc _).of_block<|X.block g (by have:=d.lt;simp;omega)).frozen<|k*14+12;obtain⟨_,_,_,_,_,_,_,_,_,_,_,_,a,_⟩:=a)
    |(go_at_call 128;refine(QA _ _ _ _).mono ?_;rintro e W3 ⟨ea,V,B,rfl,HE,Y⟩;have u:=((d.alloc _).of_block<|X.block g (by have:=d.lt;simp;omega)).of_block<|Y.block g R;have a:=u.all k c K;have d:=u.frozen<|k*14+12;obtain⟨_,_,_,_,_,_,_,_,_,_,_,_,a,_⟩:=a))
   go_roundw
   case rel=>
    have ez:z=Dl S c.n.dz.1.1:=by have:=P.symm.trans hat;simpa using this
    subst ez;have a:Bl wr W3:=(((aP _ wr).alloc (aD _) _).trans<|X.mono ak).trans<|Y.mono (by have:=X.size;simp at this;omega);have d:Er W3 (h' ea V B) (fK S c k):=HE.o;refine⟨k+1,_,I,f',u.OV k c K ea V B,(C.aR a).step u T K ea V B d N.o,?_,?_⟩
    .refine World.ownsMap.setCell ?_ ?_ _
     .exact o.kept (bI a) ak
     show x≠g;omega
    have C:=b.trans<|kd (bI a)<|C' g;refine⟨C.os,C.tape,C.output,by simpa[World.setCell]using C.size,λj f z=>?_⟩;rw[bh _ _ _ _ (by intro e;exact z<|by rw[e])];exact C.block j f z
   exact H'
end
section
variable {c:NC}{D:List NC}
structure PN where
  bL:z'
  ws:List z'
  n:SN
def PN.nc(p:PN):NC:=⟨p.bL,D',0,0,p.n,D',0,0⟩
def rm(vs:List bD)(acc:List PN):List (List z')->Option (List PN×List bD)
 |[]=>C' (acc,vs)
 |ws::r=>if po ws then rm vs acc r else if (gK vs ws).2.2.2.1 then rm (gK vs ws).2.2.2.2 (acc++[⟨(gK vs ws).1,ws.drop (gK vs ws).2.1,(gK vs ws).2.2.1⟩]) r else D'
def IX(s:z'):List z':=Lib.splitB ⟨#[10]⟩ 0 (Lib.countB s ⟨#[10]⟩) s
def A6(s:z'):List (List z'):=(IX s).map kf
abbrev Pr:=Bool ⊕ (List PN×List bD)
abbrev Pr.syn:Pr:=.inl Q'
abbrev Pr.prg:Pr:=.inl P'
abbrev Pr.ok(pl:List PN)(vs:List bD):Pr:=.inr (pl,vs)
def i6(pl:List PN)(vs:List bD):Bool:=decide (ζ vs<=8)&&decide (0<ζ pl)&&decide (ζ pl<=60)&&ef (pl.map PN.nc)
def jG(s:z'):Pr:=
 if 3000<s.size then Pr.syn else
 match rm [] [] (A6 s)with
 |none=>Pr.syn
 |some (pl,vs)=>if i6 pl vs then Pr.ok pl vs else Pr.prg
def My(E:List bD)(R:List z'):ζ (kV E R).2.2<=ζ E+3:=by
 have a:∀R,ζ (qO E R).2.2<=ζ E+3:=by
  intro R;unfold qO;split
  .rename_i b;have:=lz E b;simp only;omega
  simp[gn]
 have d:∀R,ζ (kP E R).2.2<=ζ E+3:=by intro R;unfold kP;split<;>simp[gn]
 have S:∀R,ζ (Cm E R).2.2<=ζ E+3:=by
  intro R;unfold Cm;split
  .rename_i _ b W i Y p;split
   .have:=lz E b;have:=lz (dx E b) i;simp only;omega
   simp[gn]
  simp[gn]
 have c:∀R,ζ (iG E R).2.2<=ζ E+3:=by
  intro R;unfold iG;split;rotate_left
  .simp[gn]
  rename_i u b W q;have C:=j4 E u.1.1;have b:=lz (cZ E u.1.1) W;split;rotate_left
  .simp[gn]
  split
  .split<;>(simp only;omega)
  .rename_i i Y;have N:=lz (dx (cZ E u.1.1) W) Y;simp only;omega
  simp only;omega
 unfold kV;split
 .simp[gn]
 split
 .exact a _
 split
 .exact S _
 split
 .exact d _
 split
 .simp
 exact c _
def Yc(E:List bD)(R:List z'):ζ (gK E R).2.2.2.2<=ζ E+3:=by
 unfold gK;split
 .simp[gn]
 split
 .split
  .split
   .simp[gn]
   exact My _ _
  simp[gn]
 exact My _ _
structure Rep(w:t')(c:NC)(p:PN):Prop where
  bL:c.bL=p.bL
  n:c.n=p.n
  ws:∃g off,c.wa=C' (O g off)/\Ws w g off p.ws
  wl:c.wl=ζ p.ws
structure nu(w:t')(nl:List NC)(pl:List PN):Prop where
  len:ζ nl=ζ pl
  each:∀(j:Nat)(c:NC)(p:PN),nl[j]?=C' c->pl[j]?=C' p->Rep w c p
def Rep.mono{p:PN}(h:Rep w c p)(B:∀g t R,Ws w g t R->Ws a g t R):Rep a c p:=by obtain⟨g,t,C,a⟩:=h.ws;exact⟨h.bL,h.n,⟨g,t,C,B _ _ _ a⟩,h.wl⟩
def nu.mono{b:List PN}(h:nu w D b)(B:∀g t R,Ws w g t R->Ws a g t R):nu a D b:=
 ⟨h.len,λj c p a b=>(h.each j c p a b).mono B⟩
def nu.snoc{a:List PN}{p:PN}(h:nu w D a)(T:Rep w c p):nu w (D++[c]) (a++[p]):=by
 refine⟨by simp[h.len],λj a b c d=>?_⟩;by_cases f:j<ζ D
 .rw[iC f]at c;rw[iC<|L' h.len]at d;exact h.each j a b c d
 have X:=h.len;rw[fh I]at c;rw[fh I]at d;have a:j-ζ D=0:=by have:=(aV.1 c).1;simp at this;omega
 rw[a]at c;rw[<-X,a]at d;simp at c d;subst c;subst d;exact T
def o5(b:Bl w a):∀g t R,Ws w g t R->Ws a g t R:=λg _ _ h=>h.of_block<|b.block g h.lt
def Re{x:Nat}(d:∃b c,w.1[x]?=C' (.map b c))(b:ξ w a<|C' x):∀g t R,Ws w g t R->Ws a g t R:=λ_ _ _ h=>h.grown d b
def Rv{q:Option Nat}(l:∀k,q=C' k->∃Y f,w.1[k]?=C' (j' Y 152 f))(b:ξ w a q):∀g t R,Ws w g t R->Ws a g t R:=by intro g t R h;refine h.of_block<|b.block g h.lt ?_;intro e;obtain⟨Y,f,T⟩:=l g e.symm;obtain⟨N,K,_⟩:=h;rw[T]at K;simp at K
def PZ(D:List NC)(d:List PN)(X:ζ D=ζ d)(h:∀(j:Nat)(c:NC)(p:PN),D[j]?=C' c->d[j]?=C' p->c.bL=p.bL/\c.n=p.n):ef D=ef (d.map PN.nc):=by
 have V:D.map NC.bL=(d.map PN.nc).map NC.bL:=by
  apply dQ;intro j;simp only[bH];by_cases f:j<ζ D
  .have a:=aQ f;have b:=aQ (l:=d) (i:=j) I;rw[a,b];simp[(h j _ _ a b).1,PN.nc]
  rw[b? I,b? (l:=d) I];rfl
 have u:D.map NC.n=(d.map PN.nc).map NC.n:=by
  apply dQ;intro j;simp only[bH];by_cases f:j<ζ D
  .have a:=aQ f;have b:=aQ (l:=d) (i:=j) I;rw[a,b];simp[(h j _ _ a b).2,PN.nc]
  rw[b? I,b? (l:=d) I];rfl
 unfold ef;rw[V];split;rotate_left
 .rfl
 rename_i S _;have N:∀l:List NC,l8 S l=(l.map NC.n).all (λn=>!Ì n.aO||decide (n.dz.1.1∈lB S)):=by intro l;simp[l8,all_map];rfl
 have k:∀l:List NC,u! S l=match (l.map NC.n).getLast? with|some n=>!(I4 n.aO (Dl S n.dz.1.1)<|(ζ (l.map NC.n)-1:Nat)+1).contains (ζ (l.map NC.n):Int)|none=>Q':=by intro l;unfold u! fK;rw[getLast?_map];simp only[bA];cases l.getLast?<;>rfl
 rw[N,k,N,k,u]
end
section
namespace Wm
open Go.Lib
theorem acM:∀(l Y x:List UInt8),x∈uZ Y l->x.length<=Y.length+l.length:=by
 intro l;induction l with
 |nil=>intro Y x F;simp[uZ]at F;subst F;simp
 |cons c r B=>
  intro Y x F;rw[uZ]at F;split at F
  .rcases cO.1 F with rfl|h
   .simp
   have:=B [] x h;simp at this|-;omega
  have:=B _ x F;simp at this|-;omega
theorem Zk:∀(l Y x:List UInt8),x∈ik Y l->x.length<=Y.length+l.length/\x≠[]:=by
 intro l;induction l with
 |nil=>
  intro Y x F;rw[ik]at F;split at F
  .simp at F
  rename_i h;simp at F;subst F;exact⟨by simp,h⟩
 |cons c r B=>
  intro Y x F;rw[ik]at F;split at F;rotate_left
  .have:=B _ x F;simp only[aW,bR,de]at this|-;exact⟨by omega,this.2⟩
  split at F
  .have:=B [] x F;simp only[de,bR]at this|-;exact⟨by omega,this.2⟩
  rename_i h;rcases cO.1 F with rfl|F
  .exact⟨by simp,h⟩
  have:=B [] x F;simp only[de,bR]at this|-;exact⟨by omega,this.2⟩
theorem Vc:∀(l Y:List UInt8),(ik Y l).length<=l.length+1:=by
 intro l;induction l with
 |nil=>intro Y;rw[ik];split<;>simp
 |cons c r B=>
  intro Y;rw[ik];split
  .split
   .have:=B [];simp;omega
   have:=B [];simp;omega
  have:=B<|Y++[c];simp;omega
theorem X7:∀(l Y:List UInt8),(uZ Y l).length=count l [10]+1:=by
 intro l
 suffices h:∀n (l Y:List UInt8),l.length<=n->(uZ Y l).length=count l [10]+1 from λY=>h _ l Y<|aD _
 intro n;induction n with
 |zero=>intro l Y h;obtain rfl:l=[]:=fg.1 I;rw[count_miss<|by simp[index]];simp[uZ]
 |succ n B=>
  intro l Y h;rcases GZ l Y with⟨C,c⟩|⟨a,b,D,C,c⟩
  .rw[count_miss C,c];rfl
  have d:l.drop (a.length+([10]:List UInt8).length)=b:=by rw[D];simp
  rw[count_hit ak C,c,d,bR,B b [] (by rw[D]at h;simp at h;omega)];omega
theorem LG(l:List UInt8):count l [10]<=l.length+1:=count_le l [10]
end Wm
end
section
variable {e size n:Nat}{v:A'}{D:List A'}{s:z'}
def Ul:(Tryz.prog.info? 152).map (λi=>(i.zero,i.size,i.bytes))=C' (C'<|k' #[m' ⟨#[]⟩,h' D' 0 0,G 0,G 0,G 0,G 0,i' Q',G 0,G 0,i' Q',G 0,G 0,h' D' 0 0,m' ⟨#[]⟩],14,160):=H
structure Env(w:t'):Prop where
  glob:ey w
  acJ:∃m,χ w (O 1 0)=C' (G m)
def LF(w:t')(r:Pr)(e:Ending)(w':t'):Prop:=
 Bl w w' /\
 match r with
 | .inl false=>e=o' (p' #[k' oq,G 1])
 | .inl true=>e=o' (p' #[k' oq,G 2])
 | .inr (pl,vs)=>∃g cap nl ps,e=o' (p' #[k'<|ei g (ζ pl) cap<|ζ vs,G 0])/\δ w.1<=g/\fN w' g cap nl/\nu w' nl pl/\kN 0 [] (pl.map PN.bL)=C' ps/\(∀(j:Nat)(c:NC)(p:PN),nl[j]?=C' c->pl[j]?=C' p->Er w' c.ev (fK ps p.nc j))
def Ks(s:z')(w:t')(h:decide (3000<(s.size:Int))=P'):
  Cl 40 #[m' s] w (LF w Pr.syn):=by
 go_enter func40,ntmps40;go_wp2;exact aC (v:=p' #[k' oq,G 1]) (by simp[results40,go_sem]) rfl ⟨(aP _ _).alloc (aD _) _,rfl⟩
def Env.alloc(h:Env w)(o:Obj):Env (w.alloc o):=
 ⟨h.glob.alloc o,let ⟨m,d⟩:=h.acJ;⟨m,(gY w o D').cell d ak⟩⟩
def Env.below(h:Env w)(b:Bl w a):Env a:=by obtain⟨⟨i,z,T⟩,m,d⟩:=h;exact⟨⟨i,z,(bI b).cell T ak⟩,m,(bI b).cell d ak⟩
def cS{W:t'}(h:ρ W B e size v n D)(b:Bl W a):ρ a B e size v n D:=
 h.kept (row:=D') (bI b) (Classical.em _)
def Nt(s:z'):ζ (IX s)=Lib.countB s ⟨#[10]⟩+1:=by have h:=cQ length<|Wm.pI s;rw[bA,Wm.X7]at h;exact h
def X!(s:z'):ζ (IX s)<=s.size+2:=by rw[Nt];have:=Wm.LG s.1.1;have e:Lib.countB s ⟨#[10]⟩=Lib.count s.1.1 [10]:=rfl;have:=Wm.bS s;omega
def G0(s x:z')(h:x∈IX s):x.size<=s.size:=by
 have:x.1.1∈Wm.uZ [] s.1.1:=by rw[<-Wm.pI s];exact uw h
 have:=Wm.acM _ _ _ this;have C:=Wm.bS s;have a:=Wm.bS x;simp only[de]at this;omega
def Fu(s x:z')(h:x∈kf s):x.size<=s.size/\0<x.size:=by
 have:x.1.1∈Wm.ik [] s.1.1:=by rw[<-yd s];exact uw h
 have:=Wm.Zk _ _ _ this;have C:=Wm.bS s;have a:=Wm.bS x;simp only[de]at this;refine⟨I,?_⟩;rcases Nat.eq_zero_or_pos x.size with e|e
 .exact absurd (fg.1<|a.trans e) this.2
 exact e
def Mg(s:z'):ζ (kf s)<=s.size+1:=by have h:=cQ length<|yd s;rw[bA]at h;have:=Wm.Vc s.1.1 [];have:=Wm.bS s;omega
def RC(s:z')(h:s.size<=3000):ud (kf s):=
 ⟨L'<|Mg s,λx F=>L'<|(Fu s x F).1⟩
structure Pre(B:Nat)(s:z')(w:t'):Prop where
  res:w.1[B]?=C' (j' oq 86 (0,0))
  lines:w.1[B+3]?=C' (j' (θ<|(IX s).map m') 9 (0,0))
def Pre.grown(h:Pre B s w)(b:ξ w a q)(C:some B≠q)(c:some (B+3)≠q):Pre B s a:=
 ⟨(b.block B (bG.1 h.res).1 C).trans h.res,(b.block (B+3) (bG.1 h.lines).1 c).trans h.lines⟩
def Pre.line(h:Pre B s w)(k:Nat)(x:z')(F:(IX s)[k]?=C' x):χ w (O (B+3) k)=C' (m' x):=by simp[World.cell?,h.lines,F]
def Io(x:z')(R:List z')(F:kf x=R)(w:t')(y:x.size<=3000):
  Cl 77 #[m' x] w λe a=>∃(g c:Nat),e=o' (eu g (ζ R) c)/\δ w.1<=g/\ζ R<=c/\c<=maxLen/\Ws a g 0 R/\Bl w a:=by
 subst F;have a:=Tryz.strings_FieldsFunc_runes 122 #[] (enters_of func122 H rfl) Wm.D3 x w I<|LL w;go_enter func77,ntmps77;go_wp2_with fail;refine a.mono ?_;rintro e b ⟨a,rfl,s,o,b⟩;go_wp2;go_ret;have C:=Mg x;refine⟨a,ζ<|kf x,rfl,s,aD _,by unfold maxLen;omega,?_,b⟩;rcases o.2 with⟨D,_⟩|⟨g,c,Y,R,_,a,_,_,_,U⟩
 .cases D
 cases R;exact⟨Y,a,by simpa[kf]using U⟩
def FL(E:List bD)(R:List z')(h:ud R):(kV E R).1.dz.size<=3000:=by
 have l:emp.size<=3000:=aj;have a:∀R,(qO E R).1.dz.size<=3000:=by intro R;unfold qO;split<;>exact l
 have c:∀R,ud R->(kP E R).1.dz.size<=3000:=by
  intro R f;unfold kP;split
  .rename_i b;exact f.word b ak
  exact l
 have S:∀R,ud R->(Cm E R).1.dz.size<=3000:=by
  intro R f;unfold Cm;split
  .rename_i _ b W i Y p;split
   .exact f.word p ak
   exact l
  exact l
 have b:∀R,(iG E R).1.dz.size<=3000:=by
  intro R;unfold iG;split;rotate_left
  .exact l
  split
  .split
   .split<;>exact l
   .exact l
   exact l
  exact l
 unfold kV;split
 .exact l
 split
 .exact a _
 split
 .exact S _ h
 split
 .exact c _ h
 split
 .exact l
 exact b _
def T4(E:List bD)(R:List z')(h:ud R):(gK E R).1.size<=3000/\(gK E R).2.2.1.dz.size<=3000:=by
 have l:emp.size<=3000:=aj;unfold gK;split
 .exact⟨l,l⟩
 rename_i u r;have X:(jL u).size<=3000:=by have:=qu u;have:=h.word u ak;omega
 split
 .split
  .split
   .exact⟨l,l⟩
   exact⟨X,FL _ _ h.tail⟩
  exact⟨l,l⟩
 exact⟨l,FL _ _ h⟩
def O3(h:ρ w (B+4) e size v n D):φ v=D'\/φ v≠C' (B+1):=by
 cases R:φ v with
 |none=>exact aI rfl
 |some k=>have:=(h.lt k R).1;exact aH I'
def GK(W:t')(o:Obj)(L:Array A')(t:TypeId):∀(j:Nat)(u:A'),L.toList[j]?=C' u->χ ((W.alloc o).alloc<|j' L t) (((O (δ W.1+1) 0):Addr).add j)=C' u:=by
 intro j u f;have h:((W.alloc o).alloc<|j' L t).1[δ (W.alloc o).1]?=C' (cL L t):=bj _ _;have a:δ (W.alloc o).1=δ W.1+1:=ak;rw[a]at h;have a:((O (δ W.1+1) 0):Addr).add j=(O (δ W.1+1) j):=by unfold Addr.add;split<;>simp_all
 rw[a];simp only[World.cell?,h];simpa using f
def FU(b:z')(a:u')(l c:Nat)(n:SN):∀u∈(aJ b (h' a l c) n gH).toList,u.oneCell'=P':=by intro u C;simp only[aJ,gH,cO,mem_nil_iff,gC]at C;rcases C with rfl|rfl|rfl|rfl|rfl|rfl|rfl|rfl|rfl|rfl|rfl|rfl|rfl|rfl<;>rfl
def WI{t:Nat}{R:List z'}(h:Ws w g t R):∀k,Ws w g (t+k) (R.drop k):=by
 intro k;induction k with
 |zero=>simpa using h
 |succ k B=>
  by_cases a:k<ζ R
  .rw[nC a]at B;exact B.tail
  rw[xU I];obtain⟨Y,C,_⟩:=h;exact⟨Y,C,ak⟩
def ON(w:t')(a f e b:Obj):((((w.alloc a).alloc f).alloc e).alloc b).1[δ w.1]?=C' a/\((((w.alloc a).alloc f).alloc e).alloc b).1[δ w.1+1]?=C' f/\((((w.alloc a).alloc f).alloc e).alloc b).1[δ w.1+1+1]?=C' e/\((((w.alloc a).alloc f).alloc e).alloc b).1[δ w.1+3]?=C' b:=by
 have W:δ (w.alloc a).1=δ w.1+1:=ak;have k:δ ((w.alloc a).alloc f).1=δ w.1+1+1:=ak;have c:δ (((w.alloc a).alloc f).alloc e).1=δ w.1+3:=ak;have C:=bj w a;have g:=bj (w.alloc a) f;have N:=bj ((w.alloc a).alloc f) e;have d:=bj (((w.alloc a).alloc f).alloc e) b;rw[W]at g;rw[k]at N;rw[c]at d;refine⟨?_,?_,?_,d⟩
 .rw[ch _ _ _ I,ch _ _ _ I,ch _ _ _ I];exact C
 .rw[ch _ _ _ I,ch _ _ _ I];exact g
 rw[ch _ _ _ I];exact N
def GI{D:List NC}(h:ρ w B 152 14 v (ζ D)<|fp D)(a:0<ζ D):∃g a,v=h' (C'<|O g 0) (ζ D) a/\B<=g/\fN w g a D:=by
 rcases h.2 with⟨_,e⟩|⟨g,a,Y,R,b,c,T,_,y,U⟩
 .omega
 exact⟨g,a,R,b,Y,c,y,U,T⟩
def KJ(h:ρ w B 152 14 v n D):∃a b,v=h' a n b:=by
 rcases h.2 with⟨rfl,e⟩|⟨g,b,Y,R,_⟩
 .exact⟨D',0,by rw[e]⟩
 exact⟨_,_,R⟩
def acV(D:List NC)(d:List PN)(X:ζ D=ζ d)(h:∀(j:Nat)(c:NC)(p:PN),D[j]?=C' c->d[j]?=C' p->c.bL=p.bL):D.map NC.bL=d.map PN.bL:=by
 apply dQ;intro j;simp only[bH];by_cases f:j<ζ D
 .have a:=aQ f;have b:=aQ (l:=d) (i:=j) I;rw[a,b];simp[h j _ _ a b]
 rw[b? I,b? (l:=d) I];rfl
def U7{a:A'}{b:List Int}{Y:Array A'}{t:TypeId}{f:Nat×Nat}(h:Er w a b)(T:w.1[g]?=C' (j' Y t f))(U:t≠3)(o:Nat)(v:A'):Er (κ w (O g o) v) a b:=by
 rcases h with h|⟨b,C,a⟩
 .exact aI h
 refine aH ⟨b,C,(bh _ _ _ _ ?_).trans a⟩;rintro rfl;rw[T]at a;simp at a;exact U a.2.1
def Rd.tG{b:t'}{a x:Nat}{E:List bD}(h:Rd w a x E)(c:ξ w b q)(C:some a≠q)(d:some x≠q):Rd b a x E:=
 ⟨(c.block a h.PV C).trans h.box,h.own.kept c d,h.nodup⟩
def Env.tG(h:Env w)(b:ξ w a q)(C:C' 5≠q)(c:C' 1≠q):Env a:=by obtain⟨⟨i,z,T⟩,m,d⟩:=h;exact⟨⟨i,z,b.cell T C⟩,m,b.cell d c⟩
def On{b j:Nat}(h:∀k,q=C' k->b<=k)(f:j<b):some j≠q:=by intro e;have:=h j e.symm;omega
def OF(h:Env w):1<δ w.1:=by obtain⟨m,d⟩:=h.acJ;exact World.block_lt_of_cell? w _ d
def RO{p:Prop}(h:p:=by
 refine aC (v:=.tuple #[.agg oq,G 2]) (by simp[results,results40,go_sem,L.1]) rfl ?_;rw[HN.o]
 exact⟨(hb.setCell (aD _) _).setCell (aD _) _,rfl⟩):p:=h
def Pw(s:z')(w:t')(y:s.size<=3000)(c:Env w):
  Cl 40 #[m' s] w (LF w<|jG s):=by
 have i:decide (3000<(s.size:Int))=Q':=by rw[gB];omega
 have i:=@run_makeMap Tryz.prog;obtain⟨N,S,D,P,a⟩:=cG Ul;have HI:J (Tryz.prog.info? 152=C' N/\N.zero=C' (k' #[m' ⟨#[]⟩,h' D' 0 0,G 0,G 0,G 0,G 0,i' Q',G 0,G 0,i' Q',G 0,G 0,h' D' 0 0,m' ⟨#[]⟩])/\N.size=14/\N.bytes=160):=⟨S,D,P,a⟩;clear S D P a;go_enter func40,ntmps40;go_wp2_with fail;have b:=((c.alloc<|j' oq 86).alloc<|.map #[] 0).alloc<|j' #[.map<|C'<|δ w.1+1] 143;obtain⟨m,d⟩:=b.acJ;refine(Tryz.strings_Split s ⟨#[10]⟩ m _ I d aj).mono ?_;rintro e v ⟨rfl,a⟩;have i:=Nt s;have y:=X! s;rw[<-i]at *;have f:Env v:=by rw[a];exact b.alloc _
 have l:Bl w v:=by rw[a];exact((((aP _ _).alloc (aD _) _).alloc ak _).alloc I' _).alloc I' _
 have h4:=ON w (j' oq 86) (.map #[] 0) (j' #[.map<|C'<|δ w.1+1] 143)<|j' (θ<|(IX s).map m') 9;have wJ:Pre w.1.size s v:=by rw[a];exact⟨h4.1,h4.2.2.2⟩
 have Wp:Rd v (δ w.1+1+1) (δ w.1+1) []:=by
  rw[a];refine⟨h4.2.2.1,?_,vB⟩;obtain⟨es,i,hb,F,mi,hD⟩:=World.ownsMap_made (H:=Unit) (w.alloc<|j' oq 86) Tryz.prog 9<|plainElem Tryz.prog 3;have y:(((w.alloc<|j' oq 86).alloc<|.map #[] 0)).1[δ w.1+1]?=C' (.map es i):=by have:δ (w.alloc<|j' oq 86).1=δ w.1+1:=ak;rw[<-this];exact hb
  refine⟨es,i,?_,F,mi,hD⟩;rw[ch _ _ _ ak,ch _ _ _ ak];exact y
 clear h4;have P:δ v.1=δ w.1+4:=by rw[a];simp
 have HG:J (5<δ w.1/\1<δ w.1):=⟨c.glob.lt,OF c⟩;have y:J (δ v.1=δ w.1+4):=P;clear a d P b c;go_wp2_with fail;go_loopw[5,20] (λv i wr=>∃(k:Nat)(E:List bD)(V:List PN)(nl:List NC),k<=ζ (IX s)/\i=G k/\J (rm [] [] (A6 s)=rm E V ((A6 s).drop k))/\ρ wr (δ w.1+4) 152 14 v (ζ nl) (fp nl)/\nu wr nl V/\Rd wr (δ w.1+1+1) (δ w.1+1) E/\Env wr/\Pre w.1.size s wr/\Bl w wr/\J (ζ E<=3*k/\ζ nl<=k/\(∀c∈nl,c.bL.size<=3000/\c.n.dz.size<=3000)/\δ w.1+4<=δ wr.1)) (λ_ i _=>ζ (IX s)-(intOf i).toNat)
 case atStart=>
  refine⟨0,[],[],[],bq _,rfl,rfl,cY _ _ _ _,⟨rfl,λj c p h=>by simp at h⟩,Wp,f,wJ,l,?_⟩;exact⟨ak,ak,ak,L' y.o⟩
 clear Wp f wJ l;obtain⟨k,E,V,nl,i,rfl,a,o,P,Wp,bl,wJ,hb,U⟩:=hrel;by_cases lG:k<ζ (IX s)
 .obtain⟨x,u⟩:=La lG;have hxs:x.size<=3000:=by have:=G0 s x<|aK u;omega
  obtain⟨R,l⟩:∃R,kf x=R:=⟨_,rfl⟩;have my:=wJ.line k x u;have i:(k:Int)<(ζ (IX s):Int):=I;have Qb:ud R:=l▸RC x hxs;have Lg:∀y∈R,0<y.size:=by rw[<-l];exact λy i=>(Fu x y i).2
  have i:=λW=>Io x R l W hxs;have r:=(show J (∀W,Cl 77 #[m' x] W λe w'=>∃(g cap:Nat),e=o' (eu g (ζ R) cap)/\δ W.1<=g/\ζ R<=cap/\cap<=maxLen/\Ws w' g 0 R/\Bl W w')from i);have d:(A6 s).drop k=R::(A6 s).drop (k+1):=by rw[nC<|by simpa[A6]using lG];congr 1;have v:=(aV.1 u);simp only[A6,Jd,v.2,l]
  have B:J (rm [] [] (A6 s)=rm E V (R::(A6 s).drop (k+1))):=by show _=_;rw[a.o,d]
  clear i d l a u;have i:=hb.size;go_wp2_with fail;refine bE (r.o _) ?_;clear r;rintro e W2 ⟨d,cap,rfl,v,Qn,nf,Q?,X⟩;have YN:=hb.trans<|X.mono i
  match R,Qb,Lg,B,Qn,Q? with
  | [],Qb,Lg,B,Qn,Q?=>
   go_wp2_with (go_at_call 78;refine(uE _ _ _).mono ?_;rintro e w' ⟨rfl,rfl⟩);refine⟨⟨k+1,E,V,nl,I,f',?_,cS o X,P.mono<|o5 X,Wp.grown X,bl.below X,wJ.grown (bI X) ak ak,YN,?_⟩,by simp[intOf];omega⟩
   .show _=_;rw[B.o];rfl
   have:=U.o;exact⟨I,I,this.2.2.1,L' X.size⟩
  |u::r,Qb,Lg,B,Qn,Q?=>
   have hw0:=Lg u ak;have dd:=Qb.word u ak;have ff:((ζ (u::r):Int)==0)=Q':=by rw[dO];simp;omega
   have YP:=Wp.grown X;have bo:=bl.below X;have i:=DG (δ w.1+1+1) (δ w.1+1) d 0 cap (u::r) E W2 ak Qn nf Qb (by have:=U.a;unfold maxLen;omega) YP bo.glob Q?;have l:J (Cl 79 #[n'<|C'<|O (δ w.1+1+1) 0,h' (C'<|O d 0) (ζ<|u::r) cap] W2<|V? W2 (δ w.1+1+1) (δ w.1+1) d 0 (ζ<|u::r) cap<|gK E<|u::r):=i;clear i;cases hno:po (u::r)with
   |true=>
    go_wp2_with (go_at_call 78;refine(ou d 0 _ cap u r _ ff hw0 dd Q?).mono ?_;rintro e w' ⟨rfl,rfl⟩);refine⟨⟨k+1,E,V,nl,I,f',?_,cS o X,P.mono<|o5 X,YP,bo,wJ.grown (bI X) ak ak,YN,?_⟩,by simp[intOf];omega⟩
    .show _=_;rw[B.o,rm,hno,aB rfl]
    have:=U.o;exact⟨I,I,this.2.2.1,L' X.size⟩
   |false=>
    go_wp2_with (go_at_call 78;refine(ou d 0 _ cap u r _ ff hw0 dd Q?).mono ?_;rintro e w' ⟨rfl,rfl⟩);refine bE l.o ?_;clear l;rintro e W3 ⟨bL,kk,ad,l,c,n,ok,rR,rfl,HS,ir,mo,Q⟩;have UF:=(wJ.grown (bI X) ak ak).grown Q ak ak;have L:=A UF.res;have mn:δ w.1<δ W3.1:=(bG.1 UF.res).1;have Y:Bl w W3:=YN.trans ⟨Q.os,Q.tape,Q.output,Q.size,λj f=>Q.block j (L' YN.size) I'⟩;have h4:δ w.1+4<=δ W3.1:=by have:=U.C;have:=X.size;have:=Q.size;omega
    cases ok with
    |false=>
     have HN:J (jG s=Pr.syn):=by show _=_;unfold jG;rw[ax I,B.o,rm,hno,<-HS.o];rfl
     go_wp2_with fail;refine aC (v:=p' #[k' oq,G 1]) (by simp[results40,go_sem,L.1,mn]) rfl ?_;rw[HN.o];refine⟨?_,rfl⟩;refine qZ ?_ (by simp[World.setCell];omega) _;exact(Y.setCell (aD _) _).setCell (aD _) _
    |true=>
     have v:=((((cS o X).kept Q<|O3 o)).alloc<|j' (aJ bL (h' ad l c) n gH) 152).alloc<|j' (aJ bL (h' ad l c) n gH) 152;have i:=GK W3 (j' (aJ bL (h' ad l c) n gH) 152) (aJ bL (h' ad l c) n gH) 152;have y:=FU bL ad l c n;have F:ζ nl+1<=maxLen:=by have:=U.b;unfold maxLen;omega
     have mw:(ζ nl+1)*160<=140737488355328:=by have:=U.b;omega
     have x:δ w.1+4<=δ ((W3.alloc<|j' (aJ bL (h' ad l c) n gH) 152).alloc<|j' (aJ bL (h' ad l c) n gH) 152).1:=by simp;omega
     have HH:J (_/\_/\_/\_):=⟨v,i,y,x⟩;have ar:=(P.mono<|o5 X).mono<|Re YP.isMap Q;have X:Env W3:=bo.tG Q (by have:=HG.a;first|(simp;omega)|(intro e;have:=dW e;omega)) (by have:=HG.A;first|(simp;done)|(simp;omega)|(intro e;have:=dW e;omega));have fo:=Q?.grown YP.isMap Q;have Q:J (nu W3 nl V/\Env W3/\Ws W3 d 0 (u::r)):=⟨ar,X,fo⟩;clear ar X fo;simp only[aJ,gH]at HH;clear o v i y x P Wp bl wJ my;go_wp2_with (at_builtin;go_must (refine iK _ rfl (.tmp 36) (.tmp 38) 84 rfl (δ w.1+4) 152 N _ 14 160 underlying84 HI.a HI.b HI.c HI.C rfl aj _ _ _ rfl HH.a (O (δ W3.1+1) 0) 1 1 _ rfl rfl HH.b HH.c F mw HH.C ?_;intro i F y x i));have i:=HH.a.lt;have v:=((gY W3 (j' #[m' bL,h' ad l c,G n.aO,G n.var,G n.op,G n.test,i' n.a.aN,G n.a.var,G n.a.bJ,i' n.b.aN,G n.b.var,G n.b.bJ,h' D' 0 0,m' n.dz] 152)<|φ u5).trans<|gY _ (j' #[m' bL,h' ad l c,G n.aO,G n.var,G n.op,G n.test,i' n.a.aN,G n.a.var,G n.a.bJ,i' n.b.aN,G n.b.var,G n.b.bJ,h' D' 0 0,m' n.dz] 152)<|φ u5).trans x;have z:∀j,j<δ w.1+4->some j≠φ u5:=λj f=>On (λq hq=>(i q hq).1) f;have hln:=T4 E (u::r) Qb;have i:=Yc E<|u::r;rw[<-HS.o]at hln i;simp only at hln i;have hB:=U.o;have i:∀g t R,Ws W3 g t R->Ws F g t R:=by intro g t R h;exact Rv (eZ HH.a) x g t R<|(h.alloc _).alloc _
     refine⟨⟨k+1,rR,V++[⟨bL,(u::r).drop kk,n⟩],nl++[⟨bL,ad,l,c,n,D',0,0⟩],I,f',?_,?_,?_,mo.tG v (z _ I)<|z _ I,Q.b.tG v (z _<|L' HG.a)<|z _<|L' HG.A,UF.grown v (z _ I)<|z _ I,?_,?_⟩,by simp[intOf];omega⟩
     .show _=_;rw[B.o,rm,hno,<-HS.o];rfl
     .rw[aW,AV];exact y
     .refine(Q.a.mono i).snoc ⟨rfl,rfl,?_,?_⟩
      .obtain⟨l,u,r⟩:=ir.o trivial;refine⟨d,0+kk,l,i _ _ _ ?_⟩;exact WI Q.B kk
      obtain⟨l,u,r⟩:=ir.o trivial;rw[u];simp
     .refine⟨v.os.trans Y.os,v.tape.trans Y.tape,v.output.trans Y.output,br Y.size v.size,λj f=>(v.block j I<|z j I).trans<|Y.block j f⟩
     refine⟨I,I',?_,L' v.size⟩;intro d Q;rcases eC.1 Q with h|h
     .exact hB.2.2.1 d h
     simp at h;subst h;exact hln
 obtain rfl:k=ζ (IX s):=I;have HF:J (rm [] [] (A6 s)=C' (V,E)):=by show _=_;rw[a.o,xU<|by simp[A6]];rfl
 clear a;have Y:=Wp.cell;have an:=Wp.own;have d:=FV E Wp.nodup;have L:=A wJ.res;have hB:=U.o;by_cases d:8<ζ E
 .have d:decide (8<(ζ E:Int))=P':=by rw[bw];omega
  have HN:J (jG s=Pr.prg):=by show _=_;unfold jG;rw[ax I,HF.o];simp only;rw[ax<|by simp[i6];omega]
  go_wp2_with (at_len;refine xJ _ rfl _ 141 rfl 9 3 underlying141 _ (δ w.1+1) (ζ E) (tab E) rfl an ?_);exact RO
 have d:decide (8<(ζ E:Int))=Q':=by rw[gB];omega
 by_cases v:ζ nl=0\/60<ζ nl
 .have HN:J (jG s=Pr.prg):=by show _=_;unfold jG;rw[ax I,HF.o];simp only;rw[ax (by have:=P.len;simp[i6];intros;omega)]
  obtain⟨a,cp,rfl⟩:=KJ o;have C:∀W,Cl 80 #[h' a (ζ nl) cp] W λe w'=>e=o' (i' Q')/\w'=W:=by
   intro W;by_cases d:ζ nl=0
   .rw[d];exact PX a cp W
   exact PY a _ cp W (by rw[dO];omega) (by rw[bw];omega)
  have d:J (∀W,Cl 80 #[h' a (ζ nl) cp] W λe w'=>e=o' (i' Q')/\w'=W):=C;clear C
  go_wp2_with (first
   |(at_len;refine xJ _ rfl _ 141 rfl 9 3 underlying141 _ (δ w.1+1) (ζ E) (tab E) rfl an ?_)
   |(go_at_call 80;refine bE (d.o _) ?_;rintro e w' ⟨rfl,rfl⟩))
  exact RO
 obtain⟨g,cp,rfl,hgB,K⟩:=GI o I;have k:=ſ (T2 g cp nl wr K I I (λc T=>(hB.2.2.1 c T).1) λc T=>(hB.2.2.1 c T).2);have C:ef nl=ef (V.map PN.nc):=PZ nl V P.len λj c p a b=>⟨(P.each j c p a b).bL,(P.each j c p a b).n⟩;have i:some w.1.size≠C' g:=by simp;omega
 have x:some (δ w.1+3)≠C' g:=by simp;omega
 have l:some (δ w.1+1+1)≠C' g:=by simp;omega
 have o:some (δ w.1+1)≠C' g:=by simp;omega
 have d:J (_/\_/\_/\_):=⟨i,x,l,o⟩;clear i x l o;have r:J (ef nl=ef (V.map PN.nc)):=C;clear C;cases o:ef nl with
 |false=>
  have HN:J (jG s=Pr.prg):=by show _=_;unfold jG;rw[ax I,HF.o];simp only;rw[ax<|by simp only[i6,<-r.o,o];simp]
  go_wp2_with (first
   |(at_len;refine xJ _ rfl _ 141 rfl 9 3 underlying141 _ (δ w.1+1) (ζ E) (tab E) rfl an ?_)
   |(go_at_call 80;refine bE k.o ?_;rintro e C ⟨rfl,D,i⟩;clear L;have L:=A (wJ.grown D d.a d.b).res))
  refine aC (v:=p' #[k' oq,G 2]) (by simp[results40,go_sem,L.1]) rfl ?_;rw[HN.o];refine⟨?_,rfl⟩;have l:Bl w C:=hb.trans ⟨D.os,D.tape,D.output,D.size,λj f=>D.block j (L' hb.size) I'⟩;exact(l.setCell (aD _) _).setCell (aD _) _
 |true=>
  have HN:J (jG s=Pr.ok V E):=by show _=_;unfold jG;rw[ax I,HF.o];simp only;rw[aB (by have:=P.len;simp only[i6,<-r.o,o];simp;omega)]
  go_wp2_with (first
   |(at_len;first|refine xJ _ rfl _ 141 rfl 9 3 underlying141 _ (δ w.1+1) (ζ E) (tab E) rfl r ?_|refine xJ _ rfl _ 141 rfl 9 3 underlying141 _ (δ w.1+1) (ζ E) (tab E) rfl an ?_)
   |(go_at_call 80;refine bE k.o ?_;rintro e C ⟨rfl,D,i⟩;clear L;have L:=A (wJ.grown D d.a d.b).res;have k:=Wp.tG D d.c d.C;have s:=k.cell;have r:=k.own))
  refine aC (v:=p' #[k'<|ei g (ζ nl) cp<|ζ E,G 0]) (by simp[results40,go_sem,L.1]) rfl ?_;rw[HN.o];have l:Bl w C:=hb.trans ⟨D.os,D.tape,D.output,D.size,λj f=>D.block j (L' hb.size) I'⟩;refine⟨(l.setCell (aD _) _).setCell (aD _) _,?_⟩;obtain⟨S,ae,hp,mm,ah⟩:=i o;have cc:=(wJ.grown D d.a d.b).res;have fw:nu C nl V:=P.mono<|Rv (λq hq=>by cases hq;obtain⟨cur,T,_⟩:=K;exact⟨cur,(0,0),T⟩) D;refine⟨g,cp,ae,S,by rw[P.len],I,?_,?_,?_,?_⟩
  .exact mm.of_block<|(bh _ _ _ _ I').trans<|bh _ _ _ _ I'
  .refine nu.mono (w:=C) ?_ ?_
   .refine⟨ah.len.trans P.len,λj c' p K au=>?_⟩;have f:j<ζ nl:=by have:=(aV.1 K).1;have:=ah.len;omega
    have T:=aQ f;obtain⟨c2,a1,a2,a3,a4⟩:=ah.done j _ f T;rw[K]at a1;cases a1;have hr:=fw.each j _ p T au;exact⟨a2.bL.trans hr.bL,a2.n.trans hr.n,by rw[a2.wa];exact hr.ws,a2.wl.trans hr.wl⟩
   intro a t R h;have z:a≠δ w.1:=by rintro rfl;obtain⟨cur,T,_⟩:=h;rw[cc]at T;simp at T
   exact(h.set z _).set z _
  .rw[<-acV nl V P.len (λj c p a b=>(P.each j c p a b).bL)];exact hp
  intro j c' p K au;have f:j<ζ nl:=by have:=(aV.1 K).1;have:=ah.len;omega
  have T:=aQ f;obtain⟨c2,a1,a2,a3,a4⟩:=ah.done j _ f T;rw[K]at a1;cases a1;have hr:=fw.each j _ p T au;have e:fK S p.nc j=fK S nl[j] j:=by unfold fK;rw[hr.n];rfl
  rw[e];have v:(κ C (O w.1.size 0)<|eu g (ζ nl) cp).1[δ w.1]?=C' (j' #[h' (C'<|O g 0) (ζ nl) cp,G 0] 86 (0,0)):=by simp[World.setCell,sH,cc]
  exact U7 (U7 a3 cc aj 0 _) v aj 1 _
def qh(s:z')(w:t')(a:Env w):Cl 40 #[m' s] w (LF w<|jG s):=by
 by_cases h:3000<s.size
 .have e:jG s=Pr.syn:=by rw[jG,aB h]
  rw[e];exact Ks s w (by rw[bw];omega)
 exact Pw s w I a
end
def D!(a:List PN):(a.map PN.nc).map NC.bL=a.map PN.bL:=by simp[PN.nc,xG]
def wW(E:List bD)(v:bD):0<=fY E v:=by unfold fY;split<;>omega
def Yw:(Tryz.prog.info? 9).map (λi=>(i.zero,i.size,i.bytes))=C' (C'<|m' ⟨#[]⟩,1,16):=H
def Inv(s:z')(k fr:Nat)(acc:List z'):Prop:=
 if k<=s.size then acc.map (·.data.toList)++Wm.ik (Wm.sub s.1.1 fr k) (s.1.1.drop k)=Wm.ik [] s.1.1 else acc.map (·.data.toList)=Wm.ik [] s.1.1
def Uj:(Tryz.prog.info? 9).map (λi=>(i.zero,i.size,i.bytes))=C' (C'<|m' ⟨#[]⟩,1,16):=H
def oR(cur:y'):y'->List (y')
 |[]=>[cur]
 |c::r=>if c=32 then cur::oR [] r else oR (cur++[c]) r
def EA(s:z')(a b:Nat):(s.extract a b).1.1=Wm.sub s.1.1 a b:=by simp[Wm.sub,ByteArray.data_extract]
def N?(s:z')(k:Nat)(h:k<s.size):s.1.1.drop k=s[k]::s.1.1.drop (k+1):=
 nC (by rw[Wm.bS s];exact h)
def Ww(s:z')(k fr:Nat)(acc:List z'):Prop:=
 if k<=s.size then acc.map (·.data.toList)++oR (Wm.sub s.1.1 fr k) (s.1.1.drop k)=oR [] s.1.1 else acc.map (·.data.toList)=oR [] s.1.1
def ND(s:z')(k b:Nat)(V:List z')(c:k<=s.size)(Y:b<=k)(a:∀h:k<s.size,s[k]=32)(h:Ww s k b V):Ww s (k+1) (k+1) (V++[s.extract b k]):=by
 have b:=Wm.bS s;unfold Ww at h|-;rw[aB c]at h;by_cases L:k<s.size
 .rw[aB I,Wm.sub_self,eR,df];rw[N? s k L,oR,aB<|a L]at h;simp only[dX,rI,EA,Ju];exact h
 obtain rfl:k=s.size:=I;rw[ax I,eR];rw[show s.1.1.drop s.size=[] from xU I,oR]at h;simp only[dX,rI,EA];exact h
def Yu(s:z')(k b:Nat)(V:List z')(a:k<s.size)(Y:b<=k)(d:s[k]≠32)(h:Ww s k b V):Ww s (k+1) b V:=by have c:=Wm.bS s;unfold Ww at h|-;rw[aB I]at h;rw[aB I];rw[N? s k a,oR,ax d]at h;rw[Wm.yo s.1.1 b k (k+1) Y I,show Wm.sub s.1.1 k (k+1)=[s[k]] by rw[Wm.sub,N? s k a];simp];exact h
def zp:∀{a b:List z'},a.map (·.data.toList)=b.map (·.data.toList)->a=b
 |[],[],_=>rfl
 |[],_::_,h=>by simp at h
 |_::_,[],h=>by simp at h
 |x::a,y::b,h=>by simp only[dX,L5]at h;rw[Â h.1,zp h.2]
def tV(x:z'):Bool:=x.1.1.getLast?==C' 58
def Yk(x:z')(h:0<x.size):(((x[x.size-1]'(I)).toNat:Int)==58)=tV x:=by
 unfold tV;have X:=Wm.bS x;have e:x.1.1.getLast?=C' (x[x.size-1]'(I)):=by rw[C7,X,aQ I];rfl
 rw[e,cK];simp only[eo,dq];constructor
 .intro h;apply Bq.1;show _=58;omega
 intro h;rw[h];rfl
def PC{w:t'}{B n:Nat}{v:A'}{R:List z'}(h:ρ w B 9 1 v n<|R.map m')(D:0<n):∃g a,v=h' (C'<|O g 0) n a/\B<=g/\n<=a/\Ws w g 0 R:=by
 have X:=h.1;rcases h.2 with⟨rfl,e⟩|⟨g,a,Y,b,c,f,T,d,y,U⟩
 .omega
 refine⟨g,a,b,c,T,Y,f,?_⟩;rw[C6];rw[bA]at X;rw[<-U];congr 1
def NV{p:Prop}(h:p:=by
 go_wp2_with (at_builtin;refine iK _ rfl (.tmp 22) (.tmp 27) 101 rfl w.1.size 9 N (m' ⟨#[]⟩) 1 16 underlying101 K.a K.b K.c K.C rfl aj _ _ _ rfl (o.alloc _) (O wr.1.size 0) 1 1 [m'<|s.extract b k] rfl rfl Ap (by intro u C;simp at C;subst C;rfl) (by unfold maxLen;omega) I I' ?_;intro E W4 x W _)
 all_goals
  go_roundw
  case rel=>
   refine⟨k+1,k+1,V++[s.extract b k],I,I,f',f',p.o,I',?_,(U.alloc l _).grown W I' λq B=>(o.lt q B).1⟩;rw[aW,eR];exact x
  exact H'):p:=h
def Oy(s:z')(P:z')(r q:List z')(w:t')(y:s.size<=3001)(U:oR [] s.1.1=(P::r).map (·.data.toList))(h0:0<P.size)(c:P.size<=3001)(a:tV P=P'->r≠[])(B:q=if tV P then r else P::r):
  Cl 101 #[m' s] w λe f=>∃g t c,e=o' (h' (C'<|O g t) (ζ q) c)/\Ws f g t q/\δ w.1<=g/\Bl w f:=by
 obtain⟨N,b,D,X,Cn⟩:=cG Uj;have K:J (Tryz.prog.info? 9=C' N/\N.zero=C' (m' ⟨#[]⟩)/\N.size=1/\N.bytes=16):=⟨b,D,X,Cn⟩;have Q:=ſ<|M U<|M h0 a;have S:=ſ B;clear b D X Cn U a B;have c:=Wm.bS s;go_enter func101,ntmps101;go_wp2;go_loopw[3,4,5] (λv f i wr=>∃(k b:Nat)(V:List z'),k<=s.size+1/\b<=k/\i=G k/\f=G b/\J (Ww s k b V)/\ζ V<=k/\ρ wr w.1.size 9 1 v (ζ V) (V.map m')/\Bl w wr) (λ_ _ i _=>s.size+1-(intOf i).toNat)
 case atStart=>exact⟨0,0,[],I,I,rfl,rfl,by show Ww _ _ _ _;simp[Ww,Wm.sub],ak,cY _ _ _ _,aP _ _⟩
 obtain⟨k,b,V,hk,a,rfl,rfl,T,F,o,U⟩:=hrel;have l:=U.size;by_cases R:k<=s.size
 .have mz:(k:Int)<=(s.size:Int):=I;have j:(b:Int)<=k:=I;by_cases c:k=s.size
  .have p:=ſ<|ND s k b V R a (λh=>I) T.o;clear T;have z:((k:Int)==(s.size:Int))=P':=by rw[eo];omega
   clear c;exact NV
  have f:k<s.size:=I;have z:((k:Int)==(s.size:Int))=Q':=by rw[dO];omega
  cases c:((s[k].toNat:Int)==32)with
  |false=>
   have p:=ſ<|Yu s k b V f a (λe=>by rw[e]at c;simp at c) T.o;clear T;go_wp2;go_roundw
   case rel=>exact⟨k+1,b,V,I,I,f',rfl,p.o,I,o,U⟩
   exact H'
  |true=>have p:=ſ<|ND s k b V R a (λh=>by have:=eo.1 c;apply Bq.1;show s[k].toNat=32;omega) T.o;clear T;exact NV
 have mz:¬(k:Int)<=(s.size:Int):=I;have d:V=P::r:=by have:=T.o;unfold Ww at this;rw[ax R,Q.a]at this;exact zp this
 subst d;obtain⟨g,D,d,hg,Qn,Y⟩:=PC o ak;subst d;have HW:=ſ<|M Y<|M hg U;have b:=Y.cell 0 P rfl;rw[k!]at b;have f:0<(P.size:Int):=I;have X:(P.size:Int)<=3001:=I;have Cn:1<=(P.size:Int):=I;have b:0<=(P.size:Int)-1:=I;have b:(P.size:Int)-1<(P.size:Int):=I;have m:=Yk P h0;have L:ζ (P::r)=ζ r+1:=rfl;rw[L];have d:=Q.B;clear T o Y U R hk a F Q;cases T:tV P with
 |true=>
  have o:1<=ζ r:=by have:=d T;cases r;(· exact absurd rfl this);simp
  rw[T]at m;have B:q=r:=by have:=S.o;rwa[T]at this
  have a:=ſ<|M o B;have b:(1:Int)<=((ζ r+1:Nat):Int):=I;have b:2<=D:=by rw[L]at Qn;omega
  have b:¬D=1:=I;have b:1<D:=I;clear d T hg l S B o;go_upto_region 9 with fail
  go_quiet (fail);go_wp2_with fail;go_ret;refine⟨g,1,⟨D-1,?_⟩,?_,HW.b,below_drewN HW.B _⟩
  .rw[a.A];rfl
  rw[a.A];exact HW.a.tail
 |false=>
  rw[T]at m;have B:q=P::r:=by have:=S.o;rwa[T]at this
  have a:=ſ B;clear d T S B;go_upto_region 9 with fail
  go_quiet (fail);go_wp2_with fail;go_ret;refine⟨g,0,⟨D,?_⟩,?_,HW.b,below_drewN HW.B _⟩
  .rw[a.o];rfl
  rw[a.o];exact HW.a
def CQ(w:t')(B b:Nat)(l:y'):Prop:=
 B<=b/\∃p v,(p=n' D'\/p=n' (C'<|O b 0))/\w.1[b]?=C' (j' #[p,v] 159 (0,0))/\ρ w B 5 1 v (ζ l) (Lib.byteCells l)/\φ v≠C' b
def vI:(Tryz.prog.info? 159).map (·.size)=C' 2:=H
def G5:liesAt Tryz.prog Tryz.prog.depth 159 (2 / Tryz.prog.cellsOf 159) 0 159 1=P':=H
def wQ(b:Nat)(v:A')(w:t')(h:w.1[b]?=C' (j' #[n' D',v] 159 (0,0))):
  Cl 130 (bM b) w λe a=>e=o' (p' #[])/\a=κ w (O b 0) (lR b):=by
 have T:χ w (O b 0)=C' (.pointer D'):=by simp[World.cell?,h]
 have Y:w.frozen? (O b 0)=Q':=by simp[World.frozen?,h]
 have c:w.shape? b=C' (159,2):=by simp[World.shape?,h]
 clear h;obtain⟨j,f,a⟩:=C4.1 vI;go_enter func130,ntmps130;go_wp2;rw[Lib.run_to_unsafe w (O b 0) underlying156 underlying314 f (by rw[a];decide) c<|Nat.zero_lt_succ 1];simp only[Result.andThen];rw[Ja];go_wp2;rw[run_callFunc_extern func199 H H H (e:=Extern.AbiNoEscape.same) H,Lib.run_noEscape];simp only[Result.andThen];rw[Ja];go_wp2;rw[Lib.run_from_unsafe w (O b 0) underlying314 underlying156 f c G5];simp only[Result.andThen];rw[Ja];go_wp2
 go_end0
 exact⟨rfl,rfl⟩
def z7(b:Nat)(v:A')(w:t')(h:w.1[b]?=C' (j' #[n'<|C'<|O b 0,v] 159 (0,0))):
  Cl 130 (bM b) w λe a=>e=o' (p' #[])/\a=w:=by
 have T:χ w (O b 0)=C' (lR b):=by simp[World.cell?,h]
 clear h;obtain⟨j,f,_⟩:=C4.1 vI;go_enter func130,ntmps130;go_wp2;rw[Lib.run_neq_ptr_same w _ underlying156 f];go_wp2
 go_end0
 exact⟨rfl,rfl⟩
def Of(w:t')(B b:Nat)(l:y'):Prop:=
 B<=b/\∃v,w.1[b]?=C' (j' #[n'<|C'<|O b 0,v] 159 (0,0))/\ρ w B 5 1 v (ζ l) (Lib.byteCells l)/\φ v≠C' b
theorem Mo(h:p:=by
 rcases i.2 with h|⟨g,u,Y,R,C,a,N⟩
 .exact aI h
 refine aH ⟨g,u,Y,R,C,(bh _ _ _ _ ?_).trans a,N⟩;rintro rfl
 exact d<|by rw[R];rfl):p:=h
def rA(B a:Nat)(l:y')(w:t')(h:CQ w B a l):
  Cl 130 (bM a) w λe u=>e=o' (p' #[])/\Of u B a l/\Kp a w u/\Below B w u:=by
 obtain⟨f,p,v,U,c,i,d⟩:=h;rcases U with rfl|rfl;rotate_left
 .refine(z7 a v w c).mono ?_;rintro e u ⟨rfl,rfl⟩;exact⟨rfl,⟨f,v,c,i,d⟩,Kp.refl _ _,aP _ _⟩
 refine(wQ a v w c).mono ?_;rintro e u ⟨rfl,rfl⟩;refine⟨rfl,⟨f,v,?_,?_,d⟩,zz (Kp.refl a w) 0 _,(aP B w).setCell (p:=(O a 0)) f _⟩
 .simp[World.setCell,sH,c]
 refine⟨i.1,?_⟩;exact Mo
def QI(l:y')(s:z'):Lib.byteCells l++Lib.strCells s=Lib.byteCells (l++s.1.1):=by simp[Lib.byteCells,Lib.strCells]
theorem NG(h:p:=by
 rcases i.2 with⟨R,_⟩|⟨g,u,Y,R,_,a,_⟩
 .rw[R];simp[Value.ownBlock]
 rw[R];simp only[Value.ownBlock,ne_eq,dq];rintro rfl;rw[X]at a
 simp at a):p:=h
def gW(B b:Nat)(l:y')(s:z')(w:t')(h:CQ w B b l)(L:ζ l+s.size<=140737488355328)(d:B<=δ w.1):
  Cl 81 (Bv b s) w λe d=>(∃n,e=o' (p' #[G n,.nilIface]))/\CQ d B b (l++s.1.1)/\Kp b w d/\Below B w d:=by
 obtain⟨N,S,D,P,f⟩:=cG tH;go_enter func81,ntmps81;go_wp2_with (go_at_call 130;refine(rA B b l _ h).mono ?_);rintro e d ⟨rfl,C,Q,c⟩;obtain⟨j,v,r,o,z⟩:=C;have T:χ d (O b 0)=C' (lR b):=by rw[ki r];rfl
 have k:χ d (O b 1)=C' v:=by rw[ki r];rfl
 go_wp2_with (at_builtin;refine Lib.wpList_append_own_string _ rfl _ _ 157 9 rfl B 5 N underlying157 underlying9 S D P f _ _ _ rfl o s rfl ?c3 ?c4 ?c5 ?_)
 case c3=>unfold maxLen;omega
 case c4=>omega
 case c5=>have:=c.size;omega
 intro g W i F _;have L:b<δ d.1:=(bG.1 r).1;have X:W.1[b]?=C' (j' #[n'<|C'<|O b 0,v] 159 (0,0)):=by rw[F.block b L λe=>z e.symm];exact r
 have t:χ W (O b 0)=C' (lR b):=by rw[ki X];rfl
 have Y:χ W (O b 1)=C' v:=by rw[ki X];rfl
 have K:W.frozen? (O b 1)=Q':=Dc X 1;obtain⟨q,u,a,rfl⟩:∃q u a,g=h' q u a:=by
  rcases i.2 with⟨R,_⟩|⟨g,a,Y,R,_⟩
  .exact⟨_,_,_,R⟩
  exact⟨_,_,_,R⟩
 go_wp2;go_ret2;have d:φ (h' q u a)≠C' b:=by exact NG
 refine⟨⟨_,rfl⟩,⟨j,_,_,aH rfl,?_,?_,d⟩,zz (Q.trans<|zA F o) 1 _,(c.grown F (L' c.size) λk a=>(o.lt k a).1).setCell (p:=(O b 1)) j _⟩
 .simp[World.setCell,sH,X]
 rw[QI]at i;rw[aW,Wm.bS];refine⟨by simpa using i.1,?_⟩;exact Mo
def ri(B b:Nat)(l:y')(c:UInt8)(w:t')(h:CQ w B b l)(L:ζ l+1<=140737488355328)(d:B<=δ w.1):
  Cl 82 #[n'<|C'<|O b 0,.int .u8 c.toNat] w λe d=>e=o' .nilIface/\CQ d B b (l++[c])/\Kp b w d/\Below B w d:=by
 obtain⟨N,S,D,P,d⟩:=cG tH;go_enter func82,ntmps82;go_wp2_with (go_at_call 130;refine(rA B b l _ h).mono ?_);rintro e k ⟨rfl,C,Q,m⟩;obtain⟨p,v,r,f,z⟩:=C;have T:χ k (O b 0)=C' (lR b):=by rw[ki r];rfl
 have c1:χ k (O b 1)=C' v:=by rw[ki r];rfl
 go_wp2_with (at_builtin;refine iK _ rfl _ _ 157 rfl B 5 N (.int .u8 0) 1 1 underlying157 S D P d rfl aj _ _ _ rfl (f.alloc _) (O k.1.size 0) 1 1 [.int .u8 c.toNat] rfl rfl ?c1 ?c2 ?c3 ?c4 ?c5 ?_)
 case c1=>
  intro j u hj
  match j,hj with
  |0,hj=>simp at hj;subst hj;simp[Addr.add]
 case c2=>intro u a;simp at a;subst a;rfl
 case c3=>unfold maxLen;omega
 case c4=>omega
 case c5=>have:=m.size;simp;omega
 intro g W i F _;have L:b<δ k.1:=(bG.1 r).1;have X:W.1[b]?=C' (j' #[n'<|C'<|O b 0,v] 159 (0,0)):=by rw[F.block b I' λe=>z e.symm];exact(ch _ _ _ L).trans r
 have t:χ W (O b 0)=C' (lR b):=by rw[ki X];rfl
 have Y:χ W (O b 1)=C' v:=by rw[ki X];rfl
 have K:W.frozen? (O b 1)=Q':=Dc X 1;obtain⟨q,o,a,rfl⟩:∃q o a,g=h' q o a:=by
  rcases i.2 with⟨R,_⟩|⟨g,a,Y,R,_⟩
  .exact⟨_,_,_,R⟩
  exact⟨_,_,_,R⟩
 go_wp2;go_ret;have d:φ (h' q o a)≠C' b:=by exact NG
 have s:Kp b k (k.alloc<|j' #[.int .u8 c.toNat] 5):=⟨rfl,rfl,rfl,ak,λk o a _ _=>(ch _ _ _ (bG.1 a).1).trans a⟩;refine⟨rfl,⟨p,_,_,aH rfl,?_,?_,d⟩,zz (Q.trans<|s.trans<|zA F<|f.alloc _) 1 _,((m.alloc (L' m.size) _).grown F (by have:=m.size;simp;omega) λk a=>(f.lt k a).1).setCell (p:=(O b 1)) p _⟩
 .simp[World.setCell,sH,X]
 have e:Lib.byteCells (l++[c])=Lib.byteCells l++[Value.int .u8 c.toNat]:=by simp[Lib.byteCells]
 rw[aW,e];refine⟨by simpa using i.1,?_⟩;exact Mo
def CQ.Hc{w:t'}{B b:Nat}{l:y'}(h:CQ w B b l):Lib.IsBuilderF 159 5 B b (Lib.byteCells l) w:=by
 obtain⟨a,p,v,U,c,b,K⟩:=h;have X:ζ (Lib.byteCells l)=ζ l:=by simp[Lib.byteCells]
 have hF:w.ownsRowF B 5 1 v (ζ<|Lib.byteCells l) (Lib.byteCells l):=by rw[X];exact World.ownsRowF_of b
 rcases U with rfl|rfl
 .exact aI ⟨a,v,c,hF,K⟩
 exact aH ⟨a,v,c,hF,K⟩
def tW(B b:Nat)(l:y')(w:t')(h:CQ w B b l)(D:l≠[]):
  Cl 83 (bM b) w λe a=>e=o' (m' ⟨θ l⟩)/\Below B w a:=
 (Tryz.Builder_String_k B b l w h.Hc D).mono λ_ _ h=>⟨h.1,h.2.2.1⟩
section
variable {m:List PN}{c:Array A'}{f:Nat×Nat}{D:List NC}
def jw(ws:List z'):y':=match ws with|[]=>[]|x::r=>x.1.1++r.flatMap (λy=>32::y.1.1)
def Ê(b:z'):y':=if b.toList.isEmpty then[] else b.1.1++[58,32]
def fU(p:PN):y':=Ê p.bL++jw p.ws++[10]
def mJ(pl:List PN):y':=pl.flatMap fU
def Yr(R:List z')(x:z'):jw (R++[x])=jw R++(if R=[] then[] else[32])++x.1.1:=by
 cases R with
 |nil=>simp[jw]
 |cons a r=>simp[jw]
def Yq(R:List z')(k:Nat)(x:z')(h:R[k]?=C' x):jw (R.take<|k+1)=jw (R.take k)++(if k=0 then[] else[32])++x.1.1:=by
 have X:=(aV.1 h);rw[cX X.1,X.2,Yr];congr 2;by_cases a:k=0
 .subst a;simp
 have:R.take k≠[]:=by intro e;have N:=cQ length e;rw[dG,de]at N;have:=X.1;omega
 simp[a,this]
def S5(m:List PN)(p:PN):mJ (m++[p])=mJ m++fU p:=by simp[mJ]
def S4(m:List PN)(k:Nat)(p:PN)(h:m[k]?=C' p):mJ (m.take<|k+1)=mJ (m.take k)++fU p:=by have X:=(aV.1 h);rw[cX X.1,X.2,S5]
structure Psz(pl:List PN):Prop where
  len:ζ pl<=60
  bL:∀p∈pl,p.bL.size<=3000
  ws:∀p∈pl,ud p.ws
def YY(r:List z')(h:∀x∈r,x.size<=3000):ζ (r.flatMap λy=>32::y.1.1)<=ζ r*3001:=by
 induction r with
 |nil=>simp
 |cons a r B=>have C:=h a ak;have b:=B (λx F=>h x<|by simp[F]);have N:=Wm.bS a;simp only[b9,aW,bR]at b|-;omega
def NM(R:List z')(h:ud R):ζ (jw R)<=10000000:=by
 cases R with
 |nil=>simp[jw]
 |cons a r=>have C:=h.word a ak;have b:=YY r (λx F=>h.word x<|by simp[F]);have N:=Wm.bS a;have d:=h.len;simp only[jw,aW,bR]at b d|-;omega
def Rt(h:ud R)(k:Nat):ud (R.take k):=⟨by have:=h.len;simp;omega,λx F=>h.word x<|lg F⟩
def T7(b:z')(h:b.size<=3000):ζ (Ê b)<=3002:=by have:=Wm.bS b;unfold Ê;split<;>simp;omega
def Yb(p:PN)(C:p.bL.size<=3000)(a:ud p.ws):ζ (fU p)<=10010000:=by have:=T7 p.bL C;have:=NM p.ws a;simp[fU];omega
def Q1:∀(m:List PN),(∀p∈m,p.bL.size<=3000)->(∀p∈m,ud p.ws)->ζ (mJ m)<=ζ m*10010000:=by
 intro m;induction m with
 |nil=>intros;simp[mJ]
 |cons p r B=>intro C c;have a:=Yb p (C p ak)<|c p ak;have b:=B (λx F=>C x<|by simp[F]) (λx F=>c x<|by simp[F]);simp only[mJ,b9,aW,bR]at b|-;omega
def Psz.WY(h:Psz m)(k:Nat):ζ (mJ<|m.take k)<=700000000:=by
 have:=Q1 (m.take k) (λp U=>h.bL p<|lg U) λp U=>h.ws p<|lg U;have a:=h.len;have N:ζ (m.take k)<=60:=by simp;omega
 omega
def OK{l:y'}(h:CQ w B b l)(d:w.1[k]?=C' (j' c t f))(U:t≠159):k≠b:=by rintro rfl;obtain⟨_,p,v,_,a,_⟩:=h;rw[d]at a;simp at a;exact U a.2.1
def zB{l:y'}(h:CQ w B b l)(d:Kp b w a)(T:w.1[k]?=C' (j' c t f))(U:t≠159)(l:t≠5):a.1[k]?=w.1[k]?:=by rw[d.keep k _ T (OK h T U) (λa a e=>by simp at e;exact l e.2.1),T]
def Ws.kp{t:Nat}{l:y'}(h:Ws w g t R)(v:CQ w B b l)(c:Kp b w a):Ws a g t R:=by obtain⟨Y,T,U⟩:=h;exact⟨Y,(zB v c T aj aj).trans T,U⟩
def fN.kp{c:t'}{a:Nat}{l:y'}(h:fN w g a D)(v:CQ w B b l)(d:Kp b w c):fN c g a D:=by obtain⟨Y,T,U⟩:=h;exact⟨Y,(zB v d T aj aj).trans T,U⟩
def CQ.alloc{l:y'}(h:CQ w B b l)(o:Obj):CQ (w.alloc o) B b l:=by obtain⟨c,p,v,U,a,b,K⟩:=h;exact⟨c,p,v,U,(ch _ _ _ (bG.1 a).1).trans a,b.alloc o,K⟩
def fR(h:nu w D m)(o:Obj):nu (w.alloc o) D m:=h.mono λ_ _ _ h=>h.alloc o
def Iw{l:y'}{L:Array A'}(h:w.1[k]?=C' (cL L t))(U:t≠159)(d:t≠5)(v:CQ w B b l)(c:Kp b w a):a.1[k]?=C' (cL L t):=
 (zB v c h U d).trans h
def NL(h:p:=by
 obtain⟨m,d,rfl,v,K,E,j,N⟩:=hrel;have gm:=N.size;have hJ:=hA.o m;by_cases mj:m<ζ p.ws;rotate_left
 .obtain rfl:m=ζ p.ws:=I;rw[nB]at v hJ;go_wp2_with (go_at_call 82;refine(ri w.1.size (δ w.1+1) _ 10 _ v I I).mono ?_;rintro e W4 ⟨rfl,Q,o,u⟩);go_roundw
  case rel=>
   refine⟨k+1,I,f',?_,K.kp v o,E.mono λ_ _ _ h=>h.kp v o,N.trans u⟩;rw[S4 t k p hp];simpa[fU,df]using Q
  exact H'
 obtain⟨x,F⟩:=La mj;have ck:=j.cell m x F;have ahu:=W.word x<|aK F;have gh:ζ (mJ (t.take k)++Ê p.bL++jw (p.ws.take m)++[32])+x.size<=140737488355328:=by rw[aW,fP];omega
 have hxs:=W.word x<|aK F;have hmi:(m:Int)<(ζ p.ws:Int):=I;have HT:=ſ<|Yq p.ws m x F;by_cases h0:m=0
 .subst h0;have ahv:χ wr (O ga oa)=C' (m' x):=ck;clear ck gh;go_wp2_with (go_at_call 81;refine(gW w.1.size (δ w.1+1) _ x _ v I I).mono ?_;rintro e C ⟨⟨_,rfl⟩,P,c,z⟩);go_roundw
  case rel=>
   refine⟨1,I,f',?_,K.kp v c,E.mono λ_ _ _ h=>h.kp v c,j.kp v c,N.trans z⟩;rw[HT.o];simpa[df]using P
  exact H'
 have hm0:decide (0<(m:Int))=P':=by rw[bw];omega
 go_wp2_with (first
  |(go_at_call 82;refine(ri w.1.size (δ w.1+1) _ 32 _ v I I).mono ?_;rintro e W4 ⟨rfl,Q,o,u⟩;have ahD:=u.size)
  |(go_at_call 81;refine(gW w.1.size (δ w.1+1) _ x _ Q gh I).mono ?_;rintro e C ⟨⟨_,rfl⟩,P,c,z⟩))
 go_roundw
 case rel=>
  refine⟨m+1,I,f',?_,(K.kp v o).kp Q c,(E.mono λ_ _ _ h=>h.kp v o).mono λ_ _ _ h=>h.kp Q c,(j.kp v o).kp Q c,(N.trans u).trans z⟩;rw[HT.o,ax h0];simpa[df]using P
 exact H'):p:=h
def Po(g S:Nat)(r:Int)(D:List NC)(t:List PN)(w:t')(K:fN w g S D)(E:nu w D t)(f:Psz t)(h0:0<ζ t):
  Cl 41 #[k'<|ei g (ζ t) S r] w (Rb w<|m' ⟨θ<|mJ t⟩):=by
 have B:=K.lt;go_enter func41,ntmps41;go_wp2_with fail;have a:CQ ((w.alloc<|j' (ei g (ζ t) S r) 86).alloc<|j' #[n' D',h' D' 0 0] 159) w.1.size (δ w.1+1) []:=by refine⟨I,_,_,aI rfl,?_,cY _ _ _ _,by simp[Value.ownBlock]⟩;have:=bj (w.alloc<|j' (ei g (ζ t) S r) 86)<|j' #[n' D',h' D' 0 0] 159;simpa using this
 go_loopw[11] (λi wr=>∃(k:Nat),k<=ζ t/\i=G k/\CQ wr w.1.size (δ w.1+1) (mJ<|t.take k)/\fN wr g S D/\nu wr D t/\Bl w wr) (λi _=>ζ t-(intOf i).toNat)
 case atStart=>
  exact⟨0,bq _,rfl,a,(K.alloc _).alloc _,fR (fR E _) _,((aP _ _).alloc (aD _) _).alloc ak _⟩
 clear a K E;obtain⟨k,r,rfl,v,K,E,N⟩:=hrel;have r:=E.len;have l:=N.size;by_cases L:k<ζ t;rotate_left
 .obtain rfl:k=ζ t:=I
  rw[nB]at v;have s:mJ t≠[]:=by
   cases t with
   |nil=>simp at h0
   |cons p r=>simp[mJ,fU]
  have r:=(show J (mJ t≠[])from s);clear s;go_wp2_with (go_at_call 83;refine(tW w.1.size (δ w.1+1) _ _ v r.o).mono ?_;rintro e W4 ⟨rfl,u⟩);go_ret;exact⟨rfl,N.trans u⟩
 obtain⟨p,hp⟩:=La L;obtain⟨c,T⟩:=La (l:=D) (i:=k) I;obtain⟨q0,R,q2,q3,q4,y,q6,q7,q8,q9,q10,q11,aa,q13⟩:=K.all k c T;have b:=E.each k c p T hp;have W:=f.ws p<|aK hp;have r:=f.bL p<|aK hp;have s:=W.len;have s:=f.len;have s:=f.WY k;have a:∀m,ζ (mJ (t.take k)++Ê p.bL++jw (p.ws.take m))<=800000000:=by intro m;have f:=T7 p.bL r;have f:=NM (p.ws.take m)<|Rt W m;simp only[aW];omega
 have U:=ſ a;clear a;have f:(k:Int)<(ζ t:Int):=I;obtain⟨ga,oa,d,Q?⟩:=b.ws;obtain⟨f,f,wl,wc,n,f,V,B⟩:=c;obtain⟨rfl,rfl,_,rfl⟩:=b;simp only at d;subst d;simp only at q0 R q2 q3 q4 y q6 q7 q8 q9 q10 q11 aa q13;have a:=U.o;cases b:p.bL.toList.isEmpty with
 |true=>
  have HL:J (Ê p.bL=[]):=by show _=_;rw[Ê,b];rfl
  clear a;go_wp2_with fail;have a:=U.o;have hA:=ſ a;clear a;go_loopw[25] (λi q=>∃(m:Nat),m<=ζ p.ws/\i=G m/\CQ q w.1.size (δ w.1+1) (mJ (t.take k)++Ê p.bL++jw (p.ws.take m))/\fN q g S D/\nu q D t/\Ws q ga oa p.ws/\Bl w q) (λi _=>ζ p.ws-(intOf i).toNat)
  case atStart=>exact⟨0,bq _,rfl,by rw[HL.o];simpa[jw]using v.alloc _,K.alloc _,fR E _,Q?.alloc _,N.alloc l _⟩
  clear v K E N Q? q0 R q2 q3 q4 y q6 q7 q8 q9 q10 q11 aa q13;exact NL
 |false=>
  have HL:J (Ê p.bL=p.bL.1.1++[58,32]):=by show _=_;rw[Ê,b];rfl
  have hA:=ſ a;clear a
  go_wp2_with (first
   |(go_at_call_of 81 (Value.string p.bL);refine(gW w.1.size (δ w.1+1) _ p.bL _ (v.alloc _) I I').mono ?_;rintro e B ⟨⟨_,rfl⟩,b,a,X⟩;have r:=Iw (bj wr _) aj aj (v.alloc _) a;obtain⟨L,f⟩:=A r;have gm:=X.size;have s:=(bG.1 r).1)
   |(go_at_call 81;refine(gW w.1.size (δ w.1+1) _ ⟨#[58,32]⟩ _ b (by simp;have:(ByteArray.mk #[58,32]).size=2:=rfl;omega) (by simp at gm;omega)).mono ?_;rintro e s ⟨⟨_,rfl⟩,B,U,Y⟩;have s:=Iw r aj aj b U;clear L f;obtain⟨L,f⟩:=A s))
  go_loopw[25] (λi q=>∃(m:Nat),m<=ζ p.ws/\i=G m/\CQ q w.1.size (δ w.1+1) (mJ (t.take k)++Ê p.bL++jw (p.ws.take m))/\fN q g S D/\nu q D t/\Ws q ga oa p.ws/\Bl w q) (λi _=>ζ p.ws-(intOf i).toNat)
  case atStart=>exact⟨0,bq _,rfl,by rw[HL.o];simpa[jw,df]using B,((K.alloc _).kp (v.alloc _) a).kp b U,((fR E _).mono λ_ _ _ h=>h.kp (v.alloc _) a).mono λ_ _ _ h=>h.kp b U,((Q?.alloc _).kp (v.alloc _) a).kp b U,((N.alloc l _).trans X).trans Y⟩
  clear v K E N Q? b B a U X Y r s L f q0 R q2 q3 q4 y q6 q7 q8 q9 q10 q11 aa q13;exact NL
def Ru(h:ud R)(k:Nat):ud (R.drop k):=⟨by have:=h.len;simp;omega,λx F=>h.word x<|mem_of_mem_drop F⟩
def Q4:∀(L:List<|List z')(E:List bD)(V b:List PN)(a:List bD),(∀R∈L,ud R)->(∀p∈V,p.bL.size<=3000/\ud p.ws)->rm E V L=C' (b,a)->∀p∈b,p.bL.size<=3000/\ud p.ws:=by
 intro L;induction L with
 |nil=>intro E V b a _ c h;simp[rm]at h;rw[<-h.1];exact c
 |cons R r B=>
  intro E V b a C c h;have f:=C R ak;rw[rm]at h;split at h
  .exact B E V b a (λx F=>C x<|by simp[F]) c h
  split at h
  .refine B _ _ b a (λx F=>C x<|by simp[F]) ?_ h;intro p U;rcases eC.1 U with U|U
   .exact c p U
   simp at U;subst U;exact⟨(T4 E R f).1,Ru f _⟩
  cases h
def Q3(s:z')(h:s.size<=3000):∀R∈A6 s,ud R:=by intro R z;obtain⟨x,F,rfl⟩:=bp.1 z;exact RC x<|L'<|G0 s x F
def kt{s:z'}{b:List PN}{E:List bD}(h:jG s=Pr.ok b E):Psz b/\0<ζ b/\i6 b E=P'/\rm [] [] (A6 s)=C' (b,E)/\s.size<=3000:=by
 unfold jG at h;split at h
 .cases h
 rename_i y;split at h
 .cases h
 rename_i a a a;split at h;rotate_left
 .cases h
 rename_i U;cases h;have f:=Q4 (A6 s) [] [] b E (Q3 s I) ak a;have c:=U;simp only[i6,aS,bw]at c;exact⟨⟨c.1.2,λp U=>(f p U).1,λp U=>(f p U).2⟩,c.1.1.2,U,a,I⟩
def MZ(s:z'):z':=match jG s with | .inr (pl,_)=>⟨θ<|mJ pl⟩|_=>⟨#[]⟩
def A2(s:z'):Int:=match jG s with | .inr (_,_)=>0 | .inl false=>1 | .inl true=>2
def MM(h:p:=by
 clear c;go_enter func17,ntmps17;go_wp2_with (go_at_call 40;refine hP.mono ?_;rintro e t ⟨l,rfl⟩);go_ret2;rw[T.a,T.A]
 exact⟨rfl,l.alloc l.size _⟩):p:=h
def ye(s:z')(w:t')(a:Env w):
  Cl 17 #[m' s] w (Rb w<|p' #[m'<|MZ s,G<|A2 s]):=by
 have hP:=qh s w a;rcases c:jG s with b|⟨m,E⟩;rotate_left
 .skip
  obtain⟨f,D,_⟩:=kt c;rw[c]at hP;have T:J (MZ s=⟨θ<|mJ m⟩/\A2 s=0):=⟨by rw[MZ,c],by rw[A2,c]⟩;clear c;go_enter func17,ntmps17
  go_wp2_with (first
   |(go_at_call 40;refine hP.mono ?_;rintro e t ⟨l,g,h,i,S,rfl,d,p,v,B,a⟩)
   |(go_at_call 41;refine(Po g h _ i m _ (p.alloc _) (fR v _) f D).mono ?_;rintro e F ⟨rfl,X⟩))
  go_ret2;rw[T.a,T.A];exact⟨rfl,(l.alloc l.size _).trans<|X.mono (by have:=l.size;simp;omega)⟩
 cases b with
 |false=>rw[c]at hP;have T:J (MZ s=⟨#[]⟩/\A2 s=1):=⟨by rw[MZ,c],by rw[A2,c]⟩;exact MM
 |true=>rw[c]at hP;have T:J (MZ s=⟨#[]⟩/\A2 s=2):=⟨by rw[MZ,c],by rw[A2,c]⟩;exact MM
end
section
variable {x a b:Int}
structure VV where
  any:Bool
  lo:Int
  hi:Int
def VV.xw(a b:VV):Bool:=a.any==b.any&&a.lo==b.lo&&a.hi==b.hi
def VV.l?(a b:VV):VV.xw a b=P'↔a=b:=by obtain⟨N,c,c⟩:=a;obtain⟨a,o,x⟩:=b;simp[VV.xw,and_assoc]
def VV.fM:VV:=⟨P',0,0⟩
def VV.one(c:Int):VV:=⟨Q',c,c⟩
def VV.all:VV:=⟨Q',-9223372036854775808,9223372036854775807⟩
abbrev EV:=Option<|List VV
structure ç(v:VV):Prop where
  lo:-2^63<=v.lo/\v.lo<=9223372036854775807
  hi:-2^63<=v.hi/\v.hi<=9223372036854775807
def aT(x:Int):Bool:=decide (-9223372036854775808<=x)&&decide (x<=9223372036854775807)
def oW(p:Int)(a b:VV):VV:=if p=5 then(if VV.xw a b then a else VV.fM) else⟨a.any,if b.lo<a.lo then b.lo else a.lo,if b.hi>a.hi then b.hi else a.hi⟩
def A7(p:Int):EV->EV->EV
 |none,b=>b
 |some a,none=>C' a
 |some a,some b=>C'<|zipWith (oW p) a b
def QL(p:Int):EV->EV->Bool
 |none,_=>P'
 |some _,none=>Q'
 |some a,some b=>(zip a b).all λx=>VV.xw (oW p x.1 x.2) x.2
def cx(a:VV)(lo hi:Int):VV:=⟨a.any,if lo>a.lo then lo else a.lo,if hi<a.hi then hi else a.hi⟩
def LW(a b c d:Int)(f:Bool):VV:=if f then oW 6 (oW 6 (oW 6 (VV.one a)<|VV.one b)<|VV.one c) (VV.one d) else VV.all
def E2(a b:VV):VV:=LW (a.lo+b.lo) (a.hi+b.hi) (a.lo+b.lo) (a.hi+b.hi)<|aT (a.lo+b.lo)&&aT (a.hi+b.hi)
def rS(a b:VV):VV:=LW (a.lo-b.hi) (a.hi-b.lo) (a.lo-b.hi) (a.hi-b.lo)<|aT (a.lo-b.hi)&&aT (a.hi-b.lo)
def Ed(a b:VV):VV:=LW (a.lo*b.lo) (a.lo*b.hi) (a.hi*b.lo) (a.hi*b.hi)<|aT (a.lo*b.lo)&&aT (a.lo*b.hi)&&aT (a.hi*b.lo)&&aT (a.hi*b.hi)
def jN(a b:VV):Option VV:=
 if b.lo≠b.hi then C' VV.all
 else if b.lo=0 then D'
 else if b.lo=-1 then C' (rS ⟨Q',0,0⟩ a)
 else if 0<b.lo then C' ⟨Q',a.lo.tdiv b.lo,a.hi.tdiv b.lo⟩
 else C' ⟨Q',a.hi.tdiv b.lo,a.lo.tdiv b.lo⟩
def ct(h:aT x=P'):wrap64 x=x:=by unfold aT at h;simp only[aS,bw]at h;unfold wrap64;omega
def Jx(x:Int):∃k:Int,wrap64 x=x+k*18446744073709551616:=by unfold wrap64;exact⟨-((x+2^63) / 18446744073709551616),I⟩
def É(x:Int):aT (wrap64 x)=P':=by simp only[aT,wrap64,aS,bw];omega
def TH(e:aT b=P')(D:b≠0):((wrap64<|a*b).tdiv b==a)=aT (a*b):=by
 by_cases Y:aT (a*b)=P'
 .rw[Y,ct Y,Int.mul_tdiv_cancel _ D];simp
 rw[j0]at Y;rw[Y,dO];intro l;obtain⟨k,c⟩:=Jx<|a*b;have d:k≠0:=by rintro rfl;have:=É<|a*b;rw[c]at this;simp at this;rw[this]at Y;cases Y
 have d:=Int.tmod_add_mul_tdiv (wrap64<|a*b) b;rw[l,c]at d;have c:(a*b+k*18446744073709551616).tmod b=k*18446744073709551616:=by have:=Fl b a;omega
 have C:((a*b+k*18446744073709551616).tmod b).natAbs<b.natAbs:=by rw[Int.natAbs_tmod];exact Fk _ I
 rw[c]at C;unfold aT at e;simp only[aS,bw]at e;omega
def xi(F:aT x=P')(D:b≠0)(C:b≠-1):aT (x.tdiv b)=P':=by
 unfold aT at F|-;simp only[aS,bw]at F|-;by_cases a:b=1
 .subst a;rw[Int.tdiv_one];exact F
 have a:(x.tdiv b).natAbs<=x.natAbs / 2:=by rw[Int.natAbs_tdiv];exact Nat.div_le_div_left I I
 omega
def PQ(c:aT b=P')(D:b≠0)(C:b≠-1):(wrap64 ((wrap64<|a*b).tdiv b)==a)=aT (a*b):=by rw[ct<|xi (É _) D C];exact TH c D
end
def lA(o a b:Int):Int:=if o=0 then wrap64 (a+b) else if o=1 then wrap64 (a-b) else if o=2 then wrap64 (a*b) else if b=0 then 0 else wrap64 (a.tdiv b)
def qQ(o b:Int):Bool:=o==0||o==1||o==2||!(b==0)
def o!(t a b:Int):Bool:=if t=0 then decide (a<b) else if t=1 then decide (a<=b) else if t=2 then a==b else a !=b
def ZQ:wrap64 0=0:=by unfold wrap64;omega
def NO{p:Prop}(h:p:=by
 go_enter func172,ntmps172;go_wp2
 all_goals
  go_ret2
  refine⟨uM ?_ ?_,rfl⟩<;>simp_all[lA,qQ,ZQ]):p:=h
def vw(o a b:Int)(w:t'):
  Cl 172 #[G o,G a,G b] w λe c=>e=o' (p' #[G<|lA o a b,i'<|qQ o b])/\c=w:=by
 by_cases a:b=0
 .subst a;exact NO
 have D:(b==0)=Q':=by simp[a]
 exact NO
def Co(t a b:Int)(w:t'):
  Cl 173 #[G t,G a,G b] w λe c=>e=o' (i'<|o! t a b)/\c=w:=by
 go_enter func173,ntmps173;go_wp2
 all_goals
  go_ret;refine⟨aZ ?_,rfl⟩<;>simp_all[o!]
section
variable {K:Type}
structure Pm where
  nd:List SN
  nx:List (List Nat)
  nv:Nat
def A5(ps:List<|bD×Nat):Nat->List PN->List (List Nat)
 |_,[]=>[]
 |j,p::r=>(fK ps p.nc j).map Int.toNat::A5 ps (j+1) r
def e!(pl:List PN)(ps:List<|bD×Nat)(nv:Nat):Pm:=⟨pl.map PN.n,A5 ps 0 pl,nv⟩
def Pm.at(P:Pm)(j:Nat):SN:=P.nd.getD j oT
def Pm.mK(P:Pm)(j:Nat):List Nat:=P.nx.getD j []
def fL(n:SN):Bool:=decide (n.aO<=2)
abbrev Å:=(Bool×Int×Int)×Int×(Bool×Int×Int)
def jM(o:kE):Bool×Int×Int:=(o.aN,o.var,o.bJ)
def uk(n:SN):Option Å:=if n.aO=1/\(n.a.aN=P'\/n.b.aN=P') then C' (jM n.a,n.op,jM n.b) else D'
def cg[DecidableEq K](acc:List K)(o:Option K):List K:=match o with|none=>acc|some x=>if x∈acc then acc else acc++[x]
def Cy[DecidableEq K](ks:List<|Option K):List K:=ks.foldl cg []
def Pm.ex(P:Pm):List Å:=Cy<|P.nd.map uk
def oG(k:Å)(v:Int):Bool:=(k.1.1&&k.1.2.1==v)||(k.2.2.1&&k.2.2.2.1==v)
def Pm.ev(P:Pm)(i f:Nat):Bool:=match uk (P.at i),P.ex[f]? with|some x,some y=>decide (x=y)|_,_=>Q'
def Pm.kl(P:Pm)(i f:Nat):Bool:=fL (P.at i)&&(match P.ex[f]? with|some y=>oG y (P.at i).var|none=>Q')
def qU:Nat->List SN->List Nat
 |_,[]=>[]
 |i,n::r=>if fL n then i::qU (i+1) r else qU (i+1) r
def Pm.oK(P:Pm)(f:Nat):Option Nat:=if f<P.nv then D' else(qU 0 P.nd)[f-P.nv]?
def Pm.LD(P:Pm)(f:Nat):Int:=if f<P.nv then f else match P.oK f with|some i=>(P.at i).var|none=>-1
def dP(n:SN):Nat:=if n.aO=0\/n.aO=3 then 1 else if n.aO=1\/n.aO=4 then 2 else 0
def QV(n:SN)(v:Int):Bool:=(decide (0<dP n)&&n.a.aN&&n.a.var==v)||(decide (1<dP n)&&n.b.aN&&n.b.var==v)
def Pm.facts(P:Pm)(p:Int):Nat:=if p=1 then P.nv+ζ (qU 0 P.nd) else if p=2 then P.nv else ζ P.ex
def Pm.st(P:Pm)(p:Int)(n f:Nat):Bool:=
 if p=1 then n==0&&decide (f<P.nv)
 else if p=2 then QV (P.at n) f
 else if p=3 then n==0
 else(P.at n).aO==6||(P.kl n f&&!P.ev n f)
def Pm.ad(P:Pm)(p:Int)(m f:Nat):Bool:=if p=1 then P.oK f==C' m else if p=3 then P.kl m f else Q'
def Pm.ps(P:Pm)(p:Int)(n m f:Nat):Bool:=
 if p=1 then !(fL (P.at m)&&(P.at m).var==P.LD f)
 else if p=2 then !(fL (P.at n)&&(P.at n).var==f)
 else if p=3 then !P.ev m f
 else !P.ev n f
def ij(n:Nat):Nat->List Nat->List Nat
 |_,[]=>[]
 |k,t::r=>if t=n then k::ij n (k+1) r else ij n (k+1) r
def fJ(n:Nat):Nat->List (List Nat)->List (Nat×Nat)
 |_,[]=>[]
 |i,l::r=>(ij n 0 l).map (λk=>(i,k))++fJ n (i+1) r
def Pm.ins(P:Pm)(n:Nat):List (Nat×Nat):=fJ n 0 P.nx
def Pm.PA(P:Pm)(p:Int)(n:Nat):List Nat:=if p=2\/p=4 then P.mK n else(P.ins n).map Prod.fst
def Pm.rule(P:Pm)(p:Int)(f n:Nat)(th:Nat->Bool):Bool:=P.st p n f||(P.PA p n).any λm=>P.ad p m f||(P.ps p n m f&&th m)
def tB:Nd:=⟨[],[],Q',0,[]⟩
def Ct.at(c:Ct)(j:Nat):Nd:=c.nodes.getD j tB
def Nd.lQ(x:Nd)(f:Nat):Bool:=decide ((f:Int)∈x.facts)
def Nd.uJ(x:Nd)(f:Nat):Int:=x.a!.getD (x.facts.idxOf (f:Int)) 0
def qM(c:Ct)(f:Nat)(r:Int)(n:Nat):Bool:=(c.at n).lQ f&&(decide (r<0)||decide ((c.at n).uJ f<r))
def JQ(P:Pm)(c:Ct):Bool:=(range<|P.facts c.aM).all λf=>(range<|ζ P.nd).all λn=>!P.rule c.aM f n (qM c f<|-1)||qM c f (-1) n
def KQ(P:Pm)(c:Ct):Bool:=(range<|P.facts c.aM).all λf=>(range<|ζ P.nd).all λn=>!qM c f (-1) n||P.rule c.aM f n (qM c f<|(c.at n).uJ f)
def fO(vs:List VV)(o:kE):VV:=if o.aN then vs.getD o.var.toNat ⟨Q',0,0⟩ else VV.one o.bJ
def Wh (n:SN) (k:Nat) (vs:List VV):EV:=
  if n.aO=2 then C' (vs.set n.var.toNat VV.fM)
  else if n.aO=0 then C' (vs.set n.var.toNat<|fO vs n.a)
  else if n.aO=4 then(if (fO vs n.a).any||(fO vs n.b).any||o! n.test (fO vs n.a).lo (fO vs n.b).lo==decide (k=0) then C' vs else D')
  else if n.aO=1 then
    (if n.op=3/\(fO vs n.b).any=Q'/\(fO vs n.b).lo=0 then D'
     else if (fO vs n.a).any||(fO vs n.b).any then C' (vs.set n.var.toNat VV.fM)
     else C' (vs.set n.var.toNat<|VV.one<|lA n.op (fO vs n.a).lo (fO vs n.b).lo))
  else C' vs
def xD(t:Int)(yes:Bool)(a b:VV):Option (VV×VV):=
 if t=0/\yes=P' then(if b.hi=-2^63\/a.lo=9223372036854775807 then D' else C' (cx a (-2^63)<|b.hi-1,cx b (a.lo+1) 9223372036854775807))
 else if t=1/\yes=P' then C' (cx a (-2^63) b.hi,cx b a.lo 9223372036854775807)
 else if t=0 then C' (cx a b.lo 9223372036854775807,cx b (-2^63) a.hi)
 else if t=1 then(if a.hi=-2^63\/b.lo=9223372036854775807 then D' else C' (cx a (b.lo+1) 9223372036854775807,cx b (-2^63)<|a.hi-1))
 else if (t=2/\yes=P')\/(t≠2/\yes=Q') then C' (cx a b.lo b.hi,cx a b.lo b.hi)
 else if a.lo=a.hi/\VV.xw a b=P' then D'
 else C' (a,b)
def wH(q:VV×VV):Option (VV×VV):=if q.1.hi<q.1.lo\/q.2.hi<q.2.lo then D' else C' q
def pQ(t:Int)(yes:Bool)(a b:VV):Option (VV×VV):=match xD t yes a b with|none=>D'|some q=>wH q
def Û (av bv:Int) (vs:List VV) (x y:VV):EV:=
  if 0<=bv then
    (if (if bv=av then cx x y.lo y.hi else y).hi<(if bv=av then cx x y.lo y.hi else y).lo then D'
     else C' ((if 0<=av then vs.set av.toNat x else vs).set bv.toNat<|if bv=av then cx x y.lo y.hi else y))
  else C' (if 0<=av then vs.set av.toNat x else vs)
def jH(o:kE):Int:=if o.aN then o.var else -1
def ö(n:SN)(vs:List VV)(x y:VV):EV:=Û (jH n.a) (jH n.b) vs x y
def Oc(op:Int)(a b:VV):Option VV:=if op=0 then C' (E2 a b) else if op=1 then C' (rS a b) else if op=2 then C' (Ed a b) else jN a b
def Wg(n:SN)(k:Nat)(vs:List VV):EV:=
 if n.aO=2 then C' (vs.set n.var.toNat VV.all)
 else if n.aO=0 then C' (vs.set n.var.toNat<|fO vs n.a)
 else if n.aO=4 then(match pQ n.test (decide (k=0)) (fO vs n.a) (fO vs n.b)with|none=>D'|some q=>ö n vs q.1 q.2)
 else if n.aO=1 then(match Oc n.op (fO vs n.a) (fO vs n.b)with|none=>D'|some v=>C'<|vs.set n.var.toNat v)
 else C' vs
def AE(p:Int)(n:SN)(k:Nat)(e:EV):EV:=match e with|none=>D'|some vs=>if p=5 then Wh n k vs else Wg n k vs
def Pm.OO(P:Pm)(n:Nat):EV:=if n=0 then C' (replicate P.nv ⟨Q',0,0⟩) else D'
def Pm.say(P:Pm)(p:Int)(n:Nat)(at_:Nat->EV):EV:=(P.ins n).foldl (λout q=>A7 p out<|AE p (P.at q.1) q.2<|at_ q.1)<|P.OO n
def iD(r:Int)(v:Vl):VV:=if v.aO=3 then⟨Q',v.lo,v.hi⟩ else if v.aO=1 then VV.one v.lo else if v.bO&&decide (0<=r)&&decide (r<=v.rank) then VV.one v.first else VV.fM
def oE(x:Nd)(r:Int):EV:=if x.reached=Q'\/(0<=r/\r<=x.rank) then D' else C' (x.aG.map<|iD r)
def gq(c:Ct)(r:Int)(n:Nat):EV:=oE (c.at n) r
def mB(P:Pm)(c:Ct):Bool:=(range<|ζ P.nd).all λn=>QL c.aM (P.say c.aM n<|gq c<|-1)<|gq c (-1) n
def Y9(e:EV)(j:Nat):Bool:=match e with|none=>Q'|some vs=>(vs.getD j ⟨Q',0,0⟩).any
def TT(P:Pm)(c:Ct)(n:Nat):Bool:=
 !(c.at n).reached||(QL c.aM (oE (c.at n)<|(c.at n).rank+1) (P.say c.aM n<|gq c (c.at n).rank) &&
  (range<|ζ (c.at n).aG).all λj=>match (c.at n).aG[j]? with|some v=>!v.bO||Y9 (P.say c.aM n<|gq c v.rank) j|none=>P')
def zq(P:Pm)(c:Ct):Bool:=(range<|ζ P.nd).all λn=>TT P c n
def nZ(P:Pm)(c:Ct):Bool:=decide (ζ c.nodes=ζ P.nd)&&c.nodes.all λx=>(x.facts.all λf=>decide (f<(if c.aM<=4 then(P.facts c.aM:Int) else 0)))&&(!x.reached||decide (ζ x.aG=P.nv))
def gS(P:Pm)(c:Ct):Int:=
 if nZ P c=Q' then 6
 else if c.aM<=4 then(if JQ P c=Q' then 7 else if c.cu=2\/KQ P c=P' then 0 else 8)
 else(if mB P c=Q' then 7 else if c.cu=1/\zq P c=Q' then 8 else 0)
def ċ(v:Vl):Vl:=⟨v.aO,v.lo,v.hi,Q',0,0⟩
def uh(x:Nd):Nd:=⟨x.facts,[],x.reached,0,x.aG.map ċ⟩
end
