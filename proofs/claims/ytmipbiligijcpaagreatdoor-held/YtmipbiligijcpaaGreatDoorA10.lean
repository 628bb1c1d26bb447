import Derived.Test.YtmipbiligijcpaaGreatDoorA07
import Derived.Test.YtmipbiligijcpaaGreatDoorA08
import Derived.Lib.Slices
namespace Go.Proofs.YtmipbiligijcpaaGreatDoor
set_option linter.all false
set_option maxHeartbeats 0
set_option maxRecDepth 99999
open Go.RowKit Go.Proofs Go.Maps Tryz List Go.Shelf open List renaming length->ζ,toArray->θ open _root_.Array renaming size->δ open World renaming setCell->κ,ownsRow->ρ,cell?->χ,grownBy->ξ,setCells->ψ open Value renaming ownBlock->φ open Value renaming slice->h',bool->i',agg->k',string->m',pointer->n',tuple->p' open Obj renaming cells->j' open Ending renaming returned->o' open Option renaming some->C',none->D' open Bool renaming true->P',false->Q'
variable {B R b j n:Nat}{P:Nat->Prop}{U c s:z'}{W d w:t'}{X a:Bool}{e:Ending}{g p:Int}{i:u'}
section
variable {a:t'}{Q:Nat}{r:Int×List Int×List (Nat×List Int)}{f c:A'}{P:List CM}{p:Prop}
def ğ(pl:List PN)(vs:List bD)(ins:List Int)(fuel:Int):Int×(Int×List Int×List (Nat×List Int))×Nat:=
 match kN 0 [] (pl.map PN.bL)with
 |none=>(9,(0,[],[]),0)
 |some ps=>(0,h! pl ps fuel.toNat 0 (replicate (ζ vs) 0) ins [] [],ζ vs)
def Xj(s:z')(ins:List Int)(fuel:Int):Int×(Int×List Int×List (Nat×List Int))×Nat:=
 match jG s with
 | .inl false=>(1,(0,[],[]),0)
 | .inl true=>(2,(0,[],[]),0)
 | .inr (pl,vs)=>if 100<ζ ins\/fuel<0\/2000<fuel then(9,(0,[],[]),0) else ğ pl vs ins fuel
def pT(w w':t')(nv:Nat)(r:Int×List Int×List (Nat×List Int))(ov sv:A')(Dp:List CM):Prop:=
 ρ w' w.1.size 2 1 ov (ζ r.2.1) (r.2.1.map G)/\ρ w' w.1.size 113 2 sv (ζ Dp) (fI Dp)/\wE Dp=r.2.2/\(∀s∈Dp,ρ w' w.1.size 2 1 s.2.1 (ζ s.2.2) (s.2.2.map G)/\ζ s.2.2=nv/\∃q,φ s.2.1=C' q/\some q≠φ ov)/\(Dp.map λs=>φ s.2.1).Nodup
def aei(w:t')(r:Int×(Int×List Int×List (Nat×List Int))×Nat)(e:Ending)(w':t'):Prop:=
 Bl w w'/\∃ov sv Dp,e=o' (p' #[k' #[G r.2.1.1,ov,sv],G r.1])/\pT w w' r.2.2 r.2.1 ov sv Dp
def Mt(w a:t')(n:Nat)(x:Int):pT w a n (x,[],[]) (h' D' 0 0) (h' D' 0 0) []:=
 ⟨cY _ _ _ _,cY _ _ _ _,rfl,ak,ak⟩
def pT.below{j:t'}(h:pT w a Q r f c P)(b:Bl a j):pT w j Q r f c P:=
 ⟨cS h.1 b,cS h.2.1 b,h.2.2.1,λs y=>⟨cS (h.2.2.2.1 s y).1 b,(h.2.2.2.1 s y).2⟩,h.2.2.2.2⟩
def pT.base{u b:t'}(h:pT w b Q r f c P)(a:δ u.1<=δ w.1):pT u b Q r f c P:=
 ⟨bC h.1 a,bC h.2.1 a,h.2.2.1,λs y=>⟨bC (h.2.2.2.1 s y).1 a,(h.2.2.2.1 s y).2⟩,h.2.2.2.2⟩
def Oe{k:Nat}{v:A'}(h:χ w (O k 0)=C' v)(b:Bl w a):χ a (O k 0)=C' v:=by obtain⟨c,t,f,T⟩:=ft h;exact(bF<|b.block k (bG.1 T).1).trans h
def Env.up(h:Env w)(b:Bl w a):Env a:=by obtain⟨⟨i,z,T⟩,m,d⟩:=h;exact⟨⟨i,z,Oe T b⟩,m,Oe d b⟩
theorem RW(h:p:=by
 go_enter func23,ntmps23;go_wp2_with (go_at_call 40;refine hP.mono ?_;rintro e t ⟨l,g,z,D,S,rfl,c,P,v,r,y⟩;obtain⟨B,h⟩:=A<|(l.block w.heap.size ak).trans d.o.2;have R:w.heap.size<t.heap.size:=(by have:=l.size;simp at this;omega);have W:w.heap.size≠t.heap.size:=I;have k:t.heap.size≠w.heap.size:=I);refine aC (v:=.tuple #[.agg o4,G 9]) (by simp[results,results23,go_sem,B,R,W,k]) rfl ?_
 exact⟨(by repeat(first|exact(d.o.1.trans<|l.mono d.o.1.size)|with_reducible refine below_drewN ?_ _|with_reducible refine iJ ?_|refine lf ?_ (by first|exact aD _|(simp;done)|(simp;omega)) _|refine qZ ?_ (by first|(simp;done)|(simp[World.setCell];omega)) _)),_,_,[],rfl,Mt _ _ _ _⟩):p:=h
theorem Ű(h:p:=by
 exact⟨(by repeat(first|exact(d.o.1.trans<|l.mono d.o.1.size)|with_reducible refine below_drewN ?_ _|with_reducible refine iJ ?_|refine lf ?_ (by first|exact aD _|(simp;done)|(simp;omega)) _|refine qZ ?_ (by first|(simp;done)|(simp[World.setCell];omega)) _)),_,_,[],rfl,Mt _ _ _ _⟩):p:=h
def RE(s:z')(F:List Int)(p:u')(V:Nat)(m:Int)(w:t')(j:Env w)(i:CP w w.1.size (bk p (ζ F) V) F):
  Cl 23 #[m' s,h' p (ζ F) V,G m] w (aei w<|Xj s F m):=by
 have a:Bl w (w.alloc<|j' o4 57):=(aP _ _).alloc (aD _) _;have hP:=qh s (w.alloc<|j' o4 57)<|j.up a;have d:J (Bl w (w.alloc<|j' o4 57)/\d' (w.alloc<|j' o4 57) w.1.size o4 57):=⟨a,bj _ _⟩;clear a;unfold Xj;rcases Q:jG s with b|⟨K,E⟩
 .cases b with
  |false=>rw[Q]at hP;clear Q;simp only;go_enter func23,ntmps23;go_wp2_with (go_at_call 40;refine hP.mono ?_;rintro e t ⟨l,rfl⟩;obtain⟨B,h⟩:=A<|(l.block w.1.size ak).trans d.A;have R:δ w.1<δ t.1:=(by have:=l.size;simp at this;omega);have W:δ w.1≠δ t.1:=I;have k:δ t.1≠δ w.1:=I);refine aC (v:=p' #[k' o4,G 1]) (by simp[results23,go_sem,B,R,W,k]) rfl ?_;exact Ű
  |true=>rw[Q]at hP;clear Q;simp only;go_enter func23,ntmps23;go_wp2_with (go_at_call 40;refine hP.mono ?_;rintro e t ⟨l,rfl⟩;obtain⟨B,h⟩:=A<|(l.block w.1.size ak).trans d.A;have R:δ w.1<δ t.1:=(by have:=l.size;simp at this;omega);have W:δ w.1≠δ t.1:=I;have k:δ t.1≠δ w.1:=I);refine aC (v:=p' #[k' o4,G 2]) (by simp[results23,go_sem,B,R,W,k]) rfl ?_;exact Ű
 obtain⟨j,h0,o,_⟩:=kt Q;have hv8:ζ E<=8:=by simp only[i6,aS,bw]at o;exact o.1.1.1
 have mh:=ſ λS U=>Ex (S:=S) Q U;have ml:=j.len;rw[Q]at hP;clear Q o;simp only;by_cases a:100<ζ F
 .rw[aB<|aI a];have Y:decide (100<(ζ F:Int))=P':=dM I;exact RW
 by_cases o:m<0
 .rw[aB<|aH<|aI o];have Y:decide (100<(ζ F:Int))=Q':=di I;have j:decide (m<0)=P':=dM I;exact RW
 by_cases q:2000<m
 .rw[aB<|aH<|aH q];have Y:decide (100<(ζ F:Int))=Q':=di I;have j:decide (m<0)=Q':=di I;have s:decide (2000<m)=P':=dM I;exact RW
 rw[ax I];have Y:decide (100<(ζ F:Int))=Q':=di I;have j:decide (m<0)=Q':=di I;have s:decide (2000<m)=Q':=di I;obtain⟨f,rfl⟩:∃f:Nat,m=f:=⟨m.toNat,I⟩;have U:f<=2000:=I;have j:=ſ i;clear i a o q;go_enter func23,ntmps23;go_wp2_with (go_at_call 40;refine hP.mono ?_;rintro e t ⟨l,g,z,D,S,rfl,c,P,v,r,y⟩;obtain⟨B,h⟩:=A<|(l.block w.1.size ak).trans d.A;have R:δ w.1<δ t.1:=(by have:=l.size;simp at this;omega);have W:δ w.1≠δ t.1:=I;have k:δ t.1≠δ w.1:=I);have m:Bl t (t.alloc<|j' #[h' (C'<|O g 0) (ζ K) z,G<|ζ E] 86):=(aP _ _).alloc (aD _) _;have i:J (Bl w<|t.alloc<|j' #[h' (C'<|O g 0) (ζ K) z,G<|ζ E] 86):=(d.a.trans<|l.mono d.a.size).trans<|m.mono I;have s:CP (t.alloc<|j' #[h' (C'<|O g 0) (ζ K) z,G<|ζ E] 86) (t.alloc<|j' #[h' (C'<|O g 0) (ζ K) z,G<|ζ E] 86).1.size (bk p (ζ F) V) F:=by obtain⟨q,u,e,C,c,N⟩:=j.o;refine⟨q,u,e,C,c,λj x c=>?_⟩;obtain⟨b,o,u,L,T⟩:=N j x c;exact⟨b,o,u,ep L i.o.size,(bF<|i.o.block b L).trans T⟩
 have k:=ſ<|TI g z (ζ E) p V F f D K S _ hv8 U h0 ml (P.alloc<|j' #[h' (C'<|O g 0) (ζ K) z,G<|ζ E] 86) (fR v _) (λj c p a b=>(y j c p a b).aR m) (mh.o S r) s;have mo:=ſ r;have mn:J (d' (t.alloc<|j' #[h' (C'<|O g 0) (ζ K) z,G<|ζ E] 86) w.1.size o4 57):=(ch _ _ _ R).trans<|(l.block w.1.size ak).trans d.A;clear s m r P v y l B h;refine bE k.o ?_;clear k;obtain⟨r,Q⟩:∃r,h! K S f 0 (replicate (ζ E) 0) F [] []=r:=⟨_,rfl⟩;rw[Q];rintro e W2 ⟨X,c,b,P,rfl,v,y,l⟩;have HT:J (pT _ W2 (ζ E) r c b P):=⟨v,y,l⟩;obtain⟨oa,oc,rfl⟩:=aX v;obtain⟨sa,sc,rfl⟩:=aX y;obtain⟨B,h⟩:=A<|(X.block w.1.size I').trans mn.o;have j:=ſ<|i.o.trans<|X.mono i.o.size;have b:=ſ Q;clear Q v y l X;go_wp2_with fail;refine aC (v:=p' #[k' #[G r.1,h' oa (ζ r.2.1) oc,h' sa (ζ P) sc],G 0]) (by simp[results23,go_sem,B]) rfl ?_;rw[ğ,mo.o];simp only;rw[rK,b.o];have m:∀{W:t'} {a:Addr} {v:A'} {e size n:Nat} {u:A'} {D:List A'},ρ W (t.alloc<|j' #[h' (C'<|O g 0) (ζ K) z,G<|ζ E] 86).1.size e size u n D->a.block=δ w.1->ρ (W.setCell a v) (t.alloc<|j' #[h' (C'<|O g 0) (ζ K) z,G<|ζ E] 86).1.size e size u n D:=λh e=>CW h (by rw[e];simp;omega) _;refine⟨((j.o.setCell (aD _) _).setCell (aD _) _).setCell (aD _) _,_,_,P,rfl,pT.base (w:=t.alloc<|j' #[h' (C'<|O g 0) (ζ K) z,G<|ζ E] 86) ?_ I'⟩;exact⟨m (m (m HT.a rfl) rfl) rfl,m (m (m HT.b rfl) rfl) rfl,HT.c,λx F=>⟨m (m (m (HT.d x F).1 rfl) rfl) rfl,(HT.d x F).2⟩,HT.D⟩
end
def Mj(n:SN)(P F l:List Int):l <+: (jA n P F l).2.2.2:=by
 unfold jA
 repeat' split
 all_goals simp
def Xg(m:List PN)(c:List<|bD×Nat):∀(f k:Nat)(b F l:List Int)(st:List<|Nat×List Int),l <+: (h! m c f k b F l st).2.1/\st <+: (h! m c f k b F l st).2.2:=by
 intro f;induction f with
 |zero=>intro k b F l st;exact⟨Jb _,Jb _⟩
 |succ f B=>
  intro k b F l st;rw[h!];split
  .exact⟨Jb _,Fj _ _⟩
  rename_i p _;split
  .obtain⟨C,d⟩:=B ((fK c p.nc k).getD (kD p.n (jA p.n b F l).2.1).toNat 0).toNat (jA p.n b F l).2.1 (jA p.n b F l).2.2.1 (jA p.n b F l).2.2.2 (st++[(k,b)]);exact⟨(Mj _ _ _ _).trans C,(Fj _ _).trans d⟩
  exact⟨Mj _ _ _ _,Fj _ _⟩
def O6(m:List PN)(c:List<|bD×Nat):∀(f k:Nat)(b F l:List Int)(st:List<|Nat×List Int),ζ (h! m c f k b F l st).2.2<=ζ st+f/\(0<f->ζ st+1<=ζ (h! m c f k b F l st).2.2):=by
 intro f;induction f with
 |zero=>intro k b F l st;exact⟨by simp[h!],ak⟩
 |succ f B=>
  intro k b F l st;rw[h!];split
  .simp
  rename_i p _;split
  .obtain⟨C,_⟩:=B ((fK c p.nc k).getD (kD p.n (jA p.n b F l).2.1).toNat 0).toNat (jA p.n b F l).2.1 (jA p.n b F l).2.2.1 (jA p.n b F l).2.2.2 (st++[(k,b)]);have d:=(Xg m c f ((fK c p.nc k).getD (kD p.n (jA p.n b F l).2.1).toNat 0).toNat (jA p.n b F l).2.1 (jA p.n b F l).2.2.1 (jA p.n b F l).2.2.2 (st++[(k,b)])).2.length_le;simp only[aW,fP]at C d;exact⟨I,λ_=>d⟩
  simp
def sW(rs:List<|List Int):List A':=rs.flatMap (·.map G)
def oO(r:List Int)(fs:List Nat)(v:Int):List Int:=fs.foldl (λr f=>r.set f v) r
def OW(r:List Int)(o:List Nat)(f:Nat)(v:Int):oO r (o++[f]) v=(oO r o v).set f v:=by simp[oO]
def sS(v:Int):∀(o:List Nat)(r:List Int),ζ (oO r o v)=ζ r
 |[],_=>rfl
 |f::o,r=>by show(oO (r.set f v) o v).length=_;rw[sS v o,jn]
def yw(v:Int)(g:Nat):∀(o:List Nat)(r:List Int),g<ζ r->(oO r o v).getD g 0=if g∈o then v else r.getD g 0
 |[],_,_=>by simp[oO]
 |f::o,r,h=>by
  show(oO (r.set f v) o v).getD g 0=_;rw[yw v g o _<|J' h];by_cases C:g∈o
  .simp[C]
  by_cases a:g=f
  .subst a;simp[C,cy,h]
  have:f≠g:=λe=>a e.symm;simp[C,a,cy,eQ,this]
def Dx:∀(y:List<|List Int)(k f:Nat)(r:List Int),(∀r∈y,ζ r=68)->y[k]?=C' r->f<68->(sW y)[k*68+f]?=C' (G<|r.getD f 0)
 |[],k,f,r,_,h,_=>by simp at h
 |a::q,0,f,r,d,h,hf=>by simp at h;subst h;have D:=d a ak;simp only[sW,b9,gN,bW];rw[iC I',bH,cy,aQ I];rfl
 |a::q,k+1,f,r,d,h,hf=>by have D:=d a ak;have B:=Dx q k f r (λx F=>d x<|by simp[F]) (J' h) hf;simp only[sW,b9]at B|-;rw[fh I',<-B];congr 1;simp;omega
def F1:∀(y:List<|List Int)(k f:Nat)(r:List Int)(v:Int),(∀r∈y,ζ r=68)->y[k]?=C' r->f<68->(sW y).set (k*68+f) (G v)=sW (y.set k<|r.set f v)
 |[],k,f,r,v,_,h,_=>by simp at h
 |a::q,0,f,r,v,d,h,hf=>by simp at h;subst h;have D:=d a ak;simp only[sW,dp,b9,gN,bW];rw[Fg _ _ I',mx]
 |a::q,k+1,f,r,v,d,h,hf=>by have D:=d a ak;have B:=F1 q k f r v (λx F=>d x<|by simp[F]) (J' h) hf;simp only[sW,da,b9]at B|-;rw[oX _ _ I',<-B];congr 2;simp;omega
def Kt{β:Type}{S:Nat->Prop}{B:Nat}{w:t'}(v:δ w.1<=B):OwnFrom B (λ(_:β) W=>Kx S w W):=λ_ W a q y a c=>
 ⟨a.os.trans y.os,a.tape.trans y.tape,a.output.trans y.output,br y.size a.size,λk b K=>(a.block k (ep b y.size) λe=>L'<|(c k e.symm).1).trans<|y.keep k b K⟩
section
attribute [local go_sem] Oper.semAt_some
def Ñ(s:Nat×List (List Int))(x:Nat)(old next:BS):Nat×List (List Int):=(s.1+1,s.2.set x<|oO (s.2.getD x []) (dj<|eP next old) (s.1:Int))
structure ð(cb xb rb N:Nat)(s:Nat×List (List Int))(W:t'):Prop where
  c:W.1[cb]?=C' (iN s.1)
  x:W.1[xb]?=C' (j' (kL rb N) 263 (0,0))
  r:W.1[rb]?=C' (j' (θ<|sW s.2) 272 (0,0))
  len:ζ s.2=N
  each:∀r∈s.2,ζ r=68
def Sy{α:Type}{l:List α}{i:Nat}{x:α}(h:l[i]?=C' x):l.set i x=l:=by obtain⟨S,rfl⟩:=aV.1 h;exact set_getElem_self S
def Lm(cb xb u N x:Nat)(s:Nat×List (List Int))(old next:BS)(w:t')(m:ð cb xb u N s w)(r:kU w)(hx:x<N)(o:N<=60)(g:bQ old)(hn:bQ next)(Y:∀f∈dj next,f<68)(hs:s.1<=100000)(h1:cb≠xb)(h2:cb≠u)(h3:xb≠u)(hg:0<u):
  Cl 152 #[G x,cn old,cn next,n'<|C'<|O cb 0,n'<|C'<|O xb 0] w λe o=>e=o' (cn next)/\ð cb xb u N (Ñ s x old next) o/\Kx (λk=>k=cb\/k=xb\/k=u) w o:=by
 refine(gw (n:=6)).1 ?_;refine callsIn_of_wp_marks func152 rfl trivial ?_ rfl;simp only[cn,ntmps152,kH,bR,de,Nat.reduceAdd,Nat.reduceSub,sF,sE,sD,sC,c!,dA];have D:J (∀X,Cl 153 #[cn next,cn old] X<|Rb X<|cn<|eP next old):=λX=>j3 next old X hn g
 have E:J (∀X,Cl 154 #[cn<|eP next old] X λe o=>e=o' (.func (.func 227) #[]<|bM X.1.size)/\o=X.alloc (j' #[Z ((eP next old).1:Int),Z ((eP next old).2:Int)] 267)):=λX=>tZ (eP next old) X;have HF:J (∀f∈dj (eP next old),f<68):=λf h=>by obtain⟨a,b⟩:=(fz pS f).1 h;rw[oM g a,aS]at b;exact Y f<|(fz hn f).2 ⟨a,b.1⟩
 have HI:=ſ<|Jy next old;have C:=ſ<|M m r;have z:=À m.c;have o:=À m.x;have o:=À m.r;have o:=dh<|r 0 aj;have B:J (Ñ s x old next=(s.1+1,s.2.set x<|oO (s.2.getD x []) (dj<|eP next old) (s.1:Int))):=rfl;generalize eP next old=d at *;simp only[cn]at D E;clear m r g hn Y;refine nE.2 ?_
 go_upto_region 1 with(fail)
 refine gnD (F:=Code.wp _ _ _ _) λo U=>?_;obtain⟨m,t⟩:=A U.c;obtain⟨W,o⟩:=A U.d;go_wp2_with (first|(go_at_call 153;refine(D.o _).mono ?_;rintro e W1 ⟨rfl,g⟩;have r:=ſ g;clear g m t W o)|(go_at_call 154;refine(E.o _).mono ?_;rintro e F ⟨rfl,rfl⟩));refine oP (F:=Code.wp _ _ _ _) λF o=>?_;have b2:=aq r.o o.a;have g:=aq U.a b2;have z:=U.E;have z:=r.o.size;have r:=o.B;obtain⟨hr,m⟩:=La (l:=s.2) (i:=x) (by rw[C.a.len];exact hx);have fo:=C.a.each hr<|aK m;have t:=B.o;rw[cy,m,Df]at t;have HE:=ſ<|M t m;clear B t m D E;refine(nE (n:=6)).1 ?_
 refine wpIn_rangeFunc_ownF rfl I (gf:=227) (lb:=(bM W1.1.size)) rfl trivial (λr w=>Tryz.call227 r w)
  (lJ 5 I d W1.1.size (0+1) F HI.o (by rw[(A o.b).1];rfl) (by rw[(A o.b).1];rfl) (C.A.below g) I I) belowK_t (belowK_b I) (aP _ _) (λ_=>rfl)
  (λB W=>(W.1[u]?=C' (j' (θ<|sW<|s.2.set x<|oO hr (qB B) (s.1:Int)) 272 (0,0)))/\Kx (λk=>k=u) F W)
  (λ_ _ _=>False)
  (OwnFrom.and (lH (λB=>j' (θ<|sW<|s.2.set x<|oO hr (qB B) (s.1:Int)) 272 (0,0)) I)<|Kt<|aD _)
  (λ_ _ _ _ _ hs _ _=>hs)
  ⟨by rw[show oO hr (qB ([]:List<|kG d)) (s.1:Int)=hr from rfl,Sy HE.A];exact aF g C.a.r,vx⟩
  (λf=>{tmps:=#[G x,k' #[Z old.1,Z old.2],k' #[Z next.1,Z next.2],n'<|C'<|O cb 0,n'<|C'<|O xb 0,n'<|cA w.1.size,n'<|C'<|O (δ w.1+1) 0,n'<|C'<|O (δ w.1+1+1) 0,n'<|C'<|O (δ w.1+1+1+1) 0,G f.1,k' #[Z next.1,Z next.2],k' #[Z old.1,Z old.2],k' #[Z d.1,Z d.2],.func (.func 227) #[]<|bM W1.1.size,G f.1,undef,undef,undef,undef,undef,undef,undef,undef,undef],defers:=[]}) ?assign ?body ?done ?stop
 case assign=>
  intro l f W K hK
  gi_wp2
  exact hK
 case body=>
  rintro l B ⟨f,Y⟩ W ⟨hW,hk⟩ _;have R:=HF.o f Y;have o:(f:Int)<68:=I;have o:(x:Int)<N:=I;have o:=ſ λW' (h:Kx (λk=>k=u) W W')=>M (h.box (hk.box (aF g C.a.x) h3) h3)<|M (h.box (hk.box (aF b2 U.b) I) I)<|h.box (hk.box (aF g C.a.c) h2) h2;have m:=ſ<|M hW hk;clear hW hk
  gi_wp2
  refine á (l:=l) (λW'=>Kx (λk=>k=u) W W') 7 (hQ:=by rintro⟨_,_,h⟩;exact h) (hS:=vx.drewN 1) (h:=λaE=>?_);refine tt 0 (cw u N) (y:=λW' bm=>by have k1:=(A (o.o _ bm).1).1;clear aE bm;go_simp) (h:=?_);refine tt 1 (G x) (y:=λW' bm=>by have k1:=(A (o.o _ bm).2.1).1;clear aE bm;go_simp) (h:=?_);refine tt 2 (G f) (h:=?_);refine tt 3 (G s.1) (y:=λW' bm=>by have k1:=(A (o.o _ bm).2.2).1;clear aE bm;go_simp) (h:=?_);refine tt 4 (n'<|C'<|O u<|x*68) (h:=?_);refine tt 5 (n'<|C'<|O u<|x*68+f) (h:=?_);refine rt 6 (h:=λK hK=>?_)
  have hl:∀q∈s.2.set x (oO hr (qB B) (s.1:Int)),ζ q=68:=λq hq=>by
   rcases hU hq with hq|rfl
   .exact C.a.each q hq
   rw[sS];exact fo
  have hg:(s.2.set x<|oO hr (qB B) (s.1:Int))[x]?=C' (oO hr (qB B) (s.1:Int)):=by rw[eQ,aB rfl,aB<|by rw[C.a.len];exact hx]
  have o:χ W (O u<|x*68+f)=C' (G<|(oO hr (qB B) (s.1:Int)).getD f 0):=by rw[(A m.a).1,cz,Dx _ x f _ hl hg R]
  have k1:=(A m.a).2<|x*68+f;go_simp;have E:Kx (λk=>k=u) W (κ W.drew (O u<|x*68+f)<|G s.1):=pJ (vx.drewN 1) _ _;refine hK.out _ _ (λ_=>E) ?_;clear hK K aE;refine pt ?_;refine dt (h:=?_);have mj:(κ W.drew (O u<|x*68+f)<|G s.1).1[u]?=C' (j' (θ<|sW<|s.2.set x<|oO hr (qB<|B++[(⟨f,Y⟩:kG d)]) (s.1:Int)) 272 (0,0)):=by rw[aw<|show W.drew.1[u]?=_ from m.a,cj,F1 _ x f _ _ hl hg R,x7,nh,OW]
  gi_wp2
  exact⟨E.others (λk o e h=>by subst e;rw[m.a]at h;cases h;rfl),E.below (L' m.A.size) λk e=>I,mj,m.A.trans E⟩
 case done=>
  rintro D z W t hS ⟨hW,hk⟩ hK;have E:qB z=dj d:=hS;rw[E]at hW;have T:=hk.box (aF g C.a.c) h2;have t:=hk.box (aF g C.a.x) h3;have o:=hk.box (aF b2 U.d) (show ¬δ w.1+1+1=u by omega);have r:=hk.box (aF b2 U.e) (show ¬δ w.1+1+1+1=u by omega);obtain⟨R,z⟩:=A T;obtain⟨z,R⟩:=A o;obtain⟨z,z⟩:=A r;have z:δ w.1+1+1≠cb:=I;have n2:δ w.1+1+1+1≠cb:=I;have F:=z.symm;have n4:=n2.symm;have m:=ſ<|M hW<|M hk<|M T<|M t<|M o<|M r hK;have z:δ w.1+1+1+1<D:=I;clear hW hk T t o r hK hS E;go_wp2_with fail;obtain⟨X,T⟩:=Ea<|κ (κ (κ W (O cb 0)<|G<|(s.1:Int)+1) (O (δ w.1+1+1+1) 0)<|Z next.1) (O (δ w.1+1+1+1) 1)<|Z next.2;rw[<-T];have L:∀k,k≠cb->k≠δ w.1+1+1+1->X.1[k]?=W.1[k]?:=λk a b=>by rw[T,bh _ _ _ _ b,bh _ _ _ _ b,bh _ _ _ _ a]
  have r:X.1[cb]?=C' (j' #[G ((s.1+1:Nat):Int)] 3 (0,0)):=by rw[T,bh _ _ _ _ n4,bh _ _ _ _ n4,aw m.c];rfl
  have b:X.1[δ w.1+1+1+1]?=C' (j' #[Z next.1,Z next.2] 267 (0,0)):=by rw[T,aw (aw ((bh _ _ _ _ n2).trans m.f) _) _];rfl
  have kv:δ X.1=δ W.1:=by rw[T];simp[World.setCell]
  have o:X.1[D]?=C' (.deferred<|C' []):=(L D I I).trans m.F;refine⟨ak,.inl ⟨_,_,rfl,run_takeDeferred o,?_⟩⟩;have hY:∀k,k≠D->(X.putObj D<|.deferred D').1[k]?=X.1[k]?:=λk hk=>World.putObj_heap_other hk;have o:=A<|(hY _ I).trans b;refine⟨cn next,by simp[results152,go_sem,cn,o.1],rfl,⟨?_,?_,?_,?_,?_⟩,?_⟩
  .rw[HE.a];exact(hY _ I).trans r
  .exact(hY _ I).trans<|(L _ h1.symm I).trans m.d
  .rw[HE.a];exact(hY _ I).trans<|(L _ h2.symm I).trans m.a
  .rw[HE.a];simp;exact C.a.len
  .rw[HE.a];intro q hq;rcases hU hq with hq|rfl
   .exact C.a.each q hq
   rw[sS];exact fo
  have hg:=grownBy_putObj' X D<|.deferred D';have hk:=(Kx.of (S:=λk=>k=cb\/k=xb\/k=u) g).trans (m.b.mono λk _ h=>aH<|aH h);refine⟨hg.os.trans<|by rw[T];exact hk.os,hg.tape.trans<|by rw[T];exact hk.tape,hg.output.trans<|by rw[T];exact hk.output,br hk.size<|by rw[<-kv];exact hg.size,λk Bb hn=>?_⟩;rw[hY k I,L k (λe=>hn<|aI e) I];exact hk.keep k Bb hn
 rintro D c B W _ _ h _;exact h.elim
end
section
variable {a:t'}{X:Nat->Prop}{e size m f:Nat}{v:A'}{D:List A'}{L:Array A'}
structure NE where
  fa:u'
  fc:Nat
  fs:List Nat
  ra:u'
  rc:Nat
  rs:List Int
abbrev NE.fv(e:NE):A':=h' e.fa (ζ e.fs) e.fc
abbrev NE.rv(e:NE):A':=h' e.ra (ζ e.rs) e.rc
def Nh:NE:=⟨D',0,[],D',0,[]⟩
def Ng(e:NE):List A':=[e.fv,e.rv,i' Q',G 0,h' D' 0 0]
def jq(l:List NE):List A':=l.flatMap Ng
def tw:∀(l:List NE)(k:Nat)(e:NE)(j:Nat),l[k]?=C' e->j<5->(jq l)[k*5+j]?=(Ng e)[j]?
 |[],k,e,j,h,_=>by simp at h
 |a::q,0,e,j,h,hj=>by simp at h;subst h;simp only[jq,b9,gN,bW];rw[iC<|by simp[Ng];omega]
 |a::q,k+1,e,j,h,hj=>by have B:=tw q k e j (J' h) hj;simp only[jq,b9]at B|-;rw[fh<|by simp[Ng];omega,<-B];congr 1;simp[Ng];omega
def uT:∀(l:List NE)(k:Nat)(e L:NE)(j:Nat)(v:A'),l[k]?=C' e->j<5->Ng L=(Ng e).set j v->(jq l).set (k*5+j) v=jq (l.set k L)
 |[],k,e,L,j,v,h,_,_=>by simp at h
 |a::q,0,e,L,j,v,h,f,he=>by simp at h;subst h;simp only[jq,dp,b9,gN,bW];rw[Fg _ _<|by simp[Ng];omega,he]
 |a::q,k+1,e,L,j,v,h,f,he=>by have B:=uT q k e L j v (J' h) f he;simp only[jq,da,b9]at B|-;rw[oX _ _<|by simp[Ng];omega,<-B];congr 2;simp[Ng];omega
def El:(Tryz.prog.info? 96).map (λi=>(i.zero,i.size,i.bytes))=C' (C'<|k' lL,5,88):=H
def Yx:(Tryz.prog.info? 272).map (λi=>(i.zero,i.size,i.bytes))=C' (C'<|k'<|Array.replicate 68<|G 0,68,544):=H
def YX(n:Nat):(replicate n [h' D' 0 0,h' D' 0 0,i' Q',G 0,h' D' 0 0]).flatten=jq (replicate n Nh):=by exact Ĝ
def UT(n:Nat):(replicate n (Array.replicate 68<|G 0).toList).flatten=sW (replicate n<|replicate 68 0):=by
 induction n with
 |zero=>rfl
 |succ n B=>rw[eW,oY,B,eW];simp only[sW,b9];congr 1
structure Av(W:t')(B:Nat)(e:NE):Prop where
  f:ρ W B 3 1 e.fv (ζ e.fs) (e.fs.map Q7)
  r:ρ W B 3 1 e.rv (ζ e.rs) (e.rs.map G)
def Te{t:Nat}(h:ρ W B e size v n D)(i:Kx X W a)(f:∀k,X k->k=m\/δ W.1<=k)(b:W.1[m]?=C' (cL L t))(l:e≠t):ρ a B e size v n D:=by
 refine⟨h.1,?_⟩;rcases h.2 with a|⟨g,c,Y,C,e,N,d⟩
 .exact aI a
 refine aH ⟨g,c,Y,C,e,i.box N λF=>?_,d⟩;rcases f g F with V|V
 .subst V;rw[N]at b;simp at b;exact l b.2
 have:=À N;omega
def Av.kx{d:t'}{e:NE}(h:Av W B e)(a:Kx X W d)(c:∀k,X k->k=m\/δ W.1<=k)(b:W.1[m]?=C' (j' L 96 (0,0))):Av d B e:=
 ⟨Te h.f a c b aj,Te h.r a c b aj⟩
def uU(e:NE):Nd:=⟨e.fs.map Int.ofNat,e.rs,Q',0,[]⟩
def Ch{c:Nat}{a:u'}{D:List Int}(h:ρ W B 3 1 (h' a n c) n<|D.map G):b7 W a D/\(a=D'->c=0):=by
 rcases h.2 with⟨R,D⟩|⟨g,a,Y,R,_⟩
 .simp at R;have C:=h.1;refine⟨λj x f=>?_,λ_=>R.2.2⟩;rw[D]at C;simp at C;subst C;simp at f
 simp at R;obtain⟨rfl,rfl⟩:=R;refine⟨λj x f=>⟨g,0,rfl,?_⟩,λe=>by cases e⟩;have:=h.cells (g:=g) rfl j (G x) (by rw[bH,f];rfl);rwa[fH]at this
def PJ{l:List NE}(b:W.1[m]?=C' (j' (θ<|jq l) 96 (0,0)))(c:∀e∈l,Av W B e):bX W (C'<|O m 0) (l.map uU):=by
 intro j n f;rw[bH]at f;cases a:l[j]? with
 |none=>rw[a]at f;cases f
 |some e=>
  rw[a]at f;simp at f;subst f;have C:=c e<|aK a;have T:∀k,k<5->χ W (O m<|0+j*5+k)=(Ng e)[k]?:=λk c=>by rw[(A b).1,cz,bW,tw l j e k a c]
  have Y:e.fs.map Q7=(e.fs.map Int.ofNat).map G:=by rw[fF];rfl
  have a:=Ch (by have:=C.f;rwa[Y]at this);have N:=Ch C.r;refine⟨m,0,e.fa,e.ra,D',e.fc,e.rc,0,rfl,?_,T 1 I,T 2 I,T 3 I,T 4 I,⟨a.1,N.1,λj v h=>by simp[uU]at h,a.2,N.2,λ_=>rfl⟩⟩;have:=T 0 I;simpa[Ng,uU]using this
def jX(B:Nat)(w:t')(nb:Nat)(ns:List Nd):Prop:=∀W:t',(∀k,B<=k->k<δ w.1->W.1[k]?=w.1[k]?)->bX W (C'<|O nb 0) ns
def Ti(h:ρ W B e size v n D)(b:f<=B)(b:∀k,f<=k->k<δ W.1->a.1[k]?=W.1[k]?):ρ a B e size v n D:=
 ⟨h.1,h.2.imp id λ⟨g,a,Y,C,c,N,d⟩=>⟨g,a,Y,C,c,(b g I<|À N).trans N,d⟩⟩
def PK{l:List NE}(c:W.1[m]?=C' (j' (θ<|jq l) 96 (0,0)))(b:∀e∈l,Av W B e)(v:f<=B)(K:f<=m):jX f W m (l.map uU):=λ_ a=>
 PJ ((a m K<|À c).trans c) λe l=>⟨Ti (b e l).f v a,Ti (b e l).r v a⟩
def jX.at{w:t'}{v:List Nd}(h:jX B w m v):bX w (C'<|O m 0) v:=h w λ_ _ _=>rfl
end
section
variable {q:Option Nat}{o:Nat}
def è{α:Type}(w':t')(rb:Nat)(s:z')(res:Option<|α×y')(val:α->A')(z:A'->Prop)(e:Ending):Prop:=
 (∃a s',res=C' (a,s'.1.1)/\s'.size<=s.size/\e=o' (val a)/\dc w' rb s' Q')\/(res=D'/\∃v s',z v/\e=o' v/\s'.size<=s.size/\dc w' rb s' P')
def tK(h:ξ w W q)(o:Obj):ξ w (W.alloc o) q:=h.trans<|gY W o q
def jd{o:Obj}(h:ξ (w.alloc o) W q):ξ w W q:=(gY w o q).trans h
def dc.alloc(h:dc w b s a)(o:Obj):dc (w.alloc o) b s a:=(ch _ _ _ (bG.1 h).1).trans h
def dc.lt(h:dc w b s a):b<δ w.1:=(bG.1 h).1
def Lh(lo:Int)(n:Nat):Int:=wrap64<|IntKind.u64.wrap<|IntKind.u64.wrap lo+(n:Int)
def dL{a:t'}(h:ξ w a q)(c:δ w.1<=b)(v:A'):ξ w (κ a (O b o) v) q:=
 ⟨h.os,h.tape,h.output,by simpa[World.setCell]using h.size,λk a c=>(bh _ _ _ _ I').trans<|h.block k a c⟩
def dc.far{c:Nat}(h:dc w c s a)(d:c≠b)(v:A'):dc (κ w (O b o) v) c s a:=(bh _ _ _ _ d).trans h
def hZ{rb:Nat}{bad:Bool}(g:ξ w W<|C' rb)(h:dc W rb s bad)(a:δ w.1<=b)(z:rb≠b)(U N c d C t:A'):dc (κ (κ (κ (κ (κ (κ W (O b 0) U) (O b 1) N) (O b 2) c) (O b 3) d) (O b 4) C) (O b 5) t) rb s bad/\ξ w (κ (κ (κ (κ (κ (κ W (O b 0) U) (O b 1) N) (O b 2) c) (O b 3) d) (O b 4) C) (O b 5) t) (C' rb):=
 ⟨(((((h.far z _).far z _).far z _).far z _).far z _).far z _,dL (dL (dL (dL (dL (dL g a _) a _) a _) a _) a _) a _⟩
def sY(l:y'):Option (Vl×y'):=match pq l with
 |some (lo,r)=>match rc r with
  |some (n,q)=>C' (⟨3,lo,Lh lo n,Q',0,0⟩,q)
  |none=>D'
 |none=>D'
def eh{k a:Nat}{L:Array A'}{t:TypeId}(h:w.1[k]?=C' (cL L t))(g:ξ w W<|C' a)(z:k≠a):W.1[k]?=C' (cL L t):=(g.block k (bG.1 h).1<|J' z).trans h
theorem aaB{p:Prop}(h:p:=by
 have C:=c.o.2.1;have g:=u.o.1;unfold dU at C g|-;cases f with
 |true=>cases C
 |false=>
  simp only[bV,bB]at C g|-;unfold sY;rw[C];simp only
  rw[g]):p:=h
def Gs(l:Nat)(s:z')(f:Bool)(w:t')(h:dc w l s f)(y:s.size<=60000):
  Cl 294 (bM l) w λe a=>è a l s (dU f sY s) jz (λz=>∃v,z=jz v) e/\ξ w a (C' l):=by
 have L:=h.lt;have T:=λ(g:dc (w.alloc<|j' nF 73) l s f)=>pC l s f _ g y;have d:=ſ<|M T h;clear h T;go_enter func294,ntmps294;go_wp2_with fail;refine bE (d.a<|d.A.alloc _) ?_;rintro e t ⟨C,N⟩;have r:=eh (bj w<|j' nF 73) N I;rcases C with⟨j,U,i,a,rfl,o⟩|⟨i,rfl,U,a,o⟩;rotate_left
 .have Y:=nN l U true t o I
  have K:J (dU f sY s=D'):=by
   show _=_;unfold dU at i|-;cases f with
   |true=>rfl
   |false=>simp only[bV,bB]at i|-;unfold sY;rw[i]
  have c:=ſ<|M Y<|M K.o<|M (jd N) r;clear Y i N r o;go_wp2_with fail;refine bE c.a ?_;rintro e F ⟨g,k⟩;have b:=eh c.C k I;rcases g with⟨n,h,d,a,rfl,q⟩|⟨d,rfl,h,a,q⟩
  .cases d
  have E:=A b;have u:=ſ<|M d<|M q<|M k b;clear d q k b;go_wp2_with fail;have R:=hZ (c.c.trans u.c) u.b (aD w.1.size) I (G 3) (G 0) (G 0) (i' false) (G 0)<|G 0;refine aC (v:=jz ⟨3,0,0,false,0,0⟩) (by simp[results,results294,go_sem,E.1,jz]) rfl ?_;exact⟨aH ⟨c.b,_,h,⟨_,rfl⟩,rfl,I,R.1⟩,R.2⟩
 have Y:=nN l U false t o I;have c:=ſ<|M Y<|M i<|M (jd N) r;clear Y i N r o;go_wp2_with fail;refine bE c.a ?_;rintro e F ⟨g,k⟩;have b:=eh c.C k I;rcases g with⟨n,h,d,a,rfl,q⟩|⟨d,rfl,h,a,q⟩
 .have E:=A b;have u:=ſ<|M d<|M q<|M k b;clear d q k b;go_wp2_with fail;refine aC (v:=jz ⟨3,j,Lh j n,false,0,0⟩) (by simp[results,results294,go_sem,E.1,jz,Lh]) rfl ?_;have R:=hZ (c.c.trans u.c) u.b (aD w.1.size) I (G 3) (G j) (G<|Lh j n) (i' false) (G 0)<|G 0;refine⟨aI ⟨⟨3,j,Lh j n,false,0,0⟩,h,?_,I,rfl,R.1⟩,R.2⟩;exact aaB
 have E:=A b;have u:=ſ<|M d<|M q<|M k b;clear d q k b;go_wp2_with fail;have R:=hZ (c.c.trans u.c) u.b (aD w.1.size) I (G 3) (G j) (G<|wrap64<|IntKind.u64.wrap<|IntKind.u64.wrap j) (i' false) (G 0)<|G 0;refine aC (v:=jz ⟨3,j,wrap64<|IntKind.u64.wrap<|IntKind.u64.wrap j,false,0,0⟩) (by simp[results,results294,go_sem,E.1,jz]) rfl ?_;refine⟨aH ⟨?_,_,h,⟨_,rfl⟩,rfl,I,R.1⟩,R.2⟩;exact aaB
end
def Ry(x:Int)(h:dK x):IntKind.i64.wrap x=x:=by obtain⟨C,a⟩:=h;simp[IntKind.wrap,IntKind.bits,IntKind.signed];omega
def iU(fl:Nat)(l:y'):Option ((Int×Nat)×y'):=match kW (100000-(fl:Int)) l with
 |some (n,r)=>C' ((((fl+n:Nat):Int),fl+n+1),r)
 |none=>D'
def V6(xb rb:Nat)(W:t'):Prop:=W.1[xb]?=C' (j' (bM rb) 274 (0,0))
def ZH(fb xb rb:Nat)(W:t')(fl:Nat):Prop:=W.1[fb]?=C' (iN fl)/\V6 xb rb W/\fl<=100001
def ĸ(fb xb rb:Nat)(W:t'):Prop:=(∃v:Int,W.1[fb]?=C' (j' #[G v] 3 (0,0)))/\V6 xb rb W
def Ü(s:z')(bad:Bool)(most:Int)(n:Nat)(s':z')(b:Bool):Prop:=s'.size<=s.size/\((b=Q'/\dU bad (kW most) s=C' (n,s'.1.1)/\(n:Int)<=most)\/(b=P'/\dU bad (kW most) s=D'/\n=0))
def uG{a:Int}{l r:y'}{n:Nat}(h:kW a l=C' (n,r)):(n:Int)<=a:=by
 unfold kW at h;cases T:rc l with
 |none=>rw[T]at h;cases h
 |some p=>
  obtain⟨m,q⟩:=p;rw[T]at h;simp only at h;by_cases d:(m:Int)<=a
  .rw[aB d]at h;cases h;exact d
  rw[ax d]at h;cases h
def nM(g:Nat)(s:z')(c:Bool)(a:Int)(w:t')(h:dc w g s c)(y:s.size<=60000)(d:dK a):
  Cl 158 #[n'<|C'<|O g 0,G a] w λe i=>∃(n:Nat)(f:z')(b:Bool),e=o' (G n)/\Ü s c a n f b/\dc i g f b/\ξ w i (C' g):=by
 refine(za g s c a w h y d).mono ?_;rintro e i ⟨C,g⟩;rcases C with⟨n,f,i,a,rfl,b⟩|⟨i,rfl,f,a,b⟩
 .refine⟨n,f,Q',rfl,⟨a,aI ⟨rfl,i,?_⟩⟩,b,g⟩;unfold dU at i;cases c with
  |true=>cases i
  |false=>exact uG i
 exact⟨0,f,P',rfl,⟨a,aH ⟨rfl,i,rfl⟩⟩,b,g⟩
def Pk(p u B:Nat)(L:p≠B)(F:u≠B)(c:p≠u)(W:t')(Y:Nat)(s:z')(D:Bool)(i:ZH p u B W Y)(h:dc W B s D)(y:s.size<=60000):
  Cl 290 (rQ p u) W λe a=>QR a B s (dU D (iU Y) s) (λx:Int=>G x) (λz=>∃x,z=G x) (ZH p u B) (ĸ p u B) e/\Fr (λj=>j≠B/\¬(j=p\/j=u)) W a:=by
 obtain⟨X,d,o⟩:=i;have C:IntKind.i64.wrap (100000-(Y:Int))=100000-(Y:Int):=by simp[IntKind.wrap,IntKind.bits,IntKind.signed];omega
 have T:=nM B s D (IntKind.i64.wrap<|100000-(Y:Int)) W.drew h y (by rw[C];exact⟨I,I⟩);have b:=ſ C;clear C;have E:=A X;have a:=A d;have f:=ſ<|M T<|M X d;clear T X d h;go_enter func290,ntmps290;go_wp2_with fail
 go_region_held3 (λa=>χ a (O p 0)=C' (G Y)/\χ a (O u 0)=C' (lR B)) (go_keep) ((go_at_call 158;refine bE f.a ?_;rintro e t ⟨n,h,k,rfl,d,i,g⟩;have a:=(g.block p (bG.1 f.b).1<|J' L).trans f.b;have r:=(g.block u (bG.1 f.B).1<|J' F).trans f.B;have q:=A a;have l:=A r;have K:n<=100001:=(by rw[b.o]at d;rcases d.2 with⟨_,_,q⟩|⟨_,_,q⟩<;>omega);have l:=ſ<|M d<|M i<|M g<|M a r;clear d i g a r))
 go_wp2_with fail;go_ret;have R:∀v,d' (κ t (O p 0) v) p #[v] 3/\V6 u B (κ t (O p 0) v)/\dc (κ t (O p 0) v) B h k/\Fr (λj=>j≠B/\¬(j=p\/j=u)) W (κ t (O p 0) v):=by intro v;obtain⟨_,k,f,w,P⟩:=l.o;have a:=fV t p 0 v;exact⟨aw w v,(a.block u (bG.1 P).1<|by simpa using λe=>c e.symm).trans P,k.grown a<|by simpa using λe=>L e.symm,Fr.trans (Fr.trans (Fr.aR (P:=λj=>j≠B/\¬(j=p\/j=u)) (aP W.1.size W).drew) (Fr.dI (P:=λj=>j≠B/\¬(j=p\/j=u)) f λk _ U=>J' U.1) λ_ _ U=>U) (Fr.dI a λk _ U=>by simpa using λe=>U.2<|aI e) λ_ _ U=>U⟩
 refine⟨?_,(R _).2.2.2⟩;have k:=l.a;rw[b.o]at k;obtain⟨U,a⟩:=k;rcases a with⟨a,i,b⟩|⟨a,i,V⟩
 .subst a;refine aI ⟨((Y+n:Nat):Int),Y+n+1,h,?_,U,by simp[Ry (Y+n)<|show dK _ from⟨I,I⟩],(R _).2.2.1,?_,(R _).2.1,I⟩;rotate_left
  .rw[(R _).1];push_cast;rfl
  unfold dU at i|-;cases D with
  |true=>cases i
  |false=>simp only[bV,bB]at i|-;rw[iU,i]
 subst a;refine aH ⟨?_,_,h,⟨_,rfl⟩,rfl,U,(R _).2.2.1,⟨_,(R _).1⟩,(R _).2.1⟩;unfold dU at i|-;cases D with
 |true=>rfl
 |false=>simp only[bV,bB]at i|-;rw[iU,i]
section
variable {b:t'}
structure N5 where
  fa:u'
  fc:Nat
  ra:u'
  rc:Nat
  va:u'
  vc:Nat
  n:Nd
def ig(c:N5):List A':=[h' c.fa (ζ c.n.facts) c.fc,h' c.ra (ζ c.n.a!) c.rc,i' c.n.reached,G c.n.rank,h' c.va (ζ c.n.aG) c.vc]
def fG(cl:List N5):List A':=cl.flatMap ig
structure vz(w:t')(B:Nat)(c:N5):Prop where
  f:ρ w B 3 1 (bk c.fa (ζ c.n.facts) c.fc) (ζ c.n.facts) (c.n.facts.map G)
  r:ρ w B 3 1 (bk c.ra (ζ c.n.a!) c.rc) (ζ c.n.a!) (c.n.a!.map G)
  v:ρ w B 73 6 (bk c.va (ζ c.n.aG) c.vc) (ζ c.n.aG) (iE c.n.aG)
  fn:c.fa=D'->c.fc=0
  rn:c.ra=D'->c.rc=0
  vn:c.va=D'->c.vc=0
def vz.at{c:N5}(h:vz w B c):vy w c.fa c.ra c.va c.fc c.rc c.vc c.n:=⟨Hg h.f,Hg h.r,RI h.v,h.fn,h.rn,h.vn⟩
def uI{e size:Nat}{v:A'}{D:List A'}{q:Option Nat}(h:ρ w B e size v n D)(l:∀k,q=C' k->∃Y f,w.1[k]?=C' (j' Y 96 f))(c:e≠96):φ v=D'\/φ v≠q:=by
 cases R:φ v with
 |none=>exact aI rfl
 |some k=>refine aH λo=>?_;obtain⟨Q,K,a⟩:=eZ h k R;obtain⟨p,B,b⟩:=l k o.symm;rw[a]at b;simp at b;exact c b.2.1
def vz.kept{c:N5}{row:Option Nat}(h:vz w B c)(a:ξ w b row)(l:∀k,row=C' k->∃Y f,w.1[k]?=C' (j' Y 96 f)):vz b B c:=
 ⟨h.f.kept a<|uI h.f l aj,h.r.kept a<|uI h.r l aj,h.v.kept a<|uI h.v l aj,h.fn,h.rn,h.vn⟩
def vz.below{c:N5}(h:vz w B c)(a:Bl w b):vz b B c:=
 ⟨bu h.f a,bu h.r a,bu h.v a,h.fn,h.rn,h.vn⟩
def vz.mono{f:Nat}{c:N5}(h:vz w B c)(a:f<=B):vz w f c:=⟨bC h.f a,bC h.r a,bC h.v a,h.fn,h.rn,h.vn⟩
def j?:∀(D:List N5),ζ (fG D)=ζ D*5
 |[]=>rfl
 |c::r=>by have:=j? r;simp only[fG,b9,aW,bR]at this|-;simp[ig]at this|-;omega
def Eb:∀(D:List N5)(j:Nat)(c:N5),D[j]?=C' c->∀i x,(ig c)[i]?=C' x->(fG D)[j*5+i]?=C' x
 |[],j,c,h,i,x,hx=>by simp at h
 |a::r,0,c,h,i,x,hx=>by simp at h;subst h;have S:=(aV.1 hx).1;simp only[fG,b9,gN,bW];rw[iC S];exact hx
 |a::r,j+1,c,h,i,x,hx=>by have:=Eb r j c (J' h) i x hx;simp only[fG,b9]at this|-;rw[fh<|by simp[ig];omega,<-this];congr 1;simp[ig];omega
def uS{p:Nat}{a:u'}{k:Nat}{D:List N5}(h:ρ w B 96 5 (h' a n k) (ζ D)<|fG D)(b:∀c∈D,vz w p c):bX w a (D.map N5.n):=by
 intro j v f;simp only[bH,C4]at f;obtain⟨c,T,rfl⟩:=f;have r:=(aV.1 T).1;rcases h.2 with⟨_,e⟩|⟨g,a,Y,R,_⟩
 .omega
 simp at R;obtain⟨rfl,rfl,rfl⟩:=R;have a:=h.cells (g:=g) rfl;have X:∀i x,(ig c)[i]?=C' x->χ w (O g<|0+(j*5+i))=C' x:=by intro i x F;have:=a _ _<|Eb D j c T i x F;rwa[fH]at this
 refine⟨g,0,c.fa,c.ra,c.va,c.fc,c.rc,c.vc,rfl,?_,?_,?_,?_,?_,(b c<|aK T).at⟩
 .simpa using X 0 _ rfl
 .simpa[ld]using X 1 _ rfl
 .simpa[ld]using X 2 _ rfl
 .simpa[ld]using X 3 _ rfl
 simpa[ld]using X 4 _ rfl
end
section
variable {k q:Nat}{σ α:Type}{p:Prop}{b:Bool}
def N5.fv(x:N5):A':=h' x.fa (ζ x.n.facts) x.fc
def N5.rv(x:N5):A':=h' x.ra (ζ x.n.a!) x.rc
def N5.vv(x:N5):A':=h' x.va (ζ x.n.aG) x.vc
def xm(x:N5):A':=k' #[h' x.fa (ζ x.n.facts) x.fc,h' x.ra (ζ x.n.a!) x.rc,i' x.n.reached,G x.n.rank,h' x.va (ζ x.n.aG) x.vc]
structure fW(W:t')(B:Nat)(x:N5):Prop where
  f:ρ W B 3 1 x.fv (ζ x.n.facts) (x.n.facts.map G)
  r:ρ W B 3 1 x.rv (ζ x.n.a!) (x.n.a!.map G)
  v:ρ W B 73 6 x.vv (ζ x.n.aG) (iE x.n.aG)
  ap:φ x.fv=D'\/φ x.fv≠φ x.rv
def fW.own{x:N5}(h:fW W B x):vz W B x:=by
 refine⟨h.f,h.r,h.v,?_,?_,?_⟩<;>intro e
 .rcases h.f.2 with⟨C,_⟩|⟨g,c,Y,C,_⟩<;>simp[N5.fv,e]at C;exact C.2
 .rcases h.r.2 with⟨C,_⟩|⟨g,c,Y,C,_⟩<;>simp[N5.rv,e]at C;exact C.2
 rcases h.v.2 with⟨C,_⟩|⟨g,c,Y,C,_⟩<;>simp[N5.vv,e]at C;exact C.2
def VZ(w W':t')(rb:Nat)(s:z')(res:Option<|Nd×y')(e:Ending):Prop:=
 (∃(x:N5)(s':z'),res=C' (x.n,s'.1.1)/\s'.size<=s.size/\e=o' (xm x)/\fW W' w.1.size x/\dc W' rb s' Q')\/(res=D'/\∃(x:N5)(s':z'),e=o' (xm x)/\s'.size<=s.size/\dc W' rb s' P')
def kM(_:Unit)(l:y'):Option ((Int×Unit)×y'):=match kW 100000 l with
 |some (n,r)=>C' (((n:Int),()),r)
 |none=>D'
def uH (g:Int) (l:y'):Option (Nd×y'):=match kW (ζ l) l with
  | some (k,r)=>(match bT iU k 0 r with
    |some ((fs,_),q)=>if g=1 then(match bT kM k () q with
        |some ((rs,_),q2)=>C' (⟨fs,rs,Q',0,[]⟩,q2)
        |none=>D') else C' (⟨fs,[],Q',0,[]⟩,q)
    |none=>D')
  |none=>D'
def Wv(W':t')(B n:Nat)(s:z')(bad:Bool)(step:σ->y'->Option ((Int×σ)×y'))(st:σ)(la:u')(ll lc:Nat)(s':z')(b':Bool):Prop:=
 s'.size<=s.size/\((b'=Q'/\ll=n/\∃xs OP,dU bad (bT step n st) s=C' ((xs,OP),s'.1.1)/\ρ W' B 3 1 (h' la n lc) n (xs.map G))\/(b'=P'/\(bad=P'\/dU bad (bT step n st) s=D')/\la=D'/\ll=0/\lc=0))
def ı(h:p:=by
 rcases h with⟨D,o,b,i,R,C,e,rfl,N,d,l,c⟩|⟨C,rfl,b,e,N,d⟩
 .exact⟨i,n,R,b,Q',rfl,⟨e,aI ⟨rfl,rfl,D,o,C,d⟩⟩,l,g _ _ c⟩
 exact⟨D',0,0,b,P',rfl,⟨e,aH ⟨rfl,C,rfl,rfl,rfl⟩⟩,N,d⟩):p:=h
def Ov.one{f:Nat}{c:Bool}{step:σ->y'->Option ((Int×σ)×y')}{st:σ}{Inv:t'->σ->Prop}{gu:t'->Prop}{e:Ending}(h:Ov w d f n s c step st Inv gu e)(g:∀W st,Inv W st->gu W):
  ∃i j R b X,e=o' (h' i j R)/\Wv d w.1.size n s c step st i j R b X/\dc d f b X/\gu d:=by
 exact ı
def Ť(h:p:=by
 refine⟨h.1,?_⟩;rcases h.2 with⟨C,b,D,o,N,d⟩|h
 .subst b;exact aI ⟨C,rfl,D,o,N,Y.own d U⟩
 exact aH h):p:=h
def Wv.fr{step:σ->y'->Option ((Int×σ)×y')}{st:σ}(h:Wv w B n s b step st i j R c X)(Y:Fr P w d)(U:∀k,φ (h' i j R)=C' k->P k):Wv d B n s b step st i j R c X:=by exact Ť
def ť(h:p:=by
 rcases h.2 with⟨C,b,D,o,N,d⟩|⟨_,_,N,d,l⟩
 .subst b;exact d.lt
 intro k b;rw[N]at b
 simp[Value.ownBlock]at b):p:=h
def Wv.lt{step:σ->y'->Option ((Int×σ)×y')}{st:σ}(h:Wv w B n s b step st i j R c X):∀k,φ (h' i j R)=C' k->B<=k/\k<δ w.1:=by exact ť
def ø(W:t')(w:t')(rb nb:Nat)(p g:Int)(fv rv:A'):Prop:=W.1[δ w.1]?=C' (j' (bM rb) 274 (0,0))/\W.1[δ w.1+1]?=C' (ot p g)/\W.1[δ w.1+2]?=C' (j' lL 96 (0,0))/\W.1[nb]?=C' (j' #[fv,rv,i' Q',G 0,h' D' 0 0] 96 (0,0))/\δ w.1+3<=nb
def eG{p:y'->Option (α×y')}{a:α×y'}(h:dU b p s=C' a):b=Q'/\p s.1.1=C' a:=by
 unfold dU at h;cases b with
 |true=>cases h
 |false=>exact⟨rfl,h⟩
def mX{p:y'->Option (α×y')}(h:dU a p s=D'):a=P'\/(a=Q'/\p s.1.1=D'):=by
 unfold dU at h;cases a with
 |true=>exact aI rfl
 |false=>exact aH ⟨rfl,h⟩
def si{p:y'->Option (α×y')}(h:a=P'\/p s.1.1=D'):dU a p s=D':=by
 unfold dU;cases a with
 |true=>rfl
 |false=>
  rcases h with h|h
  .cases h
  exact h
def W?(s:z'):ζ s.1.1=s.size:=rfl
def SA{rb p Q c rc:Nat}{K S:z'}{e b1 b2 x:Bool}{a E:u'}(hg:g=1)(C:Ü s e (s.size:Int) k U b1)(R:Wv W B k U b1 iU 0 a Q q K b2)(N:Wv W p k K b2 kM () E c rc S x)(v:δ w.1<=B)(b:∀j,φ (h' a Q q)=C' j->j<p)(t:B<=p)(hr:dc W rb S x):
  VZ w W rb s (dU e (uH g) s) (o'<|k' #[h' a Q q,h' E c rc,i' Q',G 0,h' D' 0 0]):=by
 have f:=br N.1<|br R.1 C.1;cases x with
 |true=>
  refine aH ⟨?_,⟨a,q,E,rc,D',0,⟨replicate Q 0,replicate c 0,Q',0,[]⟩⟩,S,by simp[xm],f,hr⟩;apply si;cases hb:e with
  |true=>exact aI rfl
  |false=>
   right;subst hb;unfold uH;rcases C.2 with⟨l,V,_⟩|⟨l,V,_⟩;rotate_left
   .rw[show kW (ζ s.1.1:Int) s.1.1=D' from V]
   rw[show kW (ζ s.1.1:Int) s.1.1=C' (k,U.1.1)from V];simp only;subst l;rcases R.2 with⟨X,_,o,d,u,_⟩|⟨X,u,_⟩;rotate_left
   .rcases u with u|u
    .cases u
    rw[show bT iU k 0 U.1.1=D' from u]
   rw[show bT iU k 0 U.1.1=C' ((o,d),K.1.1)from u];simp only;rw[aB hg];subst X;rcases N.2 with⟨Y,_⟩|⟨_,z,_⟩
   .cases Y
   rcases z with z|z
   .cases z
   rw[show bT kM k () K.1.1=D' from z]
 |false=>
  rcases N.2 with⟨_,r,y,e,z,o3⟩|⟨Y,_⟩;rotate_left
  .cases Y
  obtain⟨X,F⟩:=eG z;subst X;rcases R.2 with⟨_,i,o,d,u,o2⟩|⟨X,_⟩;rotate_left
  .cases X
  obtain⟨l,h⟩:=eG u;subst l;rcases C.2 with⟨_,V,_⟩|⟨l,_⟩;rotate_left
  .cases l
  obtain⟨L,T⟩:=eG V;subst L;have P:=eA _ _ _ _ _ _ _ h;have D:=eA _ _ _ _ _ _ _ F;subst i r;refine aI ⟨⟨a,q,E,rc,D',0,⟨o,y,Q',0,[]⟩⟩,S,?_,f,by simp[xm,P,D],⟨?_,?_,cY _ _ _ _,?_⟩,hr⟩
  .unfold dU uH;simp only[bV,bB];rw[show kW (ζ s.1.1:Int) s.1.1=C' (c,U.1.1)from T];simp only;rw[h];simp only;rw[aB hg,F]
  .simpa[N5.fv,P]using bC o2 v
  .simpa[N5.rv,D]using bC o3<|br v t
  simp only[N5.fv,N5.rv,P,D];cases R:φ (h' a c q) with
  |none=>exact aI rfl
  |some j=>refine aH λe=>?_;have:=b j R;have:=(o3.lt j e.symm).1;omega
def Sz{p Y:Nat}{j o:Bool}{a:u'}(y:¬g=1)(C:Ü s b (s.size:Int) k U j)(d:Wv W B k U j iU 0 a Y q c o)(v:δ w.1<=B)(r:dc W p c o):
  VZ w W p s (dU b (uH g) s) (o'<|k' #[h' a Y q,h' D' 0 0,i' Q',G 0,h' D' 0 0]):=by
 have f:=br d.1 C.1;cases o with
 |true=>
  refine aH ⟨?_,⟨a,q,D',0,D',0,⟨replicate Y 0,[],Q',0,[]⟩⟩,c,by simp[xm],f,r⟩;apply si;cases x:b with
  |true=>exact aI rfl
  |false=>
   right;subst x;unfold uH;rcases C.2 with⟨l,V,_⟩|⟨l,V,_⟩;rotate_left
   .rw[show kW (ζ s.1.1:Int) s.1.1=D' from V]
   rw[show kW (ζ s.1.1:Int) s.1.1=C' (k,U.1.1)from V];simp only;subst l;rcases d.2 with⟨X,_⟩|⟨X,u,_⟩
   .cases X
   rcases u with u|u
   .cases u
   rw[show bT iU k 0 U.1.1=D' from u]
 |false=>
  rcases d.2 with⟨_,i,t,d,u,z⟩|⟨X,_⟩;rotate_left
  .cases X
  obtain⟨l,h⟩:=eG u;subst l;rcases C.2 with⟨_,V,_⟩|⟨l,_⟩;rotate_left
  .cases l
  obtain⟨L,e⟩:=eG V;subst L;have P:=eA _ _ _ _ _ _ _ h;subst i;refine aI ⟨⟨a,q,D',0,D',0,⟨t,[],Q',0,[]⟩⟩,c,?_,f,by simp[xm,P],⟨?_,cY _ _ _ _,cY _ _ _ _,?_⟩,r⟩
  .unfold dU uH;simp only[bV,bB];rw[show kW (ζ s.1.1:Int) s.1.1=C' (Y,U.1.1)from e];simp only;rw[h];simp only;rw[ax y]
  .simpa[N5.fv,P]using bC z v
  cases R:φ (N5.fv ⟨a,q,D',0,D',0,⟨t,[],Q',0,[]⟩⟩) with
  |none=>exact aI rfl
  |some j=>exact aH (λe=>by simp[N5.rv,Value.ownBlock]at e)
def Ø(W:t')(b o:Nat)(v:A'):Fr (λj=>j≠b) W (κ W (O b o) v):=Fr.dI (fV W b o v) λj _ f=>J' f
def rC{a b c d}:=@Ø a b c d
def Õ(W:t')(b:Nat)(U N a c C:A'):Fr (λj=>j≠b) W (κ (κ (κ (κ (κ W (O b 0) U) (O b 1) N) (O b 2) a) (O b 3) c) (O b 4) C):=
 Fr.trans (Fr.trans (Fr.trans (Fr.trans rC rC λ_ _ h=>h) rC λ_ _ h=>h) rC λ_ _ h=>h) rC (λ_ _ h=>h)
def dc.fr{c:t'}{b:Nat}(h:dc w b s a)(Y:Fr P w c)(U:P b):dc c b s a:=(Y.block b h.lt U).trans h
def Fr.box{a:t'}{L:Array A'}{t:TypeId}(Y:Fr P w a)(h:w.1[k]?=C' (cL L t))(U:P k):a.1[k]?=C' (cL L t):=(Y.block k (bG.1 h).1 U).trans h
def Pn (rb:Nat) (p g:Int) (s:z') (x:Bool) (w:t') (h:dc w rb s x) (y:s.size<=60000):
    Cl 231 #[n'<|C'<|O rb 0,k' #[G p,G g]] w λe W'=>VZ w W' rb s (dU x (uH g) s) e/\Fr (λj=>j≠rb) w W':=by
  have L:=h.lt;have E:=A h;have T:=λ(V:t')(F:dc V rb s x)=>nM rb s x (s.size:Int) V F y ⟨I,I⟩;have o:=ſ<|M T h;clear h T;go_enter func231,ntmps231;go_upto_region 1 with(fail)
  obtain⟨b,X⟩:=Ea<|(((w.alloc<|j' (bM rb) 274).alloc<|dr p g).alloc<|j' lL 96);rw[<-X];have D:δ b.1=δ w.1+3:=by rw[X];simp
  have l:b.1[δ w.1]?=C' (j' (bM rb) 274 (0,0)):=by rw[X,ch _ _ _ I',ch _ _ _ ak,bj]
  have y:b.1[δ w.1+1]?=C' (ot p g):=by rw[X,ch _ _ _ ak];exact(bP w _ _).2
  have r:b.1[δ w.1+2]?=C' (j' lL 96 (0,0)):=by rw[X];have:=bj ((w.alloc<|j' (bM rb) 274).alloc<|dr p g)<|j' lL 96;simpa using this
  have c:dc b rb s x:=by rw[X];exact((o.A.alloc _).alloc _).alloc _
  have f:Below w.1.size w b:=by rw[X];exact gU
  clear E;have E:=A c;have D:=A l;have u:=ſ<|M l<|M y<|M r<|M c f;clear l y r c f X
  go_cut [5] from 8 (λc q=>∃(k:Nat)(U:z')(z:Bool),c=G k/\k<=60000/\J (Ü s x (s.size:Int) k U z/\dc q rb U z/\Fr (λj=>j≠rb) b q))
  case first=>
    go_region_law (go_simp;refine(o.a _<|by exact u.d).mono ?_;rintro e t ⟨k,U,z,rfl,b,hr,g⟩)
    all_goals
      go_wp2_with fail
      go_meet
      exact⟨k,U,z,rfl,(by rcases b.2 with⟨_,_,q⟩|⟨_,_,q⟩<;>omega),b,hr,Fr.trans (Fr.aR (P:=λj=>j≠rb)<|by repeat(first|with_reducible exact aP _ _|with_reducible refine below_drewN ?_ _|with_reducible refine iJ ?_)) (Fr.dI g λj _ f=>by simpa using f) λ_ _ f=>f⟩
  obtain⟨k,U,z,rfl,b,X⟩:=hcut
  rename t'=>t
  clear E D;have T:δ w.1+3<=δ t.1:=by have:=X.B.size;omega
  have l:t.1[δ w.1]?=_:=(X.B.block _ I I).trans u.a;have y:t.1[δ w.1+1]?=_:=(X.B.block _ I I).trans u.b;have r:t.1[δ w.1+2]?=_:=(X.B.block _ I I).trans u.c;have v:=ſ<|M l<|M y r;clear l y r;go_upto_region 4 with(fail)
  obtain⟨q,b⟩:=Ea<|((t.alloc<|j' lL 96).alloc<|j' #[G 0] 3);rw[<-b];have c:δ q.1=δ t.1+2:=by rw[b];simp
  have l:Below t.1.size t q:=by rw[b];exact cU
  obtain⟨B,n1⟩:=bP t (j' lL 96)<|j' #[G 0] 3;rw[<-b]at B n1;have c:dc q rb U z:=by rw[b];exact(X.b.alloc _).alloc _
  have L:V6 w.1.size rb q:=(l.block _ I).trans v.a;have o:ø q w rb t.1.size p g (h' D' 0 0) (h' D' 0 0):=⟨L,(l.block _ I).trans v.b,(l.block _ I).trans v.B,B,T⟩;have v:Fr (λj=>j≠rb) w q:=Fr.trans (Fr.trans (Fr.aR u.D) X.B λ_ _ h=>h) (Fr.aR l) λ_ _ h=>h
  have u:=λ(V:t')(F:dc V rb U z)(E:ZH (δ t.1+1) w.1.size rb V 0)(r:∀j,(j=δ t.1+1\/j=δ w.1)->j<δ V.1)=>Kn iU (ZH (δ t.1+1) w.1.size rb) (ĸ (δ t.1+1) w.1.size rb) (λj=>j=δ t.1+1\/j=δ w.1) (δ t.1+1) w.1.size rb k U z 0 V
    (λW st s x C y N=>Pk _ _ _ I I I W st s x C y N)
    (λW W' st C y=>⟨(y _<|aI rfl).trans C.1,(y _<|aH rfl).trans C.2.1,C.2.2⟩)
    (λW W' C y=>⟨⟨_,(y _<|aI rfl).trans C.1.choose_spec⟩,(y _<|aH rfl).trans C.2⟩)
    (λW st C=>⟨⟨_,C.1⟩,C.2.1⟩) r F E (L' X.a.1) I
  have r:=ſ<|M u<|M n1<|M c<|M o v;have D:=A L;clear u o c v L b B n1 l;go_wp2_with fail;refine(r.a _ r.c ⟨r.b,r.d.1,I⟩ (by intro j f;rcases f with rfl|rfl<;>omega)).mono ?_;rintro e F ⟨y,B⟩;obtain⟨fa,fl,L,s2,o,rfl,l,E,R⟩:=y.one λW st C=>⟨⟨_,C.1⟩,C.2.1⟩;have b:=(B.block t.1.size I ⟨I,I⟩).trans r.d.2.2.2.1;have z1:=A b;have u:J (∀(v:A'),ø (κ F (O t.1.size 0) v) w rb t.1.size p g v (h' D' 0 0)/\Wv (κ F (O t.1.size 0) v) q.1.size k U z iU 0 fa fl L s2 o/\dc (κ F (O t.1.size 0) v) rb s2 o/\Fr (λj=>j≠rb) w (κ F (O t.1.size 0) v)/\δ q.1<=δ (κ F (O t.1.size 0) v).1):=by intro v;have c:=fV F t.1.size 0 v;have U:=B.size;have z:=(B.block (δ w.1+1) I ⟨I,I⟩).trans r.d.2.1;have p:=(B.block (δ w.1+2) I ⟨I,I⟩).trans r.d.2.2.1;refine⟨⟨(c.block _ I I').trans R.2,(c.block _ I I').trans z,(c.block _ I I').trans p,aw b v,T⟩,l.fr (Fr.dI (P:=λj=>δ q.1<=j) c λj _ f=>by simp;omega) λj f=>(l.lt j f).1,E.grown c I',?_,L' c.size⟩;exact Fr.trans (Fr.trans r.D (B.mono λj _ (f:j≠rb/\j<δ w.1)=>⟨f.1,I⟩) λj C y=>⟨y,C⟩) (Fr.dI (P:=λj=>j<δ w.1) c λj _ f=>by simp;omega) λj C _=>C
  clear b l E R B y;go_upto_region 5 with(fail)
  obtain⟨v,p⟩:=Ea<|κ F (O t.1.size 0)<|h' fa fl L;rw[<-p];have z:=ſ<|u.o<|h' fa fl L;rw[<-p]at z;clear p z1 D;have V:=z.a.1;have e2:=z.a.2.1;have e4:=z.a.2.2.2.1;have D:=A e2;by_cases c:g=1;rotate_left
  · have hL:decide (g=1)=Q':=by rw[gB];exact c
    have T:=ſ c;clear c;go_wp2_with fail;refine ju.mono ?_;rw[hL];rintro e r ⟨rfl,p⟩;have Y:Bl v r:=by rw[p];exact aY
    have u:Fr (λ_=>True) v r:=Fr.aR Y;have d2:=u.box z.a.2.2.1 trivial;have F:=u.box e4 trivial;have l:=z.c.fr u trivial;have b:=z.b.fr u λ_ _=>trivial;have R:=Fr.trans z.d u λ_ _ _=>trivial;have U:δ q.1<=δ r.1:=br z.D u.size;have B:=ſ<|M b<|M l R;clear D V e2 e4;have D:=A d2;have z1:=A F;clear d2 F l b R u Y p;go_wp2_with fail;refine aC (v:=k' #[h' fa fl L,h' D' 0 0,i' Q',G 0,h' D' 0 0]) (by simp[results231,go_sem,D.1]) rfl ?_;have E:=Õ r (δ w.1+1+1) (h' fa fl L) (h' D' 0 0) (i' Q') (G 0)<|h' D' 0 0;refine⟨Sz T.o X.a (B.a.fr E (λj f=>by have:=(B.a.lt j f).1;show j≠_;omega)) I<|B.b.fr E I',?_⟩;exact Fr.trans B.B E (λj C y=>by show j≠_;omega)
  have hL:decide (g=1)=P':=by rw[bw];exact c
  have T:=ſ c;clear c;go_wp2_with fail;refine ju.mono ?_;rw[hL];rintro e r ⟨rfl,p⟩;have Y:Bl v r:=by rw[p];exact aY
  have u:Fr (λ_=>True) v r:=Fr.aR Y;have d0:=u.box V trivial;have d2:=u.box z.a.2.2.1 trivial;have F:=u.box e4 trivial;have l:=z.c.fr u trivial;have b:=z.b.fr u λ_ _=>trivial;have R:=Fr.trans z.d u λ_ _ _=>trivial;have U:δ q.1<=δ r.1:=br z.D u.size
  have c:=Ko kM (λ_ _=>True) (λ_=>True) (λ_=>False) rb k s2 o () r
    (λW st s x _ y N=>by
      refine(qg rb s x W y N).mono ?_;rintro e W' ⟨o,g⟩;refine⟨?_,Fr.dI g λj _ f=>by simpa using f.1⟩;rcases o with⟨n,o,r1,q,rfl,v⟩|⟨r1,rfl,o,q,v⟩
      · obtain⟨r,g⟩:=eG r1
        subst r;exact aI ⟨_,(),o,by unfold dU kM;simp only[bV,bB];rw[g],q,rfl,v,trivial⟩
      · refine aH ⟨?_,_,o,⟨_,rfl⟩,rfl,q,v,trivial⟩
        apply si;rcases mX r1 with r|⟨_,r⟩
        · exact aI r
        · right
          unfold kM
          rw[r])
    (λ_ _ _ _ _=>trivial) (λ_ _ _ _=>trivial) (λ_ _ _=>trivial) (λ_ h=>h.elim) l trivial (by have:=X.a.1;have:=z.b.1;omega) I
  have B:=ſ<|M c<|M d2<|M F<|M b<|M R b.lt;clear D V e2 e4;have D:=A d0;clear c d0 d2 F l b R u Y p;go_wp2_with fail;refine bE B.a ?_;rintro e r ⟨s,e⟩;obtain⟨l,c,rc,b,x,rfl,g,b,_⟩:=s.one λ_ _ _=>trivial;have p:=e.box B.b (show _/\_ from⟨I,λh=>h⟩);have q:=e.box B.c (show _/\_ from⟨I,λh=>h⟩);have o:=e.size;have o:=ſ<|M p<|M q<|M g<|M b e;clear D s g b e;have D:=A p;have z1:=A q;have n1:δ w.1+2≠δ t.1:=I;have x:δ t.1≠δ w.1+2:=I;clear p q;go_wp2_with fail;refine aC (v:=k' #[h' fa fl L,h' l c rc,i' Q',G 0,h' D' 0 0]) (by simp[results231,go_sem,D.1]) rfl ?_;have E:=Õ (κ r (O t.1.size 1)<|h' l c rc) (δ w.1+1+1) (h' fa fl L) (h' l c rc) (i' Q') (G 0)<|h' D' 0 0;have b:=Fr.trans (P:=λj=>j≠δ t.1/\j≠δ w.1+1+1) ((Ø r t.1.size 1<|h' l c rc).mono λj _ h=>h.1) E λj _ h=>h.2;have c:=Fr.trans (P:=λj=>j≠rb/\j≠δ t.1/\j≠δ w.1+1+1) (o.D.mono λj _ h=>⟨h.1,λh=>h⟩) b λj _ h=>h.2;refine⟨SA T.o X.a (B.d.fr c (λj f=>by have:=(B.E j f).1;exact⟨I,I,I⟩)) (o.c.fr b (λj f=>by have:=(o.c.lt j f).1;exact⟨I,I⟩)) I (λj f=>(B.E j f).2) U<|o.d.fr b ⟨I,I⟩,?_⟩;exact Fr.trans B.e c λj C y=>⟨y,I,I⟩
end
section
variable {p:Prop}
def uO(l:y'):Option (Vl×y'):=match pq l with
 |some (x,r)=>match kW 100000 r with
  |some (k,q)=>C' (⟨2,0,0,P',x,(k:Int)⟩,q)
  |none=>D'
 |none=>D'
def lN(g:Int)(l:y'):Option (Vl×y'):=match l with
 |b::r=>
  if b.toNat=1 then(match pq r with|some (x,q)=>C' (⟨1,x,0,Q',0,0⟩,q)|none=>D')
  else if b.toNat=2 then
   (if g=1 then(match iy r with|some (f,q)=>if f then uO q else C' (⟨2,0,0,Q',0,0⟩,q)|none=>D') else C' (⟨2,0,0,Q',0,0⟩,r))
  else D'
 |[]=>D'
def M?{b:UInt8}{r:y'}(h:dU a FZ s=C' (b,r)):a=Q'/\s.1.1=b::r:=by
 unfold dU FZ at h;cases a with
 |true=>cases h
 |false=>
  refine⟨rfl,?_⟩;simp only[bV,bB]at h;split at h
  .rename_i o q l;simp at h;rw[l,h.1,h.2]
  cases h
def Ty(g:Int)(h:dU a FZ s=D'):dU a (lN g) s=D':=by
 unfold dU at h|-;cases a with
 |true=>rfl
 |false=>
  simp only[bV,bB]at h|-;cases X:s.1.1 with
  |nil=>rfl
  |cons a r=>rw[X]at h;simp[FZ]at h
theorem aaA(h:p:=by
 have N:=u.o.1;have d:=H3.o.1;have l:=B.o.1;unfold dU at N d l|-;simp only[bV,bB]at N d l|-;unfold lN;rw[c.o.1];simp only[T.o.1,T.o.2,ck.o,b8,bB,N];unfold uO;rw[d];simp only;rw[l]
 rfl):p:=h
theorem Ŭ(h:p:=by
 have N:=u.o.1;unfold dU at N|-;simp only[bV,bB]at N|-;unfold lN;rw[c.o.1];simp only[T.o.1,T.o.2,ck.o,b8,bB,N]
 rfl):p:=h
def Kh(rb:Nat)(s:z')(bad:Bool)(p g:Int)(w:t')(h:dc w rb s bad)(y:s.size<=60000):
  Cl 295 #[n'<|C'<|O rb 0,k' #[G p,G g]] w λe L=>è L rb s (dU bad (lN g) s) jz (λz=>∃v,z=jz v) e/\ξ w L (C' rb):=by
 have L:=h.lt;have T:=λ(W:t')(r:dc W rb s bad)=>r8 rb s bad W r y;have s:=ſ<|M T h;clear h T;go_enter func295,ntmps295;go_wp2_with fail;refine bE (s.a _<|(s.A.alloc _).alloc _) ?_;rintro e t ⟨C,N⟩;have l:=eh (bP w (dr p g)<|j' nF 73).1 N I;have X:=eh (bP w (dr p g)<|j' nF 73).2 N I;have d:=jd<|jd N;have s:=(bG.1 l).1;have e2:=(bG.1 X).1;rcases C with⟨b,U,i,Ba,rfl,a⟩|⟨i,rfl,U,Ba,a⟩;rotate_left
 .have hrl:=a.lt;have E:=A l;have o:=A X;have B:=A a;have n1:δ w.1≠δ t.1:=I;have n2:δ t.1≠δ w.1:=I;have n3:δ w.1+1≠δ t.1:=I;have V:δ t.1≠δ w.1+1:=I;have n5:rb≠δ t.1:=I;have n6:δ t.1≠rb:=I;have n7:rb≠δ w.1+1:=I;have n8:δ w.1+1≠rb:=I;have c:=ſ<|M (Ty g i)<|M a<|M d<|M l X;clear a d l X i N;go_wp2_with fail;have R:=hZ (b:=δ w.1+1) (c.c.trans<|fV _ rb 1<|i' true) (aw (o:=1) c.b<|i' true) I I (G 0) (G 0) (G 0) (i' false) (G 0)<|G 0;refine aC (v:=jz ⟨0,0,0,false,0,0⟩) (by simp[results,results295,go_sem,o.1,jz,e2]) rfl ?_;exact⟨aH ⟨c.a,_,U,⟨_,rfl⟩,rfl,I,R.1.alloc _⟩,tK R.2 _⟩
 obtain⟨rfl,f⟩:=M? i;have s:=sG b;have hrl:=a.lt;have E:=A l;have o:=A X;have B:=A a;have n1:δ w.1≠δ t.1:=I;have n2:δ t.1≠δ w.1:=I;have n3:δ w.1+1≠δ t.1:=I;have V:δ t.1≠δ w.1+1:=I;have n5:rb≠δ t.1:=I;have n6:δ t.1≠rb:=I;have n7:rb≠δ w.1+1:=I;have n8:δ w.1+1≠rb:=I;have c:=ſ<|M f<|M a<|M d<|M l X;clear f a d l X i N;by_cases Q:b.toNat=1
 .have mi:((b.toNat:Int)==1)=true:=by rw[eo];omega
  have a:=pC rb U false (t.alloc<|Bw b.toNat) (c.b.alloc _) I;have K:=ſ a;have T:=ſ Q;clear a Q;go_wp2_with fail;refine bE K.o ?_;rintro e F ⟨r,k⟩;have f:=eh (bj t<|Bw b.toNat) k I;have q:=eh ((ch t (Bw b.toNat) _ e2).trans c.D) k I;have P:=A f;have l:=A q;have h:=c.c.trans<|jd k;clear E o B f q k;rcases r with⟨x,s2,d,X,rfl,Y⟩|⟨d,rfl,s2,X,Y⟩
  .have u:=ſ<|M d<|M Y h;clear d Y h;go_wp2_with fail;have R:=hZ (b:=δ w.1+1) (dL (b:=δ t.1) (o:=1) u.B I<|G x) (u.b.far (b:=δ t.1) (o:=1) I<|G x) I I (G b.toNat) (G x) (G 0) (i' false) (G 0)<|G 0;refine aC (v:=jz ⟨(b.toNat:Int),x,0,false,0,0⟩) (by simp[results,results295,go_sem,l.1,jz]) rfl ?_;refine⟨aI ⟨⟨(b.toNat:Int),x,0,false,0,0⟩,s2,?_,I,rfl,R.1⟩,R.2⟩;have N:=u.a;unfold dU at N|-;simp only[bV,bB]at N|-;unfold lN;rw[c.a];simp only[T.o,b8];rw[N];rfl
  have u:=ſ<|M d<|M Y h;clear d Y h;go_wp2_with fail;have R:=hZ (b:=δ w.1+1) (dL (b:=δ t.1) (o:=1) u.B I<|G 0) (u.b.far (b:=δ t.1) (o:=1) I<|G 0) I I (G b.toNat) (G 0) (G 0) (i' false) (G 0)<|G 0;refine aC (v:=jz ⟨(b.toNat:Int),0,0,false,0,0⟩) (by simp[results,results295,go_sem,l.1,jz]) rfl ?_;refine⟨aH ⟨?_,_,s2,⟨_,rfl⟩,rfl,I,R.1⟩,R.2⟩;have N:=u.a;unfold dU at N|-;simp only[bV,bB]at N|-;unfold lN;rw[c.a];simp only[T.o,b8];rw[N]
 have mi:((b.toNat:Int)==1)=false:=by rw[dO];omega
 by_cases i:b.toNat=2;rotate_left
 .have s:((b.toNat:Int)==2)=false:=by rw[dO];omega
  go_wp2_with fail;have R:=hZ (b:=δ w.1+1) (c.c.trans<|fV _ rb 1<|i' true) (aw (o:=1) c.b<|i' true) I I (G b.toNat) (G 0) (G 0) (i' false) (G 0)<|G 0;refine aC (v:=jz ⟨(b.toNat:Int),0,0,false,0,0⟩) (by simp[results,results295,go_sem,o.1,jz,e2]) rfl ?_;refine⟨aH ⟨?_,_,U,⟨_,rfl⟩,rfl,I,R.1.alloc _⟩,tK R.2 _⟩;unfold dU lN;rw[c.a];simp[Q,i]
 have s:((b.toNat:Int)==2)=true:=by rw[eo];omega
 have T:=ſ<|M Q i;clear Q i;cases C:decide (g=1)with
 |false=>
  have mq:J (¬g=1):=by show ¬g=1;simpa using C
  go_wp2_with (go_at_call 203;refine ju.mono ?_;rw[C];rintro e w9 ⟨rfl,rfl⟩);have R:=hZ (b:=δ w.1+1) c.c c.b I I (G b.toNat) (G 0) (G 0) (i' false) (G 0)<|G 0;refine aC (v:=jz ⟨(b.toNat:Int),0,0,false,0,0⟩) (by simp[results,results295,go_sem,o.1,jz,e2,(show δ w.1+1<δ t.1+1 by omega),(show δ w.1<δ t.1 by omega)]) rfl ?_;refine⟨aI ⟨⟨(b.toNat:Int),0,0,false,0,0⟩,U,?_,I,rfl,(R.1.alloc _).alloc _⟩,tK (tK R.2 _) _⟩;unfold dU lN;rw[c.a];simp[T.a,T.A,mq.o]
 |true=>
  have ck:J (g=1):=by show g=1;simpa using C
  have i:=B7 rb U false ((t.alloc<|Bw b.toNat).alloc<|dr p g) ((c.b.alloc _).alloc _) I;have K:=ſ i;clear i;go_wp2_with (go_at_call 203;refine ju.mono ?_;rw[C];rintro e w9 ⟨rfl,rfl⟩);refine bE K.o ?_;rintro e F ⟨r,k⟩;have f:=eh ((ch _ (dr p g) _ ak).trans<|bj t<|Bw b.toNat) k I;have q:=eh ((ch _ (dr p g) _<|by simp;omega).trans<|(ch t (Bw b.toNat) _ e2).trans c.D) k I;have P:=A f;have l:=A q;have h:=c.c.trans<|jd<|jd k;have j:=ſ<|M f q;clear E o B f q k;rcases r with⟨f,s2,d,X,rfl,Y⟩|⟨d,rfl,s2,X,Y⟩;rotate_left
  .have u:=ſ<|M d<|M Y h;clear d Y h;go_wp2_with fail;have R:=hZ (b:=δ w.1+1) u.B u.b I I (G b.toNat) (G 0) (G 0) (i' false) (G 0)<|G 0;refine aC (v:=jz ⟨(b.toNat:Int),0,0,false,0,0⟩) (by simp[results,results295,go_sem,l.1,jz]) rfl ?_;refine⟨aH ⟨?_,_,s2,⟨_,rfl⟩,rfl,I,R.1⟩,R.2⟩;exact Ŭ
  cases f with
  |false=>have u:=ſ<|M d<|M Y h;clear d Y h;go_wp2_with fail;have R:=hZ (b:=δ w.1+1) u.B u.b I I (G b.toNat) (G 0) (G 0) (i' false) (G 0)<|G 0;refine aC (v:=jz ⟨(b.toNat:Int),0,0,false,0,0⟩) (by simp[results,results295,go_sem,l.1,jz]) rfl ?_;refine⟨aI ⟨⟨(b.toNat:Int),0,0,false,0,0⟩,s2,?_,I,rfl,R.1⟩,R.2⟩;exact Ŭ
  |true=>
   have a:=pC rb s2 false (κ F (O t.1.size 3)<|i' true) (Y.far I _) I;have u:=ſ<|M d<|M a h;clear d Y h a;go_wp2_with fail;refine bE u.b ?_;rintro e o ⟨d,f⟩;have v:=eh (aw (o:=3) j.a<|i' true) f I;have a:=eh ((bh F (O t.1.size 3) _ _<|show δ w.1+1≠δ t.1 by omega).trans j.A) f I;have h:=(dL (b:=δ t.1) (o:=3) u.B I<|i' true).trans f;have D:=ſ<|M v a;have t1:=A v;have v1:=A a;clear P l v a f;rcases d with⟨x,S,i,mm,rfl,Y⟩|⟨i,rfl,S,mm,Y⟩;rotate_left
   .have q:=qg rb S true (κ o (O t.1.size 4)<|G 0) (Y.far I _) I;have H3:=ſ<|M i<|M q h;clear i Y h q;go_wp2_with fail;refine bE H3.b ?_;rintro e W4 ⟨l,g5⟩;have E:=eh (aw (o:=4) D.a<|G 0) g5 I;have Q:=eh ((bh o (O t.1.size 4) _ _<|show δ w.1+1≠δ t.1 by omega).trans D.A) g5 I;have h:=(dL (b:=δ t.1) (o:=4) H3.B I<|G 0).trans g5;have p1:=A E;have q1:=A Q;clear t1 v1 E Q g5;rcases l with⟨k,P,a,r,rfl,Y⟩|⟨a,rfl,P,r,Y⟩
    .cases a
    have B:=ſ<|M a<|M Y h;clear a Y h;go_wp2_with fail;have R:=hZ (b:=δ w.1+1) (dL (b:=δ t.1) (o:=5) B.B I<|G 0) (B.b.far (b:=δ t.1) (o:=5) I<|G 0) I I (G b.toNat) (G 0) (G 0) (i' true) (G 0)<|G 0;refine aC (v:=jz ⟨(b.toNat:Int),0,0,true,0,0⟩) (by simp[results,results295,go_sem,q1.1,jz]) rfl ?_;refine⟨aH ⟨?_,_,P,⟨_,rfl⟩,rfl,I,R.1⟩,R.2⟩;have N:=u.a;have d:=H3.a;unfold dU at N d|-;simp only[bV,bB]at N d|-;unfold lN;rw[c.a];simp only[T.a,T.A,ck.o,b8,bB,N];unfold uO;rw[d];rfl
   have q:=qg rb S false (κ o (O t.1.size 4)<|G x) (Y.far I _) I;have H3:=ſ<|M i<|M q h;clear i Y h q;go_wp2_with fail;refine bE H3.b ?_;rintro e W4 ⟨l,g5⟩;have E:=eh (aw (o:=4) D.a<|G x) g5 I;have Q:=eh ((bh o (O t.1.size 4) _ _<|show δ w.1+1≠δ t.1 by omega).trans D.A) g5 I;have h:=(dL (b:=δ t.1) (o:=4) H3.B I<|G x).trans g5;have p1:=A E;have q1:=A Q;clear t1 v1 E Q g5;rcases l with⟨k,P,a,r,rfl,Y⟩|⟨a,rfl,P,r,Y⟩
   .have B:=ſ<|M a<|M Y h;clear a Y h;go_wp2_with fail;have R:=hZ (b:=δ w.1+1) (dL (b:=δ t.1) (o:=5) B.B I<|G k) (B.b.far (b:=δ t.1) (o:=5) I<|G k) I I (G b.toNat) (G 0) (G 0) (i' true) (G x)<|G k;refine aC (v:=jz ⟨(b.toNat:Int),0,0,true,x,(k:Int)⟩) (by simp[results,results295,go_sem,q1.1,jz]) rfl ?_;refine⟨aI ⟨⟨(b.toNat:Int),0,0,true,x,(k:Int)⟩,P,?_,I,rfl,R.1⟩,R.2⟩;exact aaA
   have B:=ſ<|M a<|M Y h;clear a Y h;go_wp2_with fail;have R:=hZ (b:=δ w.1+1) (dL (b:=δ t.1) (o:=5) B.B I<|G 0) (B.b.far (b:=δ t.1) (o:=5) I<|G 0) I I (G b.toNat) (G 0) (G 0) (i' true) (G x)<|G 0;refine aC (v:=jz ⟨(b.toNat:Int),0,0,true,x,0⟩) (by simp[results,results295,go_sem,q1.1,jz]) rfl ?_;refine⟨aH ⟨?_,_,P,⟨_,rfl⟩,rfl,I,R.1⟩,R.2⟩;exact aaA
end
section
variable {σ:Type}
def Fx:Vl:=⟨0,0,0,Q',0,0⟩
def FC(a b:List Vl):iE (a++b)=iE a++iE b:=by simp[iE]
def FB(E:List Vl)(k j:Nat)(v:Vl)(h:E[k]?=C' v)(f:j<6):(iE E)[k*6+j]?=(iR v)[j]?:=by have C:(iR v)[j]?=C' ((iR v)[j]'(by simp[iR];omega)):=aQ _;rw[C];exact Dm _ k v h j _ C
def PU(n:Nat):(madeCells (k' nF).cells<|n*6).toList=iE (replicate n Fx):=by
 rw[show(k' nF).cells=nF from rfl];apply dQ;intro j;by_cases f:j<n*6;rotate_left
 .rw[b?<|by simp[madeCells];omega,b?<|by rw[yk];simp;omega]
 have C:(iE<|replicate n Fx)[j / 6*6+j % 6]?=(iR Fx)[j % 6]?:=FB _ (j / 6) (j % 6) Fx (by rw[jy,aB I]) I;rw[show j / 6*6+j % 6=j by omega]at C;rw[C];have c:j % 6<6:=Fk _ I;simp only[madeCells,C0,CZ,bH,jv f,gD];show C' nF[j % 6]! = _;generalize j % 6=r at c;have:r=0\/r=1\/r=2\/r=3\/r=4\/r=5:=I;rcases this with rfl|rfl|rfl|rfl|rfl|rfl<;>rfl
def adu(D:List Vl)(n k:Nat)(x:Vl)(a:ζ D=k)(K:k<n):
  ((((((iE<|D++replicate (n-k) Fx).set (k*6)<|G x.aO).set (k*6+1)<|G x.lo).set (k*6+2)<|G x.hi).set (k*6+3)<|i' x.bO).set (k*6+4)<|G x.first).set (k*6+5) (G x.rank)=iE ((D++[x])++replicate (n-(k+1)) Fx):=by
 have X:=yk D;rw[a]at X;rw[show n-k=(n-(k+1))+1 by omega,eW];simp only[FC,df];rw[show iE (Fx::replicate (n-(k+1)) Fx)=iR Fx++iE (replicate (n-(k+1)) Fx)from rfl,show iE [x]=iR x by simp[iE]];generalize iE (replicate (n-(k+1)) Fx)=r;generalize iE D=a at X;generalize k*6=m at X;have o:∀(l:List A')(y:A'),(a++l).set m y=a++l.set 0 y:=λl y=>JS a l m 0 y X;rw[o,t? X,t? X,t? X,t? X,t? X];rfl
def kn(D:List Vl)(n k j:Nat)(a:ζ D=k)(K:k<n)(f:j<6):(iE<|D++replicate (n-k) Fx)[k*6+j]?=(iR Fx)[j]?:=by exact FB _ k j Fx (by rw[fh I,a,jx,jy,aB I]) f
def V1(w W':t')(rb n:Nat)(s:z')(bad:Bool)(step:σ->y'->Option ((Vl×σ)×y'))(st:σ)(Inv:t'->σ->Prop)(gu:t'->Prop)(e:Ending):Prop:=
  ((∃xs OP s' la lc,dU bad (bT step n st) s=C' ((xs,OP),s'.1.1)/\s'.size<=s.size/\e=o' (h' la n lc)/\(la=D'->lc=0)/\ρ W' w.1.size 73 6 (h' la n lc) n (iE xs)/\dc W' rb s' Q'/\Inv W' OP)\/
   ((bad=P'\/dU bad (bT step n st) s=D')/\e=o' (h' D' 0 0)/\∃s',s'.size<=s.size/\dc W' rb s' P'/\gu W'))
def Km(step:σ->y'->Option ((Vl×σ)×y'))(Inv:t'->σ->Prop)(gu:t'->Prop)(Own:Nat->Prop)(c u rb n:Nat)(s:z')(bad:Bool)(st:σ)(w:t')
  (Qm:∀(W:t')(st:σ)(s:z')(bad:Bool),Inv W st->dc W rb s bad->s.size<=60000->Cl 293 (rQ c u) W λe b=>QR b rb s (dU bad (step st) s) jz (λz=>∃x,z=jz x) Inv gu e/\Fr (λj=>j≠rb/\¬Own j) W b)
  (hinv:∀(W b:t')(st:σ),Inv W st->(∀j,Own j->b.1[j]?=W.1[j]?)->Inv b st) (NS:∀(W b:t'),gu W->(∀j,Own j->b.1[j]?=W.1[j]?)->gu b) (hIB:∀W st,Inv W st->gu W) (Ho:∀j,Own j->j<δ w.1) (h:dc w rb s bad) (hi:Inv w st) (y:s.size<=60000) (K:n<=100000000):
  Cl 292 #[n'<|C'<|O rb 0,G n,.func (.func 293) #[]<|rQ c u] w λe b=>
   V1 w b rb n s bad step st Inv gu e/\Fr (λj=>j≠rb/\¬Own j) w b:=by
 have vV:=True.intro;exact abD
end
section
variable {c:t'}
def iT(p g:Int)(_:Unit)(l:y'):Option ((Vl×Unit)×y'):=match (if p=6 then sY l else lN g l)with
 |some (v,r)=>C' ((v,()),r)
 |none=>D'
def pV(sb xb rb:Nat)(p g:Int)(W:t'):Prop:=W.1[sb]?=C' (ot p g)/\V6 xb rb W
def MK{W:t'}{o u:Nat}{a:Bool}{p g:Int}{q:y'->Option (Vl×y')}(t:∀l,(if p=6 then sY l else lN g l)=q l)(y:o≠b)(F:u≠b)(i:pV o u b p g W)(h:è c b s (dU a q s) jz (λz=>∃v,z=jz v) e)(d:ξ W c<|C' b):
  QR c b s (dU a (iT p g ()) s) jz (λz=>∃x,z=jz x) (λW (_:Unit)=>pV o u b p g W) (pV o u b p g) e/\Fr (λj=>j≠b/\¬(j=o\/j=u)) W c:=by
 have a:pV o u b p g c:=⟨(d.block o (bG.1 i.1).1<|J' y).trans i.1,(d.block u (bG.1 i.2).1<|J' F).trans i.2⟩;refine⟨?_,Fr.dI d λj _ f=>J' f.1⟩;rcases h with⟨v,b,C,c,N,d⟩|⟨C,z,b,c,N,d,l⟩
 .obtain⟨e,k⟩:=eG C;subst e;refine aI ⟨v,(),b,?_,c,N,d,a⟩;simp only[dU,iT,bV,bB];rw[t,k]
 refine aH ⟨?_,z,b,c,N,d,l,a⟩;apply si;rcases mX C with r|⟨_,r⟩
 .exact aI r
 right;rw[iT,t,r]
def MI{a:Option (Vl×y')}(h:è c b s a jz (λz=>∃v,z=jz v) e):∃v,e=o' (jz v):=by
 rcases h with⟨v,a,C,b,N,d⟩|⟨C,z,a,⟨v,R⟩,N,d,l⟩
 .exact⟨v,N⟩
 exact⟨v,by rw[N,R]⟩
def BO{g U:t'}{d:Nat}{a:Option (Vl×y')}(h:è g d s a jz (λz=>∃v,z=jz v) e)(f:∀c b,dc g d c b->dc U d c b):è U d s a jz (λz=>∃v,z=jz v) e:=by
 rcases h with⟨v,c,C,a,N,d⟩|⟨C,z,c,a,N,d,l⟩
 .exact aI ⟨v,c,C,a,N,f _ _ d⟩
 exact aH ⟨C,z,c,a,N,d,f _ _ l⟩
def MJ{d:t'}{c:Nat}{a:Option (Vl×y')}(h:è d c s a jz (λz=>∃v,z=jz v) e):∃a b,dc d c a b:=by
 rcases h with⟨v,a,C,b,N,d⟩|⟨C,z,a,b,N,d,l⟩
 .exact⟨_,_,d⟩
 exact⟨_,_,l⟩
def Pu(o u D:Nat)(p g:Int)(y:o≠D)(hx:u≠D)(W:t')(s:z')(K:Bool)(i:pV o u D p g W)(h:dc W D s K)(Ba:s.size<=60000):
  Cl 293 #[n'<|C'<|O o 0,n'<|C'<|O u 0] W λe a=>QR a D s (dU K (iT p g ()) s) jz (λz=>∃x,z=jz x) (λW (_:Unit)=>pV o u D p g W) (pV o u D p g) e/\Fr (λj=>j≠D/\¬(j=o\/j=u)) W a:=by
 have d:=(bG.1 i.1).1;have z:=(bG.1 i.2).1;have a:=h.lt;have j:=ſ<|M i h;clear i h;by_cases U:p=6
 .have a:(p==6)=P':=by rw[eo];exact U
  have Q:=ſ U;clear U;go_enter func293,ntmps293;go_upto_region 1 with(fail)
  obtain⟨S,X⟩:=Ea<|(W.alloc<|j' nF 73);rw[<-X];have L:Bl W S:=by rw[X];exact aY
  have r:=(L.block o d).trans j.a.1;have P:=(L.block u z).trans j.a.2;have F:d' S W.1.size nF 73:=by rw[X];exact bj _ _
  have i:dc S D s K:=by rw[X];exact j.A.alloc _
  have T:=Gs D s K S i Ba;have B:=ſ<|M T<|M F<|M L X;have E:=A r;have y1:=A P;clear r P F i L X T;go_wp2_with fail;refine bE B.a ?_;rintro e t ⟨C,N⟩;obtain⟨v,rfl⟩:=MI C;have k:=(N.block W.1.size (bG.1 B.b).1 I').trans B.b;have q:ξ W t (C' D):=by have:=B.C;subst this;exact jd N
  have c:=ſ<|M C q;clear E y1 C N q;have E:=A k;clear k;simp only[jz];go_wp2_with fail;refine aC (v:=jz v) (by simp[results293,go_sem,E.1,jz]) rfl ?_;obtain⟨f,w,Y⟩:=MJ c.a;have R:=λx b h=>hZ (rb:=D) (s:=x) (bad:=b) c.A h (aD W.1.size) I (G v.aO) (G v.lo) (G v.hi) (i' v.bO) (G v.first)<|G v.rank;exact MK (λl=>aB Q.o) y hx j.a (BO c.a λx b h=>(R x b h).1) (R _ _ Y).2
 have a:(p==6)=Q':=by rw[dO];exact U
 have Q:=ſ U;clear U;go_enter func293,ntmps293;go_upto_region 1 with(fail)
 obtain⟨S,X⟩:=Ea<|(W.alloc<|j' nF 73);rw[<-X];have L:Bl W S:=by rw[X];exact aY
 have r:=(L.block o d).trans j.a.1;have P:=(L.block u z).trans j.a.2;have F:d' S W.1.size nF 73:=by rw[X];exact bj _ _
 have i:dc S D s K:=by rw[X];exact j.A.alloc _
 have T:=Kh D s K p g S i Ba;have B:=ſ<|M T<|M F<|M L X;have E:=A r;have y1:=A P;clear r P F i L X T;go_wp2_with fail;refine bE B.a ?_;rintro e t ⟨C,N⟩;obtain⟨v,rfl⟩:=MI C;have k:=(N.block W.1.size (bG.1 B.b).1 I').trans B.b;have q:ξ W t (C' D):=by have:=B.C;subst this;exact jd N
 have c:=ſ<|M C q;clear E y1 C N q;have E:=A k;clear k;simp only[jz];go_wp2_with fail;refine aC (v:=jz v) (by simp[results293,go_sem,E.1,jz]) rfl ?_;obtain⟨f,w,Y⟩:=MJ c.a;have R:=λx b h=>hZ (rb:=D) (s:=x) (bad:=b) c.A h (aD W.1.size) I (G v.aO) (G v.lo) (G v.hi) (i' v.bO) (G v.first)<|G v.rank;exact MK (λl=>ax Q.o) y hx j.a (BO c.a λx b h=>(R x b h).1) (R _ _ Y).2
end
section
variable {σ:Type}{a rk:Nat}{b:Bool}{u:A'}
def lT(g:Int)(l:y'):Option (Nat×y'):=if g=1 then kW 100000 l else C' (0,l)
def uN (p g:Int) (l:y'):Option (Nd×y'):=match lT g l with
  | some (rk,l1)=>(match kW 8 l1 with
    | some (k,l2)=>(match bT (iT p g) k () l2 with
      |some ((vs,_),l3)=>C' (⟨[],[],P',(rk:Int),vs⟩,l3)
      |none=>D')
    |none=>D')
  |none=>D'
def ZG(W':t')(B n:Nat)(s:z')(bad:Bool)(step:σ->y'->Option ((Vl×σ)×y'))(st:σ)(la:u')(ll lc:Nat)(s':z')(b':Bool):Prop:=
 s'.size<=s.size/\((b'=Q'/\ll=n/\∃xs OP,dU bad (bT step n st) s=C' ((xs,OP),s'.1.1)/\ρ W' B 73 6 (h' la n lc) n (iE xs))\/(b'=P'/\(bad=P'\/dU bad (bT step n st) s=D')/\la=D'/\ll=0/\lc=0))
def V1.one{f:Nat}{c:Bool}{step:σ->y'->Option ((Vl×σ)×y')}{st:σ}{Inv:t'->σ->Prop}{gu:t'->Prop}{e:Ending}(h:V1 w d f n s c step st Inv gu e)(g:∀W st,Inv W st->gu W):
  ∃i j R b X,e=o' (h' i j R)/\ZG d w.1.size n s c step st i j R b X/\dc d f b X/\gu d:=by
 exact ı
def ZG.fr{step:σ->y'->Option ((Vl×σ)×y')}{st:σ}(h:ZG w B n s b step st i j R c X)(Y:Fr P w d)(U:∀k,φ (h' i j R)=C' k->P k):ZG d B n s b step st i j R c X:=by exact Ť
def ZG.lt{step:σ->y'->Option ((Vl×σ)×y')}{st:σ}(h:ZG w B n s b step st i j R c X):∀k,φ (h' i j R)=C' k->B<=k/\k<δ w.1:=by exact ť
def pW(W:t')(w:t')(rb:Nat)(p g:Int)(rk:Nat)(vv:A'):Prop:=W.1[δ w.1]?=C' (j' (bM rb) 274 (0,0))/\W.1[δ w.1+1]?=C' (ot p g)/\W.1[δ w.1+2]?=C' (j' lL 96 (0,0))/\W.1[δ w.1+3]?=C' (j' #[h' D' 0 0,h' D' 0 0,i' P',G rk,vv] 96 (0,0))/\δ w.1+4<=δ W.1
def pW.fr{b:t'}(h:pW W w a p g rk u)(Y:Fr P W b)(U:∀j,δ w.1<=j->j<δ w.1+4->P j):pW b w a p g rk u:=
 ⟨Y.box h.1<|U _ I I,Y.box h.2.1<|U _ I I,Y.box h.2.2.1<|U _ I I,Y.box h.2.2.2.1<|U _ I I,br h.2.2.2.2 Y.size⟩
def pW.set{c:Nat}{b:A'}(h:pW W w c p g rk u)(o:Nat)(v:A')(l:#[h' D' 0 0,h' D' 0 0,i' P',G rk,u].setIfInBounds o v=#[h' D' 0 0,h' D' 0 0,i' P',G a,b]):pW (κ W (O (δ w.1+3) o) v) w c p g a b:=by have Y:=Ø W (δ w.1+3) o v;refine⟨Y.box h.1 I',Y.box h.2.1 I',Y.box h.2.2.1 I',?_,br h.2.2.2.2 Y.size⟩;rw[aw h.2.2.2.1,l]
def Ą(s:z')(bad:Bool)(g:Int)(rk:Nat)(s':z')(b:Bool):Prop:=s'.size<=s.size/\((b=Q'/\dU bad (lT g) s=C' (rk,s'.1.1))\/(b=P'/\dU bad (lT g) s=D'))
def Y?{q k t x:Nat}{U S:z'}{a j o e:Bool}{z:u'}(C:Ą s a g rk U j)(d:Ü U j 8 k c o)(N:ZG W B k c o (iT p g) () z t x S e)(v:δ w.1<=B)(y:dc W q S e):
  VZ w W q s (dU a (uN p g) s) (o'<|k' #[h' D' 0 0,h' D' 0 0,i' P',G rk,h' z t x]):=by
 have f:=br N.1<|br d.1 C.1;cases e with
 |true=>
  refine aH ⟨?_,⟨D',0,D',0,z,x,⟨[],[],P',(rk:Int),replicate t Fx⟩⟩,S,by simp[xm],f,y⟩;apply si;cases K:a with
  |true=>exact aI rfl
  |false=>
   right;subst K;unfold uN;rcases C.2 with⟨l,V⟩|⟨l,V⟩;rotate_left
   .rw[show lT g s.1.1=D' from V]
   rw[show lT g s.1.1=C' (rk,U.1.1)from V];simp only;subst l;rcases d.2 with⟨X,u,_⟩|⟨X,u,_⟩;rotate_left
   .rw[show kW 8 U.1.1=D' from u]
   rw[show kW 8 U.1.1=C' (k,c.1.1)from u];simp only;subst X;rcases N.2 with⟨Y,_⟩|⟨_,b,_⟩
   .cases Y
   rcases b with b|b
   .cases b
   rw[show bT (iT p g) k () c.1.1=D' from b]
 |false=>
  rcases N.2 with⟨_,r,E,a,b,P⟩|⟨Y,_⟩;rotate_left
  .cases Y
  obtain⟨X,F⟩:=eG b;subst X;rcases d.2 with⟨_,u,_⟩|⟨X,_⟩;rotate_left
  .cases X
  obtain⟨l,h⟩:=eG u;subst l;rcases C.2 with⟨_,V⟩|⟨l,_⟩;rotate_left
  .cases l
  obtain⟨L,i⟩:=eG V;subst L;have D:=eA _ _ _ _ _ _ _ F;subst r;refine aI ⟨⟨D',0,D',0,z,x,⟨[],[],P',(rk:Int),E⟩⟩,S,?_,f,by simp[xm,D],⟨cY _ _ _ _,cY _ _ _ _,?_,aI rfl⟩,y⟩;rotate_left
  .simpa[N5.vv,D]using bC P v
  simp only[dU,uN,bV,bB];rw[i];simp only;rw[h];simp only;rw[F]
def R7{p:Prop}(h:p:=by
 obtain⟨rk,U,b1,an,Q9,c,bo⟩:=HA.o;have Em:δ w.1+4<=δ t.1:=an.2.2.2.2;have T:=λ(V:t')(hV:dc V rb U b1)=>nM rb U b1 8 V hV (L' Q9.1) ⟨I,I⟩
 have Qm:=λ(V:t')(k:Nat)(s2:z')(o:Bool)(Wj:s2.size<=60000)(hk:k<=8)(hV:dc V rb s2 o)(hI:pV (δ w.1+1) w.1.size rb p g V)(Ba:∀j,(j=δ w.1+1\/j=δ w.1)->j<δ V.1)=>Km (iT p g) (λW (_:Unit)=>pV (δ w.1+1) w.1.size rb p g W) (pV (δ w.1+1) w.1.size rb p g) (λj=>j=δ w.1+1\/j=δ w.1) (δ w.1+1) w.1.size rb k s2 o () V
  (λW st s bad C h2 N=>Pu _ _ _ p g I I W s bad C h2 N)
  (λW W' st C h2=>⟨(h2 _<|aI rfl).trans C.1,(h2 _<|aH rfl).trans C.2⟩)
  (λW W' C h2=>⟨(h2 _<|aI rfl).trans C.1,(h2 _<|aH rfl).trans C.2⟩)
  (λW st C=>C) Ba hV hI Wj I
 have HP:=ſ<|M T<|M Qm<|M an<|M Q9<|M c bo;have x1:=A an.1;clear T Qm an Q9 c bo HA
 go_cut [] from 12 (λwx=>∃(z:u')(vl x k:Nat)(s2 s3:z')(o b3:Bool),J<|pW wx w rb p g rk (h' z vl x)/\Ü U b1 8 k s2 o/\ZG wx t.1.size k s2 o (iT p g) () z vl x s3 b3/\dc wx rb s3 b3/\Fr (λj=>j≠rb) w wx/\δ t.1<=δ wx.1)
 case first=>
  go_region_law (first|(have _:=B;go_simp;refine(HP.b _ k s2 o Wj ar (by exact B.b) (by exact⟨B.c.2.1,B.c.1⟩) (by intro j f;have h9:=B.c.2.2.2.2;rcases f with rfl|rfl<;>(show _<δ W4.1;omega))).mono ?_;rintro e W5 ⟨h5,f5⟩;obtain⟨z,vl,x,s3,b3,rfl,ff,ed,fi⟩:=h5.one λW st C=>C;have ae:=f5.box B.c.2.2.2.1 (show _/\_ from⟨I,I⟩);have z1:=A ae;have H5:=ſ<|M ff<|M ed<|M fi<|M f5 ae;clear ff ed fi f5 h5 ae)|(go_simp;refine(HP.a _<|by exact HP.e).mono ?_;rintro e W4 ⟨k,s2,o,rfl,hk,ee,g4⟩;have au:Fr (λj=>j≠rb) t W4:=Fr.trans (Fr.aR (P:=λj=>j≠rb)<|by repeat(first|with_reducible exact aP _ _|with_reducible refine below_drewN ?_ _|with_reducible refine iJ ?_)) (Fr.dI g4 λj _ f=>by simpa using f) λ_ _ f=>f;have v:=HP.c.fr au (λj f _=>by show j≠rb;omega);have Wj:s2.size<=60000:=(by have:=hk.1;have:=HP.d.1;omega);have ar:k<=8:=(by rcases hk.2 with⟨_,_,q⟩|⟨_,_,q⟩<;>omega);have y1:=A v.1;have B:=ſ<|M hk<|M ee<|M v au;clear hk ee v au g4))
  all_goals
   go_wp2_with fail
   go_meet
   obtain⟨k1,k2,k3,k4,k5⟩:=H5.o;have fy:=k4.size;have hfr:=B.C;have cc:=hfr.size;have js:pW W5 w rb p g rk (h' D' 0 0):=⟨k3.2,k3.1,k4.box B.c.2.2.1<|show _/\_ from⟨I,I⟩,k5,br (br Em cc) fy⟩;have R:=Ø W5 (δ w.1+3) 4<|h' z vl x;refine⟨z,vl,x,k,s2,s3,o,b3,js.set 4 _ rfl,B.a,?_,k2.fr R I',?_,br (br cc fy) R.size⟩
   .have hl:ZG W5 t.1.size k s2 o (iT p g) () z vl x s3 b3:=by
     refine⟨k1.1,?_⟩;rcases k1.2 with⟨C,h2,D,OP,N,h4⟩|h
     .exact aI ⟨C,h2,D,OP,N,bC h4 cc⟩
     exact aH h
    exact hl.fr R (λj f=>by have:=(hl.lt j f).1;show j≠_;omega)
   have f6:Fr (λj=>j≠rb/\j<δ w.1) W4 W5:=Fr.trans (Fr.aR (P:=λj=>j≠rb/\j<δ w.1)<|by repeat(first|with_reducible exact aP _ _|with_reducible refine below_drewN ?_ _|with_reducible refine iJ ?_)) (k4.mono λj _ (f:j≠rb/\j<δ w.1)=>⟨f.1,I⟩) λ_ _ h=>h;exact Fr.trans (Fr.trans (Fr.trans HP.E hfr λ_ _ h=>h) f6 λj C h2=>⟨h2,C⟩) R (λj C _=>by show j≠_;omega)
 obtain⟨z,vl,x,k,s2,s3,o,b3,Y⟩:=hcut
 rename t'=>W6
 clear x1;have x1:=A Y.a.2.2.2.1;have y1:=A Y.a.2.2.1;go_wp2_with fail;refine aC (v:=k' #[h' D' 0 0,h' D' 0 0,i' P',G rk,h' z vl x]) (by simp[results233,go_sem,y1.1]) rfl ?_;have E:=Õ W6 (δ w.1+1+1) (h' D' 0 0) (h' D' 0 0) (i' P') (G rk)<|h' z vl x;refine⟨Y? HP.d Y.b (Y.c.fr E (λj f=>by have:=(Y.c.lt j f).1;show j≠_;omega)) I<|Y.d.fr E I',?_⟩
 exact Fr.trans Y.e E λj C h2=>by show j≠_;omega):p:=h
def Pp(rb:Nat)(p g:Int)(s:z')(bad:Bool)(w:t')(h:dc w rb s bad)(y:s.size<=60000):
  Cl 233 #[n'<|C'<|O rb 0,k' #[G p,G g]] w λe W'=>VZ w W' rb s (dU bad (uN p g) s) e/\Fr (λj=>j≠rb) w W':=by
 have b:=h.lt;have HR:=(show J (dc w rb s bad)from h);clear h;go_enter func233,ntmps233;go_upto_region 2 with(fail)
 obtain⟨V0,X⟩:=Ea<|((((w.alloc<|j' (bM rb) 274).alloc<|dr p g).alloc<|j' lL 96).alloc Ro);rw[<-X];have L:pW V0 w rb p g 0 (h' D' 0 0):=by
  rw[X];refine⟨?_,?_,?_,?_,ak⟩
  .rw[ch _ _ _ (by first|(simp;done)|(simp;omega)),ch _ _ _ (by first|(simp;done)|(simp;omega)),ch _ _ _ ak,bj]
  .rw[ch _ _ _ (by first|(simp;done)|(simp;omega)),ch _ _ _ ak];exact(bP w _ _).2
  .have:=(bP ((w.alloc<|j' (bM rb) 274).alloc<|dr p g) (j' lL 96) Ro).1;simpa using this
  have:=(bP ((w.alloc<|j' (bM rb) 274).alloc<|dr p g) (j' lL 96) Ro).2;simpa using this
 have b:dc V0 rb s bad:=by rw[X];exact(((HR.o.alloc _).alloc _).alloc _).alloc _
 have c:Fr (λj=>j≠rb) w V0:=by rw[X];exact Fr.aR oe
 have r:=ſ<|M L<|M b c;have x1:=A L.2.1;clear L b c X;have c:∃b:Bool,decide (g=1)=b:=⟨_,rfl⟩;obtain⟨bg,hL⟩:=c;cases bg
 .go_wp2_with fail
  refine ju.mono ?_;rw[hL];rintro e t ⟨rfl,l⟩;have u:Fr (λ_=>True) V0 t:=Fr.aR (by rw[l];exact aY);have HA:J (∃rk U b1,pW t w rb p g rk (h' D' 0 0)/\Ą s bad g rk U b1/\dc t rb U b1/\Fr (λj=>j≠rb) w t):=by
   refine⟨0,s,bad,r.a.fr u λ_ _ _=>trivial,⟨aD _,?_⟩,r.b.fr u trivial,Fr.trans r.B u λ_ _ _=>trivial⟩;have hg:¬g=1:=gZ hL;cases bad with
   |true=>exact aH ⟨rfl,rfl⟩
   |false=>exact aI ⟨rfl,by unfold dU lT;simp only[bV,bB];rw[ax hg]⟩
  clear l u x1;go_upto_region 4 with(fail)
  exact R7
 go_wp2_with fail;refine ju.mono ?_;rw[hL];rintro e V3 ⟨rfl,l⟩;have u:Fr (λ_=>True) V0 V3:=Fr.aR (by rw[l];exact aY);have b:=r.a.fr u λ_ _ _=>trivial;have F:=r.b.fr u trivial;have T:=qg rb s bad V3 F y;have H3:=ſ (M T<|M b<|Fr.trans r.B u λ_ _ _=>trivial);clear x1 l u F T;have x1:=A b.1;clear b;go_wp2_with fail
 refine bE H3.a ?_;rintro e F ⟨h2,g2⟩;have bl:Fr (λj=>j≠rb) V3 F:=Fr.dI g2 (λj _ f=>by simpa using f);have X:=H3.b.fr bl (λj f _=>by show j≠rb;omega);obtain⟨rk,U,b1,rfl,Q9,c⟩:∃(rk:Nat)(U:z')(b1:Bool),e=o' (G rk)/\Ą s bad g rk U b1/\dc F rb U b1:=by
  have hg:g=1:=xV hL;have hq:∀l,lT g l=kW 100000 l:=λl=>by unfold lT;rw[aB hg]
  rcases h2 with⟨n,s',r1,r2,r3,L⟩|⟨r1,r3,s',r2,L⟩
  .obtain⟨hb,gk⟩:=eG r1;subst hb;exact⟨n,s',Q',r3,⟨r2,aI ⟨rfl,by unfold dU;simp only[bV,bB];rw[hq,gk]⟩⟩,L⟩
  refine⟨0,s',P',r3,⟨r2,aH ⟨rfl,si ?_⟩⟩,L⟩;rcases mX r1 with r|⟨_,r⟩
  .exact aI r
  right;rw[hq,r]
 have HB:J (∀t,t=κ F (O (δ w.1+3) 3) (G rk)->∃rk U b1,pW t w rb p g rk (h' D' 0 0)/\Ą s bad g rk U b1/\dc t rb U b1/\Fr (λj=>j≠rb) w t):=by intro t u;subst u;exact⟨rk,U,b1,X.set 3 _ rfl,Q9,c.fr rC I',Fr.trans (Fr.trans H3.B bl λ_ _ h=>h) rC λj C _=>by show j≠_;omega⟩
 clear x1;have x1:=A X.2.2.2.1;clear bl X h2 g2 Q9 c;go_upto_region 4 with(fail)
 obtain⟨t,u⟩:=Ea<|κ F (O (δ w.1+1+1+1) 3)<|G rk;rw[<-u];have HA:=ſ<|HB.o t u;clear u HB x1;exact R7
end
section
variable {r:Int}{n:Nd}{v:Vl}
def CB:∀(o:List Int)(Y:Int),0<=Y->cR Y o=P'->∀x∈dm Y o,0<=x/\x<=100000
 |[],_,_,_,x,hx=>by simp[dm]at hx
 |f::r,Y,D,h,x,hx=>by
  simp[cR]at h;obtain⟨⟨C,a⟩,N⟩:=h;simp[dm]at hx;rcases hx with rfl|hx
  .omega
  exact CB r (f+1) I N x hx
def qJ{x:Int}(h:x<=100000):ζ (cT x)<=10:=gR I
def od:∀(o:List Int)(Y:Int),ζ (dm Y o)=ζ o
 |[],_=>rfl
 |_::r,_=>by simp[dm,od r]
def pE(h:e6 g n=P'):cR 0 n.facts=P'/\eF g n.a! (ζ n.facts)=P':=by unfold e6 at h;simp only[aS]at h;exact⟨h.1.2,h.2⟩
def BU(h:e6 g n=P'):∀r∈n.a!,0<=r/\r<=100000:=by
 intro r b;have a:=(pE h).2;unfold eF at a;split at a
 .simp only[aS,bZ]at a;have:=a.2 r b;simp[rk]at this;omega
 rw[j2]at a;rw[a]at b;cases b
def BT(h:e6 g n=P'):ζ n.a!<=ζ n.facts:=by
 have a:=(pE h).2;unfold eF at a;split at a
 .simp only[aS,bw]at a;omega
 rw[j2]at a;rw[a];simp
def lY(h:e6 g n=P'):cR 0 n.facts=P':=by exact(pE h).1
def Xd(h:e6 g n=P'):ζ (Æ n)<=2100000:=by have C:=p?<|lY h;have a:=BT h;have N:=tL cT 10 (dm 0 n.facts) λx F=>qJ (CB _ 0 I (lY h) x F).2;have d:=tL cT 10 n.a! λx F=>qJ (BU h x F).2;have l:=@gR (ζ n.facts) I;rw[od]at N;simp only[Æ,aW];omega
def k9{α:Type}(f:α->y')(l:List α)(k:Nat)(x:α)(h:l[k]?=C' x):(l.drop k).flatMap f=f x++(l.drop<|k+1).flatMap f:=by have X:=aV.1 h;rw[nC X.1,X.2];simp
def wh{Y:Int}{o:List Int}{k:Nat}{f:Int}(h:o[k]?=C' f):dm Y (o.drop k)=(f-Y)::dm (f+1) (o.drop<|k+1):=by have X:=aV.1 h;rw[nC X.1,X.2];rfl
def Xb(B b:Nat)(l:y')(g:Int)(a u z:u')(K rc N:Nat)(n:Nd)(w:t')(h:Wr w B b l)(Y:∀W,Below B w W->b7 W a n.facts)(c:∀W,Below B w W->b7 W u n.a!)(o:e6 g n=P')(f:ζ l+3000000<=140737488355328):
  Cl 135 #[n'<|C'<|O b 0,k' #[h' a (ζ n.facts) K,h' u (ζ n.a!) rc,i' n.reached,G n.rank,h' z (ζ n.aG) N]] w λe f=>e=o' (p' #[])/\ew w f B b (l++Æ n):=by
 have f:=Xd o;have j:=p?<|lY o;have f:=BT o;have v:J ((∀W,Below B w W->b7 W a n.facts)/\(∀W,Below B w W->b7 W u n.a!)):=⟨Y,c⟩;have V:J (cR 0 n.facts=P'/\∀r∈n.a!,0<=r/\r<=100000):=⟨lY o,BU o⟩;have d:=ſ<|h.wrote.alloc<|j' #[h' a (ζ n.facts) K,h' u (ζ n.a!) rc,i' n.reached,G n.rank,h' z (ζ n.aG) N] 96;have X:J (ζ (l++Æ n)<=140737488355328):=by show _<=_;simp only[aW];omega
 clear h Y c o;go_enter func135,ntmps135;go_wp2_with (go_at_call 86;refine(iw B b l (ζ n.facts) _ d.o.wr I I (by have:=@gR (ζ n.facts) I;simp only[aW,cT,rK];omega)).mono ?_;rintro e t ⟨rfl,C⟩;have f:=C.box d.o.wr (bj w _) aj aj;have E:=A f;have c:=ſ<|M C f;clear C f);clear E;go_loopw[4,17] (λY i wr=>∃(k:Nat)(f:Int)(q:y'),k<=ζ n.facts/\i=G k/\Y=G f/\0<=f/\f<=100001/\J (cR f (n.facts.drop k)=P')/\J (q++((dm f<|n.facts.drop k).flatMap cT++n.a!.flatMap cT)=l++Æ n)/\J (ew w wr B b q/\wr.1[δ w.1]?=C' (j' #[h' a (ζ n.facts) K,h' u (ζ n.a!) rc,i' n.reached,G n.rank,h' z (ζ n.aG) N] 96 (0,0)))) (λ_ i _=>ζ n.facts-(intOf i).toNat)
 case atStart=>
  refine⟨0,0,l++cT (ζ n.facts),bq _,rfl,rfl,I,I,V.a,?_,d.o.trans c.a,c.A⟩;show _=_;simp[Æ,cT]
 clear d c;obtain⟨k,Y,q,T,rfl,rfl,P,bo,d,S,o⟩:=hrel;have E:=A o.A;by_cases L:k<ζ n.facts
 .have p:(k:Int)<(ζ n.facts:Int):=I;obtain⟨x,F⟩:=La L;obtain⟨R,U,rfl,Q⟩:=v.a wr o.a.below k x F;have u:=d.o;rw[rV F]at u;simp only[aS,bw]at u;obtain⟨⟨c,D⟩,a⟩:=u;have h:ζ (q++cT (x-Y))<=140737488355328:=by have C:=cQ length S.o;have s:=X.o;rw[wh F]at C;simp only[b9,aW]at C s|-;omega
  have m:J (n.facts[k]?=C' x/\cR (x+1) (n.facts.drop<|k+1)=P'/\ζ (q++cT (x-Y))<=140737488355328):=⟨F,a,h⟩;clear F a h;go_wp2_with (go_at_call 86;refine(iw B b q (x-Y) _ o.a.wr I I m.B).mono ?_;rintro e W2 ⟨rfl,s⟩;have y:=ſ s;clear s);refine⟨⟨k+1,x+1,q++cT (x-Y),I,f',f',I,I,m.b,?_,o.a.trans y.o,y.o.box o.a.wr o.A aj aj⟩,by simp[intOf];omega⟩;show _=_;rw[<-S.o,wh m.a];simp
 obtain rfl:k=ζ n.facts:=I;have p:¬(ζ n.facts:Int)<(ζ n.facts:Int):=I;have h:=S.o;rw[Db]at h;simp only[dm,xW,c!]at h;have P:=ſ h;clear h S d;go_wp2_with fail;clear E;go_loopw[32] (λi a=>∃(k:Nat)(q:y'),k<=ζ n.a!/\i=G k/\J (q++(n.a!.drop k).flatMap cT=l++Æ n)/\J (ew w a B b q)) (λi _=>ζ n.a!-(intOf i).toNat)
 case atStart=>exact⟨0,q,bq _,rfl,J' P,o.a⟩
 clear o P;obtain⟨k,q,T,rfl,S,o⟩:=hrel;by_cases L:k<ζ n.a!;rotate_left
 .obtain rfl:k=ζ n.a!:=I;have p:¬(ζ n.a!:Int)<(ζ n.a!:Int):=I;have h:=S.o;rw[Db]at h;simp only[xW,fQ]at h;go_wp2_with fail
  go_end0
  exact⟨rfl,by rw[<-h];exact o.o⟩
 have p:(k:Int)<(ζ n.a!:Int):=I;obtain⟨x,F⟩:=La L;obtain⟨R,U,rfl,Q⟩:=v.A _ o.o.below k x F;obtain⟨c,D⟩:=V.A x<|aK F;have h:ζ (q++cT x)<=140737488355328:=by have C:=cQ length S.o;have s:=X.o;rw[k9 cT n.a! k x F]at C;simp only[aW]at C s|-;omega
 have m:J (n.a![k]?=C' x/\ζ (q++cT x)<=140737488355328):=⟨F,h⟩;clear F h;go_wp2_with (go_at_call 86;refine(iw B b q x _ o.o.wr I I m.A).mono ?_;rintro e W2 ⟨rfl,s⟩;have y:=ſ s;clear s);refine⟨⟨k+1,q++cT x,I,f',?_,o.o.trans y.o⟩,by simp[intOf];omega⟩;show _=_;rw[<-S.o,k9 cT n.a! k x m.a];simp
def vT(h:eM p g n=P'):ζ n.aG<=8/\0<=n.rank/\n.rank<=100000/\∀v∈n.aG,eE p g n.rank v=P':=by unfold eM at h;simp only[aS,bw,bZ,rk]at h;exact⟨h.1.1.1.2,h.1.1.2.1,h.1.1.2.2,h.2⟩
def WR(h:eE p g r v=P')(R:Aq v):ζ (eY p g v)<=40:=by
 have C:=yu R.lo;have b:=yu R.first;unfold eY;split
 .have Q:(v.hi-v.lo).toNat<18446744073709551616:=by obtain⟨N,a⟩:=R.lo;obtain⟨b,o⟩:=R.hi;omega
  have:=gR Q;simp only[aW];omega
 split
 .simp only[bR];omega
 split
 .split
  .have b:ζ (cT v.rank)<=10:=gR (by obtain⟨N,a⟩:=R.rank;omega);simp only[bR,aW];omega
  simp
 simp
def Y!(h:eM p g n=P')(K:jR n):ζ (n! p g n)<=400:=by obtain⟨C,a,N,d⟩:=vT h;have l:=tL (eY p g) 40 n.aG λv R=>WR (d v R)<|K.aG v R;have c:=@gR (ζ n.aG) I;have V:=qJ N;unfold n!;split<;>simp only[aW,de]<;>omega
def PD(h:eE 6 g r v=P'):v.lo<=v.hi:=by unfold eE at h;simp at h;exact h.2
def aaN{p:Prop}(h:p:=by
 obtain⟨k,q,hk,rfl,S,j⟩:=hrel;have E:=A j.A;have V:=(bG.1 j.A).1;by_cases L:k<ζ n.aG;rotate_left
 .obtain rfl:k=ζ n.aG:=I;have y:¬(ζ n.aG:Int)<(ζ n.aG:Int):=I;have o:=S.o;rw[Db]at o;simp only[xW,fQ]at o;go_wp2_with fail
  go_end0
  exact⟨rfl,by rw[<-o];exact j.a⟩
 have y:(k:Int)<(ζ n.aG:Int):=I;obtain⟨v,F⟩:=La L;obtain⟨b1,o1,rfl,T,Q,c2,c3,P,c5⟩:=HF.a wr j.a.below k v F;have d:=HF.A v<|aK F;have o:ζ q+100<=140737488355328:=by have C:=cQ length S.o;have h:=X.o;simp only[aW]at C h|-;omega
 have m:=ſ<|M F<|M d<|j.a.alloc<|j' #[G v.aO,G v.lo,G v.hi,i' v.bO,G v.first,G v.rank] 73;clear F d;by_cases R:p=6
 .subst R;go_wp2_with (go_at_call 204;refine(LJ B b q v _ m.B.wr m.b.2 (PD m.b.1) o).mono ?_;rintro e W2 ⟨rfl,h⟩;have u:=ſ h;clear h);refine⟨⟨k+1,q++(AO v.lo++iI (v.hi-v.lo).toNat),I,f',?_,m.B.trans u.o,u.o.box m.B.wr ((ch _ _ _ V).trans j.A) aj aj⟩,by simp[intOf];omega⟩;show _=_;rw[<-S.o,k9 (eY 6 g) n.aG k v m.a];simp[eY]
 go_wp2_with (go_at_call 205;refine(JH B b q p g n.rank v _ m.B.wr m.b.2 m.b.1 R D o).mono ?_;rintro e W2 ⟨rfl,h⟩;have u:=ſ h;clear h);refine⟨⟨k+1,q++eY p g v,I,f',?_,m.B.trans u.o,u.o.box m.B.wr ((ch _ _ _ V).trans j.A) aj aj⟩,by simp[intOf];omega⟩;show _=_;rw[<-S.o,k9 (eY p g) n.aG k v m.a]
 simp):p:=h
def wM(B b:Nat)(l:y')(p g:Int)(a U z:u')(fc rc x:Nat)(n:Nd)(w:t')(h:Wr w B b l)(R:∀W,Below B w W->jj W z n.aG)(K:jR n)(o:eM p g n=P')(hlen:ζ l+3000000<=140737488355328):
  Cl 137 #[n'<|C'<|O b 0,k' #[G p,G g],k' #[h' a (ζ n.facts) fc,h' U (ζ n.a!) rc,i' n.reached,G n.rank,h' z (ζ n.aG) x]] w λe w'=>e=o' (p' #[])/\ew w w' B b (l++n! p g n):=by
 have Ba:=Y! o K;obtain⟨h8,D,hA,u⟩:=vT o;have HF:J ((∀W,Below B w W->jj W z n.aG)/\(∀v∈n.aG,eE p g n.rank v=P'/\Aq v)):=⟨R,λv d=>⟨u v d,K.aG v d⟩⟩;have f:=ſ<|(h.wrote.alloc<|dr p g).alloc<|j' #[h' a (ζ n.facts) fc,h' U (ζ n.a!) rc,i' n.reached,G n.rank,h' z (ζ n.aG) x] 96;have X:J (ζ (l++n! p g n)<=ζ l+400):=by show _<=_;simp only[aW];omega
 have Y:J (ζ (cT n.rank)<=10/\ζ (cT<|ζ n.aG)<=10):=⟨qJ hA,qJ I⟩;clear h R K o u;cases K:decide (g=1)with
 |true=>
  have HE:J (n! p g n=cT n.rank++(cT (ζ n.aG)++n.aG.flatMap (eY p g))):=by show _=_;have hg:=J' K;simp[n!,hg,cT]
  go_enter func137,ntmps137;have z1:δ ((w.alloc<|dr p g).alloc<|j' #[h' a (ζ n.facts) fc,h' U (ζ n.a!) rc,i' n.reached,G n.rank,h' z (ζ n.aG) x] 96).1=δ w.1+2:=ak
  go_wp2_with (first
   |(go_at_call 203;refine ju.mono ?_;rw[K];rintro e w1 ⟨rfl,rfl⟩)
   |(go_at_call 86;refine(iw B b (l++cT n.rank) (ζ n.aG) _ c.a.wr I I (by have:=Y.a;have:=Y.A;simp only[aW];omega)).mono ?_;clear E N;rintro e W2 ⟨rfl,h⟩;have r:=h.box c.a.wr (c.b) aj aj;have s:=h.box c.a.wr (c.B) aj aj;have E:=A r;have N:=A s;have u:=ſ<|M h<|M r s;clear h r s)
   |(go_at_call 86;refine(iw B b l n.rank _ (f.o.wr.alloc _) D I (by have:=Y.a;simp only[aW];omega)).mono ?_;rintro e t ⟨rfl,C⟩;have r:=C.box (f.o.wr.alloc _) ((ch _ _ _ I').trans (bP w _ _).1) aj aj;have s:=C.box (f.o.wr.alloc _) ((ch _ _ _ ak).trans (bP w _ _).2) aj aj;have E:=A r;have N:=A s;have c:=ſ<|M C<|M r s;clear C r s))
  clear z1;clear E N K;go_loopw[22] (λi wr=>∃(k:Nat)(q:y'),k<=ζ n.aG/\i=G k/\J (q++(n.aG.drop k).flatMap (eY p g)=l++n! p g n)/\J (ew w wr B b q/\wr.1[δ w.1]?=C' (ot p g))) (λi _=>ζ n.aG-(intOf i).toNat)
  case atStart=>
   refine⟨0,l++cT n.rank++cT (ζ n.aG),bq _,rfl,?_,((f.o.alloc _).trans c.a).trans u.a,u.b⟩;show _=_;rw[HE.o];simp
  clear f c u;exact aaN
 |false=>
  have HE:J (n! p g n=cT (ζ n.aG)++n.aG.flatMap (eY p g)):=by show _=_;have hg:=J' K;simp[n!,hg,cT]
  go_enter func137,ntmps137;have z1:δ ((w.alloc<|dr p g).alloc<|j' #[h' a (ζ n.facts) fc,h' U (ζ n.a!) rc,i' n.reached,G n.rank,h' z (ζ n.aG) x] 96).1=δ w.1+2:=ak
  go_wp2_with (first
   |(go_at_call 203;refine ju.mono ?_;rw[K];rintro e w1 ⟨rfl,rfl⟩)
   |(go_at_call 86;refine(iw B b l (ζ n.aG) _ (f.o.wr.alloc _) I I (by have:=Y.A;simp only[aW];omega)).mono ?_;rintro e t ⟨rfl,C⟩;have r:=C.box (f.o.wr.alloc _) ((ch _ _ _ I').trans (bP w _ _).1) aj aj;have s:=C.box (f.o.wr.alloc _) ((ch _ _ _ ak).trans (bP w _ _).2) aj aj;have E:=A r;have N:=A s;have c:=ſ<|M C<|M r s;clear C r s))
  clear z1;clear E N K;go_loopw[22] (λi wr=>∃(k:Nat)(q:y'),k<=ζ n.aG/\i=G k/\J (q++(n.aG.drop k).flatMap (eY p g)=l++n! p g n)/\J (ew w wr B b q/\wr.1[δ w.1]?=C' (ot p g))) (λi _=>ζ n.aG-(intOf i).toNat)
  case atStart=>
   refine⟨0,l++cT (ζ n.aG),bq _,rfl,?_,(f.o.alloc _).trans c.a,c.b⟩;show _=_;rw[HE.o];simp
  clear f c;exact aaN
end
section
variable {a:Int}{n:Nd}{v:Vl}
def tA:Nd:=⟨[],[],Q',0,[]⟩
def j6(p g:Int)(l:y'):Option (Nd×y'):=if p<=4 then uH g l else match iy l with
 |some (true,r)=>uN p g r
 |some (false,r)=>C' (tA,r)
 |none=>D'
def gy(p g:Int)(_:Unit)(l:y'):Option ((Nd×Unit)×y'):=match j6 p g l with
 |some (n,r)=>C' ((n,()),r)
 |none=>D'
def iz (l:y'):Option (Ct×y'):=match l with
  | b::c::q=>if Á (b.toNat:Int) (c.toNat:Int)=P' then(match kW 60 q with
      | some (k,q2)=>(match bT (gy (b.toNat:Int) (c.toNat:Int)) k () q2 with
        |some ((ns,_),q3)=>C' (⟨(b.toNat:Int),(c.toNat:Int),ns⟩,q3)
        |none=>D')
      |none=>D') else D'
  |_=>D'
def È(l:y'):Option Ct:=match l with
  |87::67::1::r=>if ζ l<=60000 then(match iz r with
      |some (c,[])=>if ku c=P' then C' c else D'
      |_=>D') else D'
  |_=>D'
def MD(a:Int)(l:y')(n:Nat)(r:y')(d:a<18446744073709551616):kW a l=C' (n,r)↔l=iI n++r/\(n:Int)<=a:=by
 unfold kW;constructor;rotate_left
 .rintro⟨C,a⟩;rw[(yP l n r).2 ⟨C,I⟩];simp only;rw[aB a]
 intro h;cases T:rc l with
 |none=>rw[T]at h;cases h
 |some p=>
  have m:=p;rw[T]at h;simp only at h;split at h
  .rename_i R;simp at h;obtain⟨rfl,rfl⟩:=h;exact⟨(wz.1 T).1,R⟩
  cases h
def Ao{a b c d}:=@MD a b c d
def Dv{n:Nat}(r:y')(d:a<18446744073709551616)(h:(n:Int)<=a):kW a (iI n++r)=C' (n,r):=(MD a _ n r d).2 ⟨rfl,h⟩
def sT{x:Int}(r:y')(d:a<18446744073709551616)(D:0<=x)(h:x<=a):kW a (cT x++r)=C' (x.toNat,r):=Dv r d I
def WT(x:Int):OD (Fm x)=x:=by
 unfold OD Fm;by_cases h:0<=x
 .rw[aB h,aB I];omega
 rw[ax h,ax I];omega
def WD(n:Nat):Fm (OD n)=n:=by
 unfold OD Fm;by_cases h:n % 2=0
 .rw[aB h,aB I];omega
 rw[ax h,ax I];omega
def lk(l:y')(x:Int)(r:y'):pq l=C' (x,r)↔l=AO x++r/\dK x:=by
 unfold pq AO;constructor;rotate_left
 .rintro⟨C,a⟩;obtain⟨N,d⟩:=a;rw[(yP l (Fm x) r).2 ⟨C,by unfold Fm;split<;>omega⟩];simp only[WT]
 intro h;cases T:rc l with
 |none=>rw[T]at h;cases h
 |some p=>obtain⟨m,q⟩:=p;rw[T]at h;simp at h;obtain⟨rfl,rfl⟩:=h;obtain⟨C,a⟩:=wz.1 T;rw[WD];refine⟨C,?_⟩;unfold OD dK;split<;>omega
def NW(j:Int)(n:Nat)(X:dK j):Lh j n=(j+(n:Int)+9223372036854775808) % 18446744073709551616-9223372036854775808:=by have C:=X;simp only[Lh,wrap64,IntKind.wrap,IntKind.bits,IntKind.signed];simp
def J!{l r:y'}(h:sY l=C' (v,r))(R:v.lo<=v.hi):l=(AO v.lo++iI (v.hi-v.lo).toNat)++r:=by
 unfold sY at h;cases K:pq l with
 |none=>rw[K]at h;cases h
 |some p=>
  obtain⟨j,q⟩:=p;rw[K]at h;simp only at h;cases T:rc q with
  |none=>rw[T]at h;cases h
  |some a=>obtain⟨n,F⟩:=a;rw[T]at h;simp at h;obtain⟨rfl,rfl⟩:=h;obtain⟨C,a⟩:=(lk _ _ _).1 K;obtain⟨N,d⟩:=wz.1 T;simp only at R|-;rw[NW j n a]at R|-;obtain⟨l,c⟩:=a;have:((j+(n:Int)+9223372036854775808) % 18446744073709551616-9223372036854775808-j).toNat=n:=I;rw[this,C,N];simp
def A1{r:y'}(a:v.aO=3)(l:v.bO=Q')(Y:v.first=0)(b:v.rank=0)(R:v.lo<=v.hi)(B:Aq v):sY ((AO v.lo++iI (v.hi-v.lo).toNat)++r)=C' (v,r):=by obtain⟨x,j,S,bO,first,c⟩:=v;simp only at a l Y b R;subst a l Y b;have X:=B.lo;have V:=B.hi;simp only at X V|-;rw[sY,(lk _ j<|iI (S-j).toNat++r).2 ⟨ak,X⟩];simp only;obtain⟨C,a⟩:=X;obtain⟨N,d⟩:=V;rw[(yP _ (S-j).toNat r).2 ⟨rfl,I⟩];simp only;rw[NW j _ ⟨C,a⟩];congr 3;omega
def Sb{b:UInt8}(h:b.toNat=1):b=1:=by apply Ji;rw[h];rfl
def abJ{b:UInt8}(h:b.toNat=2):b=2:=by apply Ji;rw[h];rfl
def WU{b:UInt8}(h:b.toNat=0):b=0:=by apply Ji;rw[h];rfl
def uL{l r:y'}{f:Bool}(h:iy l=C' (f,r)):l=(if f then 1 else 0)::r:=by
 unfold iy at h;cases l with
 |nil=>cases h
 |cons b q=>
  simp only at h;split at h;rotate_left
  .cases h
  rename_i a;simp at h;obtain⟨rfl,rfl⟩:=h;by_cases C:b.toNat=1
  .rw[Sb C];rfl
  have D:b.toNat=0:=I;rw[WU D];rfl
def JT{l r:y'}(U:p≠6)(h:lN g l=C' (v,r)):l=eY p g v++r:=by
 unfold lN at h;cases l with
 |nil=>cases h
 |cons b q=>
  simp only at h;by_cases C:b.toNat=1
  .rw[aB C]at h;cases K:pq q with
   |none=>rw[K]at h;cases h
   |some pp=>obtain⟨x,F⟩:=pp;rw[K]at h;simp at h;obtain⟨rfl,rfl⟩:=h;rw[((lk _ _ _).1 K).1,Sb C];simp[eY,U]
  rw[ax C]at h;by_cases a:b.toNat=2;rotate_left
  .rw[ax a]at h;cases h
  rw[aB a]at h;rw[abJ a];by_cases b:g=1;rotate_left
  .rw[ax b]at h;simp at h;obtain⟨rfl,rfl⟩:=h;simp[eY,U,b]
  rw[aB b]at h;cases Y:iy q with
  |none=>rw[Y]at h;cases h
  |some pp=>
   obtain⟨f,F⟩:=pp;rw[Y]at h;simp only at h;rw[uL Y];cases f with
   |true=>
    simp only[b8]at h|-;unfold uO at h;cases K:pq F with
    |none=>rw[K]at h;cases h
    |some s=>
     obtain⟨x,i⟩:=s;rw[K]at h;simp only at h;cases y:kW 100000 i with
     |none=>rw[y]at h;cases h
     |some a=>have k:=a;rw[y]at h;simp at h;obtain⟨rfl,rfl⟩:=h;rw[((lk _ _ _).1 K).1,((Ao I).1 y).1];simp[eY,U,b,cT]
   |false=>simp at h;obtain⟨rfl,rfl⟩:=h;simp[eY,U,b]
def AP{rk:Int}{r:y'}(U:p≠6)(o:eE p g rk v=P')(W:0<=rk)(B:Aq v):lN g (eY p g v++r)=C' (v,r):=by
 obtain⟨x,j,S,bO,first,a⟩:=v;unfold eE at o;rw[ax U]at o;have X:=B.lo;have Y:=B.first;simp only at o X Y;cases bO with
 |true=>simp[nR]at o;obtain⟨⟨⟨⟨⟨b,C⟩,c⟩,rfl⟩,rfl⟩,rfl⟩:=o;subst b;simp only[eY,U,b8,bB];rw[ax aj];simp only[dA,lN,iy,uO];rw[ax aj,aB aj,aB trivial,aB aj];simp only[show decide ((1:UInt8).toNat=1)=P' from rfl,b8];rw[(lk _ first (cT a++r)).2 ⟨ak,Y⟩];simp only;rw[sT r I I I];simp only;congr 3;omega
 |false=>
  simp at o;rcases o with⟨⟨⟨rfl,rfl⟩,rfl⟩,rfl⟩|⟨⟨⟨⟨rfl,rfl⟩,rfl⟩,rfl⟩,rfl⟩
  .simp only[eY,U,b8,bB,dA,lN];rw[aB aj,(lk _ j r).2 ⟨rfl,X⟩]
  simp only[eY,U,bB];rw[ax aj];by_cases b:g=1
  .simp only[b,b8,bV,bB,dA,c!,lN,iy];rw[ax aj,aB aj,aB aj];rfl
  simp only[b,bB,dA,c!,lN];rw[ax aj,aB aj]
def lU{α:Type}(step:Unit->y'->Option ((α×Unit)×y'))(B:α->y')(P:α->Prop)(h:∀l x u r,step () l=C' ((x,u),r)->P x->l=B x++r):∀(n:Nat)(l:y')(D:List α)(u:Unit)(r:y'),bT step n () l=C' ((D,u),r)->(∀x∈D,P x)->l=D.flatMap B++r
 |0,l,D,u,r,a,hP=>by simp[bT]at a;obtain⟨rfl,rfl⟩:=a;rfl
 |n+1,l,D,u,r,a,hP=>by
  rw[bT]at a;cases c:step () l with
  |none=>rw[c]at a;cases a
  |some p=>
   obtain⟨⟨x,R⟩,q⟩:=p;rw[c]at a;simp only at a;cases b:bT step n R q with
   |none=>rw[b]at a;cases a
   |some d=>obtain⟨⟨z,i⟩,F⟩:=d;rw[b]at a;simp at a;obtain⟨rfl,rfl⟩:=a;have C:=lU step B P h n q z i F b (λy B=>hP y<|by simp[B]);rw[h l x R q c<|hP x ak,C];simp
def iV{α:Type}(step:Unit->y'->Option ((α×Unit)×y'))(B:α->y'):∀(D:List α)(r:y'),(∀x∈D,∀r,step () (B x++r)=C' ((x,()),r))->bT step (ζ D) () (D.flatMap B++r)=C' ((D,()),r)
 |[],r,_=>rfl
 |x::D,r,h=>by rw[bR,bT,b9,df,h x ak];simp only;rw[iV step B D r λy B=>h y<|by simp[B]]
def vZ:∀(n Y:Nat)(l:y')(o:List Int)(st:Nat)(r:y'),bT iU n Y l=C' ((o,st),r)->l=(dm (Y:Int) o).flatMap cT++r/\cR (Y:Int) o=P'
 |0,Y,l,o,st,r,h=>by simp[bT]at h;obtain⟨⟨rfl,_⟩,rfl⟩:=h;exact⟨rfl,rfl⟩
 |n + 1,Y,l,o,st,r,h=>by
  rw[bT]at h;cases y:iU Y l with
  |none=>rw[y]at h;cases h
  |some p=>
   obtain⟨⟨x,f⟩,q⟩:=p;rw[y]at h;simp only at h;cases b:bT iU n f q with
   |none=>rw[b]at h;cases h
   |some c=>
    have z:=c;rw[b]at h;simp at h;obtain⟨⟨rfl,_⟩,rfl⟩:=h;unfold iU at y;cases hm:kW (100000-(Y:Int)) l with
    |none=>rw[hm]at y;cases y
    |some s=>
     obtain⟨m,i⟩:=s;rw[hm]at y;simp only[dq,gM]at y;obtain⟨⟨rfl,rfl⟩,rfl⟩:=y;obtain⟨C,c⟩:=(Ao I).1 hm;obtain⟨N,d⟩:=vZ n (Y+m+1) _ _ _ _ b;have e:((Y+m+1:Nat):Int)=((Y+m:Nat):Int)+1:=I;rw[e]at N d;refine⟨?_,?_⟩
     .have u:cT (((Y+m:Nat):Int)-(Y:Int))=iI m:=by unfold cT;congr 1;omega
      rw[C,N];simp only[dm,b9,df,u]
     simp only[cR,d,x4,aS,bw];omega
def pM:∀(o:List Int)(Y:Nat)(r:y'),cR (Y:Int) o=P'->∃st,bT iU (ζ o) Y ((dm (Y:Int) o).flatMap cT++r)=C' ((o,st),r)
 |[],Y,r,_=>⟨Y,rfl⟩
 |f::o,Y,r,h=>by
  simp only[cR,aS,bw]at h;obtain⟨⟨C,b⟩,N⟩:=h;have e:f+1=((Y+(f-Y).toNat+1:Nat):Int):=I;rw[e]at N;obtain⟨st,R⟩:=pM o _ r N;refine⟨st,?_⟩;rw[bR,bT];simp only[dm,b9,df];have y:iU Y (cT (f-(Y:Int))++((dm (f+1) o).flatMap cT++r))=C' ((f,Y+(f-Y).toNat+1),(dm (f+1) o).flatMap cT++r):=by rw[iU,sT _ I I I];simp only;congr 3;omega
  rw[y];simp only;rw[e,R]
def FM:∀(l:y')(x:Int)(u:Unit)(r:y'),kM () l=C' ((x,u),r)->True->l=cT x++r:=by
 intro l x u r h _;unfold kM at h;cases d:kW 100000 l with
 |none=>rw[d]at h;cases h
 |some p=>have m:=p;rw[d]at h;simp at h;obtain⟨rfl,rfl⟩:=h;rw[((Ao I).1 d).1];simp[cT]
def FN:∀(n:Nat)(l:y')(D:List Int)(u:Unit)(r:y'),bT kM n () l=C' ((D,u),r)->D.all rk=P'
 |0,l,D,u,r,h=>by simp[bT]at h;rw[h.1];rfl
 |n + 1,l,D,u,r,h=>by
  rw[bT]at h;cases y:kM () l with
  |none=>rw[y]at h;cases h
  |some p=>
   obtain⟨⟨x,R⟩,q⟩:=p;rw[y]at h;simp only at h;cases a:bT kM n R q with
   |none=>rw[a]at h;cases h
   |some b=>
    obtain⟨⟨z,i⟩,F⟩:=b;rw[a]at h;simp at h;obtain⟨rfl,rfl⟩:=h;have C:=FN n q z i F a;unfold kM at y;cases d:kW 100000 l with
    |none=>rw[d]at y;cases y
    |some s=>have m:=s;rw[d]at y;simp at y;obtain⟨rfl,_⟩:=y;have:=((Ao I).1 d).2;rw[qY,C,x4];simp[rk];omega
def yz{l r:y'}(h:uH g l=C' (n,r)):l=Æ n++r/\e6 g n=P'/\ζ n.facts<=ζ l/\ζ n.a!<=ζ n.facts:=by
 unfold uH at h;cases hm:kW (ζ l:Int) l with
 |none=>rw[hm]at h;cases h
 |some p=>
  obtain⟨k,q⟩:=p;rw[hm]at h;simp only at h;have L:=uG hm;have z:l=iI k++q:=by
   unfold kW at hm;cases T:rc l with
   |none=>rw[T]at hm;cases hm
   |some pp=>
    have m:=pp;rw[T]at hm;simp only at hm;split at hm
    .simp at hm;obtain⟨rfl,rfl⟩:=hm;exact(wz.1 T).1
    cases hm
  cases Y:bT iU k 0 q with
  |none=>rw[Y]at h;cases h
  |some b=>
   obtain⟨⟨o,st⟩,F⟩:=b;rw[Y]at h;simp only at h;obtain⟨C,i⟩:=vZ k 0 q o st F Y;have N:=eA _ _ _ _ _ _ _ Y;by_cases f:g=1;rotate_left
   .rw[ax f]at h;simp at h;obtain⟨rfl,rfl⟩:=h;refine⟨?_,?_,?_,?_⟩
    .rw[z,C];simp[Æ,N]
    .have b:cR 0 o=P':=i;simp[e6,eF,f,b]
    .simp only;omega
    simp
   rw[aB f]at h;cases e:bT kM k () F with
   |none=>rw[e]at h;cases h
   |some s=>
    have y:=s;rw[e]at h;simp at h;obtain⟨rfl,rfl⟩:=h;have d:=lU kM cT (λ_=>True) FM _ _ _ _ _ e λ_ _=>trivial;have l:=eA _ _ _ _ _ _ _ e;refine⟨?_,?_,?_,?_⟩
    .rw[z,C,d];simp[Æ,N]
    .have c:=FN _ _ _ _ _ e;have b:cR 0 o=P':=i;simp only[e6,eF,f,b8,b,c,N,l];simp
    .simp only;omega
    simp only;omega
def Ew(f:Int->y')(h:∀x,1<=ζ (f x)):∀(l:List Int),ζ l<=ζ (l.flatMap f)
 |[]=>ak
 |x::l=>by have C:=Ew f h l;have a:=h x;simp only[b9,aW,bR];omega
def Vh(n:Nat):1<=ζ (iI n):=by
 by_cases h:n<128
 .rw[k? h];simp
 rw[qI h];simp
def AQ{r:y'}(h:e6 g n=P'):uH g (Æ n++r)=C' (n,r):=by
 obtain⟨o,y,i,k,E⟩:=n;simp only[e6,aS,jY,bw,j2]at h;obtain⟨⟨⟨⟨rfl,rfl⟩,rfl⟩,C⟩,b⟩:=h;simp only[uH,Æ,df];have X:=p? C;have hm:kW (ζ (iI (ζ o)++((dm 0 o).flatMap cT++(y.flatMap cT++r))):Int) (iI (ζ o)++((dm 0 o).flatMap cT++(y.flatMap cT++r)))=C' (ζ o,(dm 0 o).flatMap cT++(y.flatMap cT++r)):=by rw[kW,(yP _ (ζ o) _).2 ⟨rfl,I⟩];simp only;rw[aB];have N:=Ew cT (λx=>Vh _)<|dm 0 o;rw[od]at N;simp only[aW];omega
 rw[hm];simp only;obtain⟨st,R⟩:=pM o 0 (y.flatMap cT++r) C;rw[show((0:Nat):Int)=0 from rfl]at R;rw[R];simp only;unfold eF at b;by_cases c:g=1;rotate_left
 .rw[ax c]at b|-;simp only[j2]at b;subst b;simp
 rw[aB c]at b|-;simp only[aS,bw]at b
 have d:=iV kM cT y r (λx F r=>by
  have l:=bZ.1 b.2 x F;simp only[rk,aS,bw]at l;rw[kM,sT r I I I];simp only;congr 3
  omega)
 rw[b.1]at d;rw[d]
def J1{l r:y'}(h:uN p g l=C' (n,r))(o:eM p g n=P'):n.reached=P'/\l=n! p g n++r:=by
 unfold uN at h;cases b:lT g l with
 |none=>rw[b]at h;cases h
 |some F=>
  obtain⟨rk,a⟩:=F;rw[b]at h;simp only at h;cases d:kW 8 a with
  |none=>rw[d]at h;cases h
  |some a=>
   obtain⟨k,P⟩:=a;rw[d]at h;simp only at h;cases R:bT (iT p g) k () P with
   |none=>rw[R]at h;cases h
   |some s=>
    obtain⟨⟨E,u⟩,D⟩:=s;rw[R]at h;simp at h;obtain⟨rfl,rfl⟩:=h;refine⟨rfl,?_⟩;simp only[eM,aS]at o;have e:=bZ.1 o.2
    have C:=lU (iT p g) (eY p g) (λv=>eE p g (rk:Int) v=P') (λl x u r y hP=>by
     unfold iT at y;by_cases c:p=6
     .rw[aB c]at y;cases f:sY l with
      |none=>rw[f]at y;cases y
      |some a=>obtain⟨v,q⟩:=a;rw[f]at y;simp at y;obtain⟨rfl,rfl⟩:=y;unfold eE at hP;rw[aB c]at hP;simp only[aS,bw]at hP;rw[J! f hP.2];simp[eY,c]
     .rw[ax c]at y;cases f:lN g l with
      |none=>rw[f]at y;cases y
      |some a=>
       obtain⟨v,q⟩:=a;rw[f]at y;simp at y;obtain⟨rfl,rfl⟩:=y
       exact JT c f) _ _ _ _ _ R λv R=>e v R
    have c:=eA _ _ _ _ _ _ _ R;have N:=(Ao I).1 d;unfold lT at b;by_cases a:g=1
    .rw[aB a]at b;have d:=(Ao I).1 b;rw[d.1,N.1,C];simp[n!,a,c,cT]
    rw[ax a]at b;simp at b;obtain⟨rfl,rfl⟩:=b;rw[N.1,C];simp[n!,a,c]
def AX{r:y'}(o:eM p g n=P')(b:n.reached=P')(B:jR n):uN p g (n! p g n++r)=C' (n,r):=by
 obtain⟨a,y,i,k,E⟩:=n;simp only[eM,aS,eS,bw,j2,rk]at o;obtain⟨⟨⟨⟨⟨rfl,rfl⟩,W⟩,f⟩,a⟩,e⟩:=o;simp only at b;subst b;simp only[uN,n!,df];have C:lT g ((if g=1 then cT k else[])++(iI (ζ E)++(E.flatMap (eY p g)++r)))=C' (k.toNat,iI (ζ E)++(E.flatMap (eY p g)++r)):=by
  unfold lT;by_cases b:g=1
  .rw[aB b,aB b,sT _ I I I]
  rw[ax b,ax b];rcases a with h|h
  .exact absurd h b
  rw[h];rfl
 rw[C];simp only;rw[Dv _ I I];simp only
 rw[iV (iT p g) (eY p g) E r (λv R r=>by
  have j:=(bZ.1 e) v R;have d:=B.aG v R;unfold iT;by_cases c:p=6
  .rw[aB c];unfold eE at j;rw[aB c]at j;simp only[aS,jY,bw]at j;obtain⟨⟨⟨⟨N,a⟩,b⟩,C⟩,t⟩:=j;rw[show eY p g v=AO v.lo++iI (v.hi-v.lo).toNat by simp[eY,c],A1 N a b C t d]
  .rw[ax c,AP c j f.1 d])]
 simp only;congr 3;omega
def F0{l r:y'}(h:j6 p g l=C' (n,r))(o:cB p g n=P'):l=dv p g n++r:=by
 unfold j6 at h;unfold cB at o;by_cases U:p<=4
 .rw[aB U]at h o;rw[(yz h).1];simp[dv,U]
 rw[ax U]at h o;cases Y:iy l with
 |none=>rw[Y]at h;cases h
 |some F=>
  obtain⟨f,q⟩:=F;rw[Y]at h;rw[uL Y];cases f with
  |true=>
   simp only at h;have a:n.reached=P':=by
    unfold uN at h;split at h
    .split at h
     .split at h
      .simp at h;rw[<-h.1]
      cases h
     cases h
    cases h
   rw[aB a]at o;obtain⟨_,b⟩:=J1 h o;rw[b];simp[dv,U,a]
  |false=>simp at h;obtain⟨rfl,rfl⟩:=h;simp[dv,U,tA]
def yC{r:y'}(o:cB p g n=P')(B:jR n):j6 p g (dv p g n++r)=C' (n,r):=by
 unfold j6 dv;unfold cB at o;by_cases U:p<=4
 .rw[aB U]at o|-;rw[aB U];exact AQ o
 rw[ax U]at o|-;rw[ax U];by_cases a:n.reached=P'
 .rw[aB a]at o|-;simp only[dA,iy];rw[aB aj];exact AX o a B
 rw[ax a]at o|-;simp only[dA,c!,iy];rw[aB aj];obtain⟨a,y,i,k,E⟩:=n;simp only[ky,aS,jY,bw,j2]at o;obtain⟨⟨⟨⟨rfl,rfl⟩,rfl⟩,rfl⟩,rfl⟩:=o;rfl
end
def fW.fr{a:t'}{B f:Nat}{x:N5}(h:fW W B x)(Y:Fr P W a)(hP:∀j,B<=j->P j)(v:f<=B):fW a f x:=
 ⟨bC (Y.own h.f λk a=>hP k (h.f.lt k a).1) v,bC (Y.own h.r λk a=>hP k (h.r.lt k a).1) v,bC (Y.own h.v λk a=>hP k (h.v.lt k a).1) v,h.ap⟩
def VZ.up{V g:t'}{c:Nat}{d:z'}{a b:Option (Nd×y')}(h:VZ V W c d a e)(B:δ w.1<=δ V.1)(Y:Fr P W g)(hP:∀j,δ V.1<=j->P j)(f:P c)(y:d.size<=s.size)(i:a=b):VZ w g c s b e:=by
 subst i;rcases h with⟨x,a,C,b,N,d,l⟩|⟨C,x,a,b,N,d⟩
 .exact aI ⟨x,a,C,br b y,N,d.fr Y hP B,l.fr Y f⟩
 exact aH ⟨C,x,a,b,br N y,d.fr Y f⟩
def D?{c:t'}{b:Nat}{a:Option (Nd×y')}(h:VZ w c b s a e):∃x:N5,e=o' (xm x):=by
 rcases h with⟨x,b,C,a,N,d,l⟩|⟨C,x,b,a,N,d⟩
 .exact⟨x,N⟩
 exact⟨x,a⟩
def Kj(rb:Nat)(p g:Int)(s:z')(z:Bool)(w:t')(h:dc w rb s z)(hs:s.size<=60000):
  Cl 160 #[n'<|C'<|O rb 0,k' #[G p,G g]] w λe l=>VZ w l rb s (dU z (j6 p g) s) e/\Fr (λj=>j≠rb) w l:=by
 have L:=h.lt;have d:=(show J (dc w rb s z)from h);clear h;go_enter func160,ntmps160;go_upto_region 1 with(fail)
 obtain⟨S,X⟩:=Ea<|((w.alloc<|dr p g).alloc<|j' lL 96);rw[<-X];have D:δ S.1=δ w.1+2:=by rw[X];simp
 obtain⟨Q,y⟩:=bP w (dr p g)<|j' lL 96;rw[<-X]at Q y;have b:dc S rb s z:=by rw[X];exact(d.o.alloc _).alloc _
 have a:Fr (λj=>j≠rb) w S:=by rw[X];exact Fr.aR cU
 have W:=ſ<|M Q<|M y<|M b a;have E:=A Q;clear Q y b a X;obtain⟨Y,C⟩:∃b:Bool,decide (p<=4)=b:=⟨_,rfl⟩;cases Y with
 |true=>
  go_wp2_with fail;refine wB.mono ?_;rw[C];rintro e q ⟨rfl,k⟩;have i:Fr (λ_=>True) S q:=Fr.aR (by rw[k];exact aY);have U:=i.box W.a trivial;have y:=i.box W.b trivial;have c:=W.c.fr i trivial;have P:=i.size;have T:=Pn rb p g s z q c hs;have X:=ſ (M T<|M y<|Fr.trans W.C i λ_ _ _=>trivial);clear E;have E:=A U;clear U y c T i k;go_wp2_with fail;refine bE X.a ?_;rintro e F ⟨Q,B⟩;obtain⟨x,rfl⟩:=D? Q;have y:=B.box X.b I';have u:=ſ<|M Q B;clear E Q B;have E:=A y;clear y;simp only[xm];go_wp2_with fail;refine aC (v:=xm x) (by simp[results160,go_sem,E.1,xm]) rfl ?_;have a:=Õ F (δ w.1+1) (bk x.fa (ζ x.n.facts) x.fc) (bk x.ra (ζ x.n.a!) x.rc) (i' x.n.reached) (G x.n.rank)<|bk x.va (ζ x.n.aG) x.vc;refine⟨u.a.up I a (λj f=>by show j≠_;omega) I' (aD _) ?_,?_⟩
  .have hp:=xV C;unfold dU j6;cases z with
   |true=>rfl
   |false=>simp only[bV,bB];rw[aB hp]
  exact Fr.trans (Fr.trans X.B u.A λ_ _ h=>h) a (λj h1 Q=>by show j≠_;omega)
 |false=>
  have K:J ((∀l r,iy l=C' (P',r)->j6 p g l=uN p g r)/\(∀l r,iy l=C' (Q',r)->j6 p g l=C' (tA,r))/\(∀l,iy l=D'->j6 p g l=D')):=by have hp:=gZ C;refine⟨λl r h=>?_,λl r h=>?_,λl h=>?_⟩<;>(rw[j6,ax hp,h])
  go_wp2_with fail;refine wB.mono ?_;rw[C];rintro e q ⟨rfl,k⟩;have i:Fr (λ_=>True) S q:=Fr.aR (by rw[k];exact aY);have U:=i.box W.a trivial;have y:=i.box W.b trivial;have c:=W.c.fr i trivial;have P:=i.size;have T:=B7 rb s z q c hs;have X:=ſ (M T<|M U<|M y<|Fr.trans W.C i λ_ _ _=>trivial);clear E U y c T i k;go_wp2_with fail;refine bE X.a ?_;rintro e F ⟨Q,k⟩;have B:Fr (λj=>j≠rb) q F:=Fr.dI k λj _ f=>J' f;have U:=B.box X.b I';have y:=B.box X.c I';have R:=Fr.trans X.C B λ_ _ h=>h;have d:=B.size;clear B k;rcases Q with⟨b,B,i,c,rfl,k⟩|⟨i,rfl,B,c,k⟩;rotate_left
  .have W:dU z (j6 p g) s=D':=by
    apply si;rcases mX i with h|⟨_,h⟩
    .exact aI h
    exact aH<|K.B _ h
   have u:=ſ<|M k<|M R W;have E:=A y;clear U y k R i W;go_wp2_with fail;refine aC (v:=xm ⟨D',0,D',0,D',0,tA⟩) (by simp[results160,go_sem,E.1,xm,tA]) rfl ?_;have a:=Õ F (δ w.1+1) (h' D' 0 0) (h' D' 0 0) (i' Q') (G 0)<|h' D' 0 0;exact⟨aH ⟨u.B,⟨D',0,D',0,D',0,tA⟩,B,rfl,c,u.a.fr a I'⟩,Fr.trans u.b a λj h1 Q=>by show j≠_;omega⟩
  obtain⟨rfl,v⟩:=eG i;cases b with
  |true=>
   have T:=Pp rb p g B Q' F k I;have u:=ſ<|M T<|M y<|M R v;have E:=A U;clear U y k T R i v;go_wp2_with fail;refine bE u.a ?_;rintro e o ⟨N,t⟩;obtain⟨x,rfl⟩:=D? N;have y:=t.box u.b I';have z:=ſ<|M N t;clear E N t;have E:=A y;clear y;simp only[xm];go_wp2_with fail;refine aC (v:=xm x) (by simp[results160,go_sem,E.1,xm]) rfl ?_;have a:=Õ o (δ w.1+1) (bk x.fa (ζ x.n.facts) x.fc) (bk x.ra (ζ x.n.a!) x.rc) (i' x.n.reached) (G x.n.rank)<|bk x.va (ζ x.n.aG) x.vc;refine⟨z.a.up I a (λj f=>by show j≠_;omega) I' c ?_,?_⟩
   .unfold dU;simp only[bV,bB];rw[K.a _ _ u.C]
   exact Fr.trans (Fr.trans u.c z.A λ_ _ h=>h) a (λj h1 Q=>by show j≠_;omega)
  |false=>have u:=ſ<|M k<|M R v;have E:=A y;clear U y k R i v;go_wp2_with fail;refine aC (v:=xm ⟨D',0,D',0,D',0,tA⟩) (by simp[results160,go_sem,E.1,xm,tA]) rfl ?_;have a:=Õ F (δ w.1+1) (h' D' 0 0) (h' D' 0 0) (i' Q') (G 0)<|h' D' 0 0;refine⟨aI ⟨⟨D',0,D',0,D',0,tA⟩,B,?_,c,rfl,⟨cY _ _ _ _,cY _ _ _ _,cY _ _ _ _,aI rfl⟩,u.a.fr a I'⟩,Fr.trans u.b a λj h1 Q=>by show j≠_;omega⟩;simp only[dU,bV,bB];rw[K.b _ _ u.B]
def Kr(u o b:Nat)(p g:Int)(y:o≠b)(F:u≠b)(W:t')(s:z')(a:Bool)(i:pV o u b p g W)(h:dc W b s a)(k:s.size<=60000):
  Cl 159 #[n'<|C'<|O u 0,n'<|C'<|O o 0] W λe c=>VZ W c b s (dU a (j6 p g) s) e/\Fr (λj=>j≠b) W c:=by
 have d:=(bG.1 i.1).1;have c:=(bG.1 i.2).1;have f:=h.lt;have f:=ſ<|M i h;clear i h;go_enter func159,ntmps159;go_upto_region 1 with(fail)
 obtain⟨S,X⟩:=Ea<|(W.alloc<|j' lL 96);rw[<-X];have L:Bl W S:=by rw[X];exact aY
 have r:=(L.block o d).trans f.a.1;have R:=(L.block u c).trans f.a.2;have F:d' S W.1.size lL 96:=by rw[X];exact bj _ _
 have D:δ S.1=δ W.1+1:=by rw[X];simp
 have c:dc S b s a:=by rw[X];exact f.A.alloc _
 have T:=Kj b p g s a S c k;have B:=ſ<|M T<|M F L;have E:=A r;have a:=A R;clear r R F c L X T;go_wp2_with fail;refine bE B.a ?_;rintro e t ⟨C,K⟩;obtain⟨x,rfl⟩:=D? C;have k:=K.box B.b I';have c:=ſ<|M C K;clear E a C K;have E:=A k;clear k;simp only[xm];go_wp2_with fail;refine aC (v:=xm x) (by simp[results159,go_sem,E.1,xm]) rfl ?_;have a:=Õ t W.1.size (bk x.fa (ζ x.n.facts) x.fc) (bk x.ra (ζ x.n.a!) x.rc) (i' x.n.reached) (G x.n.rank)<|bk x.va (ζ x.n.aG) x.vc;refine⟨c.a.up I a (λj f=>by show j≠_;omega) I' (aD _) rfl,?_⟩;exact Fr.trans (Fr.trans (Fr.aR B.B) c.A λ_ _ h=>h) a (λj C a=>by show j≠_;omega)
def IV:N5:=⟨D',0,D',0,D',0,tA⟩
def GR(a b:List N5):fG (a++b)=fG a++fG b:=by simp[fG]
def GQ(E:List N5)(k j:Nat)(v:N5)(h:E[k]?=C' v)(f:j<5):(fG E)[k*5+j]?=(ig v)[j]?:=by have C:(ig v)[j]?=C' ((ig v)[j]'(by simp[ig];omega)):=aQ _;rw[C];exact Eb _ k v h j _ C
def KP(n:Nat):(madeCells (k' lL).cells<|n*5).toList=fG (replicate n IV):=by
 rw[show(k' lL).cells=lL from rfl];apply dQ;intro j;by_cases f:j<n*5;rotate_left
 .rw[b?<|by simp[madeCells];omega,b?<|by rw[j?];simp;omega]
 have C:(fG<|replicate n IV)[j / 5*5+j % 5]?=(ig IV)[j % 5]?:=GQ _ (j / 5) (j % 5) IV (by rw[jy,aB I]) I;rw[show j / 5*5+j % 5=j by omega]at C;rw[C];have c:j % 5<5:=Fk _ I;simp only[madeCells,C0,CZ,bH,jv f,gD];show C' #[h' D' 0 0,h' D' 0 0,i' Q',G 0,h' D' 0 0][j % 5]! = _;generalize j % 5=r at c;have:r=0\/r=1\/r=2\/r=3\/r=4:=I;rcases this with rfl|rfl|rfl|rfl|rfl<;>rfl
def adv(D:List N5)(n k:Nat)(x:N5)(a:ζ D=k)(K:k<n):
  (((((fG<|D++replicate (n-k) IV).set (k*5)<|bk x.fa (ζ x.n.facts) x.fc).set (k*5+1)<|bk x.ra (ζ x.n.a!) x.rc).set (k*5+2)<|i' x.n.reached).set (k*5+3)<|G x.n.rank).set (k*5+4) (bk x.va (ζ x.n.aG) x.vc)=fG ((D++[x])++replicate (n-(k+1)) IV):=by
 have X:=j? D;rw[a]at X;rw[show n-k=(n-(k+1))+1 by omega,eW];simp only[GR,df];rw[show fG (IV::replicate (n-(k+1)) IV)=ig IV++fG (replicate (n-(k+1)) IV)from rfl,show fG [x]=ig x by simp[fG]];generalize fG (replicate (n-(k+1)) IV)=r;generalize fG D=a at X;generalize k*5=m at X;have o:∀(l:List A')(y:A'),(a++l).set m y=a++l.set 0 y:=λl y=>JS a l m 0 y X;rw[o,t? X,t? X,t? X,t? X];rfl
def mA(D:List N5)(n k j:Nat)(a:ζ D=k)(K:k<n)(f:j<5):(fG<|D++replicate (n-k) IV)[k*5+j]?=(ig IV)[j]?:=by exact GQ _ k j IV (by rw[fh I,a,jx,jy,aB I]) f
def blks(x:N5):List Nat:=[φ x.fv,φ x.rv,φ x.vv].filterMap id
def I9(cl:List N5):Prop:=cl.Pairwise (λa b=>∀i∈blks a,∀j∈blks b,i<j)
def fW.blks{W:t'}{B:Nat}{x:N5}(h:fW W B x):∀i∈blks x,B<=i/\i<δ W.1:=by
 intro i S;simp only[Go.Proofs.YtmipbiligijcpaaGreatDoor.blks,mem_filterMap,id,cO,g!,gC]at S;obtain⟨a,a,b⟩:=S;subst b;rcases a with a|a|a
 .exact h.f.lt i a.symm
 .exact h.r.lt i a.symm
 exact h.v.lt i a.symm
def fW.grown{W c:t'}{B k:Nat}{x:N5}(h:fW W B x)(b:ξ W c<|C' k)(a:∃Y f,W.1[k]?=C' (j' Y 96 f)):fW c B x:=
 ⟨h.f.kept b<|uI h.f (λj f=>by cases f;exact a) aj,h.r.kept b<|uI h.r (λj f=>by cases f;exact a) aj,h.v.kept b<|uI h.v (λj f=>by cases f;exact a) aj,h.ap⟩
def KH{w wr F o:t'}{n a k:Nat}{D:List N5}{x:N5}{P:Nat->Prop}{z:List A'}(h:(∀c∈D,fW wr w.1.size c)/\I9 D)(d:fW F wr.1.size x)(Y:Fr P wr F)(B:δ w.1<=δ wr.1)(hP:∀j,δ w.1<=j->P j)(b:ξ F o<|C' k)(l:ρ F w.1.size 96 5 (eu k n a) n z):
  (∀c∈D++[x],fW o w.1.size c)/\I9 (D++[x]):=by
 have a:=eZ l k rfl;constructor
 .intro c T;rcases eC.1 T with T|T
  .exact((h.1 c T).fr Y hP<|aD _).grown b a
  simp at T;subst T;have:=d.grown b a;exact⟨bC this.f B,bC this.r B,bC this.v B,this.ap⟩
 rw[I9,pairwise_append];refine⟨h.2,pairwise_singleton _ _,?_⟩;intro a c b b i S j f;simp at b;subst b;have C:=(h.1 a c).blks i S;have a:=d.blks j f;omega
def V4(w W':t')(rb n:Nat)(s:z')(bad:Bool)(p g:Int)(e:Ending):Prop:=
  ((∃(cl:List N5)(s':z')(la:u')(lc:Nat),dU bad (bT (gy p g) n ()) s=C' ((cl.map N5.n,()),s'.1.1)/\s'.size<=s.size/\e=o' (h' la n lc)/\(la=D'->lc=0)/\ρ W' w.1.size 96 5 (h' la n lc) n (fG cl)/\(∀c∈cl,fW W' w.1.size c)/\I9 cl/\dc W' rb s' Q')\/
   ((bad=P'\/dU bad (bT (gy p g) n ()) s=D')/\e=o' (h' D' 0 0)/\∃s',s'.size<=s.size/\dc W' rb s' P'))
def Kq(p g:Int)(u o W n:Nat)(s:z')(bad:Bool)(w:t')(a:o≠W)(v:u≠W)(h:dc w W s bad)(S:pV o u W p g w)(y:s.size<=60000)(t:n<=100000000):
  Cl 157 #[n'<|C'<|O W 0,G n,.func (.func 159) #[] #[n'<|C'<|O u 0,n'<|C'<|O o 0]] w λe t=>
   V4 w t W n s bad p g e/\Fr (λj=>j≠W) w t:=by
 have L:=(bG.1 h).1;have U:=(bG.1 S.1).1;have R:=(bG.1 S.2).1;have E:=ſ<|M h S;clear h S;by_cases h0:n=0
 .subst h0;go_enter func157,ntmps157;go_wp2_with fail;go_ret;refine⟨?_,Fr.refl _ _⟩;cases bad with
  |false=>exact aI ⟨[],s,D',0,rfl,aD _,rfl,λ_=>rfl,cY _ _ _ _,(λc T=>by cases T),List.Pairwise.nil,E.a⟩
  |true=>exact aH ⟨aI rfl,rfl,s,aD _,E.a⟩
 obtain⟨X,S,D,P,b⟩:=cG Um;have t:=ſ<|M S<|M D<|M P b;clear S D P b;have V:((n:Int)==0)=Q':=by rw[dO];omega
 go_enter func157,ntmps157;go_wp2_with (at_make;refine eK _ rfl (.tmp 11) (.tmp 11) 46 rfl w.1.size 96 X (k' lL) 5 underlying46 t.a t.b t.c .i64 .i64 n n n rfl rfl rfl rfl (by rw[t.C];omega) (by unfold maxLen;omega) ak ?_;intro t b d;have f:=ſ<|M b d;clear b d);have r:J (ρ t w.1.size 96 5 (cw w.1.size n) n (fG<|([]:List N5)++replicate (n-0) IV)/\dc t W s bad/\pV o u W p g t/\Fr (λj=>j≠W) w t):=by obtain⟨C,N⟩:=f.o;rw[KP]at C;refine⟨J' C,E.a.grown N ak,⟨(N.block _ U ak).trans E.b,(N.block _ R ak).trans E.B⟩,Fr.dI N λk _ _=>ak⟩
 clear f;go_loopw[15] (λy wr=>∃(k:Nat)(D:List N5)(s2:z'),k<=n/\y=G k/\s2.size<=s.size/\J (ζ D=k)/\J (bT (gy p g) k () s.1.1=C' ((D.map N5.n,()),s2.1.1)/\(0<k->bad=Q'))/\J (ρ wr w.1.size 96 5 (cw w.1.size n) n (fG<|D++replicate (n-k) IV)/\dc wr W s2 (if k=0 then bad else Q')/\pV o u W p g wr/\Fr (λj=>j≠W) w wr)/\J ((∀c∈D,fW wr w.1.size c)/\I9 D)) (λy _=>n-(intOf y).toNat)
 case atStart=>exact⟨0,[],s,bq _,rfl,aD _,rfl,⟨rfl,(λh=>I)⟩,⟨r.a,r.b,r.c,r.C⟩,(λc T=>by cases T),List.Pairwise.nil⟩
 clear r;obtain⟨k,D,s2,t,rfl,Q,P,f,b,HV⟩:=hrel;by_cases L:k<n;rotate_left
 .obtain rfl:k=n:=I;have d:¬(k:Int)<k:=I;have t:J (dU bad (bT (gy p g) k ()) s=C' ((D.map N5.n,()),s2.1.1)):=by show _=_;rw[f.A I];exact f.a
  go_wp2_with fail;go_ret;refine⟨aI ⟨D,s2,C'<|O w.1.size 0,k,t.o,Q,rfl,(λh=>by cases h),?_,HV.a,HV.A,?_⟩,b.C⟩
  .have:=b.a;simpa using this
  have:=b.b;rwa[ax h0]at this
 have d:(k:Int)<n:=I;have T:=Kr u o W p g a v wr s2 (if k=0 then bad else Q') b.c b.b I;have d:=ſ T;clear T;go_wp2_with fail;refine bE d.o ?_;rintro e F ⟨h2,B⟩;have l:=B.own b.a (λq T=>by simp[Value.ownBlock]at T;subst T;show _≠_;omega);have Y:=b.C.trans B λq _ T=>T;have z:=b.C.size;have K:pV o u W p g F:=⟨B.box b.c.1 a,B.box b.c.2 v⟩;have a:=B.size;rcases h2 with⟨x,S,i,r,rfl,dd,hr⟩|⟨i,x,S,rfl,r,hr⟩
 .simp only[xm];have d:=l.stored (k*5)<|bk x.fa (ζ x.n.facts) x.fc;have r:=d.1.stored (k*5+1)<|bk x.ra (ζ x.n.a!) x.rc;have v:=r.1.stored (k*5+2)<|i' x.n.reached;have a:=v.1.stored (k*5+3)<|G x.n.rank;have t:=a.1.stored (k*5+4)<|bk x.va (ζ x.n.aG) x.vc;have R:=M t.1<|(((d.2.trans r.2).trans v.2).trans a.2).trans t.2;clear d r v a t;rw[adv D n k x P.o L]at R;have Q:χ F (O w.1.size<|k*5)=C' (h' D' 0 0):=(l.cellAt (k*5+0) I).trans<|mA D n k 0 P.o L I;have y:χ F (O w.1.size<|k*5+1)=C' (h' D' 0 0):=(l.cellAt (k*5+1) I).trans<|mA D n k 1 P.o L I;have U:χ F (O w.1.size<|k*5+2)=C' (i' Q'):=(l.cellAt (k*5+2) I).trans<|mA D n k 2 P.o L I;have V:χ F (O w.1.size<|k*5+3)=C' (G 0):=(l.cellAt (k*5+3) I).trans<|mA D n k 3 P.o L I;have N:χ F (O w.1.size<|k*5+4)=C' (h' D' 0 0):=(l.cellAt (k*5+4) I).trans<|mA D n k 4 P.o L I;have E:=l.frozenAt;have X:=hr.grown R.2 I';have b:=(show pV o u W p g _ from⟨(R.2.block o I I').trans K.1,(R.2.block u I I').trans K.2⟩);have e:=(show(∀c∈D++[x],fW _ w.1.size c)/\I9 (D++[x])from KH HV.o dd B z (λj=>by show _->_≠_;omega) R.2 l);have j:=Y.grown R.2 (λq T _=>by simp;omega);have o:=A X;have c:(if k=0 then bad else Q')=Q'/\gy p g () s2.1.1=C' ((x.n,()),S.1.1):=by generalize(if k=0 then bad else Q')=u at i;obtain⟨C,h2⟩:=eG i;exact⟨C,by rw[gy,h2]⟩
  have u:=ſ<|M c<|M R.1<|M X<|M b<|M j e;clear c R X b j i hr K l Y B e dd;go_wp2_with fail;refine⟨⟨k+1,D++[x],S,I,f',I,by show _=_;rw[aW,P.o];rfl,⟨?_,λ_=>?_⟩,⟨u.b,?_,u.d,u.e⟩,u.E⟩,by simp[intOf];omega⟩
  .rw[jC,f.a];simp only;rw[u.a.2,eR];rfl
  .by_cases b:k=0
   .have:=u.a.1;rwa[aB b]at this
   exact f.A I
  rw[ax I];exact u.c
 simp only[xm];have d:=l.stored (k*5)<|bk x.fa (ζ x.n.facts) x.fc;have r:=d.1.stored (k*5+1)<|bk x.ra (ζ x.n.a!) x.rc;have v:=r.1.stored (k*5+2)<|i' x.n.reached;have a:=v.1.stored (k*5+3)<|G x.n.rank;have t:=a.1.stored (k*5+4)<|bk x.va (ζ x.n.aG) x.vc;have R:=M t.1<|(((d.2.trans r.2).trans v.2).trans a.2).trans t.2;clear d r v a t;have Q:χ F (O w.1.size<|k*5)=C' (h' D' 0 0):=(l.cellAt (k*5+0) I).trans<|mA D n k 0 P.o L I;have y:χ F (O w.1.size<|k*5+1)=C' (h' D' 0 0):=(l.cellAt (k*5+1) I).trans<|mA D n k 1 P.o L I;have U:χ F (O w.1.size<|k*5+2)=C' (i' Q'):=(l.cellAt (k*5+2) I).trans<|mA D n k 2 P.o L I;have V:χ F (O w.1.size<|k*5+3)=C' (G 0):=(l.cellAt (k*5+3) I).trans<|mA D n k 3 P.o L I;have N:χ F (O w.1.size<|k*5+4)=C' (h' D' 0 0):=(l.cellAt (k*5+4) I).trans<|mA D n k 4 P.o L I;have E:=l.frozenAt;have X:=hr.grown R.2 I';have j:=Y.grown R.2 (λq T _=>by simp;omega);have o:=A X;have W:dU bad (bT (gy p g) n ()) s=D':=by
  unfold dU;cases v:bad with
  |true=>rfl
  |false=>
   simp only[bV,bB];have c:gy p g () s2.1.1=D':=by
    rw[v]at i;rcases mX i with h|⟨_,h⟩
    .simp at h
    rw[gy,h]
   refine yD (gy p g) (k:=k+1) ?_ I;rw[jC,f.a];simp only;rw[c]
 have u:=ſ<|M W<|M X j;clear W R X j i hr K l Y B;go_wp2_with fail;go_ret;exact⟨aH ⟨aH u.a,rfl,S,I,u.b⟩,u.B⟩
def aeH{g:Array Oper}{o:Oper}{a:Act}{w:t'}{K:Act->t'->Prop}{Q:Exit->Act->t'->Prop}{E:Prop}(k:o.guard=D')(s x:Operand)
  (l:o.op=.call {callee:=.builtin .append,args:=#[s,x],argTypes:=#[36,36]})
  (B:Nat) (p:a.eval s=h' D' 0 0)
  (c:u') (f:Nat) (m:List Int) (F:a.eval x=h' c (ζ m) f) (W:c=D'->f=0) (d:b7 w c m)
  (L:ζ m*8<=140737488355328) (v:B<=δ w.1)
  (h:∀z e b,ρ b B 3 1 (h' z (ζ m) e) (ζ m) (m.map G)->ξ w b D'->K (a.put o.dst<|h' z (ζ m) e) b):
  if Region.wanted o (yielded g a.tmps)=P' then Oper.wp Tryz.prog o a w K Q else E:=by
 obtain⟨N,S,D,P,j⟩:=cG nW;cases c with
 |none=>
  have T:=W rfl;subst T;have i:m=[]:=by
   cases m with
   |nil=>rfl
   |cons y r=>obtain⟨b,o,e,_⟩:=d 0 y rfl;cases e
  subst i;have b:Region.wanted o (yielded g a.tmps)=P':=by simp[Region.wanted,k]
  rw[aB b];have r:=run_append_owned_none (P:=Tryz.prog) (w:=w) B 36 o.type 3 N 1 underlying36 S (h' D' 0 0) 0 []<|cY _ _ _ _;have g:a.eval x=h' D' 0 0:=F;simp[Oper.wp,execOp,l,resolve,invoke,builtin,p,g,r,Result.andThen];exact h D' 0 w (cY _ _ _ _)<|World.grownBy.refl _ _
 |some a=>
  refine dS k s x 36 l B 3 N _ 1 8 underlying36 S D P j rfl aj (h' D' 0 0) 0 [] p (cY _ _ _ _) a (ζ m) f (m.map G) F ak (PO d) (by intro u C;obtain⟨y,_,rfl⟩:=bp.1 C;rfl) (by simp only[maxLen];omega) I v ?_;intro R F f k _;rw[bW,c!]at f;obtain⟨a,p,rfl⟩:=aX f;have j:ξ w F D':=k
  try simp only[bW]
  exact h a p F f j
def S2(E:List Vl):rr E=iE (E.map ċ):=by rw[rr,iE,flatMap_map];rfl
def č:List A':=[h' D' 0 0,h' D' 0 0,i' Q',G 0,h' D' 0 0]
def tj(n:Nat):List A':=(replicate n č).flatten
def zh(n:Nat):tj (n+1)=č++tj n:=by unfold tj;rw[eW,oY]
def Ca:∀n,ζ (tj n)=n*5
 |0=>rfl
 |n+1=>by rw[zh,aW,Ca n];simp[č];omega
def fW.abf{W a:t'}{B:Nat}{x:N5}(h:fW W B x)(V:∀(k:Nat)(Y:Array A')(t:TypeId),W.1[k]?=C' (cL Y t)->t=3\/t=73->a.1[k]?=W.1[k]?):fW a B x:=by
 have k:∀{e size n:Nat} {v:A'} {D:List A'},ρ W B e size v n D->e=3\/e=73->ρ a B e size v n D:=by
  intro e size n v D h l;refine⟨h.1,?_⟩;rcases h.2 with a|⟨g,b,Y,C,c,N,d⟩
  .exact aI a
  exact aH ⟨g,b,Y,C,c,(V g Y e N l).trans N,d⟩
 exact⟨k h.f<|aI rfl,k h.r<|aI rfl,k h.v<|aH rfl,h.ap⟩
def Ps(na:u')(nc:Nat)(ns:List Nd)(w:t')(h:bX w na ns)(hn:ζ ns<=60)(Hp:∀x∈ns,ζ x.facts<=100000/\ζ x.aG<=1000):
  Cl 46 #[h' na (ζ ns) nc] w λe w'=>∃cl la lc,e=o' (bk la (ζ ns) lc)/\cl.map N5.n=ns.map uh/\ρ w' w.1.size 96 5 (bk la (ζ ns) lc) (ζ ns) (fG cl)/\(∀x∈cl,fW w' w.1.size x)/\I9 cl/\Below w.1.size w w':=by
 obtain⟨i1,hi,Q8,Em,Cn⟩:=cG Um;have HI:J (_/\_/\_/\_):=⟨hi,Q8,Em,Cn⟩;clear hi Q8 Em Cn;have HH:=ſ<|M h Hp;clear h Hp;obtain⟨N,hNN⟩:=Ea<|ζ ns;rw[<-hNN]at hn|-;have HN:=ſ hNN;clear hNN;go_enter func46,ntmps46;go_upto_region 2 with(at_make;refine eK _ rfl (.tmp 7) (.tmp 7) 46 rfl w.1.size 96 i1 _ 5 underlying46 HI.a HI.b HI.c .i64 .i64 N N N rfl rfl rfl rfl (by rw[HI.C];omega) (by unfold maxLen;omega) (aD _) ?_;intro W2 gh Uw;have HO:=ſ<|M gh Uw;clear gh Uw)
 have Rj:J (W2.1[δ w.1]?=C' (j' (θ<|tj N) 96 (0,0))/\Below w.1.size w W2):=by
  have h1:=HO.a;rw[jK _ 5 rfl N]at h1;refine⟨?_,(aP _ _).grown HO.A (aD _) (λq e=>by cases e)⟩;rcases h1.2 with⟨e,_⟩|⟨g,cap,cur,e,h1,h2,h3,_,h5,h6⟩
  .simp at e
  simp at e;obtain⟨rfl,rfl⟩:=e;rw[h2];rw[b!<|by simp[h5]]at h6;have h7:cur.toList=tj N:=h6;rw[<-h7]
 clear HO;go_wp2_with fail;go_loopw[11] (λiv wr=>∃(i:Nat)(cl:List N5),i<=N/\iv=G i/\J (wr.1[δ w.1]?=C' (j' (θ<|fG cl++tj (N-i)) 96 (0,0))/\cl.map N5.n=(ns.take i).map uh/\(∀x∈cl,fW wr (δ w.1+1) x)/\I9 cl/\Below w.1.size w wr)) (λiv _=>N-(intOf iv).toNat)
 case atStart=>exact⟨0,[],bq _,rfl,Rj.a,rfl,λx hx=>by simp at hx,List.Pairwise.nil,Rj.A⟩
 obtain⟨i,cl,hi,rfl,HK⟩:=hrel;have gm:=À HK.a;by_cases lG:i<N;rotate_left
 .have lF:¬(i:Int)<N:=I;obtain rfl:N=i:=I;go_wp2_with fail;refine aC (v:=h' (cA w.1.size) N N) (by simp[results46,go_sem]) rfl ⟨cl,C'<|O w.1.size 0,N,rfl,?_,?_,?_,HK.d,HK.D⟩
  .have:=HK.b;rwa[b!<|by rw[HN.o];exact aD _]at this
  .have h1:=HK.a;have Qm:ζ cl=N:=by have:=cQ length HK.b;rw[bA,bA,dG,<-HN.o]at this;omega
   rw[jx]at h1;have e0:tj 0=[]:=rfl;rw[e0,fQ]at h1;exact⟨by rw[j?,Qm],aH ⟨δ w.1,N,_,rfl,aD _,h1,aD _,by unfold maxLen;omega,by rw[kH,j?,Qm],by rw[b!<|by simp[j?,Qm]]⟩⟩
  intro y hy;have h0:=HK.c y hy;exact⟨bC h0.f I,bC h0.r I,bC h0.v I,h0.ap⟩
 have lF:(i:Int)<N:=I;obtain⟨x,hx⟩:=La (l:=ns) (i:=i) (by rw[<-HN.o];exact lG);obtain⟨b,o,fa,ra,va,fc,rc,vc,rfl,c0,c1,c2,c3,c4,c5⟩:=HH.a.below HK.D i x hx;have Ba:=HH.A x<|aK hx;have HX:=ſ<|M hx c5;have Wo:ζ x.facts*8<=140737488355328:=I;have HC:J (∀W,Below wr.1.size wr W->Cl 96 #[h' va (ζ x.aG) vc] W λe w'=>∃a c,e=o' (bk a (ζ x.aG) c)/\ρ w' W.1.size 73 6 (bk a (ζ x.aG) c) (ζ x.aG) (rr x.aG)/\Bl W w'):=λW hW=>A3 va vc x.aG W (c5.aG.below hW) Ba.2;clear hx c5 Ba;go_upto_region 5 with fail
 clear c0 c1 c2 c3 c4;refine wK (F:=Code.wp _ _ _ _) λV HV=>?_;have cd:=ſ HV.b;have Ow:=ſ<|M HV.a<|M (aF HV.b HK.a) HV.B;clear HV;generalize ae:δ wr.1=nb at Ow|-;have ir:nb≠δ w.1:=I;refine wp_region_held_drew (S:=λW'=>W'.1[nb]?=C' _) H Ow.a λaE=>?_;refine tq 0 (cw w.1.size N) ?_;refine tq 1 (G i) ?_;refine tq 2 (lR nb) ?_;refine tr 3 (bk fa (ζ x.facts) fc) (λW' bm=>(A bm).1) ?_;refine tq 5 (n'<|C'<|O nb 2) ?_;refine tr 6 (i' x.reached) (λW' bm=>(A bm).1) ?_;refine tq 7 (n'<|C'<|O nb 4) ?_;refine tr 8 (bk va (ζ x.aG) vc) (λW' bm=>(A bm).1) ?_;refine r1 4 λK hK=>?_;refine aeH rfl (.const<|h' D' 0 0) (.tmp 19) rfl V.1.size (by simp[Act.eval]) fa fc x.facts (by simp[Act.eval,Act.put]) HX.A.agq ((HX.A.facts.below cd.o).below<|(aP _ _).drew) Wo (aD _) ?_;intro I3 I2 Y1 uj hg1;have H1:J (ρ Y1 V.1.size 3 1 (bk I3 (ζ x.facts) I2) (ζ x.facts) (x.facts.map G)/\Bl V Y1):=⟨uj,(aP _ _).drew.grown hg1 (aD _) (λq e=>by cases e)⟩;clear uj hg1;refine hK.out _ _ (aF H1.A Ow.a) λaE=>?_;clear hK K;refine pt ?_;refine r1 9 λK hK=>?_;go_simp;refine(HC.o _<|aq cd.o H1.A).mono ?_;rintro e Y ⟨JI,JG,rfl,ho2,hb2⟩;have H2:J (ρ Y V.1.size 3 1 (bk I3 (ζ x.facts) I2) (ζ x.facts) (x.facts.map G)/\ρ Y V.1.size 73 6 (bk JI (ζ x.aG) JG) (ζ x.aG) (rr x.aG)/\Bl V Y):=⟨bu H1.a hb2,bC ho2 H1.A.size,aq H1.A hb2⟩;clear ho2 hb2 H1;refine hK.out _ _ (aF H2.B Ow.a) λaE=>?_;clear hK K;refine pt ?_;refine tq 10 (k' #[h' I3 (ζ x.facts) I2,h' D' 0 0,i' x.reached,G 0,h' JI (ζ x.aG) JG]) ?_;refine tq 11 (Bu w.1.size i) ?_;refine r1 12 λK hK=>?_;rw[aB H];have aa:=aF H2.B Ow.b;have ht:Y.there w.1.size (i*5) 5:=λj hj=>by refine⟨?_,(A aa).2 _⟩;rw[(A aa).1,rE (by have:=cQ length HK.b;rw[bA,bA,dG,<-HN.o]at this;rw[kH,aW,j?,Ca];omega)];rfl
 refine wp_store_mid 96 (.tmp 27) (.tmp 26) rfl w.1.size (i*5) #[h' I3 (ζ x.facts) I2,h' D' 0 0,i' x.reached,G 0,h' JI (ζ x.aG) JG] rfl rfl ht H (by simp[Value.oneCell']) ?_;refine hK.out _ _ (ģ (aF H2.B Ow.a) ir) λaE=>?_;clear hK K;refine pt ?_;refine wpAnyH_done H ?_ _;have V8:J ((ψ Y w.1.size (i*5) [h' I3 (ζ x.facts) I2,h' D' 0 0,i' x.reached,G 0,h' JI (ζ x.aG) JG]).1[δ w.1]?=C' (j' (θ<|fG (cl++[(⟨I3,I2,D',0,JI,JG,uh x⟩:N5)])++tj (N-(i+1))) 96 (0,0))/\(cl++[(⟨I3,I2,D',0,JI,JG,uh x⟩:N5)]).map N5.n=(ns.take<|i+1).map uh/\(∀y∈cl++[(⟨I3,I2,D',0,JI,JG,uh x⟩:N5)],fW (ψ Y w.1.size (i*5) [h' I3 (ζ x.facts) I2,h' D' 0 0,i' x.reached,G 0,h' JI (ζ x.aG) JG]) (δ w.1+1) y)/\I9 (cl++[(⟨I3,I2,D',0,JI,JG,uh x⟩:N5)])/\Below w.1.size w (ψ Y w.1.size (i*5) [h' I3 (ζ x.facts) I2,h' D' 0 0,i' x.reached,G 0,h' JI (ζ x.aG) JG])):=by
  have Qm:ζ cl=i:=by have:=cQ length HK.b;rw[bA,bA,dG,<-HN.o]at this;omega
  obtain⟨m,hm⟩:∃m,N-i=m+1:=⟨N-i-1,I⟩;have iS:N-(i+1)=m:=I;have ah:Below wr.1.size wr Y:=aq cd.o H2.B;have YD:fW Y V.1.size (⟨I3,I2,D',0,JI,JG,uh x⟩:N5):=⟨H2.a,cY _ _ _ _,by have:=H2.b;rw[S2]at this;simpa[N5.vv,uh]using this,Classical.em _⟩;have fw:∀(k:Nat)(cur:Array A')(t:TypeId),Y.1[k]?=C' (cL cur t)->t=3\/t=73->(ψ Y w.1.size (i*5) [h' I3 (ζ x.facts) I2,h' D' 0 0,i' x.reached,G 0,h' JI (ζ x.aG) JG]).1[k]?=Y.1[k]?:=by intro k cur t hk gz;refine dC _ _ _ _ _ ?_;rintro rfl;rw[aa]at hk;simp at hk;rcases gz with e|e<;>rw[e]at hk<;>exact absurd hk.2 aj
  refine⟨?_,?_,?_,?_,cM (aD _) _ _ _<|HK.D.trans<|ah.mono<|rL gm⟩
  .rw[iS];rw[hm,zh,<-df]at aa;have e2:fG (cl++[(⟨I3,I2,D',0,JI,JG,uh x⟩:N5)])=fG cl++[h' I3 (ζ x.facts) I2,h' D' 0 0,i' x.reached,G 0,h' JI (ζ x.aG) JG]:=by simp[fG,ig,uh]
   rw[e2];exact Du _ _ _ _ _ _ Y (i*5) (by rw[j?,Qm]) aa rfl
  .rw[eR,HK.b,cX (aV.1 HX.a).1,(aV.1 HX.a).2,eR];rfl
  .intro y hy;rcases eC.1 hy with hy|hy
   .refine fW.abf ?_ fw;have h0:=HK.c y hy;exact⟨bu h0.f ah,bu h0.r ah,bu h0.v ah,h0.ap⟩
   rw[eX.1 hy];refine fW.abf ?_ fw;exact⟨bC YD.f<|L' Ow.B,bC YD.r<|L' Ow.B,bC YD.v<|L' Ow.B,YD.ap⟩
  unfold I9;rw[pairwise_append];refine⟨HK.d,pairwise_singleton _ _,?_⟩;intro p hp q hq u hu v hv;rw[eX.1 hq]at hv;have h1:=(HK.c p hp).blks u hu;have h2:=YD.blks v hv;have:=Ow.B;omega
 clear aE ht aa;generalize ψ Y w.1.size (i*5) [h' I3 (ζ x.facts) I2,h' D' 0 0,i' x.reached,G 0,h' JI (ζ x.aG) JG]=Z at V8|-;go_wp2_with fail;go_roundw
 case rel=>exact⟨i+1,_,lG,f',V8.o⟩
 exact H'
section
variable {n:Nd}{x:Int}{v:Vl}{u:Unit}{c:Ct}
def w?{a:Int}{l r:y'}{n:Nat}(h:kW a l=C' (n,r)):ζ r<=ζ l/\n<18446744073709551616:=by
 unfold kW at h;cases T:rc l with
 |none=>rw[T]at h;cases h
 |some p=>
  have m:=p;rw[T]at h;simp only at h;split at h
  .simp at h;obtain⟨rfl,rfl⟩:=h;obtain⟨C,a⟩:=wz.1 T;rw[C];exact⟨ak,a⟩
  cases h
def yB{l r:y'}(h:pq l=C' (x,r)):ζ r<=ζ l/\dK x:=by obtain⟨C,a⟩:=(lk _ _ _).1 h;rw[C];exact⟨ak,a⟩
def Hl(h:0<=x)(a:x<=100):dK x:=⟨I,I⟩
def ka:dK 0:=⟨I,I⟩
def af4(x:Int):dK (wrap64 x):=⟨by unfold wrap64;omega,by unfold wrap64;omega⟩
def Xv{l r:y'}(h:sY l=C' (v,r)):ζ r<=ζ l/\Aq v:=by
 unfold sY at h;cases K:pq l with
 |none=>rw[K]at h;cases h
 |some p=>
  obtain⟨j,q⟩:=p;rw[K]at h;simp only at h;cases T:rc q with
  |none=>rw[T]at h;cases h
  |some a=>
   obtain⟨n,F⟩:=a;rw[T]at h;simp at h;obtain⟨rfl,rfl⟩:=h;have C:=yB K;have a:ζ F<=ζ q:=by rw[(wz.1 T).1];simp
   exact⟨I,Hl (x:=3) I I,C.2,af4 _,ka,ka⟩
def BN{l r:y'}{f:Bool}(h:iy l=C' (f,r)):ζ r<=ζ l:=by rw[uL h];simp
def Xf{l r:y'}(h:lN g l=C' (v,r)):ζ r<=ζ l/\Aq v:=by
 unfold lN at h;cases l with
 |nil=>cases h
 |cons b q=>
  simp only at h;by_cases C:b.toNat=1
  .rw[aB C]at h;cases K:pq q with
   |none=>rw[K]at h;cases h
   |some pp=>obtain⟨x,F⟩:=pp;rw[K]at h;simp at h;obtain⟨rfl,rfl⟩:=h;have:=yB K;exact⟨I',Hl (x:=1) I I,this.2,ka,ka,ka⟩
  rw[ax C]at h;by_cases a:b.toNat=2;rotate_left
  .rw[ax a]at h;cases h
  rw[aB a]at h;by_cases c:g=1;rotate_left
  .rw[ax c]at h;simp at h;obtain⟨rfl,rfl⟩:=h;exact⟨ak,Hl (x:=2) I I,ka,ka,ka,ka⟩
  rw[aB c]at h;cases Y:iy q with
  |none=>rw[Y]at h;cases h
  |some pp=>
   obtain⟨f,F⟩:=pp;rw[Y]at h;simp only at h;have j:=BN Y;cases f with
   |true=>
    simp only[b8]at h;unfold uO at h;cases K:pq F with
    |none=>rw[K]at h;cases h
    |some s=>
     obtain⟨x,i⟩:=s;rw[K]at h;simp only at h;cases y:kW 100000 i with
     |none=>rw[y]at h;cases h
     |some a=>have k:=a;rw[y]at h;simp at h;obtain⟨rfl,rfl⟩:=h;have N:=yB K;have a:=w? y;have b:=uG y;exact⟨I',Hl (x:=2) I I,ka,ka,N.2,⟨by simp only;omega,by simp only;omega⟩⟩
   |false=>simp at h;obtain⟨rfl,rfl⟩:=h;exact⟨I',Hl (x:=2) I I,ka,ka,ka,ka⟩
def Sl{l r:y'}(h:iT p g () l=C' ((v,u),r)):ζ r<=ζ l/\Aq v:=by
 unfold iT at h;by_cases c:p=6
 .rw[aB c]at h;cases b:sY l with
  |none=>rw[b]at h;cases h
  |some a=>have R:=a;rw[b]at h;simp at h;obtain⟨rfl,rfl⟩:=h;exact Xv b
 rw[ax c]at h;cases b:lN g l with
 |none=>rw[b]at h;cases h
 |some a=>have R:=a;rw[b]at h;simp at h;obtain⟨rfl,rfl⟩:=h;exact Xf b
def yE{α:Type}(step:Unit->y'->Option ((α×Unit)×y'))(P:α->Prop)(h:∀l x u r,ζ l<=60000->step () l=C' ((x,u),r)->ζ r<=ζ l/\P x):∀(n:Nat)(l:y')(D:List α)(u:Unit)(r:y'),ζ l<=60000->bT step n () l=C' ((D,u),r)->ζ r<=ζ l/\∀x∈D,P x
 |0,l,D,u,r,X,hr=>by simp[bT]at hr;obtain⟨rfl,rfl⟩:=hr;exact⟨aD _,λx F=>by cases F⟩
 |n+1,l,D,u,r,X,hr=>by
  rw[bT]at hr;cases b:step () l with
  |none=>rw[b]at hr;cases hr
  |some p=>
   obtain⟨⟨x,R⟩,q⟩:=p;rw[b]at hr;simp only at hr;cases a:bT step n R q with
   |none=>rw[a]at hr;cases hr
   |some c=>
    obtain⟨⟨z,i⟩,d⟩:=c;rw[a]at hr;simp at hr;obtain⟨rfl,rfl⟩:=hr;have C:=h l x R q X b;have c:=yE step P h n q z i d I a;refine⟨I,?_⟩;intro y B;rcases cO.1 B with rfl|B
    .exact C.2
    exact c.2 y B
def F5:∀(o:List Int)(Y:Int),0<=Y->cR Y o=P'->∀f∈o,dK f
 |[],_,_,_,f,hf=>by cases hf
 |a::o,Y,D,h,f,hf=>by
  simp only[cR,aS,bw]at h;rcases cO.1 hf with rfl|hf
  .exact⟨I,I⟩
  exact F5 o (a+1) I h.2 f hf
def Xk{l r:y'}(X:ζ l<=60000)(h:uH g l=C' (n,r)):ζ r<=ζ l/\jR n:=by
 obtain⟨C,a,N,d⟩:=yz h;simp only[e6,aS,bw,j2]at a;obtain⟨⟨⟨⟨N,d⟩,b⟩,c⟩,t⟩:=a;refine⟨(by rw[C];simp),F5 _ 0 I c,?_,(by rw[d];exact ka),(λv R=>by rw[b]at R;cases R),I,I,(by rw[b];simp)⟩;intro f Y;unfold eF at t;by_cases a:g=1
 .rw[aB a]at t;simp only[aS]at t;have:=bZ.1 t.2 f Y;simp only[rk,aS,bw]at this;exact⟨I,I⟩
 rw[ax a]at t;simp only[j2]at t;rw[t]at Y;cases Y
def Xp{l r:y'}(X:ζ l<=60000)(h:uN p g l=C' (n,r)):ζ r<=ζ l/\jR n:=by
 unfold uN at h;cases a:lT g l with
 |none=>rw[a]at h;cases h
 |some F=>
  obtain⟨rk,c⟩:=F;rw[a]at h;simp only at h;have b:ζ c<=ζ l/\rk<=100000:=by
   unfold lT at a;by_cases b:g=1
   .rw[aB b]at a;have:=uG a;exact⟨(w? a).1,I⟩
   rw[ax b]at a;simp at a;obtain⟨rfl,rfl⟩:=a;exact⟨aD _,I⟩
  cases d:kW 8 c with
  |none=>rw[d]at h;cases h
  |some a=>
   obtain⟨k,P⟩:=a;rw[d]at h;simp only at h;have j:=w? d;have t:=uG d;cases R:bT (iT p g) k () P with
   |none=>rw[R]at h;cases h
   |some s=>obtain⟨⟨E,u⟩,D⟩:=s;rw[R]at h;simp at h;obtain⟨rfl,rfl⟩:=h;have C:=yE (iT p g) Aq (λl x u r _ y=>Sl y) _ _ _ _ _ I R;have a:=eA _ _ _ _ _ _ _ R;exact⟨I,(λf Y=>by cases Y),(λf Y=>by cases Y),⟨by simp only;omega,by simp only;omega⟩,C.2,ak,ak,by simp only;omega⟩
def acE:jR tA:=⟨(λf Y=>by cases Y),(λf Y=>by cases Y),ka,(λf Y=>by cases Y),by simp[tA],by simp[tA],by simp[tA]⟩
def SG{l r:y'}(X:ζ l<=60000)(h:j6 p g l=C' (n,r)):ζ r<=ζ l/\jR n:=by
 unfold j6 at h;by_cases U:p<=4
 .rw[aB U]at h;exact Xk X h
 rw[ax U]at h;cases Y:iy l with
 |none=>rw[Y]at h;cases h
 |some F=>
  obtain⟨f,q⟩:=F;have a:=BN Y;rw[Y]at h;cases f with
  |true=>simp only at h;have:=Xp I h;exact⟨I,this.2⟩
  |false=>simp at h;obtain⟨rfl,rfl⟩:=h;exact⟨a,acE⟩
def yp{l r:y'}(h:gy p g () l=C' ((n,u),r)):j6 p g l=C' (n,r):=by
 unfold gy at h;cases b:j6 p g l with
 |none=>rw[b]at h;cases h
 |some a=>have R:=a;rw[b]at h;simp at h;obtain⟨rfl,rfl⟩:=h;rfl
def BQ{l r:y'}(h:iz l=C' (c,r)):∃(b d:UInt8)(q F:y')(k:Nat)(u:Unit),l=b::d::q/\Á (b.toNat:Int) (d.toNat:Int)=P'/\kW 60 q=C' (k,F)/\c.aM=(b.toNat:Int)/\c.cu=(d.toNat:Int)/\bT (gy (b.toNat:Int) (d.toNat:Int)) k () F=C' ((c.nodes,u),r):=by
 unfold iz at h;split at h;rotate_left
 .cases h
 rename_i b d q;split at h;rotate_left
 .cases h
 rename_i c;cases a:kW 60 q with
 |none=>rw[a]at h;cases h
 |some p=>
  obtain⟨k,F⟩:=p;rw[a]at h;simp only at h;cases X:bT (gy (b.toNat:Int) (d.toNat:Int)) k () F with
  |none=>rw[X]at h;cases h
  |some e=>obtain⟨⟨v,u⟩,i⟩:=e;rw[X]at h;simp at h;obtain⟨rfl,rfl⟩:=h;exact⟨b,d,q,F,k,u,rfl,c,a,rfl,rfl,X⟩
def Gf{l r:y'}(X:ζ l<=60000)(h:iz l=C' (c,r)):ny c:=by obtain⟨b,d,q,F,k,u,rfl,a,c,C,e,a⟩:=BQ h;have f:=sG b;have Q:=sG d;have j:=w? c;have t:=uG c;simp only[bR]at X;have N:=yE (gy (b.toNat:Int) (d.toNat:Int)) jR (λl x u r X y=>SG X<|yp y) _ _ _ _ _ I a;have d:=eA _ _ _ _ _ _ _ a;exact⟨by rw[C];exact⟨I,I⟩,by rw[e];exact⟨I,I⟩,N.2,I⟩
def Ge{l r:y'}(h:iz l=C' (c,r))(o:ku c=P'):[87,67,1]++l=iF c++r:=by obtain⟨b,d,q,F,k,u,rfl,a,f,C,e,a⟩:=BQ h;obtain⟨p,g,v⟩:=c;simp only at C e;subst C e;simp only[ku,aS,bw]at o;have N:=lU (gy (b.toNat:Int) (d.toNat:Int)) (dv (b.toNat:Int) (d.toNat:Int)) (λn=>cB (b.toNat:Int) (d.toNat:Int) n=P') (λl x u r y hP=>F0 (yp y) hP) _ _ _ _ _ a<|bZ.1 o.2;have d:=eA _ _ _ _ _ _ _ a;rw[((Ao I).1 f).1,N];simp only at d;simp[iF,oH,d]
def Oh(h:0<=x)(a:x<=255):((UInt8.ofNat x.toNat).toNat:Int)=x:=by simp only[Fh];omega
def yO(r:y')(o:ku c=P')(B:ny c):∃l,iF c++r=[87,67,1]++l/\iz l=C' (c,r):=by
 obtain⟨p,g,v⟩:=c;simp only[ku,aS,bw]at o;obtain⟨⟨b,f⟩,e⟩:=o;have a:=b;simp only[Á,aS,eS,bw]at a;have U:((UInt8.ofNat p.toNat).toNat:Int)=p:=Oh I I;have c:((UInt8.ofNat g.toNat).toNat:Int)=g:=by
  refine Oh ?_ ?_
  .rcases a.2 with h|h
   .omega
   have:=h.1;omega
  rcases a.2 with h|h
  .omega
  have:=h.1;omega
 refine⟨UInt8.ofNat p.toNat::UInt8.ofNat g.toNat::(iI (ζ v)++(v.flatMap (dv p g)++r)),by simp[iF,oH],?_⟩;simp only[iz,U,c];rw[aB b,Dv _ I I];simp only
 rw[iV (gy p g) (dv p g) v r (λn K r=>by
  unfold gy
  rw[yC (bZ.1 e n K)<|B.nodes n K])]
def vo{l:y'}(h:È l=C' c):ku c=P'/\iF c=l/\ζ l<=60000/\ny c:=by
 unfold È at h;split at h;rotate_left
 .cases h
 rename_i r;split at h;rotate_left
 .cases h
 rename_i L;split at h;rotate_left
 .cases h
 rename_i p T;split at h;rotate_left
 .cases h
 rename_i o;simp at h;subst h;have:=Ge T o;rw[fQ]at this;exact⟨o,this.symm,L,Gf (by simp only[bR]at L;omega) T⟩
def EJ(o:ku c=P')(B:ny c)(L:ζ (iF c)<=60000):È (iF c)=C' c:=by obtain⟨l,C,a⟩:=yO [] o B;rw[fQ]at C;rw[C]at L|-;simp only[È,dA,c!]at L|-;rw[aB L,a];simp only;rw[aB o]
end
section
variable {c:Ct}{t:z'}{a:List PN}{E:List bD}
def PF(o:ku c=P'):∀x∈c.nodes,cB c.aM c.cu x=P':=by unfold ku at o;rw[aS,bZ]at o;exact o.2
def uR(o:ku c=P'):(1<=c.aM/\c.aM<=6)/\(c.cu=1\/c.cu=2)/\ζ c.nodes<=60:=by
 unfold ku Á at o;simp at o;refine⟨⟨o.1.1.1.1,o.1.1.1.2⟩,?_,o.1.2⟩;rcases o.1.1.2 with h|h
 .exact aH h
 exact aI h.1
def xB(s t:z'):Int:=match jG s with
 | .inl false=>1
 | .inl true=>2
 | .inr (pl,vs)=>match È t.1.1 with
  |none=>5
  |some c=>match kN 0 [] (pl.map PN.bL)with|some ps=>gS (e! pl ps<|ζ vs) c|none=>0
def xA(s t:z'):List Nd:=if xB s t=0 then(match È t.1.1 with|some c=>c.nodes.map uh|none=>[]) else[]
def adP{b:Bool}(h:jG s=.inl b):xB s t=(if b then 2 else 1)/\xA s t=[]:=by
 have e:xB s t=(if b then 2 else 1):=by rw[xB,h];cases b<;>rfl
 refine⟨e,?_⟩;rw[xA,e,ax (by cases b<;>decide)]
def Vj(h:jG s=Pr.ok a E)(Q:È t.1.1=D'):xB s t=5/\xA s t=[]:=by
 have e:xB s t=5:=by rw[xB,h];simp only[Q]
 refine⟨e,?_⟩;rw[xA,e,ax aj]
def Vi{S:List (bD×Nat)}(h:jG s=Pr.ok a E)(U:kN 0 [] (a.map PN.bL)=C' S)(Q:È t.1.1=C' c):xB s t=gS (e! a S<|ζ E) c/\xA s t=if gS (e! a S<|ζ E) c=0 then c.nodes.map uh else[]:=by
 have e:xB s t=gS (e! a S<|ζ E) c:=by rw[xB,h];simp only[Q,U]
 refine⟨e,?_⟩;rw[xA,e,Q]
end
section
variable {E:Bool}{c:t'}
structure ù(s:z')(bad:Bool)(b:UInt8)(s':z')(b':Bool):Prop where
  sz:s'.size<=s.size
  how:(b'=Q'/\bad=Q'/\s.1.1=b::s'.1.1)\/(b'=P'/\b=0/\(bad=P'\/s.1.1=[]))
def Gq(d:Nat)(s:z')(a:Bool)(w:t')(h:dc w d s a)(y:s.size<=60000):
  Cl 156 (bM d) w λe f=>∃(b:UInt8)(c:z')(X:Bool),e=o' (.int .u8 (b.toNat:Int))/\ù s a b c X/\dc f d c X/\ξ w f (C' d):=by
 refine(r8 d s a w h y).mono ?_;rintro e f ⟨C,g⟩;rcases C with⟨b,c,i,a,rfl,d⟩|⟨i,rfl,c,a,d⟩
 .obtain⟨C,e⟩:=M? i;exact⟨b,c,Q',rfl,⟨a,aI ⟨rfl,C,e⟩⟩,d,g⟩
 refine⟨0,c,P',rfl,⟨a,aH ⟨rfl,rfl,?_⟩⟩,d,g⟩;rcases mX i with h|⟨_,h⟩
 .exact aI h
 right;unfold FZ at h;split at h
 .cases h
 assumption
def Yo(d:Int):Á 0 d=Q':=by simp[Á]
def Yn(p:Int):Á p 0=Q':=by simp[Á]
def Zs{a:z'}{b d:UInt8}{g:Bool}(C:ù s Q' b U E)(c:ù U E d a g)(a:Á (b.toNat:Int) (d.toNat:Int)=Q'):iz s.1.1=D':=by
 rcases C.2 with⟨_,_,V⟩|⟨_,_,V⟩;rotate_left
 .rcases V with V|V
  .cases V
  rw[V];rfl
 rw[V];rcases c.2 with⟨_,_,u⟩|⟨_,_,u⟩
 .rw[u];unfold iz;simp only;rw[a];simp
 rcases u with u|u;rotate_left
 .rw[u];rfl
 subst u;rcases C.2 with⟨h,_⟩|⟨_,_,h⟩
 .cases h
 rcases h with h|h
 .cases h
 rw[h]at V;cases V
def Vm{c:z'}{b d:UInt8}{g:Bool}(C:ù s Q' b U E)(f:ù U E d c g)(a:Á (b.toNat:Int) (d.toNat:Int)=P'):g=Q'/\s.1.1=b::d::c.1.1:=by
 rcases C.2 with⟨_,_,V⟩|⟨_,e,_⟩
 .rcases f.2 with⟨h,_,u⟩|⟨_,e,_⟩
  .exact⟨h,by rw[V,u]⟩
  subst e;have:=Yn (b.toNat:Int);rw[show(((0:UInt8).toNat:Nat):Int)=0 from rfl]at a;rw[this]at a;cases a
 subst e;have:=Yo (d.toNat:Int);rw[show(((0:UInt8).toNat:Nat):Int)=0 from rfl]at a;rw[this]at a;cases a
def Ö(W:t')(b:Nat)(U N a:A'):Fr (λj=>j≠b) W (κ (κ (κ W (O b 0) U) (O b 1) N) (O b 2) a):=
 Fr.trans (Fr.trans rC rC λ_ _ h=>h) rC (λ_ _ h=>h)
def LsN(W':t')(B n:Nat)(s:z')(bad:Bool)(p g:Int)(la:u')(ll lc:Nat)(s':z')(b':Bool):Prop:=
 s'.size<=s.size/\((b'=Q'/\ll=n/\∃cl:List N5,dU bad (bT (gy p g) n ()) s=C' ((cl.map N5.n,()),s'.1.1)/\ρ W' B 96 5 (h' la n lc) n (fG cl)/\(∀c∈cl,fW W' B c)/\I9 cl)\/(b'=P'/\(bad=P'\/dU bad (bT (gy p g) n ()) s=D')/\la=D'/\ll=0/\lc=0))
def V4.one{d:Nat}{b:Bool}{e:Ending}(h:V4 w c d n s b p g e):
  ∃i j R a X,e=o' (h' i j R)/\LsN c w.1.size n s b p g i j R a X/\dc c d a X:=by
 rcases h with⟨D,a,i,R,C,b,rfl,N,d,l,c,V⟩|⟨C,rfl,a,b,N⟩
 .exact⟨i,n,R,a,Q',rfl,⟨b,aI ⟨rfl,rfl,D,C,d,l,c⟩⟩,V⟩
 exact⟨D',0,0,a,P',rfl,⟨b,aH ⟨rfl,C,rfl,rfl,rfl⟩⟩,N⟩
def LsN.fr{f:Nat}{b:z'}{X:Bool}(h:LsN w B n s a p g i j R b X)(Y:Fr P w c)(U:∀k,B<=k->P k)(v:f<=B):LsN c f n s a p g i j R b X:=by
 refine⟨h.1,?_⟩;rcases h.2 with⟨C,a,D,N,d,l,b⟩|h
 .exact aI ⟨C,a,D,N,bC (Y.own d λk a=>U k (d.lt k a).1) v,λc T=>(l c T).fr Y U v,b⟩
 exact aH h
def Ax(W:t')(w:t')(rb sb:Nat)(p g:Int)(nv:A'):Prop:=W.1[δ w.1]?=C' (j' (bM rb) 274 (0,0))/\W.1[δ w.1+1]?=C' (j' iQ 51 (0,0))/\W.1[δ w.1+2]?=C' (j' #[G p,G g,nv] 51 (0,0))/\W.1[sb]?=C' (ot p g)/\δ w.1+3<=sb/\sb<δ W.1
def Ax.fr{b:t'}{a o:Nat}{Q:A'}(h:Ax W w a o p g Q)(Y:Fr P W b)(U:∀j,δ w.1<=j->P j):Ax b w a o p g Q:=
 ⟨Y.box h.1<|U _ I,Y.box h.2.1<|U _ I,Y.box h.2.2.1<|U _ I,Y.box h.2.2.2.1<|U _<|L' h.2.2.2.2.1,h.2.2.2.2.1,ep h.2.2.2.2.2 Y.size⟩
def CtR(w W':t')(rb:Nat)(s:z')(e:Ending):Prop:=
 (∃(c:Ct)(cl:List N5)(s':z')(la:u')(lc:Nat),iz s.1.1=C' (c,s'.1.1)/\c.nodes=cl.map N5.n/\e=o' (k'<|gO c.aM c.cu la (ζ c.nodes) lc)/\ρ W' w.1.size 96 5 (bk la (ζ c.nodes) lc) (ζ c.nodes) (fG cl)/\(∀c∈cl,fW W' w.1.size c)/\I9 cl/\dc W' rb s' Q')\/
 (iz s.1.1=D'/\∃(p g:Int)(la:u')(ll lc:Nat)(s':z'),e=o' (k'<|gO p g la ll lc)/\dc W' rb s' P')
def Vn{e k:Nat}{b d:UInt8}{g S P:z'}{q:Bool}(y:s.1.1=b::d::g.1.1)(l:Á (b.toNat:Int) (d.toNat:Int)=P')(C:Ü g Q' 60 k S q)(c:LsN W B k S q (b.toNat:Int) (d.toNat:Int) i j R P a)(v:δ w.1<=B)(p:dc W e P a):
  CtR w W e s (o'<|k'<|gO b.toNat d.toNat i j R):=by
 cases a with
 |true=>
  refine aH ⟨?_,_,_,i,j,R,P,rfl,p⟩;rw[y];unfold iz;simp only;rw[aB l];rcases C.2 with⟨o,V,_⟩|⟨o,V,_⟩;rotate_left
  .rw[show kW 60 g.1.1=D' from V]
  subst o;rw[show kW 60 g.1.1=C' (k,S.1.1)from V];simp only;rcases c.2 with⟨u,_⟩|⟨_,u,_⟩
  .cases u
  rcases u with u|u
  .cases u
  rw[show bT (gy (b.toNat:Int) (d.toNat:Int)) k () S.1.1=D' from u]
 |false=>
  rcases c.2 with⟨_,X,D,u,f,a,k⟩|⟨e,_⟩;rotate_left
  .cases e
  obtain⟨o,h⟩:=eG u;subst o;rcases C.2 with⟨_,V,_⟩|⟨e,_⟩;rotate_left
  .cases e
  have K:=eA _ _ _ _ _ _ _ h;subst X;refine aI ⟨⟨(b.toNat:Int),(d.toNat:Int),D.map N5.n⟩,D,P,i,R,?_,rfl,by simp only;rw[K],by simp only;rw[K];exact bC f v,λc T=>?_,k,p⟩
  .rw[y];unfold iz;simp only;rw[aB l,show kW 60 g.1.1=C' (j,S.1.1)from V];simp only;rw[h]
  have:=a c T;exact⟨bC this.f v,bC this.r v,bC this.v v,this.ap⟩
def Kk(rb:Nat)(s:z')(w:t')(h:dc w rb s Q')(hs:s.size<=60000):
  Cl 92 (bM rb) w λe D=>CtR w D rb s e/\Fr (λj=>j≠rb) w D:=by
 have L:=h.lt;have HR:=(show J (dc w rb s Q')from h);clear h;go_enter func92,ntmps92;go_upto_region 2 with(fail)
 obtain⟨v,X⟩:=Ea<|(((w.alloc<|j' (bM rb) 274).alloc<|j' iQ 51).alloc<|j' iQ 51);rw[<-X];have D:δ v.1=δ w.1+3:=by rw[X];simp
 have Q:v.1[δ w.1]?=C' (j' (bM rb) 274 (0,0)):=by rw[X,ch _ _ _ I',ch _ _ _ ak,bj]
 have y:v.1[δ w.1+1]?=C' (j' iQ 51 (0,0)):=by rw[X,ch _ _ _ ak];exact(bP w _ _).2
 have r:v.1[δ w.1+2]?=C' (j' iQ 51 (0,0)):=by rw[X];have:=bj ((w.alloc<|j' (bM rb) 274).alloc<|j' iQ 51)<|j' iQ 51;simpa using this
 have b:dc v rb s Q':=by rw[X];exact((HR.o.alloc _).alloc _).alloc _
 have c:Fr (λj=>j≠rb) w v:=by rw[X];exact Fr.aR gU
 have a:=Gq rb s Q' v b hs;have R:=ſ<|M a<|M Q<|M y<|M r c;have E:=A Q;clear Q y r b c X a;go_wp2_with fail;refine bE R.a ?_;rintro e t ⟨b,s1,y1,rfl,d,a,N⟩;have K:Fr (λj=>j≠rb) v t:=Fr.dI N (λj _ f=>by simpa using f);have Q:=K.box R.b I';have y:=K.box R.c I';have r:=K.box R.d I';have Em:=K.size;have s:=sG b;have T:J (∀V,V=κ t (O (δ w.1+2) 0) (G b.toNat)->V.1[δ w.1]?=C' (j' (bM rb) 274 (0,0))/\V.1[δ w.1+1]?=C' (j' iQ 51 (0,0))/\V.1[δ w.1+2]?=C' (j' #[G b.toNat,G 0,h' D' 0 0] 51 (0,0))/\dc V rb s1 y1/\Fr (λj=>j≠rb) w V/\δ v.1<=δ V.1):=by intro V g;subst g;have o:=Ø t (δ w.1+2) 0<|G b.toNat;exact⟨o.box Q I',o.box y I',aw r _,a.fr o I',Fr.trans (Fr.trans R.D K λ_ _ h=>h) o λj X _=>by show j≠_;omega,br Em o.size⟩
 have c:=ſ d;clear E Q y a N K d;have E:=A r;clear r;go_upto_region 3 with(fail)
 obtain⟨K,a⟩:=Ea<|κ t (O (δ w.1+1+1) 0)<|G b.toNat;rw[<-a];have U:=ſ<|T.o K a;have s:=U.E;clear a T E;have a:=Gq rb s1 y1 K U.d<|L' c.o.sz;have u:=ſ a;have E:=A U.a;clear a;go_wp2_with fail
 refine bE u.o ?_;rintro e F ⟨d,N,t,rfl,a,q,k⟩;have i:Fr (λj=>j≠rb) K F:=Fr.dI k (λj _ f=>by simpa using f);have Q:=i.box U.a I';have y:=i.box U.b I';have r:=i.box U.c I';have s:=i.size;have s:=sG d;have T:J (∀V,V=(κ F (O (δ w.1+2) 1)<|G d.toNat).alloc (dr b.toNat d.toNat)->Ax V w rb F.1.size (b.toNat:Int) (d.toNat:Int) (h' D' 0 0)/\dc V rb N t/\Fr (λj=>j≠rb) w V):=by
  intro V g;subst g;have o:=Ø F (δ w.1+2) 1<|G d.toNat;have s:δ (κ F (O (δ w.1+2) 1)<|G d.toNat).1=δ F.1:=by simp[World.setCell]
  have t:=Fr.aR (P:=λ_=>True)<|cE (κ F (O (δ w.1+2) 1)<|G d.toNat)<|dr b.toNat d.toNat;have K:=bj (κ F (O (δ w.1+2) 1)<|G d.toNat)<|dr b.toNat d.toNat;rw[s]at K;refine⟨⟨t.box (o.box Q I') trivial,t.box (o.box y I') trivial,t.box (aw r _) trivial,K,I,?_⟩,(q.fr o I').fr t trivial,Fr.trans (Fr.trans (Fr.trans U.e i λ_ _ h=>h) o λj X _=>by show j≠_;omega) t λ_ _ _=>trivial⟩;simp[s]
 have P:=ſ a;clear E Q y q k i a u;have E:=A r;clear r;go_upto_region 5 with(fail)
 obtain⟨V2,p⟩:=Ea<|(κ F (O (δ w.1+1+1) 1)<|G d.toNat).alloc<|dr b.toNat d.toNat;rw[<-p];have q:=ſ<|T.o V2 p;clear p T U E;have E:=A q.a.2.2.2.1;have a:δ w.1+3<=δ F.1:=I;obtain⟨kb,C⟩:∃kb:Bool,Á (b.toNat:Int) (d.toNat:Int)=kb:=⟨_,rfl⟩;cases kb with
 |false=>go_wp2_with fail;refine(l6 _ _ _).mono ?_;rw[C];rintro e p ⟨rfl,i⟩;have t:Fr (λ_=>True) V2 p:=Fr.aR (by rw[i];exact aY);have Y:=q.a.fr t λ_ _=>trivial;have a:=q.b.fr t trivial;have u:=Fr.trans q.B t λ_ _ _=>trivial;have B:=ſ<|M a u;clear E;have E:=A Y.1;have l:=A Y.2.1;have W:=A a;clear i t Y a u;have s:¬rb=δ w.1:=I;have s:¬rb=δ w.1+1:=I;have s:¬δ w.1+1=rb:=I;go_wp2_with fail;refine aC (v:=k' iQ) (by simp[results92,go_sem,l.1]) rfl ?_;have o:=Ø p rb 1<|i' P';have y:=Ö (κ p (O rb 1)<|i' P') (δ w.1+1) (G 0) (G 0)<|h' D' 0 0;have s:dc (κ p (O rb 1)<|i' P') rb N P':=aw B.a _;exact⟨aH ⟨Zs c.o P.o C,0,0,D',0,0,N,rfl,s.fr y I'⟩,Fr.trans (Fr.trans B.A o λ_ _ h=>h) y λj X h2=>by show j≠_;omega⟩
 |true=>
  go_wp2_with fail;refine(l6 _ _ _).mono ?_;rw[C];rintro e p ⟨rfl,i⟩;have t:Fr (λ_=>True) V2 p:=Fr.aR (by rw[i];exact aY);have Y:=q.a.fr t λ_ _=>trivial;have a:=q.b.fr t trivial;have u:=Fr.trans q.B t λ_ _ _=>trivial;have B:=ſ<|M Y<|M a u;clear E i t;have E:=A Y.1;clear Y a u;go_upto_region 8 with(fail)
  have a:=Vm c.o P.o C;obtain⟨k,i⟩:=a;subst k;have a:N.size<=60000:=by have:=c.o.sz;have:=P.o.sz;omega
  have T:=λ(V:t')(g:dc V rb N Q')=>nM rb N Q' 60 V g a ⟨I,I⟩;have a:=λ(V:t')(k:Nat)(S:z')(x:Bool)(z:S.size<=60000)(r:k<=60)(g:dc V rb S x)(o:pV F.1.size w.1.size rb (b.toNat:Int) (d.toNat:Int) V)=>Kq (b.toNat:Int) (d.toNat:Int) w.1.size F.1.size rb k S x V I I g o z I;have Q:=ſ<|M T<|M a<|M B.a<|M i<|M B.b B.B;clear T a i c P B;have a:δ F.1<δ p.1:=Q.c.2.2.2.2.2
  go_cut [] from 24 (λq=>∃(i:u')(c u k:Nat)(S P:z')(x Y:Bool),J<|Ax q w rb F.1.size (b.toNat:Int) (d.toNat:Int) (h' i c u)/\Ü N Q' 60 k S x/\LsN q p.1.size k S x (b.toNat:Int) (d.toNat:Int) i c u P Y/\dc q rb P Y/\Fr (λj=>j≠rb) w q/\δ p.1<=δ q.1)
  case first=>
   go_region_law (first|(have _:=B;go_simp;refine(Q.b _ k S x z ar (by exact B.b)<|by exact⟨B.c.2.2.2.1,B.c.1⟩).mono ?_;rintro e W5 ⟨h5,f5⟩;obtain⟨i,c,u,P,Y,rfl,U,T⟩:=h5.one;have a:=f5.box B.c.2.2.1 (show _≠_ by omega);have W:=A a;have s:=ſ<|M U<|M T f5;clear U T f5 h5 a)|(go_simp;refine(Q.a _<|by exact Q.e).mono ?_;rintro e g ⟨k,S,x,rfl,r,e,o⟩;have a:Fr (λj=>j≠rb) p g:=Fr.trans (Fr.aR (P:=λj=>j≠rb)<|by repeat(first|with_reducible exact aP _ _|with_reducible refine below_drewN ?_ _|with_reducible refine iJ ?_)) (Fr.dI o λj _ f=>by simpa using f) λ_ _ f=>f;have v:=Q.c.fr a (λj f=>by show j≠rb;omega);have z:S.size<=60000:=(L' r.1);have ar:k<=60:=(by rcases r.2 with⟨_,_,q⟩|⟨_,_,q⟩<;>omega);have l:=A v.1;have B:=ſ<|M r<|M e<|M v a;clear r e v a o))
   all_goals
    go_wp2_with fail
    go_meet
    obtain⟨t,q,p⟩:=s.o;have a:=p.size;have e:=B.C;have r:=e.size;have o:Fr (λj=>j≠rb) g W5:=Fr.trans (Fr.aR (P:=λj=>j≠rb)<|by repeat(first|with_reducible exact aP _ _|with_reducible refine below_drewN ?_ _|with_reducible refine iJ ?_)) p λ_ _ h=>h;have z:=B.c.fr o (λj f=>by show j≠rb;omega);have R:=Ø W5 (δ w.1+2) 2<|h' i c u;refine⟨i,c,u,k,S,P,x,Y,⟨R.box z.1 I',R.box z.2.1 I',aw z.2.2.1 _,R.box z.2.2.2.1 I',z.2.2.2.2.1,ep z.2.2.2.2.2 R.size⟩,B.a,t.fr R (λj f=>by show j≠_;omega) r,q.fr R I',?_,br (br r a) R.size⟩;exact Fr.trans (Fr.trans (Fr.trans Q.E e λ_ _ h=>h) o λj X h2=>h2) R (λj X _=>by show j≠_;omega)
  obtain⟨i,c,u,k,S,P,x,Y,a⟩:=hcut
  rename t'=>U
  clear E;have E:=A a.a.2.2.1;have l:=A a.a.2.1;go_wp2_with fail;refine aC (v:=k'<|gO b.toNat d.toNat i c u) (by simp[results92,go_sem,l.1]) rfl ?_;have y:=Ö U (δ w.1+1) (G b.toNat) (G d.toNat)<|h' i c u;refine⟨Vn Q.d C a.b (a.c.fr y (λj f=>by show j≠_;omega)<|aD _) I<|a.d.fr y I',?_⟩;exact Fr.trans a.e y (λj X h2=>by show j≠_;omega)
end
section
variable {p:Prop}
def UC(s p:z')(w:t'):Cl 229 #[m' s,m' p] w λe a=>e=o' (i'<|Lib.hasPrefix s.1.1 p.1.1)/\a=w:=by
 rw[<-Lib.hasPrefix_of_take,<-Lib.size_eq,<-Lib.size_eq];go_enter func229,ntmps229;go_wp2
 .rename_i h;go_ret;refine⟨?_,rfl⟩;show o' (i'<|(s.extract 0 p.size).toList==p.toList)=_;rw[Lib.extract_toList,Lib.toList_data];simp[h]
 rename_i h;go_ret;refine⟨?_,rfl⟩;show o' (i' Q')=_;simp[h]
def Cq{p:z'}(h:Lib.hasPrefix s.1.1 p.1.1=P'):p.size<=s.size:=by rw[<-Lib.hasPrefix_raw]at h;simp only[aS,bw]at h;exact h.1
def R5(h:p:=by
 have Y:=ſ T;clear T;go_enter func155,ntmps155;go_wp2_with (go_at_call 229;refine bE Y.o ?_;rintro e t ⟨rfl,rfl⟩);go_ret2
 exact⟨rfl,rfl⟩):p:=h
def Vb(s p:z')(w:t'):Cl 155 #[m' s,m' p] w λe a=>e=o' (p' #[m'<|if Lib.hasPrefix s.1.1 p.1.1=P' then s.extract p.size s.size else s,i'<|Lib.hasPrefix s.1.1 p.1.1])/\a=w:=by
 have T:=UC s p w;obtain⟨b,a⟩:∃b,Lib.hasPrefix s.1.1 p.1.1=b:=⟨_,rfl⟩;rw[a]at T|-;cases b with
 |true=>have U:=Cq a;exact R5
 |false=>exact R5
def QC(s p:z')(w:t'):Cl 91 #[m' s,m' p] w λe a=>e=o' (p' #[m'<|if Lib.hasPrefix s.1.1 p.1.1=P' then s.extract p.size s.size else s,i'<|Lib.hasPrefix s.1.1 p.1.1])/\a=w:=by
  have T:=Vb s p w;obtain⟨b,a⟩:∃b,Lib.hasPrefix s.1.1 p.1.1=b:=⟨_,rfl⟩;rw[a]at T|-;have Y:=ſ T;clear T
  cases b<;>(
    go_enter func91,ntmps91;go_wp2_with (go_at_call 155;refine bE Y.o ?_;rintro e t ⟨rfl,rfl⟩);go_ret2
    exact⟨rfl,rfl⟩)
def vX:z':=⟨#[87,67,1]⟩
def Ql(h:Lib.hasPrefix s.1.1 vX.1.1=P'):s.1.1=[87,67,1]++(s.extract vX.size s.size).1.1:=by
 have U:=Cq h;have C:s.1.1.take 3=[87,67,1]:=by have:=isPrefixOf_iff_prefix.1 (show[87,67,1].isPrefixOf s.1.1=P' from h);exact(prefix_iff_eq_take.1 this).symm
 have a:(s.extract vX.size s.size).1.1=s.1.1.drop 3:=by rw[<-Lib.toList_data,Lib.extract_toList];exact b! (by rw[Jl];exact aD _)
 rw[a,<-C,xY]
def Uz(h:Lib.hasPrefix s.1.1 vX.1.1=Q'):È s.1.1=D':=by
 unfold È;split
 .rename_i r e;rw[e]at h;simp[Lib.hasPrefix,vX]at h
 rfl
def adE{r:y'}(h:s.1.1=[87,67,1]++r)(X:s.size<=60000):(∀c,iz r=C' (c,[])->ku c=P'->È s.1.1=C' c)/\(∀c,iz r=C' (c,[])->ku c=Q'->È s.1.1=D')/\(∀c b q,iz r=C' (c,b::q)->È s.1.1=D')/\(iz r=D'->È s.1.1=D'):=by
 have C:ζ s.1.1=s.size:=rfl;rw[h]at C|-;simp only[dA,c!]at C|-;have L:ζ (87::67::1::r)<=60000:=I;refine⟨λc T a=>?_,λc T a=>?_,λc b q T=>?_,λT=>?_⟩<;>(unfold È;simp only;rw[aB L,T])
 .simp only;rw[aB a]
 simp only;rw[a];rfl
def CtK(W:t')(B:Nat)(l:y')(p g:Int)(la:u')(ll lc:Nat)(s':z')(bb:Bool):Prop:=
 (bb=Q'/\∃cl:List N5,iz l=C' (⟨p,g,cl.map N5.n⟩,s'.1.1)/\ll=ζ cl/\ρ W B 96 5 (h' la ll lc) ll (fG cl)/\(∀c∈cl,fW W B c)/\I9 cl)\/(bb=P'/\iz l=D')
def CtR.one{w W:t'}{c:Nat}{e:Ending}(h:CtR w W c s e):∃(p g:Int)(i:u')(j R:Nat)(a:z')(b:Bool),e=o' (k'<|gO p g i j R)/\dc W c a b/\CtK W w.1.size s.1.1 p g i j R a b:=by
 rcases h with⟨c,D,a,i,R,V,u,e,f,o,b,d⟩|⟨V,p,g,i,j,R,a,e,d⟩;rotate_left
 .exact⟨p,g,i,j,R,a,P',e,d,aH ⟨rfl,V⟩⟩
 have X:ζ c.nodes=ζ D:=by rw[u];simp
 obtain⟨p,g,v⟩:=c;simp only at u e f X;subst u;rw[X]at e f;exact⟨p,g,i,ζ D,R,a,Q',e,d,aI ⟨rfl,D,V,rfl,f,o,b⟩⟩
def Ģ(w W':t')(s:z')(e:Ending):Prop:=
 (∃(c:Ct)(cl:List N5)(la:u')(lc:Nat),È s.1.1=C' c/\c.nodes=cl.map N5.n/\e=o' (p' #[k'<|gO c.aM c.cu la (ζ c.nodes) lc,G 0])/\ρ W' w.1.size 96 5 (bk la (ζ c.nodes) lc) (ζ c.nodes) (fG cl)/\(∀c∈cl,fW W' w.1.size c)/\I9 cl)\/
 (È s.1.1=D'/\e=o' (p' #[k' iQ,G 5]))
def R6(h:p:=by
 go_enter func44,ntmps44;go_wp2_with (go_at_call 91;refine bE (Y.o _) ?_;rintro e t ⟨rfl,rfl⟩);refine aC (v:=.tuple #[.agg iQ,G 5]) (by simp[results,results44,go_sem]) rfl ?_
 exact⟨aH ⟨K.o,rfl⟩,aY⟩):p:=h
def vR(s:z')(w:t'):
  Cl 44 #[m' s] w λe a=>Ģ w a s e/\Bl w a:=by
 have T:=λW=>QC s vX W;obtain⟨b,c⟩:∃b,Lib.hasPrefix s.1.1 vX.1.1=b:=⟨_,rfl⟩;rw[c]at T;have K:∀W,Cl 91 #[m' s,m' ⟨#[87,67,1]⟩] W λe a=>e=o' (p' #[m'<|if b=P' then s.extract 3 s.size else s,i' b])/\a=W:=T;have Y:=ſ K;clear T K;cases b with
 |false=>
  have K:=ſ<|Uz c
  skip
  exact R6
 |true=>
  have a:=ſ<|Ql c
  skip
  by_cases L:s.size<=60000;rotate_left
  .have i:(60000:Int)<(s.size:Int):=I;have b:È s.1.1=D':=by rw[a.o];simp only[È,dA,c!];rw[ax];intro h;have:=cQ length a.o;simp only[aW,bR,de]at this h;have C:ζ s.1.1=s.size:=rfl;omega
   have K:=ſ b;clear b;exact R6
  have i:¬(60000:Int)<(s.size:Int):=I;have HD:=ſ<|adE a.o L
  skip
  have f:(s.extract 3 s.size).size<=60000:=by have:=cQ length a.o;rw[aW]at this;have C:ζ s.1.1=s.size:=rfl;have b:ζ (s.extract vX.size s.size).1.1=(s.extract 3 s.size).size:=rfl;rw[C,b]at this;omega
  go_enter func44,ntmps44;go_upto_region 6 with(go_at_call 91;refine bE (Y.o _) ?_;rintro e t ⟨rfl,rfl⟩)
  obtain⟨S,X⟩:=Ea<|((w.alloc<|j' iQ 51).alloc<|j' #[m'<|s.extract 3 s.size,i' Q'] 178);rw[<-X];have D:δ S.1=δ w.1+2:=by rw[X];simp
  obtain⟨Q,y⟩:=bP w (j' iQ 51)<|j' #[m'<|s.extract 3 s.size,i' Q'] 178;rw[<-X]at Q y;have L:Bl w S:=by rw[X];exact cU
  refine(Kk (δ w.1+1) (s.extract 3 s.size) S y f).mono ?_;rintro e K ⟨b,B⟩;have U:=B.box Q I';have a:=B.size;have a:Bl w K:=L.trans (B.below I λk C=>by show k≠_;omega);clear X Q y L B;obtain⟨p,g,i,j,R,c,l,rfl,d,C⟩:=b.one;have v:=ſ<|M C<|M U<|M d a;clear b C U d a;go_upto_region 6 with(fail)
  obtain⟨b,d⟩:=Ea<|K.alloc<|j' (gO p g i j R) 51;rw[<-d];have t:Fr (λ_=>True) K b:=Fr.aR (by rw[d];exact aY);have Q:=t.box v.b trivial;have y:=v.c.fr t trivial;have r:d' b K.1.size (gO p g i j R) 51:=by rw[d];exact bj _ _
  have a:δ b.1=δ K.1+1:=by rw[d];simp
  have P:Bl w b:=v.C.trans (by rw[d];exact(cE K _).mono I);have B:=ſ<|M Q<|M y<|M r<|M t P;have E:=A Q;have U:=A y;have L:=A r;clear d t Q y r P;cases l with
  |true=>go_wp2_with fail;refine aC (v:=p' #[k' iQ,G 5]) (by simp[results44,go_sem,E.1]) rfl ?_;exact⟨aH ⟨HD.C (by rcases v.a with⟨h,_⟩|⟨_,h⟩;(cases h);exact h),rfl⟩,B.D.trans ((Ö b w.1.size (.int .i64 0) (.int .i64 0)<|h' D' 0 0).below I λk C=>by show k≠_;omega)⟩
  |false=>
   by_cases r:c.size=0;rotate_left
   .have z:=Sf<|Nat.pos_of_ne_zero r;go_wp2_with fail
    have W:È s.1.1=D':=by
     rcases v.a with⟨_,D,h,_⟩|⟨h,_⟩
     .cases d:c.1.1 with
      |nil=>exact absurd (show c.size=0 by rw[<-W?,d];rfl) r
      |cons a q=>rw[d]at h;exact HD.c _ _ _ h
     cases h
    refine aC (v:=p' #[k' iQ,G 5]) (by simp[results44,go_sem,E.1]) rfl ?_;exact⟨aH ⟨W,rfl⟩,B.D.trans ((Ö b w.1.size (G 0) (G 0)<|h' D' 0 0).below I λk C=>by show k≠_;omega)⟩
   have l:c=⟨#[]⟩:=Â (by have:ζ c.1.1=0:=r;simpa using fg.1 this);subst l;obtain⟨D,N,u,o,d,a⟩:∃D:List N5,iz (s.extract 3 s.size).1.1=C' (⟨p,g,D.map N5.n⟩,[])/\j=ζ D/\ρ K S.1.size 96 5 (h' i j R) j (fG D)/\(∀c∈D,fW K S.1.size c)/\I9 D:=by
    rcases v.a with⟨_,h⟩|⟨h,_⟩
    .exact h
    cases h
   subst u;have j:ny ⟨p,g,D.map N5.n⟩:=Gf (by show(s.extract 3 s.size).1.1.length<=60000;exact f) N;have W:bX b i (D.map N5.n):=uS (B.d.own o λ_ _=>trivial) λx F=>((d x F).fr B.d (λ_ _=>trivial)<|aD _).own;have u:=zI i R ⟨p,g,D.map N5.n⟩ b W j;simp only[bA]at u;obtain⟨f,l⟩:∃f,ku ⟨p,g,D.map N5.n⟩=f:=⟨_,rfl⟩;rw[l]at u;have F:=ſ<|M u<|M N<|M o<|M d<|M a l;clear u N o d a j W r;cases f with
   |true=>
    go_wp2_with fail;refine bE F.a ?_;clear E U L;rintro e l ⟨rfl,v⟩;have a:Fr (λ_=>True) b l:=Fr.aR v;have E:=A<|a.box B.a trivial;have L:=A<|a.box B.c trivial;have d:=ſ a;clear a v;go_wp2_with fail;have o:=d.o.size;refine aC (v:=p' #[k'<|gO p g i (ζ D) R,G 0]) (by simp[results44,go_sem,E.1]) rfl ?_;have r:=Ö l w.1.size (G p) (G g)<|bk i (ζ D) R;have q:Fr (λj=>j≠δ w.1) K _:=Fr.trans (Fr.trans (B.d.mono λ_ _ _=>trivial) d.o λ_ _ _=>trivial) r λ_ _ h=>h;refine⟨aI ⟨⟨p,g,D.map N5.n⟩,D,i,R,HD.a _ F.b F.E,rfl,ak,?_,λc T=>(F.d c T).fr q (λj f=>by show j≠_;omega) I,F.e⟩,?_⟩
    .simp only[bA];exact bC (q.own F.c (λk C=>by have:=(F.c.lt k C).1;show k≠_;omega)) I
    exact(B.D.trans<|d.o.below I λ_ _=>trivial).trans (r.below I λk C=>by show k≠_;omega)
   |false=>go_wp2_with fail;refine bE F.a ?_;clear E U L;rintro e l ⟨rfl,v⟩;have a:Fr (λ_=>True) b l:=Fr.aR v;have E:=A<|a.box B.a trivial;have L:=A<|a.box B.c trivial;have d:=ſ a;clear a v;go_wp2_with fail;have o:=d.o.size;refine aC (v:=p' #[k' iQ,G 5]) (by simp[results44,go_sem,E.1]) rfl ?_;exact⟨aH ⟨HD.b _ F.b F.E,rfl⟩,(B.D.trans<|d.o.below I λ_ _=>trivial).trans ((Ö l w.1.size (G 0) (G 0)<|h' D' 0 0).below I λk C=>by show k≠_;omega)⟩
end
def Fv(s:z')(w:t'):Cl 22 #[m' s] w λe f=>Ģ w f s e/\Bl w f:=by
 go_enter func22,ntmps22;go_wp2_with fail;obtain⟨S,X⟩:=Ea<|w.alloc<|j' iQ 51;rw[<-X];have L:Bl w S:=by rw[X];exact aY
 have D:δ S.1=δ w.1+1:=by rw[X];simp
 have Q:d' S w.1.size iQ 51:=by rw[X];exact bj _ _
 refine(vR s S).mono ?_;rintro e t ⟨C,d⟩;have U:=(d.block _ I).trans Q;have l:=L.trans<|d.mono I;have P:=d.size;clear X Q L;have E:=A U;rcases C with⟨c,h,i,R,g,u,rfl,a,o,b⟩|⟨g,rfl⟩
 .have m:=ſ<|M g<|M u<|M a<|M o<|M b l;clear g u a o b l U d;go_wp2_with fail;refine aC (v:=p' #[k'<|gO c.aM c.cu i (ζ c.nodes) R,G 0]) (by simp[results22,go_sem,E.1]) rfl ?_;have a:=Ö t w.1.size (G c.aM) (G c.cu)<|bk i (ζ c.nodes) R;refine⟨aI ⟨c,h,i,R,m.a,m.b,rfl,bC (a.own m.c (λk b=>by have:=(m.c.lt k b).1;show k≠_;omega)) I,λx F=>(m.d x F).fr a (λj f=>by show j≠_;omega) I,m.e⟩,m.E.trans (a.below I λk b=>by show k≠_;omega)⟩
 have m:=ſ<|M g l;clear g l U d;go_wp2_with fail;refine aC (v:=p' #[k' iQ,G 5]) (by simp[results22,go_sem,E.1]) rfl ?_;have a:=Ö t w.1.size (G 0) (G 0)<|h' D' 0 0;exact⟨aH ⟨m.a,rfl⟩,m.A.trans (a.below I λk b=>by show k≠_;omega)⟩
def UZ:z':=⟨#[108,58,32,120,32,61,32,105,110,112,117,116,10,32,105,102,32,120,32,60,32,49,48,32,103,111,116,111,32,108,10,32,111,117,116,112,117,116,32,120,10,114,101,116,117,114,110]⟩
def exO:z':=⟨#[108,58,32,120,32,61,32,105,110,112,117,116,10,105,102,32,120,32,60,32,49,48,32,103,111,116,111,32,108,10,111,117,116,112,117,116,32,120,10,114,101,116,117,114,110,10]⟩
def Ě:List (List z'):=[[⟨#[108,58]⟩,⟨#[120]⟩,⟨#[61]⟩,⟨#[105,110,112,117,116]⟩],[⟨#[105,102]⟩,⟨#[120]⟩,⟨#[60]⟩,⟨#[49,48]⟩,⟨#[103,111,116,111]⟩,⟨#[108]⟩],[⟨#[111,117,116,112,117,116]⟩,⟨#[120]⟩],[⟨#[114,101,116,117,114,110]⟩]]
def U2:A6 UZ=Ě:=by apply PT;rw[TW];rfl
def Lw:List PN:=[⟨⟨#[108]⟩,[⟨#[120]⟩,⟨#[61]⟩,⟨#[105,110,112,117,116]⟩],⟨2,0,0,0,o0,o0,emp⟩⟩,⟨emp,[⟨#[105,102]⟩,⟨#[120]⟩,⟨#[60]⟩,⟨#[49,48]⟩,⟨#[103,111,116,111]⟩,⟨#[108]⟩],⟨4,0,0,0,⟨P',0,0⟩,⟨Q',0,10⟩,⟨#[108]⟩⟩⟩,⟨emp,[⟨#[111,117,116,112,117,116]⟩,⟨#[120]⟩],⟨3,0,0,0,⟨P',0,0⟩,o0,emp⟩⟩,⟨emp,[⟨#[114,101,116,117,114,110]⟩],⟨6,0,0,0,o0,o0,emp⟩⟩]
def agA:pN ⟨#[108,58]⟩=P':=by first|rfl|decide
def agz:pN ⟨#[105,102]⟩=Q':=by first|rfl|decide
def agy:pN ⟨#[111,117,116,112,117,116]⟩=Q':=by first|rfl|decide
def agx:pN ⟨#[114,101,116,117,114,110]⟩=Q':=by first|rfl|decide
def agw:Wm.nm ⟨#[108]⟩=P':=by first|rfl|decide
def agv:Wm.nm ⟨#[120]⟩=P':=by first|rfl|decide
def agu:Wm.nm ⟨#[49,48]⟩=Q':=by first|rfl|decide
def agt:Wm.nm ⟨#[111,117,116,112,117,116]⟩=Q':=by first|rfl|decide
def ags:Wm.nm ⟨#[105,102]⟩=Q':=by first|rfl|decide
def agr:Wm.nm ⟨#[114,101,116,117,114,110]⟩=Q':=by first|rfl|decide
def adC:Wm.nm ⟨#[105,110,112,117,116]⟩=Q':=by first|rfl|decide
def adB:wP [49,48]=P':=by first|rfl|decide
def adA:zZ [49,48]=10:=by first|rfl|decide
def adz:jL ⟨#[108,58]⟩=⟨#[108]⟩:=by first|rfl|decide
def adx:rm [] [] Ě=C' (Lw,[[120]]):=by simp[Ě,Lw,rm,po,gK,agA,agz,agy,agx,agw,agv,agu,agt,ags,agr,adC,adB,adA,adz,kV,qO,Cm,kP,iG,eT,qP,ej,dx,fY,cZ,Wm.WW,Wm.V!,o0]
def U0:jG UZ=Pr.ok Lw [[120]]:=by
 rw[jG,ax aj,U2,adx];have:i6 Lw [[120]]=P':=by simp[i6,ef,kN,Lw,PN.nc,eT,l8,u!,Ì,lB,fK,I4,emp,Dl,o0]
 simp only[this];rfl
def ady:(⟨θ<|mJ Lw⟩:z')=exO:=by apply Â;simp[mJ,fU,Ê,jw,Lw,exO,eT,emp]
def U1:MZ UZ=exO/\A2 UZ=0:=by
 constructor
 .rw[MZ,U0];exact ady
 rw[A2,U0]
