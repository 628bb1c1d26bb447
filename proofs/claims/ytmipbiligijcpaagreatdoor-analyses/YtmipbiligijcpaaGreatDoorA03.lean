import Derived.Test.YtmipbiligijcpaaGreatDoorA01
import Derived.Deep.RegionHeld3
import Derived.Laws.EntriesVeiled
import Derived.Deep.Cut
import Derived.Laws.AppendOwnNone
import Derived.Lib.TrailingZeros
import Derived.RangeFuncNested
import Derived.RangeFuncBound
import Derived.Shelf.RegionOpen
import Derived.OwnWalkIn
import Derived.LoopNIn
import Derived.LoopIn
namespace Go.Proofs.YtmipbiligijcpaaGreatDoor
set_option linter.all false
set_option maxHeartbeats 0
set_option maxRecDepth 99999
open Go.RowKit Go.Proofs Go.Maps List Tryz Go.Shelf open List renaming length->ζ,toArray->θ open _root_.Array renaming size->δ open World renaming setCell->κ,ownsRow->ρ,cell?->χ,grownBy->ξ open Value renaming ownBlock->φ open Value renaming slice->g',bool->h',agg->j',string->k',pointer->m',tuple->o' open Obj renaming cells->i' open Ending renaming returned->n' open Option renaming some->z',none->A' open Bool renaming true->N',false->O'
variable {B k m:Nat}{W w:p'}
section
variable {q:t'}
def mA(w:p')(ao:t')(vs:List Vl):Prop:=∀j v,vs[j]?=z' v->∃b o,ao=z' (O b o)/\χ w (O b<|o+j*6)=z' (G v.aH)/\χ w (O b<|o+j*6+1)=z' (G v.lo)/\χ w (O b<|o+j*6+2)=z' (G v.hi)/\χ w (O b<|o+j*6+3)=z' (h' v.bY)/\χ w (O b<|o+j*6+4)=z' (G v.first)/\χ w (O b<|o+j*6+5)=z' (G v.rank)
structure tP(w:p')(fa ra va:t')(fc rc vc:Nat)(n:Nd):Prop where
  facts:bK w fa n.facts
  bf:bK w ra n.bf
  aM:mA w va n.aM
  af0:fa=A'->fc=0
  agr:ra=A'->rc=0
  agm:va=A'->vc=0
def cw(w:p')(ao:t')(ns:List Nd):Prop:=∀j n,ns[j]?=z' n->∃b o fa ra va fc rc vc,ao=z' (O b o)/\χ w (O b<|o+j*5)=z' (g' fa (ζ n.facts) fc)/\χ w (O b<|o+j*5+1)=z' (g' ra (ζ n.bf) rc)/\χ w (O b<|o+j*5+2)=z' (h' n.aF)/\χ w (O b<|o+j*5+3)=z' (G n.rank)/\χ w (O b<|o+j*5+4)=z' (g' va (ζ n.aM) vc)/\tP w fa ra va fc rc vc n
def mA.below{b:p'}{E:List Vl}(h:mA w q E)(a:Bl w b):mA b q E:=by intro j v f;obtain⟨b,o,C,T,Q,p,c,P,d⟩:=h j v f;exact⟨b,o,C,aB T a,aB Q a,aB p a,aB c a,aB P a,aB d a⟩
def tP.below{c:p'}{a l z:t'}{q rc x:Nat}{n:Nd}(h:tP w a l z q rc x n)(b:Bl w c):tP c a l z q rc x n:=
 ⟨h.facts.below b,h.bf.below b,h.aM.below b,h.af0,h.agr,h.agm⟩
def cw.below{a:p'}{v:List Nd}(h:cw w q v)(c:Bl w a):cw a q v:=by intro j n f;obtain⟨b,o,a,l,z,q,rc,x,C,T,Q,p,d,P,e⟩:=h j n f;exact⟨b,o,a,l,z,q,rc,x,C,aB T c,aB Q c,aB p c,aB d c,aB P c,e.below c⟩
def ga(x:Int):Prop:=-9223372036854775808<=x/\x<=9223372036854775807
structure Le(v:Vl):Prop where
  aH:ga v.aH
  lo:ga v.lo
  hi:ga v.hi
  first:ga v.first
  rank:ga v.rank
structure lA(n:Nd):Prop where
  facts:∀f∈n.facts,ga f
  bf:∀f∈n.bf,ga f
  rank:ga n.rank
  aM:∀v∈n.aM,Le v
  fsz:ζ n.facts*8<=140737488355328
  rsz:ζ n.bf*8<=140737488355328
  vsz:ζ n.aM*48<=140737488355328
structure rV(c:Ct):Prop where
  aL:ga c.aL
  grade:ga c.grade
  nodes:∀n∈c.nodes,lA n
  sz:ζ c.nodes*88<=140737488355328
end
abbrev BS:=Nat×Nat
def cW(s:BS):y':=j' #[Z s.1,Z s.2]
structure b!(s:BS):Prop where
  lo:s.1<18446744073709551616
  hi:s.2<18446744073709551616
def Zy{p:Prop}(h:p:=by
 have h:Tryz.prog.underlying 267=z' (.array 2 194):=M
 simp[Instr.index,Co h,asIntOf,go_sem]):p:=h
def rH(a b:Int)(w:p'):(Instr.index 267 (kU a b)<|G 0).run Tryz.prog w=.ok (Z a) w:=by exact Zy
def rG(a b:Int)(w:p'):(Instr.index 267 (kU a b)<|G 1).run Tryz.prog w=.ok (Z b) w:=by exact Zy
def Ha(n d:Nat)(K:n=d+1)(a b c e:Int)(w:p'):(Op.equalIn (n+1) 267 (kU a b)<|kU c e).run Tryz.prog w=.ok (a==c&&b==e) w:=by
 have h:Tryz.prog.underlying 267=z' (.array 2 194):=M;have f:Tryz.prog.underlying 194=z' (.int .u64):=M;have l:∀x y:Int,(Op.equalIn n 194 (Z x)<|Z y).run Tryz.prog w=.ok (x==y) w:=by intro x y;rw[K];exact run_equalIn_int w d _ _ _ _ _ f
 have f:(sizeOf 194).run Tryz.prog w=.ok 1 w:=by simp[go_sem]
 have P:∀x y:Int,(part 194 #[Z x,Z y] 0).run Tryz.prog w=.ok (Z x) w:=by intro x y;simp[go_sem]
 have F:∀x y:Int,(part 194 #[Z x,Z y] 1).run Tryz.prog w=.ok (Z y) w:=by intro x y;simp[go_sem]
 have d:(range' 0 2)=[0,1]:=rfl;simp only[Op.equalIn,Sem.run_bind,Co h,IQ,f];rw[Std.Legacy.Range.forIn_eq_forIn_range'];simp only[Std.Legacy.Range.size,Nat.sub_zero,Nat.add_sub_cancel,Nat.div_one,d,forIn_cons,forIn_nil,Sem.run_bind,e6,P,F,l,IQ,Nat.mul_one];cases f:(a==c)
 .simp
 simp only[uf,eF,eV,Sem.run_pure,IQ,Sem.run_bind,P,F,l,Nat.one_mul];cases g:(b==e)<;>simp
def acS(a b c d:Int)(w:p'):(binOp .eql 267 (kU a b)<|kU c d).run Tryz.prog w=.ok (h'<|a==c&&b==d) w:=by rw[run_eql_struct,Ha 9999 9998 rfl];rfl
def MD(a b c d:Int)(w:p'):(binOp .neq 267 (kU a b)<|kU c d).run Tryz.prog w=.ok (h' (!(a==c&&b==d))) w:=by rw[run_neq_struct,Ha 9999 9998 rfl];rfl
def nT(a b:Nat)(c:a<18446744073709551616)(c:b<18446744073709551616):bits .andNot .u64 (a:Int) (b:Int)=((a&&&(18446744073709551615-b):Nat):Int):=by
 have F:a&&&(18446744073709551615-b)<2 ^ 64:=Nat.and_lt_two_pow _ I;have C:(BitVec.ofInt 64 (a:Int)).toNat=a:=by rw[BitVec.ofInt_natCast,BitVec.toNat_ofNat];exact AP I
 have c:(BitVec.ofInt 64 (b:Int)).toNat=b:=by rw[BitVec.ofInt_natCast,BitVec.toNat_ofNat];exact AP I
 show IntKind.u64.wrap ((BitVec.ofInt 64 (a:Int)&&&~~~BitVec.ofInt 64 (b:Int)).toNat:Int)=_;rw[BitVec.toNat_and,BitVec.toNat_not,C,c,xw];have e:2 ^ 64-1-b=18446744073709551615-b:=I;rw[e];omega
def woW(a b:Nat):Nat:=a&&&(18446744073709551615-b)
def fI(s t:BS):BS:=(woW s.1 t.1,woW s.2 t.2)
def jJ(s t:BS)(w:p')(y:b! s)(U:b! t):
  Cl 153 #[cW s,cW t] w (Rb w<|cW<|fI s t):=by
 have a:=λw=>rH (t.1:Int) (t.2:Int) w;have a:=λw=>rG (t.1:Int) (t.2:Int) w;have o:=nT s.1 t.1 y.lo U.lo;have V:=nT s.2 t.2 y.hi U.hi;simp only[cW];go_enter func153,ntmps153;go_wp2_with fail;refine wp_loop_rounds 3 ?_;rw[ua];go_wp2_with fail;rw[ua];go_wp2_with fail;rw[ua];go_wp2_with fail;refine aE (v:=cW<|fI s t) (by simp[results153,go_sem,cW,fI,woW]) rfl ⟨rfl,eD⟩
def QK(a b:Nat):woW a b<18446744073709551616:=by unfold woW;have:a&&&(18446744073709551615-b)<2 ^ 64:=Nat.and_lt_two_pow _ I;omega
def I!(s t:BS):b! (fI s t):=⟨QK _ _,QK _ _⟩
def po{a b}:=@I! a b
def K2(s:BS):Bool:=s.1==0&&s.2==0
def Kn(s t:BS)(w:p')(y:b! s)(U:b! t):
  Cl 296 #[cW s,cW t] w (Rb w<|h'<|K2<|fI s t):=by
 have b:=hid λW=>jJ s t W y U;obtain⟨z,f⟩:=Ea<|fI s t;rw[<-f]at b|-;clear f y U;have a:=λw=>acS (z.1:Int) (z.2:Int) 0 0 w;have V:Tryz.prog.eqGuardType Tryz.prog.depth 267=O':=M;simp only[cW]at b|-;go_enter func296,ntmps296;go_wp2_with (go_at_call 153;refine(b.o _).mono ?_;rintro e t ⟨rfl,l⟩);go_wp2_with fail;go_ret;refine⟨bC ?_,aq dH l⟩;rw[K2,cC];simp only[aY,dP];omega
def Ep(w:p')(ao:t')(ss:List BS):Prop:=∀j s,ss[j]?=z' s->∃b o,ao=z' (O b o)/\χ w (O b<|o+j*2)=z' (Z s.1)/\χ w (O b<|o+j*2+1)=z' (Z s.2)
def fU(s t:BS):BS:=(s.1|||t.1,s.2|||t.2)
def zZ(ss:List BS):BS:=ss.foldl fU (0,0)
def ib{s t:BS}(h:b! s)(k:b! t):b! (fU s t):=
 ⟨by have:=h.lo;have:=k.lo;have:s.1|||t.1<2 ^ 64:=Cn I I;show s.1|||t.1<_;omega,by have:=h.hi;have:=k.hi;have:s.2|||t.2<2 ^ 64:=Cn I I;show s.2|||t.2<_;omega⟩
def Rf:∀(l:List BS)(u:BS),b! u->(∀s∈l,b! s)->b! (l.foldl fU u)
 |[],u,h,_=>h
 |s::r,u,h,k=>Rf r _ (ib h<|k s ak) (λx F=>k x<|by simp[F])
def Rc(l:List BS)(k:∀s∈l,b! s):b! (zZ l):=Rf l _ ⟨aj,aj⟩ k
def Ra{l:List BS}{k:Nat}{s:BS}(h:l[k]?=z' s):zZ (l.take<|k+1)=fU (zZ<|l.take k) s:=by have X:=(aX.1 h).1;rw[ep X,(aX.1 h).2];simp[zZ]
def A7(q:t')(c:Nat)(l:List BS)(w:p')(h:Ep w q l)(S:∀s∈l,b! s)(X:ζ l<=1000):
  Cl 267 #[g' q (ζ l) c] w (Rb w<|cW<|zZ l):=by
 go_enter func267,ntmps267;go_wp2_with fail;go_loopw[10] (λi wr=>∃k:Nat,k<=ζ l/\i=G k/\J (Bl w wr/\wr.1[δ w.1]?=z' lC/\wr.1[δ w.1+1]?=z' (i' #[Z (zZ<|l.take k).1,Z (zZ<|l.take k).2] 267 (0,0)))) (λi _=>ζ l-(intOf i).toNat)
 case atStart=>
  refine⟨0,bm,rfl,dH,hJ.1,?_⟩;have:=(bE w gY gY).2;simpa[zZ]using this
 obtain⟨k,a,rfl,f⟩:=hrel;by_cases L:k<ζ l;rotate_left
 .have a:¬(k:Int)<(ζ l:Int):=I;have N:l.take k=l:=c! I;rw[N]at f;obtain⟨E,g⟩:=A f.B;obtain⟨p,d⟩:=A f.b;go_wp2_with fail;have r:χ (κ wr (O w.1.size 0)<|Z ((zZ l).1:Int)) (O w.1.size 0)=z' (Z ((zZ l).1:Int)):=by rw[(A<|H f.b _).1];rfl
  have R:χ (κ (κ wr (O w.1.size 0)<|Z ((zZ l).1:Int)) (O w.1.size 1)<|Z ((zZ l).2:Int)) (O w.1.size 1)=z' (Z ((zZ l).2:Int)):=by rw[(A<|H (H f.b _) _).1];rfl
  refine aE (v:=cW<|zZ l) (by simp[results267,go_sem,cW,r,R]) rfl ⟨rfl,?_⟩;exact(f.a.setCell aK _).setCell aK _
 have a:(k:Int)<(ζ l:Int):=I;obtain⟨s,F⟩:=La L;obtain⟨a,a,rfl,T,Q⟩:=h k s F;have U:=λw=>rH (s.1:Int) (s.2:Int) w;have a:=λw=>rG (s.1:Int) (s.2:Int) w;have t:=aB T f.a;have Y:=aB Q f.a;obtain⟨E,g⟩:=A f.B;have a:=dW t;have P:=(bq.1 f.B).1;have B:=S s<|aO F;have b:=Rc (l.take k) λx F=>S x<|xi F;have o:=IP (zZ<|l.take k).1 s.1 b.lo B.lo;have V:=IP (zZ<|l.take k).2 s.2 b.hi B.hi;have v:=hid F;clear B b F;obtain⟨u,C⟩:=Ea<|zZ<|l.take k;rw[<-C]at E o V;have b:=hid C;clear C;go_wp2_with fail
 generalize j:wr.alloc (nI s.1 s.2)=V;have B:J (Bl w V/\V.1[δ w.1]?=z' lC/\V.1[δ w.1+1]?=z' (xS u.1 u.2)):=by
  subst j;have D:=(bq.1 f.b).1;refine⟨f.a.alloc f.a.size _,?_,?_⟩
  .rw[bR D];exact f.b
  rw[bR P,b.o];exact f.B
 clear j E g T Q t Y;obtain⟨E,g⟩:=A B.B;refine wp_loop_rounds 3 ?_;rw[ua];go_wp2_with fail;obtain⟨p,d⟩:=A<|H (o:=0) B.B<|Z ((u.1|||s.1:Nat):Int);clear E g;rw[ua];go_wp2_with fail;rw[ua];go_wp2_with fail;go_roundw
 case rel=>
  refine⟨k+1,I,e',?_,?_,?_⟩
  .exact(B.a.setCell G' _).setCell G' _
  .rw[aJ G',aJ G'];exact B.b
  rw[Ra v.o,<-b.o];exact H (H B.B _) _
 exact F'
def L5(s:BS)(f:Nat):BS:=if f<64 then(s.1|||2 ^ f,s.2) else(s.1,s.2|||2 ^ (f-64))
def de(fs:List Nat):BS:=fs.foldl L5 (0,0)
def aaW{s:BS}(h:b! s){f:Nat}(Y:f<128):b! (L5 s f):=by
 unfold L5;split
 .have:(2:Nat) ^ f<2 ^ 64:=IL I I;have C:=h.lo;have a:s.1|||2 ^ f<2 ^ 64:=Cn I this
  exact⟨G',h.hi⟩
 have:(2:Nat) ^ (f-64)<2 ^ 64:=IL I I;have C:=h.hi;have a:s.2|||2 ^ (f-64)<2 ^ 64:=Cn I this
 exact⟨h.lo,by show s.2|||2 ^ (f-64)<_;omega⟩
def SK:∀(o:List Nat)(u:BS),b! u->(∀f∈o,f<128)->b! (o.foldl L5 u)
 |[],u,h,_=>h
 |s::r,u,h,k=>SK r _ (aaW h<|k s ak) (λx F=>k x<|by simp[F])
def me(o:List Nat)(k:∀f∈o,f<128):b! (de o):=SK o _ ⟨aj,aj⟩ k
def F8{o:List Nat}{k f:Nat}(h:o[k]?=z' f):de (o.take<|k+1)=L5 (de<|o.take k) f:=by have X:=(aX.1 h).1;rw[ep X,(aX.1 h).2];simp[de]
def SA(a f:Nat)(b:a<18446744073709551616)(Y:f<64):bits .or .u64 (a:Int) (IntKind.u64.wrap<|2 ^ f)=((a|||2 ^ f:Nat):Int):=by
 have C:(2:Nat) ^ f<2 ^ 64:=IL I Y;have c:IntKind.u64.wrap (2 ^ f)=((2 ^ f:Nat):Int):=by rw[xw,Int.natCast_pow];refine Int.emod_eq_of_lt (Int.pow_nonneg aj) ?_;have:((2 ^ f:Nat):Int)<((2 ^ 64:Nat):Int):=Int.ofNat_lt.2 C;rw[Int.natCast_pow]at this;simpa using this
 rw[c];exact IP a (2 ^ f) b I
def Zx{p:Prop}(h:p:=by
 show(wr.setCell _ _).1[δ w.1]?=_;rw[aJ G']
 exact c.b):p:=h
def abV(q:t')(c:Nat)(o:List Nat)(w:p')(h:bK w q<|o.map Int.ofNat)(S:∀f∈o,f<128)(X:ζ o<=1000):
  Cl 241 #[g' q (ζ o) c] w (Rb w<|cW<|de o):=by
 have s:=hid<|Aa h S;clear h S;go_enter func241,ntmps241;go_wp2_with fail;go_loopw[8] (λi wr=>∃k:Nat,k<=ζ o/\i=G k/\J (Bl w wr/\wr.1[δ w.1]?=z' lC/\wr.1[δ w.1+1]?=z' (i' #[Z (de<|o.take k).1,Z (de<|o.take k).2] 267 (0,0)))) (λi _=>ζ o-(intOf i).toNat)
 case atStart=>
  refine⟨0,bm,rfl,dH,hJ.1,?_⟩;have:=(bE w gY gY).2;simpa[de]using this
 obtain⟨k,a,rfl,c⟩:=hrel;by_cases L:k<ζ o;rotate_left
 .have a:¬(k:Int)<(ζ o:Int):=I;have N:o.take k=o:=c! I;rw[N]at c;obtain⟨E,b⟩:=A c.B;obtain⟨d,d⟩:=A c.b;go_wp2_with fail;have r:χ (κ wr (O w.1.size 0)<|Z ((de o).1:Int)) (O w.1.size 0)=z' (Z ((de o).1:Int)):=by rw[(A<|H c.b _).1];rfl
  have R:χ (κ (κ wr (O w.1.size 0)<|Z ((de o).1:Int)) (O w.1.size 1)<|Z ((de o).2:Int)) (O w.1.size 1)=z' (Z ((de o).2:Int)):=by rw[(A<|H (H c.b _) _).1];rfl
  refine aE (v:=cW<|de o) (by simp[results241,go_sem,cW,r,R]) rfl ⟨rfl,?_⟩;exact(c.a.setCell aK _).setCell aK _
 have a:(k:Int)<(ζ o:Int):=I;obtain⟨f,F⟩:=La L;obtain⟨a,a,rfl,T⟩:=s.a k (f:Int) (by rw[a!,F];rfl);have Y:=s.A f<|aO F;have a:=hid F;clear F;have t:=aB T c.a;obtain⟨u,C⟩:=Ea<|de<|o.take k;have g:=hid C;rw[<-C]at c;clear C;obtain⟨E,b⟩:=A c.B;by_cases b:f<64
 .have Q:f / 64=0:=I;have L:χ wr (O (δ w.1+1) 0)=z' (Z u.1):=by rw[E];rfl
  clear E;go_wp2_with fail
  go_region
  go_wp2_with fail;go_roundw
  case measure=>exact F'
  have d:=AP b;have B:=me (o.take k) λx F=>s.A x<|xi F;rw[d,SA u.1 f (by rw[g.o];exact B.lo) b];refine⟨k+1,I,e',?_,?_,?_⟩
  .exact(c.a.setCell G' _).drew
  .exact Zx
  rw[F8 a.o,<-g.o];rw[L5,aD b];exact H c.B _
 have Q:f / 64=1:=I;have L:χ wr (O (δ w.1+1) 1)=z' (Z u.2):=by rw[E];rfl
 clear E;go_wp2_with fail
 go_region
 go_wp2_with fail;go_roundw
 case measure=>exact F'
 have d:f % 64=f-64:=I;have B:=me (o.take k) λx F=>s.A x<|xi F;rw[d,SA u.2 (f-64) (by rw[g.o];exact B.hi) I];refine⟨k+1,I,e',?_,?_,?_⟩
 .exact(c.a.setCell G' _).drew
 .exact Zx
 rw[F8 a.o,<-g.o];rw[L5,aA b];exact H c.B _
def mc(W:p')(b f:Nat)(Y:f<128)(T:χ W (O b 0)=z' (G f)):
  Cl 241 (oq b) W (Rb W<|cW<|de [f]):=by
 refine abV (z'<|O b 0) 1 [f] W ?_ (H' Y) ak;intro j x hj
 match j,hj with
 |0,hj=>simp at hj;subst hj;exact⟨b,0,rfl,T⟩
 |j+1,hj=>simp at hj
def gu(W:p')(b:Nat)(s t:BS)(y:b! s)(U:b! t)(T:χ W (O b 0)=z' (Z s.1))(Q:χ W (O b 1)=z' (Z s.2))(p:χ W (O b 2)=z' (Z t.1))(c:χ W (O b 3)=z' (Z t.2)):
  Cl 267 (r7 b) W (Rb W<|cW<|fU s t):=by
 have e:zZ [s,t]=fU s t:=by simp[zZ,fU]
 rw[<-e];refine A7 (z'<|O b 0) 2 [s,t] W ?_ ?_ ak
 .intro j x hj
  match j,hj with
  |0,hj=>simp at hj;subst hj;exact⟨b,0,rfl,T,Q⟩
  |1,hj=>simp at hj;subst hj;exact⟨b,0,rfl,p,c⟩
  |j+2,hj=>simp at hj
 intro x F;simp at F;rcases F with rfl|rfl
 .exact y
 exact U
def jK(n:Nat):BS:=(range n).foldl (λs f=>fU s<|de [f]) (0,0)
def x8(n:Nat):jK (n+1)=fU (jK n) (de [n]):=by simp[jK,kq]
def oz:∀n,n<=128->b! (jK n)
 |0,_=>⟨aj,aj⟩
 |n+1,h=>by rw[x8];exact ib (oz n I)<|me _ G'
def ou(n:Nat)(w:p')(K:n<=128):
  Cl 208 #[G n] w (Rb w<|cW<|jK n):=by
 go_enter func208,ntmps208;go_wp2_with fail;go_loopw[6] (λi wr=>∃k:Nat,k<=n/\i=G k/\J (Bl w wr/\wr.1[δ w.1]?=z' lC/\wr.1[δ w.1+1]?=z' (i' #[Z (jK k).1,Z (jK k).2] 267 (0,0)))) (λi _=>n-(intOf i).toNat)
 case atStart=>
  refine⟨0,bm,rfl,dH,hJ.1,?_⟩;have:=(bE w gY gY).2;simpa[jK]using this
 obtain⟨k,b,rfl,c⟩:=hrel;by_cases L:k<n;rotate_left
 .have b:¬(k:Int)<n:=I;have N:k=n:=I;subst N;have E:=A c.B;have d:=A c.b;go_wp2_with fail;have r:χ (κ wr (O w.1.size 0)<|Z ((jK k).1:Int)) (O w.1.size 0)=z' (Z ((jK k).1:Int)):=by rw[(A<|H c.b _).1];rfl
  have R:χ (κ (κ wr (O w.1.size 0)<|Z ((jK k).1:Int)) (O w.1.size 1)<|Z ((jK k).2:Int)) (O w.1.size 1)=z' (Z ((jK k).2:Int)):=by rw[(A<|H (H c.b _) _).1];rfl
  refine aE (v:=cW<|jK k) (by simp[results208,go_sem,cW,r,R]) rfl ⟨rfl,?_⟩;exact(c.a.setCell aK _).setCell aK _
 have b:(k:Int)<n:=I;have V:=hid λW b T=>mc W b k I T;have g:J (∀(W:p') b,χ W (O b 0)=z' (Z ((jK k).1:Int))->χ W (O b 1)=z' (Z ((jK k).2:Int))->χ W (O b 2)=z' (Z ((de [k]).1:Int))->χ W (O b 3)=z' (Z ((de [k]).2:Int))->Cl 267 (r7 b) W (Rb W<|cW<|jK<|k+1)):=by rw[x8];exact λW b D C a N=>gu W b _ _ (oz k I) (me _ G') D C a N
 obtain⟨u,C⟩:=Ea<|jK k;obtain⟨t,U⟩:=Ea<|de [k];obtain⟨v,R⟩:=Ea<|jK<|k+1;rw[<-R]at g;rw[<-C]at g c;rw[<-U]at g V;have B:=hid R;clear C U R;have E:=A c.B;simp only[cW]at V g;have a:=(bq.1 c.B).1;have s:δ w.1+1≠δ wr.1:=I;have x:δ wr.1≠δ w.1+1:=I;go_wp2_with fail
 go_region_law (go_simp;first|(refine bP (V.o _ _ ak) ?_;rintro e t ⟨rfl,l⟩;have S:t.1[δ w.1+1]?=_:=(l.block _ (by simp;have:=(bq.1 c.B).1;omega)).trans ((bR (bq.1 c.B).1).trans c.B);have W:=A S;have P:=(bq.1 S).1;have y:δ w.1+1≠δ t.1:=I;have r:=y.symm;have p:Bl wr t:=aq ay l;have a:=hid<|Aa S p;clear S l p)|(refine bP (g.o _ _ ak ak ak ak) ?_;rintro e F ⟨rfl,X⟩;have b:F.1[δ w.1+1]?=_:=(X.block _ (by simp;have:=(bq.1 a.a).1;omega)).trans ((bR (bq.1 a.a).1).trans a.a);have d:=A b;have r:Bl wr F:=aq (aq a.A ay) X;have d:=hid<|Aa b r;clear b X r))
 all_goals
  go_wp2_with fail;go_roundw
  case rel=>
   refine⟨k+1,I,e',?_,?_,?_⟩
   .exact((aq c.a d.A).setCell G' _).setCell G' _
   .rw[aJ G',aJ G'];exact(d.A.block _ (bq.1 c.b).1).trans c.b
   rw[<-B.o];exact H (H d.a _) _
  exact F'
section
variable {s t:BS}
def bt(s:BS)(f:Nat):Bool:=if f<64 then s.1.testBit f else s.2.testBit (f-64)
def iy(s t:BS)(f:Nat):bt (fU s t) f=(bt s f||bt t f):=by unfold bt fU;split<;>simp
def LJ(a b i:Nat)(c:b<18446744073709551616)(S:i<64):(woW a b).testBit i=(a.testBit i&&!b.testBit i):=by rw[woW,Nat.testBit_and];have:18446744073709551615-b=2 ^ 64-(b+1):=I;rw[this,Nat.testBit_two_pow_sub_succ I];simp[S]
def UY(s t:BS)(f:Nat)(U:b! t)(Y:f<128):bt (fI s t) f=(bt s f&&!bt t f):=by
 unfold bt fI;split
 .exact LJ _ _ _ U.lo I
 exact LJ _ _ _ U.hi I
def lU{a b c}:=@UY a b c
def agb(s:BS)(g f:Nat)(Y:f<128)(a:g<128):bt (L5 s g) f=(bt s f||decide (f=g)):=by
 unfold bt L5;by_cases C:g<64
 .rw[aD C];by_cases a:f<64
  .rw[aD a,aD a,Nat.testBit_or,Nat.testBit_two_pow];simp[eq_comm]
  rw[aA a,aA a,show decide (f=g)=O' by simp;omega,xu]
 rw[aA C];by_cases a:f<64
 .rw[aD a,aD a,show decide (f=g)=O' by simp;omega,xu]
 rw[aA a,aA a,Nat.testBit_or,Nat.testBit_two_pow];congr 1;rw[xt];omega
def j3(f:Nat):bt (0,0) f=O':=by unfold bt;split<;>simp
def U3:∀(o:List Nat)(u:BS)(f:Nat),f<128->(∀g∈o,g<128)->bt (o.foldl L5 u) f=(bt u f||decide (f∈o))
 |[],u,f,_,_=>ak
 |g::r,u,f,Y,hr=>by rw[ij,U3 r _ f Y λx F=>hr x<|by simp[F],agb u g f Y<|hr g ak,qL];congr 1;rw[cC];simp
def qI(o:List Nat)(f:Nat)(Y:f<128)(h:∀g∈o,g<128):bt (de o) f=decide (f∈o):=by rw[de,U3 o _ f Y h,j3,ko]
def vV:∀(n f:Nat),n<=128->f<128->bt (jK n) f=decide (f<n)
 |0,f,_,_=>by rw[show jK 0=(0,0)from rfl,j3];simp
 |n+1,f,K,hf=>by rw[x8,iy,vV n f I hf,qI [n] f hf G',cC];simp;omega
def U0:∀(l:List BS)(u:BS)(f:Nat),bt (l.foldl fU u) f=(bt u f||l.any λs=>bt s f)
 |[],u,f=>ak
 |s::r,u,f=>by rw[ij,U0 r,iy,qM,qL]
def aga(l:List BS)(f:Nat):bt (zZ l) f=l.any λs=>bt s f:=by rw[zZ,U0,j3,ko]
def EP{a b:Nat}(c:a<18446744073709551616)(c:b<18446744073709551616)(h:∀i,i<64->a.testBit i=b.testBit i):a=b:=by
 refine Nat.eq_of_testBit_eq λi=>?_;by_cases S:i<64
 .exact h i S
 have a:(18446744073709551616:Nat)<=2 ^ i:=by have:=CH (n:=2) I (show 64<=i by omega);exact this
 rw[Nat.testBit_lt_two_pow I,Nat.testBit_lt_two_pow I]
def U6(y:b! s)(U:b! t)(h:∀f,f<128->bt s f=bt t f):s=t:=by
 obtain⟨c,b⟩:=s;obtain⟨S,a⟩:=t;have V:c=S:=EP y.lo U.lo λi S=>by have:=h i I;unfold bt at this;rwa[aD S,aD S]at this
 have u:b=a:=EP y.hi U.hi λi S=>by have:=h (i+64) I;unfold bt at this;rw[aA I,aA I]at this;simpa using this
 rw[V,u]
def adb(s:BS):K2 s=N'↔s=(0,0):=by obtain⟨a,b⟩:=s;simp[K2]
def Yo(y:b! s):K2 s=N'↔∀f,f<128->bt s f=O':=by
 rw[adb];constructor
 .rintro rfl f _;exact j3 f
 intro h;exact U6 y ⟨aj,aj⟩ λf Y=>by rw[h f Y,j3]
def yO(U:b! t):K2 (fI s t)=N'↔∀f,f<128->bt s f=N'->bt t f=N':=by
 rw[Yo<|I! s t];constructor
 .intro h f Y y;have:=h f Y;rw[UY s t f U Y,y,eN]at this;simpa using this
 intro h f Y;rw[UY s t f U Y];cases y:bt s f with
 |false=>rfl
 |true=>rw[h f Y y];rfl
end
section
variable {a T p:Nat}{v:y'}
structure RR where
  st:List y'
  ea:t'
  ec:Nat
  es:List (Nat×y')
abbrev RR.ev(r:RR):y':=g' r.ea (ζ r.es) r.ec
def n0(r:RR):List y':=r.st++[r.ev]
def il(rl:List RR):List y':=rl.flatMap n0
def ix(es:List<|Nat×y'):List y':=es.flatMap λe=>[G e.1,e.2]
def KR(a:List<|Nat×y')(e:Nat×y'):ix (a++[e])=ix a++[G e.1,e.2]:=by simp[ix]
def Be{m:Nat}:∀(c:List RR),(∀r∈c,ζ r.st=m)->ζ (il c)=ζ c*(m+1)
 |[],_=>by simp[il]
 |r::q,h=>by have B:=Be q (λx F=>h x<|by simp[F]);have D:=h r ak;simp only[il,bW,bg,n0,bU,eY]at B|-;rw[lZ];omega
def yk{m:Nat}:∀(c:List RR)(k:Nat)(r:RR)(j:Nat),(∀r∈c,ζ r.st=m)->c[k]?=z' r->j<m+1->(il c)[k*(m+1)+j]?=(n0 r)[j]?
 |[],k,r,j,_,h,_=>by simp at h
 |a::q,0,r,j,d,h,hj=>by simp at h;subst h;have D:=d a ak;simp only[il,bW,e6,bH];rw[gI<|by simp[n0];omega]
 |a::q,k+1,r,j,d,h,hj=>by have D:=d a ak;have B:=yk q k r j (λx F=>d x<|by simp[F]) (H' h) hj;simp only[il,bW]at B|-;rw[eB<|by simp[n0,lZ];omega,<-B];congr 1;simp[n0,lZ];omega
def pJ{m:Nat}:∀(c:List RR)(k:Nat)(r g:RR)(j:Nat)(v:y'),(∀r∈c,ζ r.st=m)->c[k]?=z' r->j<m+1->n0 g=(n0 r).set j v->(il c).set (k*(m+1)+j) v=il (c.set k g)
 |[],k,r,g,j,v,_,h,_,_=>by simp at h
 |a::q,0,r,g,j,v,d,h,f,he=>by simp at h;subst h;have D:=d a ak;simp only[il,dm,bW,e6,bH];rw[xI _ _<|by simp[n0];omega,he]
 |a::q,k+1,r,g,j,v,d,h,f,he=>by have D:=d a ak;have B:=pJ q k r g j v (λx F=>d x<|by simp[F]) (H' h) f he;simp only[il,cO,bW]at B|-;rw[lY _ _<|by simp[n0,lZ];omega,<-B];congr 2;simp[n0,lZ];omega
structure Sys(W:p')(B rb m tR tE:Nat)(rl:List RR):Prop where
  dy:W.1[rb]?=z' (i' (θ<|il rl) tR (0,0))
  low:B<=rb
  len:∀r∈rl,ζ r.st=m
  row:∀r∈rl,ρ W B tE 2 r.ev (ζ r.es)<|ix r.es
  wG:∀(i j:Nat)(a b:RR),rl[i]?=z' a->rl[j]?=z' b->i≠j->φ a.ev=A'\/φ a.ev≠φ b.ev
def Sys.below{b:p'}{c:List RR}(h:Sys W B a m T p c)(e:Bl W b):Sys b B a m T p c:=by
 refine⟨(e.block _ (bq.1 h.dy).1).trans h.dy,h.low,h.len,λr a=>?_,h.wG⟩;have D:=h.row r a;refine⟨D.1,?_⟩;rcases D.2 with a|⟨g,b,Y,C,c,N,d⟩
 .exact aP a
 exact aR ⟨g,b,Y,C,c,(e.block g (bq.1 N).1).trans N,d⟩
def Sys.cell{c:List RR}(h:Sys W B a m T p c){j:Nat}{r:RR}(b:c[k]?=z' r)(f:(n0 r)[j]?=z' v):χ W (O a<|k*(m+1)+j)=z' v/\W.frozen? (O a<|k*(m+1)+j)=O':=by
 have E:=A h.dy;refine⟨?_,E.2 _⟩;have X:=h.len r<|aO b;have L:j<m+1:=by have:=(aX.1 f).1;simp[n0]at this;omega
 rw[E.1,cL,yk c k r j h.len b L,f]
def dV{e size n t:Nat}{D:List y'}{L:Array y'}(h:ρ W B e size v n D)(a:W.1[k]?=z' (cU L t))(l:e≠t):φ v≠z' k:=by
 rcases h.2 with⟨V,_⟩|⟨g,b,Y,V,_,N,_⟩
 .rw[V];simp[Value.ownBlock]
 rw[V];intro u;have:g=k:=by simpa[Value.ownBlock]using u
 subst this;rw[N]at a;simp at a;exact l a.2
def Sys.grow{X l:p'}{c:List RR}{r:RR}{e:Nat×y'}{d:t'}{b:Nat}(h:Sys W B a m T p c)(U:p≠T)(hk:c[k]?=z' r)(f:Bl W X)
  (q:ξ X l<|φ r.ev) (t:ρ l B p 2 (g' d (ζ r.es+1) b) (ζ r.es+1)<|ix r.es++[G e.1,e.2]) (K:φ (g' d (ζ r.es+1) b)=φ r.ev\/φ (g' d (ζ r.es+1) b)=z' X.1.size):
  Sys (κ l (O a<|k*(m+1)+m)<|g' d (ζ r.es+1) b) B a m T p (c.set k ⟨r.st,d,b,r.es++[e]⟩):=by
 have P:=h.below f;have f:=(bq.1 P.dy).1;have z:some a≠φ r.ev:=λe=>dV (P.row r<|aO hk) P.dy U e.symm
 have w:=(q.block a f z).trans P.dy;have L:=dV t w U;have V:=h.len r<|aO hk;have o:=(aX.1 hk).1;have u:∀(size n:Nat)(v:y')(D:List y'),ρ l B p size v n D->φ v≠z' a->ρ (κ l (O a<|k*(m+1)+m)<|g' d (ζ r.es+1) b) B p size v n D:=by
  intro size n v D o R;refine⟨o.1,?_⟩;rcases o.2 with a|⟨g,b,Y,C,i,N,d⟩
  .exact aP a
  refine aR ⟨g,b,Y,C,i,?_,d⟩;rw[aJ (by rintro rfl;exact R<|by rw[C];rfl)];exact N
 refine⟨?_,h.low,?_,?_,?_⟩
 .rw[H w];congr 2;rw[cj];congr 1;refine pJ c k r _ m _ h.len hk I ?_;simp only[n0,RR.ev,bg,e4];rw[lY _ _ I,V,oh];rfl
 .intro x F;rcases gJ F with F|rfl
  .exact h.len x F
  exact V
 .intro x F;rw[gF]at F;obtain⟨j,f⟩:=F;rw[e5]at f;by_cases s:k=j
  .rw[aD s,aD I]at f;cases f;have:=u 2 _ _ _ t L;simpa[RR.ev,KR]using this
  rw[aA s]at f;have y:=P.row x<|aO f;have Q:=h.wG j k x r f hk I;have:ρ l B p 2 x.ev (ζ x.es) (ix x.es):=by
   refine⟨y.1,?_⟩;rcases y.2 with a|⟨g,b,Y,C,i,N,d⟩
   .exact aP a
   refine aR ⟨g,b,Y,C,i,(q.block g (bq.1 N).1 ?_).trans N,d⟩;rcases Q with Q|Q
   .rw[C]at Q;simp[Value.ownBlock]at Q
   intro e;exact Q (by rw[<-e,C];rfl)
  exact u 2 _ _ _ this<|dV y P.dy U
 intro i j a b S f t;rw[e5]at S f;by_cases E:k=i
 .rw[aD E,aD I]at S;cases S;rw[aA I]at f;have Q:=h.wG j k b r f hk I;simp only[RR.ev,bg,e4];rcases K with K|K
  .rw[K];rcases Q with Q|Q
   .rw[show φ b.ev=A' from Q];cases o:φ r.ev with
    |none=>exact aP rfl
    |some q=>exact aR ak
   exact aR λe=>Q e.symm
  rw[K];refine aR λe=>?_;have:=((P.row b<|aO f).lt X.1.size e.symm).2;omega
 rw[aA E]at S;by_cases s:k=j;rotate_left
 .rw[aA s]at f;exact h.wG i j a b S f t
 rw[aD s,aD I]at f;cases f;have Q:=h.wG i k a r S hk I;simp only[RR.ev,bg,e4];rcases K with K|K
 .rw[K];exact Q
 rw[K];refine aR λe=>?_;have:=((P.row a<|aO S).lt X.1.size e).2;omega
structure Ef where
  drop:BS
  add:BS
def EE(e:Ef):y':=j' #[Z e.drop.1,Z e.drop.2,Z e.add.1,Z e.add.2]
structure Ew(e:Ef):Prop where
  drop:b! e.drop
  add:b! e.add
def Ii(e:Ef)(s:BS):BS:=fU (fI s e.drop) e.add
def abR(e:Ef)(s:BS)(w:p')(l:Ew e)(y:b! s):
  Cl 328 #[EE e,cW s] w (Rb w<|cW<|Ii e s):=by
 have k:J (∀W,Cl 153 #[cW s,cW e.drop] W<|Rb W<|cW<|fI s e.drop):=λW=>jJ s e.drop W y l.drop;have g:J (∀(W:p') b,χ W (O b 0)=z' (Z ((fI s e.drop).1:Int))->χ W (O b 1)=z' (Z ((fI s e.drop).2:Int))->χ W (O b 2)=z' (Z e.add.1)->χ W (O b 3)=z' (Z e.add.2)->Cl 267 (r7 b) W (Rb W<|cW<|Ii e s)):=λW b D C c N=>gu W b _ _ po l.add D C c N;obtain⟨z,f⟩:=Ea<|Ii e s;obtain⟨u,C⟩:=Ea<|fI s e.drop;rw[<-f]at g|-;rw[<-C]at g k;clear f C l y;obtain⟨⟨Y,c⟩,N,l⟩:=e;obtain⟨f,e⟩:=s;simp only[cW,EE]at k g|-;go_enter func328,ntmps328;go_wp2_with fail
 generalize j:((w.alloc<|i' #[Z Y,Z c,Z N,Z l] 397).alloc<|nI f e).alloc gY=b;have U:J (Bl w b/\b.1[δ w.1]?=z' (i' #[Z Y,Z c,Z N,Z l] 397 (0,0))/\b.1[δ w.1+1]?=z' (xS f e)/\b.1[δ w.1+1+1]?=z' lC):=by
  subst j;refine⟨eD,?_,?_,?_⟩
  .rw[bR G'];exact(bE w _ _).1
  .rw[bR ak];exact(bE w _ _).2
  have:=cF ((w.alloc<|i' #[Z Y,Z c,Z N,Z l] 397).alloc<|nI f e) gY;simpa using this
 clear j;have E:=A U.b;have c:=A U.c;have W:=A U.C;have e:=(bq.1 U.C).1;have c:δ w.1≠δ b.1:=I;have s:δ w.1+1≠δ b.1:=I;have x:δ w.1+1+1≠δ b.1:=I
 go_region_law (go_simp;first|(refine bP (k.o _) ?_;rintro L t ⟨rfl,l⟩;have p:Bl b t:=aq ay l;have F:=A ((p.block _ I).trans U.b);have c:=p.size;have y:δ w.1≠δ t.1:=I;have c:δ w.1+1+1≠δ t.1:=I;have f:=y.symm;have k:=c.symm;have gW:=hid p;clear p l)|(refine bP (g.o _ _ ak ak ak ak) ?_;rintro L F ⟨rfl,X⟩;have r:Bl b F:=aq (aq gW.o ay) X;have R:=A ((r.block _ I).trans U.C);have c:=hid r;clear r X))
 all_goals
  go_wp2_with fail;have v:=(c.o.block _ e).trans U.C;have b:χ (κ F (O (δ w.1+1+1) 0)<|Z z.1) (O (δ w.1+1+1) 0)=z' (Z z.1):=by rw[(A<|H v _).1];rfl
  have r1:χ (κ (κ F (O (δ w.1+1+1) 0)<|Z z.1) (O (δ w.1+1+1) 1)<|Z z.2) (O (δ w.1+1+1) 1)=z' (Z z.2):=by rw[(A<|H (H v _) _).1];rfl
  refine aE (v:=cW z) (by simp[results328,go_sem,cW,b,r1]) rfl ⟨rfl,?_⟩;exact((aq U.a c.o).setCell G' _).setCell G' _
abbrev du(rb n:Nat):y':=j'<|eu rb n
def vH(e:Ef):y':=.func (.func 328) #[EE e] #[]
end
section
variable {a b:y'}{q:Nat}{v:Ef}
def td:(Tryz.prog.info? 267).map (λi=>(i.zero,i.size,i.bytes))=z' (z'<|j' #[Z 0,Z 0],2,16):=M
def fV(s:BS):List y':=[Z s.1,Z s.2]
def di(ss:List BS):List y':=ss.flatMap fV
def Z7(s0:BS)(es:List<|Nat×Ef)(held:Nat->BS):BS:=zZ (s0::es.map λe=>Ii e.2<|held e.1)
def tD:∀(l:List<|Nat×y')(k:Nat)(x:Nat×y'),l[k]?=z' x->(ix l)[k*2]?=z' (G x.1)/\(ix l)[k*2+1]?=z' x.2
 |[],k,x,h=>by simp at h
 |a::l,0,x,h=>by simp at h;subst h;simp[ix]
 |a::l,k+1,x,h=>by have:=tD l k x<|H' h;simp only[ix,bW,fW,gg]at this|-;rw[show(k+1)*2=k*2+1+1 by omega];simpa using this
def Uo{l:List (Nat×y')}{a:List (Nat×Ef)}(c:l=a.map λe=>(e.1,vH e.2))(b:a[k]?=z' (m,v)):(ix l)[k*2]?=z' (G m)/\(ix l)[k*2+1]?=z' (vH v):=tD l k (m,vH v) (by rw[c,a!,b];rfl)
def Gd{X:p'}{t:TypeId}(h:X.1[q]?=z' (i' #[a,b] t (0,0))):∀(j:Nat)(u:y'),[a,b][j]?=z' u->χ X (((O q 0):Addr).add j)=z' u:=by intro j u f;rw[dY,bH,(A h).1];simpa using f
def Hq{w a:p'}{o:Obj}(c:Below B w a)(h:w.1[k]?=z' o)(b:k<B):a.1[k]?=z' o:=(c.block k b).trans h
def SF{e:Ef}{s:BS}(l:Ew e)(y:b! s):b! (Ii e s):=ib po l.add
def tI:∀(l:List BS)(j:Nat)(s:BS),l[j]?=z' s->(di l)[j*2]?=z' (Z s.1)/\(di l)[j*2+1]?=z' (Z s.2)
 |[],j,s,h=>by simp at h
 |a::l,0,s,h=>by simp at h;subst h;simp[di,fV]
 |a::l,j+1,s,h=>by have:=tI l j s<|H' h;simp only[di,bW,fV,fW,gg]at this|-;rw[show(j+1)*2=j*2+1+1 by omega];simpa using this
def RG{n c:Nat}{a:t'}{l:List BS}(h:ρ W B 267 2 (g' a n c) n<|di l):Ep W a l:=by
 intro j s f;have a:=tI l j s f;rcases h.2 with⟨R,_⟩|⟨g,b,Y,R,_⟩
 .exfalso;have C:=h.1;simp at R;have:=(aX.1 a.1).1;simp_all
 simp at R;obtain⟨rfl,rfl⟩:=R;have U:=h.cells (g:=g) rfl _ _ a.1;have b:=h.cells (g:=g) rfl _ _ a.2;rw[dY]at U b;exact⟨g,0,rfl,U,b⟩
def Ss{t:Nat}(h:W.1[q]?=z' (i' #[a,b] t (0,0)))(v:B<=q):ρ W B t 2 (g' (z'<|O q 0) 1 1) 1 [a,b]:=by refine⟨rfl,aR ⟨q,1,#[a,b],rfl,v,h,aK,?_,rfl,rfl⟩⟩;unfold maxLen;decide
def af5{p:Nat}{r:RR}{b:List (Nat×Ef)}(h:ρ W B p 2 r.ev (ζ r.es)<|ix r.es)(l:r.es=b.map λe=>(e.1,vH e.2))(a:b[k]?=z' (m,v)):∃g,r.ea=z' (O g 0)/\χ W (O g<|k*2)=z' (G m)/\χ W (O g<|k*2+1)=z' (vH v):=by
 have o:=(aX.1 a).1;rcases h.2 with⟨_,e⟩|⟨g,b,Y,R,_⟩
 .rw[l,b9]at e;omega
 simp[RR.ev]at R;refine⟨g,R.1,?_,?_⟩
 .have:=h.cells (g:=g) (by simp[RR.ev,Value.ownBlock,R.1]) (k*2) (G m) (Uo l a).1;rwa[dY,bH]at this
 have:=h.cells (g:=g) (by simp[RR.ev,Value.ownBlock,R.1]) (k*2+1) (vH v) (Uo l a).2;rwa[dY,bH]at this
def Og(f B N n u:Nat)(c:List RR)(r:RR)(s0:BS)(es:List<|Nat×Ef)(C:Array y')(b:Nat->BS)(w:p')(j:Sys w B f 2 393 404 c)(X:ζ c=N)(p:N<=60)(hr:c[n]?=z' r)(R:r.st=fV s0)(T:b! s0)(c:r.es=es.map λe=>(e.1,vH e.2))(g:∀e∈es,Ew e.2/\b! (b e.1))(k:ζ es<=200)(E:∀D w,(callFunc u D).run Tryz.prog w=.ok (.enter u D) w)
  (V:∀e∈es,∀W,Bl w W->Cl u (#[G e.1]++C) W (Rb W<|cW<|b e.1)):
  Cl 226 #[du f N,G n,.func (.func u) #[] C] w (Rb w<|cW<|Z7 s0 es b):=by
 have o:=j.cell (j:=0) (v:=Z s0.1) hr (by simp[n0,R,fV]);have l:=j.cell (j:=1) (v:=Z s0.2) hr (by simp[n0,R,fV]);have p:=j.cell (j:=2) (v:=g' r.ea (ζ es) r.ec) hr (by simp[n0,R,fV,RR.ev,c]);have k:n<N:=by rw[<-X];exact(aX.1 hr).1
 have k:(n:Int)<N:=I;have D:=hid<|j.row r<|aO hr;have B:=hid<|Aa V<|Aa g<|Aa T c;simp only[Nat.reduceAdd,e!]at o l p;have k:=u! w (i' (eu f N) 260) gY;have t:=aB o.1 k;have Y:=aB l.1 k;have q:=aB p.1 k;clear j V g T c R hr X o l p k;simp only[du];go_enter func226,ntmps226;go_upto_region 4 with(fail)
 generalize j:(((w.alloc<|i' (eu f N) 260).alloc gY).alloc<|i' #[Z s0.1,Z s0.2,g' r.ea (ζ es) r.ec] 393).alloc (nI s0.1 s0.2)=g;have U:J (Bl w g/\b' g w.1.size (eu f N) 260/\g.1[δ w.1+1]?=z' lC/\g.1[δ w.1+1+1+1]?=z' (xS s0.1 s0.2)):=by subst j;obtain⟨k,R,_,c⟩:=qd w (i' (eu f N) 260) gY (i' #[Z s0.1,Z s0.2,g' r.ea (ζ es) r.ec] 393)<|nI s0.1 s0.2;exact⟨jb,k,R,c⟩
 clear j t Y q;have c:=blt U.C;go_loopw[8,22] (λf y wr=>∃(k:Nat)(a:t')(c:Nat),k<=ζ es/\y=G k/\f=g' a (k+1) c/\J (ρ wr (δ w.1+1+1+1) 267 2 (g' a (k+1) c) (k+1) (di<|s0::(es.take k).map λe=>Ii e.2<|b e.1)/\Below (δ w.1+1+1+1) g wr)) (λ_ y _=>ζ es-(intOf y).toNat)
 case atStart=>exact⟨0,_,_,bm,rfl,rfl,Ss U.C aK,aQ⟩
 obtain⟨k,a,c,f,rfl,rfl,R⟩:=hrel;have p:Bl w wr:=U.a.trans<|R.A.mono I;have f:=R.A.size;by_cases L:k<ζ es;rotate_left
 .have o:¬(k:Int)<(ζ es:Int):=I;have q:k=ζ es:=I;subst q;rw[jj]at R;have g:J (∀W,Bl wr W->Cl 267 #[g' a (ζ es+1) c] W (Rb W<|cW<|Z7 s0 es b)):=by intro W j;have X:ζ (s0::es.map λe=>Ii e.2<|b e.1)=ζ es+1:=ak;have:=A7 a c (s0::es.map λe=>Ii e.2<|b e.1) W (RG<|aZ R.a j) (by intro s y;rcases cM.1 y with rfl|y;(· exact B.c);obtain⟨e,T,rfl⟩:=bG.1 y;exact SF (B.b e T).1 (B.b e T).2) G';rwa[X]at this
  obtain⟨z,f⟩:=Ea<|Z7 s0 es b;rw[<-f]at g;have j:=hid f;clear f;have E:=A<|Hq R.A U.b I;have f:=hid p;have l:δ w.1+1<δ wr.1:=I;clear p;simp only[cW]at g;go_wp2_with (go_at_call 267;refine(g.o _ aQ).mono ?_;rintro e t ⟨rfl,l⟩;have v:=aG l<|Hq R.A U.c I;clear E;have E:=A v;have q:=hid<|Aa l v;clear l v);have v:=q.A;have g:χ (κ t (O (δ w.1+1) 0)<|Z z.1) (O (δ w.1+1) 0)=z' (Z z.1):=by rw[(A<|H v _).1];rfl
  have r1:χ (κ (κ t (O (δ w.1+1) 0)<|Z z.1) (O (δ w.1+1) 1)<|Z z.2) (O (δ w.1+1) 1)=z' (Z z.2):=by rw[(A<|H (H v _) _).1];rfl
  refine aE (v:=cW z) (by simp[results226,go_sem,cW,g,r1]) rfl ⟨by rw[j.o],?_⟩;exact((aq f.o q.a).setCell G' _).setCell G' _
 have o:(k:Int)<(ζ es:Int):=I;obtain⟨⟨m,v⟩,F⟩:∃x,es[k]?=z' x:=⟨_,bj L⟩;obtain⟨g,g,o,f⟩:=af5 (aZ D.o p) B.C F;obtain⟨N,D⟩:=B.b _<|aO F;have Y:J (∀W,Bl w W->Cl u (#[G m]++C) W (Rb W<|cW<|b m)):=B.a _<|aO F;have s:J (∀W,Cl 328 #[EE v,cW<|b m] W<|Rb W<|cW<|Ii v<|b m):=λW=>abR v (b m) W N D;have U:=hid F;clear F N D;rw[g];simp only[vH]at f;go_upto_region 6 with(fail)
 generalize g:wr.alloc (i' #[G m,.func (.func 328) #[EE v] #[]] 404)=V;have B:J (Bl wr V/\b' V wr.1.size #[G m,.func (.func 328) #[EE v] #[]] 404):=by subst g;exact⟨bA,cv⟩
 clear g o f;have E:=A B.A;have u:J (Bl w V):=aq p B.a;have f:=B.a.size;obtain⟨x,g⟩:=Ea<|b m;obtain⟨f,j⟩:=Ea<|Ii v<|b m;rw[<-g]at Y s;have r:J (f=Ii v (b m)):=j;rw[g,<-j,<-g]at s;clear g j p;obtain⟨N,hi,D,j,g⟩:=cI td;have o:J (_/\_/\_/\_):=⟨hi,D,j,g⟩;clear hi D j g;generalize g:EE v=g at s;generalize cW x=g at Y s;simp only[cW]at s
 go_region_law (first|(go_simp;refine bP (Y.o _<|aq u.o ay) ?_;rintro e t ⟨rfl,l⟩;have q:J (Bl V t):=aq ay l;clear E l;have E:=A<|aG q.o B.A)|(go_simp;refine bP (s.o _) ?_;rintro e F ⟨rfl,X⟩;have j:J (Bl V F):=aq (aq q.o ay) X;clear X)|(refine gw rfl (.tmp 26) (.tmp 34) 264 rfl (δ w.1+1+1+1) 267 N (j' #[.int .u64 0,.int .u64 0]) 2 16 underlying264 o.a o.b o.c o.C rfl aj (g' a (k+1) c) (k+1) (di<|s0::(es.take k).map λe=>Ii e.2<|b e.1) (by simp[Act.eval,Act.put]) (by exact aZ R.a<|aq (aq B.a j.o) ay) (O F.1.size 0) 1 1 [.int .u64 (f.1:Int),.int .u64 (f.2:Int)] (by simp[Act.eval,Act.put]) rfl (Gd<|cF F _) (by intro u C;simp at C;rcases C with rfl|rfl<;>rfl) (by unfold maxLen;omega) I (by have:=j.o.size;simp;omega) ?_;intro E c c W y;obtain⟨C,l,rfl⟩:=aV c;have g:=hid<|Aa c W;clear c W y))
 all_goals
  go_wp2_with fail;go_roundw
  case rel=>
   have T:di (s0::(es.take<|k+1).map λe=>Ii e.2<|b e.1)=di (s0::(es.take k).map λe=>Ii e.2<|b e.1)++[Z f.1,Z f.2]:=by rw[ep L,(aX.1 U.o).2,fq,r.o];simp[di,fV]
   refine⟨k+1,C,l,L,e',rfl,?_,?_⟩
   .rw[T];exact g.a
   exact R.A.trans ((((aq B.a j.o).mono I).alloc (I' j.o.size) _).grown g.A (by have:=j.o.size;simp;omega) λq e=>((aZ R.a<|aq B.a j.o).lt q e).1)
  exact F'
end
def lV(w:p'):Prop:=∀j,j<64->χ w (O 0 j)=z' (.int .u8 ((Lib.deBruijn64tab.getD j 0:Nat):Int))
def lV.below{w a:p'}(h:lV w)(b:Bl w a):lV a:=λj f=>aB (h j f) b
def aaP(x a:Nat)(F:x<18446744073709551616)(z:x≠0)(i:x&&&(18446744073709551616-x)=a):
  IntKind.u64.wrap (bits BinOp.and IntKind.u64 (x:Int) (IntKind.u64.wrap (-(x:Int)))*285870213051353865) / 288230376151711744=((a*285870213051353865 % 18446744073709551616 / 288230376151711744:Nat):Int):=by
 have V:IntKind.u64.wrap (-(x:Int))=((18446744073709551616-x:Nat):Int):=by rw[xw];omega
 rw[V,bits_and_u64_nat x _ F I,i,xw];omega
def V4(x k a:Nat)(w:p')(z:((x:Int)==0)=O')
  (X:IntKind.u64.wrap (bits BinOp.and IntKind.u64 (x:Int) (IntKind.u64.wrap (-(x:Int)))*285870213051353865) / 288230376151711744=(a:Int))
  (S:a<64) (b:k<64) (Y:χ w (O 0 a)=z' (.int .u8 (k:Int))):
  Cl 228 #[Z x] w λe a=>e=n' (G k)/\a=w:=by
 go_enter func228,ntmps228;go_wp2_with (simp only[X]);go_ret;exact⟨rfl,rfl⟩
def aaQ(x:Nat)(w:p')(F:x<18446744073709551616)(z:x≠0)(b:lV w):
  Cl 228 #[Z x] w λe a=>e=n' (G ((Lib.ctz 64 x:Nat):Int))/\a=w:=by
 obtain⟨i,c⟩:=Lib.lowest_bit 64 x z F;obtain⟨S,a⟩:=Lib.deBruijn64_at _ c;have Y:=b _ S;rw[a]at Y;exact V4 x _ _ w (by rw[dB];omega) (aaP x _ F z i) S c Y
def Gh(x:Nat)(F:x<18446744073709551616)(z:x≠0):Lib.ctz 64 x<64/\x.testBit (Lib.ctz 64 x)=N'/\(∀i,i<Lib.ctz 64 x->x.testBit i=O')/\∀i,(x&&&(x-1)).testBit i=(x.testBit i&&decide (i≠Lib.ctz 64 x)):=by
 obtain⟨m,d,b⟩:=Lib.ctzFrom_spec 64 x I F;have e:Lib.ctz 64 x=Lib.ctzFrom 64 x:=by simp[Lib.ctz,z]
 rw[e];generalize Lib.ctzFrom 64 x=k at d b;have U:0<2 ^ k:=xO I;have a:∀i,x.testBit i=(decide (k<=i)&&(2*m+1).testBit (i-k)):=by intro i;rw[d,qZ,Nat.testBit_mul_two_pow]
 have Q:(x-1) / 2 ^ k=2*m:=by
  have:x-1=2 ^ k*(2*m)+(2 ^ k-1):=by rw[d,Nat.mul_add,Nat.mul_one];omega
  rw[this,I6 U,Lm I];omega
 refine⟨b,?_,?_,?_⟩
 .rw[a];simp
 .intro i S;rw[a];simp;omega
 intro i;rw[Nat.testBit_and];by_cases C:i<k
 .rw[a,show decide (k<=i)=O' by simp;omega];simp
 have b:(x-1).testBit i=(2*m).testBit (i-k):=by rw[<-Q,Nat.testBit_div_two_pow];congr 1;omega
 rw[b];by_cases N:i=k
 .subst N;simp
 obtain⟨j,f⟩:∃j,i-k=j+1:=⟨i-k-1,I⟩;rw[a,f,Nat.testBit_succ,Nat.testBit_succ,show(2*m+1) / 2=m by omega,show 2*m / 2=m by omega];cases a:m.testBit j<;>simp[N]
def mV(x base:Nat):List Nat:=((range 64).filter x.testBit).map (base+·)
def KH{p:Nat->Bool}{k n:Nat}(a:k<n)(C:p k=N')(c:∀i,i<k->p i=O'):(range n).filter p=k::(range n).filter λi=>p i&&decide (i≠k):=by
 have e:range n=range k++(k::(range<|n-k-1).map (λj=>k+1+j)):=by rw[show n=k+(1+(n-k-1))by omega,xr,xr];simp[kq,iH]
 have d:∀q:Nat->Bool,(∀i,i<k->q i=O')->(range k).filter q=[]:=by intro q f;rw[I0];intro a b;rw[cx]at b;rw[f a b];simp
 rw[e,Cw,Cw,d p c,d (λi=>p i&&decide (i≠k)) λi S=>by rw[c i S];rfl,gg,gg,qS,qS,C];simp only[dQ,ne_eq,not_true_eq_false,decide_false,AL,eF,eV];congr 1;refine Cv ?_;intro a b;simp only[bG,cx]at b;obtain⟨j,_,rfl⟩:=b;simp;intro _;omega
def K6(x k:Nat)(F:x<18446744073709551616)(z:x≠0):mV x k=(k+Lib.ctz 64 x)::mV (x&&&(x-1)) k:=by obtain⟨D,C,a,N⟩:=Gh x F z;rw[mV,KH D C a,fA];congr 2;refine Cv λi _=>(N i).symm
def K5(k:Nat):mV 0 k=[]:=by rw[mV,I0.2 (by intro a _;simp)];rfl
def ef(s:BS):List Nat:=mV s.1 0++mV s.2 64
def df(s:BS)(y:b! s)(f:Nat):f∈ef s↔f<128/\bt s f=N':=by
 unfold ef mV bt;rw[iF,bG,bG];constructor
 .rintro(⟨a,b,rfl⟩|⟨a,b,rfl⟩)<;>rw[IK,cx]at b
  .rw[aD I,bH];exact⟨I,b.2⟩
  rw[aA I,IZ];exact⟨I,b.2⟩
 rintro⟨C,a⟩;by_cases h:f<64
 .rw[aD h]at a;exact aP ⟨f,by rw[IK,cx];exact⟨h,a⟩,I⟩
 rw[aA h]at a;exact aR ⟨f-64,by rw[IK,cx];exact⟨I,a⟩,I⟩
def uV(s:BS):ef s=(range 128).filter (bt s):=by rw[ef,mV,show(128:Nat)=64+64 from rfl,xr,Cw,filter_map];congr 1;simp only[bH,map_id'];refine Cv λi S=>?_;rw[cx]at S;rw[bt,aD S]
def nB(s:BS):ζ (ef s)<=128:=by rw[uV];exact bX (IY _ _) ak
section
attribute [local go_sem] Oper.semAt_some
def En(s:BS)(w:p'):
  Cl 154 #[cW s] w λe a=>e=n' (.func (.func 227) #[]<|cB w.1.size)/\a=w.alloc (nI s.1 s.2):=by
 simp only[cW];go_enter func154,ntmps154;go_wp2_with fail;go_ret;exact⟨rfl,rfl⟩
def lV.keeps{d:Nat}{w a:p'}(h:lV w)(c:0<d)(b:Below d w a):lV a:=λj f=>(b.cell (p:=(O 0 j)) c).trans<|h j f
abbrev mC(s:BS):={f:Nat // f∈ef s}
def wdK(s:BS)(k:Nat):Nat:=if k=0 then s.1 else s.2
def Z9(s:BS)(k:Nat):List Nat:=if k=0 then ef s else if k=1 then mV s.2 64 else[]
def Kw(s:BS)(k:Nat)(a:k<2)(w:p'):(Instr.index 267 (kU s.1 s.2)<|G k).run Tryz.prog w=.ok (Z ((wdK s k:Nat):Int)) w:=by
 match k,a with
 |0,_=>exact rH _ _ w
 |1,_=>exact rG _ _ w
def R1(s:BS)(k:Nat)(a:k<2):Z9 s k=mV (wdK s k) (k*64)++Z9 s (k+1):=by
 match k,a with
 |0,_=>simp[Z9,wdK,ef]
 |1,_=>simp[Z9,wdK]
def rS(n:Nat)(K:1<=n)(s:BS)(B d:Nat)(w:p')(y:b! s)(T:χ w (O B 0)=z' (Z s.1))(Q:χ w (O B 1)=z' (Z s.2))(b:lV w)(K:0<d)(V:d<=δ w.1):
  SeqStopsK Fence.wide n Tryz.prog 227 (cB B) (λx:mC s=>#[G x.1]) (Below d) (λD=>D.map Subtype.val=ef s) (λp=>p.map Subtype.val <+: ef s) (ζ<|ef s) w:=by
 intro l c a W j a a E D;have t:=aB T j;have Y:=aB Q j;have X:=hid<|b.below j;clear T Q b;refine callsIn_of_wp func227 rfl trivial ?_ rfl;simp only[ntmps227,kT,bU,eY,Nat.reduceAdd,Nat.reduceSub,qX,qW,qV,qU,gg,fW]
 gi_wp2
 gi_loopw[6] (λi wr=>∃(k:Nat)(p:List<|mC s),k<=2/\i=G k/\J (p.map Subtype.val++Z9 s k=ef s)/\J (c p wr/\Below d W wr)) (λi _=>2-(intOf i).toNat)
 case atStart=>exact⟨0,[],I,rfl,rfl,D,aQ⟩
 obtain⟨k,p,a,rfl,Q,N⟩:=hrel;by_cases L:k<2;rotate_left
 .have e:¬(k:Int)<2:=I;have a:k=2:=I;subst a
  gi_wp2
  go_end0
  refine⟨⟨_,rfl⟩,.inl ⟨p,?_,N.a⟩⟩;have:=Q.o;rwa[show Z9 s 2=[] from rfl,iE]at this
 have e:(k:Int)<2:=I;have e:=λw=>Kw s k L w;have a:wdK s k<18446744073709551616:=by unfold wdK;split;(· exact y.lo);exact y.hi
 obtain⟨F,z⟩:=Ea<|wdK s k;rw[<-z]at e a;have e:=hid z;clear z
 gi_wp2
 gi_loopw[4] (λR q=>∃(x:Nat)(u:List<|mC s),x<18446744073709551616/\R=Z x/\J (u.map Subtype.val++(mV x (k*64)++Z9 s (k+1))=ef s)/\J (c u q/\Below d W q)) (λR _=>(intOf R).toNat)
 case atStart=>exact⟨F,p,a,rfl,by show _=_;rw[e.o,<-R1 s k L];exact Q.o,N.o⟩
 obtain⟨x,u,d,rfl,S,j⟩:=hrel;by_cases f:x=0
 .have C:((x:Int) !=0)=O':=by simp[f]
  gi_wp2
  go_roundw
  case rel=>exact⟨k+1,u,I,e',by have:=S.o;rwa[f,K5,gg]at this,j.o⟩
  exact F'
 have C:((x:Int) !=0)=N':=by simp;omega
 have i:=K6 x (k*64) d f;obtain⟨a,_,_,_⟩:=Gh x d f;obtain⟨c,T⟩:=Ea<|Lib.ctz 64 x;have o:J (∀W,lV W->Cl 228 #[Z x] W λe p=>e=n' (G c)/\p=W):=by rw[T];exact λW b=>aaQ x W d f b
 rw[<-T]at i a;have h:k*64+c∈ef s:=by have:=S.o;rw[i]at this;rw[<-this];simp
 have L:ζ u<ζ (ef s):=by have:=cZ length S.o;rw[i]at this;simp at this;omega
 obtain⟨g,r,b,a,B,v⟩:=E u ⟨k*64+c,h⟩ wr j.a L;have f:(Instr.yield l #[G ((k:Int)*64+(c:Int))]).run Tryz.prog wr=.ok (.round l g r b a) wr:=by have e:(((k*64+c:Nat):Int))=(k:Int)*64+(c:Int):=I;rw[<-e];exact B
 have E:IntKind.u64.wrap ((x:Int)-1)=((x-1:Nat):Int):=by rw[xw];omega
 have a:=bits_and_u64_nat x (x-1) d I;have a:=hid<|X.o.keeps K j.A;have P:J ((u++[(⟨k*64+c,h⟩:mC s)]).map Subtype.val++(mV (x&&&(x-1)) (k*64)++Z9 s (k+1))=ef s):=by show _=_;have:=S.o;rw[i]at this;rw[fq,I2,fK,I1,<-fW];exact this
 clear i T B
 gi_wp2_with (refine⟨trivial,?_⟩;gi_at_call 228;refine(j?.2<|o.o _ a.o).mono ?_;rintro e p ⟨rfl,rfl⟩)
 refine v.mono ?_;rintro e o (⟨rfl,b,U⟩|⟨rfl,a⟩)
 .gi_wp2
  go_roundw
  case rel=>exact⟨x&&&(x-1),u++[(⟨k*64+c,h⟩:mC s)],IW Nat.and_le_left d,rfl,P,b,j.A.trans U⟩
  have:x&&&(x-1)<=x-1:=Nat.and_le_right;exact F'
 gi_wp2
 refine aE (CA rfl _ _ _) rfl ?_;refine⟨⟨_,rfl⟩,.inr ⟨u++[⟨k*64+c,h⟩],?_,a⟩⟩;exact⟨_,P.o⟩
end
def Mh{σ α:Type}{F:Fence}{n:Nat}{P:Program}{g:Operand}{ps:Array Tmp}{assign body:Code}{Q:Exit->Act->p'->Prop}{a:Act}{w:p'}
    (o:F.round=A') (h1:1<=n) {gf:Nat} {lb:Array y'} (hg:a.eval g=.func (.func gf) #[] lb) (hFg:F.fn gf) (X:∀args w,(callFunc gf args).run P w=.ok (.enter gf args) w)
    {PU:α->Array y'} (T:∀x,(PU x).size=ps.size) (f N:σ->p'->Prop) (V:α->σ->p'->Prop) (lt:σ->σ->Prop) (R:OwnFrom w.1.size f) (E:OwnFrom w.1.size N) (z:∀x,OwnFrom w.1.size<|V x) {s0:σ} (h0:f s0 w)
    (hit:∀(l:Nat)(K:p'->Prop)(W:p'),(∀b B,K b->KeepsOthers b B->K B)->(∀s x i,V x s i->K i->YieldAt F (n-1-1) P l (PU x) i λe m=>e=n' (h' N')/\(∃q,lt q s/\f q m)/\K m)->f s0 W->K W ->
      CallsIn F (n-1) P gf (#[.func (.yield l) #[] #[]]++lb) W λe m=>(∃v,e=n' v)/\(∃s,N s m)/\K m)
    (u:α->Act)
    (d:∀(l:Nat)(x:α)(W:p')(K:Act->p'->Prop),K (u x) W ->
      assign.wpIn (F.inRound l) (n-1-1) P (Exit.then K λ_ _ _=>False) {tmps:=(ps.zip<|PU x).foldl (λt (p,v)=>t.setIfInBounds p v) a.tmps,defers:=[]} W)
    (r:∀(l:Nat)(s:σ)(x:α)(W:p'),V x s W->body.wpIn (F.inRound l) (n-1-1) P (λe _ m=>e=.normal/\KeepsOthers W m/\∃q,lt q s/\f q m) (u x) W)
    (C:∀(D:Nat)(s:σ)(W:p'),δ w.1<=D->N s W->W.1[D]?=z' (.deferred<|z' [])->Q .normal {a with defers:={target:=.collected D,args:=#[]}::a.defers} W):
    (Code.rangeFunc g ps assign body).wpIn F n P Q a w:=by
  refine wpIn_rangeFunc ?_;intro fn U;rw[o];obtain⟨rec,c⟩:=Ea (λst pe=>{state:=st,pending:=pe,fn,tmps:=a.tmps,params:=ps,assign,body,defers:=δ w.1}:LoopState->Option Code->Loop);obtain⟨i,j⟩:∃i,(w.alloc<|.deferred<|z' []).alloc (.loop<|rec .ready A')=i:=⟨_,rfl⟩;have L:i.1[δ w.1+1]?=z' (.loop<|rec .ready A'):=by rw[<-j];have:=World.alloc_heap_new (w.alloc<|.deferred<|z' [])<|.loop<|rec .ready A';rwa[mY]at this
  have hK1:i.1[δ w.1]?=z' (.deferred<|z' []):=by rw[<-j];exact(bR ak).trans<|World.alloc_heap_new w _
  have Y:f s0 i:=by rw[<-j];exact R.alloc _<|R.alloc _ h0
  refine⟨δ w.1+1,[{target:=.collected w.1.size,args:=#[]}],i,{target:=.fn (.func gf) lb,args:=#[.func (.yield<|δ w.1+1) #[] #[]]},i,gf,
    #[.func (.yield<|δ w.1+1) #[] #[]]++lb,i,?_,?_,?_,?_,λ_=>h1,?_⟩
  · rw[<-j,c];exact run_enterLoop_outer _ _ _ _ _
  · simp only[resolve,hg]
    simp[go_sem]
  · intro f y;simp[Target.leads]at y;subst y;exact hFg
  · simp[invoke,go_sem,X]
  refine(hit (δ w.1+1) (λW=>W.1[δ w.1+1]?=z' (.loop<|rec .ready A')/\W.1[δ w.1]?=z' (.deferred<|z' [])) i (λb B h k=>⟨k.same _ _ h.1 rfl,k.same _ _ h.2 rfl⟩) ?_ Y ⟨L,hK1⟩).mono ?_;rotate_left
  · rintro e F ⟨⟨v,rfl⟩,⟨s,y⟩,X,b⟩
    exact⟨A',_,by have:=run_endLoop (P:=P) X (by rw[c];simp);rwa[c]at this,C _ s _ aK (E.putObj _ y I X rfl) ((World.putObj_heap_other I).trans b)⟩
  rintro s x W f ⟨X,b⟩;have L:δ w.1+1<δ W.1:=(bq.1 X).1;have B:=run_yield (P:=P) (args:=PU x) X (by rw[c];exact T x);rw[c]at B;refine⟨fn,_,assign,body,B,roundIn_of_wpIn U<|d _ x W _ ⟨_,run_beginRound X<|by rw[c],?_⟩⟩;have i:(W.putObj (δ w.1+1)<|.loop {rec .ready A' with state:=.busy}).1[δ w.1+1]?=z' (.loop {rec .ready A' with state:=.busy}):=World.putObj_heap_same L;have d:(W.putObj (δ w.1+1)<|.loop {rec .ready A' with state:=.busy}).1[δ w.1]?=z' (.deferred<|z' []):=(World.putObj_heap_other I).trans b;refine wpIn_mono (r _ s x _ ((z x).putObj _ f I X rfl)) ?_;rintro e b o ⟨rfl,U,q,b,e⟩;have r:=U.same _ _ i rfl;have f:=run_endRound (P:=P) A' r;rw[c]at f r;refine⟨_,_,f,rfl,⟨q,b,R.putObj _ e I r rfl⟩,?_,?_⟩
  · rw[c];exact World.putObj_heap_same (bq.1 r).1
  exact(World.putObj_heap_other I).trans<|U.same _ _ d rfl
def rsm(most:Int)(l:u'):Option (Nat×u'):=match rc l with
 |some (n,r)=>if (n:Int)<=most then z' (n,r) else A'
 |none=>A'
def aac(l:u'):Option (Bool×u'):=match l with
 |b::r=>if b.toNat<=1 then z' (decide (b.toNat=1),r) else A'
 |[]=>A'
def unz(n:Nat):Int:=if n % 2=0 then((n / 2:Nat):Int) else -((n / 2:Nat):Int)-1
def abk(l:u'):Option (Int×u'):=match rc l with
 |some (n,r)=>z' (unz n,r)
 |none=>A'
def Vs(v:Vl):y':=j'<|nJ v.aH v.lo v.hi v.bY v.first v.rank
def GH(p g:Int)(w:p'):Cl 203 #[j' #[G p,G g]] w λe a=>e=n' (h' (decide (g=1)))/\a=w.alloc (qw p g):=by go_enter func203,ntmps203;go_wp2;go_ret;exact⟨bC<|by rw[cC];simp,rfl⟩
def v?{a b c}:=@GH a b c
def G1(p g:Int)(w:p'):Cl 134 #[j' #[G p,G g]] w λe a=>e=n' (h' (decide (p<=4)))/\a=w.alloc (qw p g):=by go_enter func134,ntmps134;go_wp2;go_ret;exact⟨rfl,rfl⟩
def Cg{a b c}:=@G1 a b c
def GI(p g:Int)(w:p'):Cl 131 #[j' #[G p,G g]] w λe a=>e=n' (h'<|known p g)/\a=w.alloc (qw p g):=by
 go_enter func131,ntmps131;go_wp2
 all_goals
  go_ret;refine⟨bC ?_,by first|rfl|simp_all⟩;rw[known,cC];simp;omega
def GJ(p g r:Int)(v:Vl)(l:v.bY=N')(w:p'):Cl 305 #[j' #[G p,G g],j'<|nJ v.aH v.lo v.hi v.bY v.first v.rank,G r] w λe a=>e=n' (h'<|nw g r v)/\Below w.1.size w a:=by
 go_enter func305,ntmps305;go_wp2_with (go_at_call 203;refine v?.mono ?_;rintro e b ⟨rfl,rfl⟩)
 all_goals
  go_ret;refine⟨bC ?_,by first|exact eD|exact dH⟩;simp[nw, *]
  try omega
def ZD{p:Prop}(h:p:=by
 go_enter func265,ntmps265;go_wp2_with fail
 all_goals
  go_ret;refine⟨bC ?_,by first|exact eD|exact dH⟩;unfold gG
  simp[*]):p:=h
def Pt(p g r:Int)(v:Vl)(w:p'):Cl 265 #[j' #[G p,G g],j'<|nJ v.aH v.lo v.hi v.bY v.first v.rank,G r] w (Rb w<|h'<|gG p g r v):=by
 by_cases c:p=6
 .exact ZD
 cases l:v.bY with
 |true=>have T:=λW=>GJ p g r v l W;rw[l]at T;go_enter func265,ntmps265;go_wp2_with (go_at_call 305;refine(T _).mono ?_;rintro e b ⟨rfl,a⟩);go_ret;refine⟨bC<|by simp[gG,c,l],aq dH a⟩
 |false=>exact ZD
section
variable {u:p'}{b:Nat}
def Wr(w:p')(B b:Nat)(l:u'):Prop:=
 B<=b/\∃v,w.1[b]?=z' (i' #[v] 168 (0,0))/\ρ w B 5 1 v (ζ l) (Lib.byteCells l)/\φ v≠z' b
structure eE(w w':p')(B b:Nat)(l:u'):Prop where
  wr:Wr w' B b l
  kp:Kp b w w'
  below:Below B w w'
def Wr.lt{l:u'}(h:Wr w B b l):b<δ w.1:=(bq.1 h.2.choose_spec.1).1
def Wr.alloc{l:u'}(h:Wr w B b l)(o:Obj):Wr (w.alloc o) B b l:=by obtain⟨c,v,a,b,K⟩:=h;exact⟨c,v,(bR (bq.1 a).1).trans a,b.alloc o,K⟩
def eE.trans{v:p'}{l m:u'}(h:eE u v B b l)(k:eE v w B b m):eE u w B b m:=⟨k.wr,h.kp.trans k.kp,h.below.trans k.below⟩
def Gz(b:Nat)(w:p')(o:Obj):Kp b w (w.alloc o):=⟨rfl,rfl,rfl,ak,λ_ _ a _ _=>(bR (bq.1 a).1).trans a⟩
def Wr.wrote{l:u'}(h:Wr w B b l):eE w w B b l:=⟨h,Kp.refl _ _,aQ⟩
def eE.alloc{l:u'}(h:eE u w B b l)(o:Obj):eE u (w.alloc o) B b l:=
 ⟨h.wr.alloc o,h.kp.trans<|Gz _ _ _,h.below.alloc (mE<|IW h.wr.1 h.wr.lt) _⟩
def eE.box{a:p'}{k:Nat}{l q:u'}{L:Array y'}{t:TypeId}(h:eE w a B b l)(c:Wr w B b q)(b:w.1[k]?=z' (cU L t))(U:t≠168)(l:t≠5):a.1[k]?=z' (cU L t):=by refine h.kp.keep k _ b ?_ (λa a e=>by simp at e;exact l e.2.1);rintro rfl;obtain⟨_,v,a,_⟩:=c;rw[b]at a;simp at a;exact U a.2
def gB(B b:Nat)(l:u')(c:UInt8)(w:p')(h:Wr w B b l)(f:ζ l+1<=140737488355328):
  Cl 85 #[m'<|z'<|O b 0,.int .u8 c.toNat] w λe f=>e=n' (o' #[])/\eE w f B b (l++[c]):=by
 obtain⟨N,S,D,P,f⟩:=cI infoByte;have p:=IW h.1 h.lt;obtain⟨j,v,r,o,z⟩:=h;have c1:χ w (O b 0)=z' v:=by rw[CB r];rfl
 have L:b<δ w.1:=(bq.1 r).1;have d:=hid<|Aa r<|Aa o z;clear o r;go_enter func85,ntmps85;go_wp2_with (at_builtin;refine fz rfl _ _ 157 rfl B 5 N (.int .u8 0) 1 1 underlying157 S D P f rfl aj _ _ _ rfl (d.b.alloc _) (O w.1.size 0) 1 1 [.int .u8 c.toNat] rfl rfl ?c1 ?c2 ?c3 ?c4 ?c5 ?_)
 case c1=>exact lT
 case c2=>intro u C;simp at C;subst C;rfl
 case c3=>unfold maxLen;omega
 case c4=>omega
 case c5=>simp;omega
 intro g W i F _;obtain⟨r,o,z⟩:=d.o;have X:W.1[b]?=z' (i' #[v] 168 (0,0)):=by rw[F.block b G' λe=>z e.symm];exact(bR L).trans r
 have Y:χ W (O b 0)=z' v:=by rw[CB X];rfl
 have K:W.frozen? (O b 0)=O':=Lib.frozen_of_heap X 0;obtain⟨q,a,rfl⟩:=aV i;go_wp2
 go_end0
 have d:φ (g' q (ζ l+1) a)≠z' b:=by
  rcases i.2 with⟨R,_⟩|⟨g,u,Y,R,_,a,_⟩
  .rw[R];simp[Value.ownBlock]
  rw[R];simp only[Value.ownBlock,ne_eq,dU];rintro rfl;rw[X]at a;simp at a
 refine⟨rfl,⟨j,_,?_,?_,d⟩,Tb ((Gz _ _ _).trans<|Tc F<|o.alloc _) 0 _,((aQ.alloc (mE p) _).grown F G' λk a=>(o.lt k a).1).setCell (p:=(O b 0)) j _⟩
 .simp[World.setCell,AV,X]
 have e:Lib.byteCells (l++[c])=Lib.byteCells l++[Value.int .u8 c.toNat]:=by simp[Lib.byteCells]
 rw[bg,e];refine⟨by simpa using i.1,?_⟩;rcases i.2 with h|⟨g,u,Y,R,C,a,N⟩
 .exact aP h
 refine aR ⟨g,u,Y,R,C,(aJ ?_).trans a,N⟩;rintro rfl;exact d (by rw[R];rfl)
def tw(B b:Nat)(l:u')(c:Bool)(w:p')(h:Wr w B b l)(L:ζ l+1<=140737488355328):
  Cl 136 #[m'<|z'<|O b 0,h' c] w λe a=>e=n' (o' #[])/\eE w a B b (l++[if c then 1 else 0]):=by
 cases c with
 |true=>
  go_enter func136,ntmps136;go_wp2_with (go_at_call 85;refine(gB B b l 1 _ h L).mono ?_;rintro e a ⟨rfl,C⟩)
  go_end0
  exact⟨rfl,C⟩
 |false=>
  go_enter func136,ntmps136;go_wp2_with (go_at_call 85;refine(gB B b l 0 _ h L).mono ?_;rintro e a ⟨rfl,C⟩)
  go_end0
  exact⟨rfl,C⟩
def SB:∀r:Fin 256,bits BinOp.or IntKind.u8 ((r.val:Nat):Int) 128=((r.val % 128+128:Nat):Int):=by decide +kernel
def afm(m:Nat):bits BinOp.or IntKind.u8 ((m:Int) % 256) 128=(((UInt8.ofNat<|m % 128+128).toNat:Nat):Int):=by have h:=SB ⟨m % 256,AU _ aj⟩;have e:(((⟨m % 256,AU _ aj⟩:Fin 256).val:Nat):Int)=(m:Int) % 256:=ak;rw[e]at h;rw[h];simp only[uc];omega
def tH{m:Nat}(h:m<256):(m:Int)=(((UInt8.ofNat m).toNat:Nat):Int):=by simp only[uc];omega
def uZ(B b:Nat)(l:u')(n:Nat)(w:p')(h:Wr w B b l)(K:n<18446744073709551616)(L:ζ (l++fJ n)<=140737488355328):
  Cl 133 #[m'<|z'<|O b 0,Z n] w λe a=>e=n' (o' #[])/\eE w a B b (l++fJ n):=by
 have c:=hid h.wrote;clear h;go_enter func133,ntmps133;go_wp2_with fail;go_loopw[1] (λi wr=>∃(m:Nat)(q:u'),i=Z m/\m<18446744073709551616/\J (q++fJ m=l++fJ n)/\J (eE w wr B b q)) (λi _=>(intOf i).toNat)
 case atStart=>exact⟨n,l,rfl,K,by show _=_;rfl,c⟩
 clear c;obtain⟨m,q,rfl,d,S,c⟩:=hrel;have a:ζ q+1<=140737488355328:=by
  have C:=cZ length S.o;have d:1<=ζ (fJ m):=by
   by_cases y:m<128
   .rw[en y];simp
   rw[lQ y];simp
  simp only[bg]at C L;omega
 by_cases y:m<128
 .have d:¬(128<=(m:Int)):=I;go_wp2_with fail;rw[tH<|show m<256 by omega];refine(gB B b q (UInt8.ofNat m) wr c.o.wr a).mono ?_;rintro e f ⟨rfl,C⟩;go_wp2_with fail
  go_end0
  refine⟨rfl,c.o.trans ?_⟩;rw[<-S.o,en y];exact C
 have d:128<=(m:Int):=I;go_wp2_with fail;rw[afm m];refine(gB B b q (UInt8.ofNat<|m % 128+128) wr c.o.wr a).mono ?_;rintro e f ⟨rfl,C⟩;go_wp2_with fail;refine⟨⟨m / 128,q++[UInt8.ofNat<|m % 128+128],ak,I,?_,c.o.trans C⟩,by simp[intOf];omega⟩;show _=_;rw[<-S.o,lQ y];simp
def ik(B b:Nat)(l:u')(x:Int)(w:p')(h:Wr w B b l)(F:0<=x)(a:x<=9223372036854775807)(L:ζ (l++dS x)<=140737488355328):
  Cl 86 (mF b x) w λe a=>e=n' (o' #[])/\eE w a B b (l++dS x):=by
 obtain⟨n,rfl⟩:=Int.eq_ofNat_of_zero_le F;have K:n<18446744073709551616:=I;have a:=hid<|Aa h L;clear h L;go_enter func86,ntmps86;go_wp2_with (go_at_call 133;refine(uZ B b l n _ a.a K a.A).mono ?_;rintro e b ⟨rfl,C⟩)
 go_end0
 exact⟨rfl,C⟩
def ZC{p:Prop}(h:p:=by
 go_enter func266,ntmps266;go_wp2_with fail;refine(uZ B b l (N3 x) _ a.a f a.A).mono ?_;rintro e c ⟨rfl,C⟩;go_wp2_with fail
 go_end0
 exact⟨rfl,C⟩):p:=h
def rC(B b:Nat)(l:u')(x:Int)(w:p')(h:Wr w B b l)(F:ga x)(L:ζ (l++yh x)<=140737488355328):
  Cl 266 (mF b x) w λe c=>e=n' (o' #[])/\eE w c B b (l++yh x):=by
 obtain⟨c,g⟩:=F;have a:=hid<|Aa h L;clear h L;have f:N3 x<18446744073709551616:=by unfold N3;split<;>omega
 by_cases D:0<=x
 .have e:2*x=((N3 x:Nat):Int):=by rw[N3,aD D];omega
  exact ZC
 have e:2*-(x+1)+1=((N3 x:Nat):Int):=by rw[N3,aA D];omega
 exact ZC
end
section
variable {p:Prop}
def Zt(h:p:=by
 clear Y F a;go_enter func246,ntmps246;go_wp2;go_ret2
 exact⟨fg (by simp[i?,K.o])<|by simp[iA,K.o],rfl⟩):p:=h
theorem Zs(h:p:=by
 rcases Nat.eq_or_lt_of_le (show 1<=s.size by omega)with C|C
 .exact C.symm
 exact absurd ⟨h,by omega⟩ f):p:=h
def JP(s:x')(w:p')(y:s.size<=3000)(D:0<s.size)(d:((s[0].toNat:Int)==45)=O'):
  Cl 246 #[k' s] w λe b=>e=n' (o' #[G<|i? s.1.1,h'<|iA s.1.1])/\b=w:=by
 have b:(0:Int)<(s.size:Int):=I;have o:((s.size:Int)==0)=O':=by rw[dB];omega
 have t:s[0]≠45:=by rw[dB]at d;intro e;rw[e]at d;exact d rfl
 have z:=Wm.fj s D;have Y:J (Wm.f? s.1.1=_):=UG s.1.1 s.1.1 O' (by rw[z];exact Wm.zE _ _ t) (by rw[z];exact Wm.y0 _ _ t);have V:s.size<=3000:=y;clear z t;by_cases F:s.size=0
 .exact absurd F I
 have U:0<s.size:=I;have E:((s.size:Int)==0)=O':=by rw[dB];omega
 have b:(0:Int)<(s.size:Int):=I;by_cases a:19<s.size
 .have K:J (Wm.f? s.1.1=A'):=by
   show _=_;rw[Y.o];split
   .rename_i b;have:=BI s O' a b;simp;omega
   rfl
  have g:decide (19<(s.size:Int))=N':=by rw[bM];omega
  exact Zt
 have g:decide (19<(s.size:Int))=O':=by rw[e9];omega
 by_cases f:s[0].toNat=48/\s.size≠1
 .obtain⟨f,P⟩:=f
  have K:J (Wm.f? s.1.1=A'):=by
   show _=_;have z:=Wm.fj s D;have X:=Wm.bT s;rw[Y.o];have:Wm.kE O' s.1.1=O':=by rw[z]at X|-;simp only[bU]at X;simp only[Wm.kE,f];simp;intros;omega
   rw[this];rfl
  have T:(s.toList==[48])=O':=by rw[dB,eM];intro e;have:=cZ length e;rw[Wm.bT]at this;exact P this
  have q:((s[0].toNat:Int)==48)=N':=by rw[dP];omega
  exact Zt
 have c:J ((if s[0].toNat==48 then decide (s.size=1)&&!false else N')=N'):=by
  show _=_;by_cases h:s[0].toNat=48
  .have:s.size=1:=by exact Zs
   simp[h,this]
  simp[h]
 have b:((s[0].toNat:Int)==48)=O'\/((s[0].toNat:Int)==48)=N'/\(s.toList==[48])=N':=by
  by_cases h:s[0].toNat=48;rotate_left
  .left;rw[dB];omega
  right;refine⟨by rw[dP];omega,?_⟩;have C:s.size=1:=by exact Zs
  rw[dP,eM,Wm.fj s D];have:s.1.1.drop 1=[]:=qO (by rw[Wm.bT];omega);rw[this];have e:s[0]=48:=xN.1<|H' h;rw[e]
 clear f;rcases b with q|⟨q,b⟩
 all_goals
  clear F a;go_enter func246,ntmps246;go_wp2
  go_loop [6,7] (λn i=>∃(k m:Nat),k<=s.size/\i=G k/\n=G (-(m:Int))/\m<=2^63/\J (m=Wm.dL (s.1.1.take k)/\(s.1.1.take k).all Wm.gS=N')) (λ_ i=>s.size-(intOf i).toNat)
  case atStart=>exact⟨0,0,bm,rfl,rfl,I,by show _/\_;simp[Wm.dL,Wm.iZ]⟩
  obtain⟨k,m,b,rfl,rfl,a,r⟩:=hrel;by_cases L:k<s.size;rotate_left
  .obtain rfl:k=s.size:=I;have R:=r.A;have u:=r.a;have x:=yV s O' U R;rw[c.o]at x;rw[c!<|by rw[Wm.bT];exact aK]at u;have b:=Y.o;rw[x,<-u]at b;by_cases X:m=2^63
   .have K:J (Wm.f? s.1.1=A'):=by show _=_;rw[b];simp[X]
    have f:J (m=2^63):=X;have d:((-(m:Int))==-2^63)=N':=by rw[dP];omega
    clear Y r R u x b c X;go_wp2;go_ret2;exact⟨fg (by simp[i?,K.o])<|by simp[iA,K.o],rfl⟩
   have a:m<2^63:=I;have K:J (Wm.f? s.1.1=z' (m:Int)):=by show _=_;rw[b];simp[a]
   have d:((-(m:Int))==-2^63)=O':=by rw[dB];omega
   clear Y r R u x b c X;go_wp2;go_ret2;refine⟨fg ?_<|by simp[iA,K.o],rfl⟩;simp[i?,K.o]
  have a:(k:Int)<(s.size:Int):=I;by_cases h:48<=(s[k].toNat:Int)/\(s[k].toNat:Int)<=57;rotate_left
  .have K:J (Wm.f? s.1.1=A'):=by show _=_;rw[Y.o,yX s O' k L (by cases e:Wm.gS s[k]with|false=>rfl|true=>exfalso;have:=(Wm.gn _).1 e;omega)];rfl
   clear Y r;have F:(s[k].toNat:Int)<48\/57<(s[k].toNat:Int):=I;clear h;rcases F with Q|Q
   .go_wp2;go_ret2;exact⟨fg (by simp[i?,K.o])<|by simp[iA,K.o],rfl⟩
   have p:48<=(s[k].toNat:Int):=I;go_wp2;go_ret2;exact⟨fg (by simp[i?,K.o])<|by simp[iA,K.o],rfl⟩
  have B:J (Wm.gS s[k]=N'):=(Wm.gn _).2 I;have t:=hid<|Hg s k L;obtain⟨Q,p⟩:=h;by_cases j:2^63<10*(m:Int)+((s[k].toNat:Int)-48)
  .have S:=Mv m ((s[k].toNat:Int)-48) I I j
   have K:J (Wm.f? s.1.1=A'):=by
    show _=_;rw[Y.o];have C:=UB s<|k+1;have F:=t.o;have N:=r.a;have d:2^63<Wm.dL s.1.1:=I;split
    .simp;omega
    rfl
   clear Y j r t;go_wp2;go_ret2;exact⟨fg (by simp[i?,K.o])<|by simp[iA,K.o],rfl⟩
  have l:10*(m:Int)+((s[k].toNat:Int)-48)<=2^63:=I;have S:=Ug m ((s[k].toNat:Int)-48) I I l;have v:J (wrap64 (wrap64 (10*-(m:Int))-((s[k].toNat:Int)-48))=-((10*m+((s[k].toNat:Int)-48).toNat:Nat):Int)):=MC m s[k].toNat Q p l;have a:J (10*m+((s[k].toNat:Int)-48).toNat=Wm.dL (s.1.1.take<|k+1)/\(s.1.1.take<|k+1).all Wm.gS=N'/\10*m+((s[k].toNat:Int)-48).toNat<=2^63):=by show _/\_/\_;have F:=t.o;have N:=r.o;refine⟨I,?_,I⟩;rw[Wm.lk s k _ L,N.2,B.o];rfl
  clear j r t l;go_wp2
  all_goals first
   |(exfalso;exact aah m ((s[k].toNat:Int)-48) I I (f')<|f')
   |skip
  all_goals
   refine⟨⟨k+1,10*m+((s[k].toNat:Int)-48).toNat,I,e',?_,a.B,⟨a.a,a.b⟩⟩,by simp[intOf];omega⟩
   first
    |exact cZ (Value.int IntKind.i64) v.o
    |(
     have a:-(m:Int)=(-2^63+((s[k].toNat:Int)-48)).tdiv 10:=f';have W:=v.o;rw[a]at W
     exact cZ (Value.int IntKind.i64) W)
end
end Go.Proofs.YtmipbiligijcpaaGreatDoor
