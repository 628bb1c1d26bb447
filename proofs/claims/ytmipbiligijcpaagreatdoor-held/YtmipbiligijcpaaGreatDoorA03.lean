import Derived.Test.YtmipbiligijcpaaGreatDoorRows
import Derived.Test.YtmipbiligijcpaaGreatDoorCards
import Derived.Test.YtmipbiligijcpaaGreatDoorTie
import Derived.ProofKit
import Derived.Test.YtmipbiligijcpaaGreatDoorA01
import Derived.Laws.EntriesVeiled
import Derived.Deep.Cut
import Derived.Laws.AppendOwnNone
import Derived.Lib.TrailingZeros
import Derived.RangeFuncNested
import Derived.RangeFuncBound
import Derived.Shelf.RegionOpen
import Derived.OwnWalkIn
import Derived.LoopNIn
import Derived.LoopIn
namespace Go.Proofs.YtmipbiligijcpaaGreatDoor
set_option linter.all false
set_option maxHeartbeats 0
set_option maxRecDepth 1000000
open Go.RowKit Go.Proofs Tryz List Go.Maps Go.Shelf open List renaming length->ζ,toArray->θ open _root_.Array renaming size->δ open World renaming setCell->κ,ownsRow->ρ,cell?->χ,grownBy->ξ open Value renaming ownBlock->φ open Value renaming slice->h',bool->i',agg->k',string->m',pointer->n',tuple->p' open Obj renaming cells->j' open Ending renaming returned->o' open Option renaming some->C',none->D' open Bool renaming true->P',false->Q'
variable {B g i k m q t:Nat}{W w:t'}
section
open Go.ChangeShapes Go.WideShapes Go.ChangeAt Go.RowKit
theorem NY:Tryz.pinned.checked.prog.funcNamed Rows.heldRow.func=some 8:=by kernel_rfl
theorem Lj:joinedFacts Tryz.pinned.checked.prog 8 Tryz.f8 Rows.heldSpec Rows.heldRow=true:=by
 unfold joinedFacts
 repeat' (with_reducible refine(Bool.and_eq_true_iff).2 ⟨?_,?_⟩)
 all_goals(as_aux_lemma=>kernel_rfl)
end
def KU(c:UInt8):Wm.mV c=(decide (97<=(c.toNat:Int))&&decide ((c.toNat:Int)<=122)):=by rw[Wm.mV,cK];simp;omega
section
variable {q:u'}
def jj(w:t')(ao:u')(vs:List Vl):Prop:=∀j v,vs[j]?=C' v->∃b o,ao=C' (O b o)/\χ w (O b<|o+j*6)=C' (G v.aO)/\χ w (O b<|o+j*6+1)=C' (G v.lo)/\χ w (O b<|o+j*6+2)=C' (G v.hi)/\χ w (O b<|o+j*6+3)=C' (i' v.bO)/\χ w (O b<|o+j*6+4)=C' (G v.first)/\χ w (O b<|o+j*6+5)=C' (G v.rank)
structure vy(w:t')(fa ra va:u')(fc rc vc:Nat)(n:Nd):Prop where
  facts:b7 w fa n.facts
  a! : b7 w ra n.a!
  aG:jj w va n.aG
  agq:fa=D'->fc=0
  agR:ra=D'->rc=0
  agQ:va=D'->vc=0
def bX(w:t')(ao:u')(ns:List Nd):Prop:=∀j n,ns[j]?=C' n->∃b o fa ra va fc rc vc,ao=C' (O b o)/\χ w (O b<|o+j*5)=C' (h' fa (ζ n.facts) fc)/\χ w (O b<|o+j*5+1)=C' (h' ra (ζ n.a!) rc)/\χ w (O b<|o+j*5+2)=C' (i' n.reached)/\χ w (O b<|o+j*5+3)=C' (G n.rank)/\χ w (O b<|o+j*5+4)=C' (h' va (ζ n.aG) vc)/\vy w fa ra va fc rc vc n
def jj.below{b:t'}{E:List Vl}(h:jj w q E)(a:Bl w b):jj b q E:=by intro j v f;obtain⟨b,o,C,T,Q,p,c,P,d⟩:=h j v f;exact⟨b,o,C,aA T a,aA Q a,aA p a,aA c a,aA P a,aA d a⟩
def vy.below{c:t'}{a l z:u'}{q rc x:Nat}{n:Nd}(h:vy w a l z q rc x n)(b:Bl w c):vy c a l z q rc x n:=
 ⟨h.facts.below b,h.a!.below b,h.aG.below b,h.agq,h.agR,h.agQ⟩
def bX.below{a:t'}{v:List Nd}(h:bX w q v)(c:Bl w a):bX a q v:=by intro j n f;obtain⟨b,o,a,l,z,q,rc,x,C,T,Q,p,d,P,e⟩:=h j n f;exact⟨b,o,a,l,z,q,rc,x,C,aA T c,aA Q c,aA p c,aA d c,aA P c,e.below c⟩
def dK(x:Int):Prop:=-9223372036854775808<=x/\x<=9223372036854775807
structure Aq(v:Vl):Prop where
  aO:dK v.aO
  lo:dK v.lo
  hi:dK v.hi
  first:dK v.first
  rank:dK v.rank
structure jR(n:Nd):Prop where
  facts:∀f∈n.facts,dK f
  a! : ∀f∈n.a!,dK f
  rank:dK n.rank
  aG:∀v∈n.aG,Aq v
  fsz:ζ n.facts*8<=140737488355328
  rsz:ζ n.a!*8<=140737488355328
  vsz:ζ n.aG*48<=140737488355328
structure ny(c:Ct):Prop where
  aM:dK c.aM
  cu:dK c.cu
  nodes:∀n∈c.nodes,jR n
  sz:ζ c.nodes*88<=140737488355328
end
abbrev BS:=Nat×Nat
def cn(s:BS):A':=k' #[Z s.1,Z s.2]
structure bQ(s:BS):Prop where
  lo:s.1<18446744073709551616
  hi:s.2<18446744073709551616
def Sq{p:Prop}(h:p:=by
 have h:Tryz.prog.underlying 267=C' (.array 2 194):=H
 simp[Instr.index,ur h,asIntOf,go_sem]):p:=h
def sh(a b:Int)(w:t'):(Instr.index 267 (lj a b)<|G 0).run Tryz.prog w=.ok (Z a) w:=by exact Sq
def sg(a b:Int)(w:t'):(Instr.index 267 (lj a b)<|G 1).run Tryz.prog w=.ok (Z b) w:=by exact Sq
def Ih(n d:Nat)(K:n=d+1)(a b c e:Int)(w:t'):(Op.equalIn (n+1) 267 (lj a b)<|lj c e).run Tryz.prog w=.ok (a==c&&b==e) w:=by
 have h:Tryz.prog.underlying 267=C' (.array 2 194):=H;have f:Tryz.prog.underlying 194=C' (.int .u64):=H;have l:∀x y:Int,(Op.equalIn n 194 (Z x)<|Z y).run Tryz.prog w=.ok (x==y) w:=by intro x y;rw[K];exact run_equalIn_int w d _ _ _ _ _ f
 have f:(sizeOf 194).run Tryz.prog w=.ok 1 w:=by simp[go_sem]
 have P:∀x y:Int,(part 194 #[Z x,Z y] 0).run Tryz.prog w=.ok (Z x) w:=by intro x y;simp[go_sem]
 have F:∀x y:Int,(part 194 #[Z x,Z y] 1).run Tryz.prog w=.ok (Z y) w:=by intro x y;simp[go_sem]
 have d:(range' 0 2)=[0,1]:=rfl;simp only[Op.equalIn,Sem.run_bind,ur h,Jh,f];rw[Std.Legacy.Range.forIn_eq_forIn_range'];simp only[Std.Legacy.Range.size,rH,Nat.add_sub_cancel,Nat.div_one,d,forIn_cons,forIn_nil,Sem.run_bind,gN,P,F,l,Jh,rJ];cases f:(a==c)
 .simp
 simp only[Bool.not_true,bV,bB,Sem.run_pure,Jh,Sem.run_bind,P,F,l,Nat.one_mul];cases g:(b==e)<;>simp
def adD(a b c d:Int)(w:t'):(binOp .eql 267 (lj a b)<|lj c d).run Tryz.prog w=.ok (i'<|a==c&&b==d) w:=by rw[run_eql_struct,Ih 9999 9998 rfl];rfl
def Nf(a b c d:Int)(w:t'):(binOp .neq 267 (lj a b)<|lj c d).run Tryz.prog w=.ok (i'<|!(a==c&&b==d)) w:=by rw[run_neq_struct,Ih 9999 9998 rfl];rfl
def oL(a b:Nat)(c:a<18446744073709551616)(c:b<18446744073709551616):bits .andNot .u64 (a:Int) (b:Int)=((a&&&(18446744073709551615-b):Nat):Int):=by
 have F:a&&&(18446744073709551615-b)<2 ^ 64:=Nat.and_lt_two_pow _ I;have C:(BitVec.ofInt 64 (a:Int)).toNat=a:=by rw[BitVec.ofInt_natCast,BitVec.toNat_ofNat];exact rG I
 have c:(BitVec.ofInt 64 (b:Int)).toNat=b:=by rw[BitVec.ofInt_natCast,BitVec.toNat_ofNat];exact rG I
 show IntKind.u64.wrap ((BitVec.ofInt 64 (a:Int)&&&~~~BitVec.ofInt 64 (b:Int)).toNat:Int)=_;rw[BitVec.toNat_and,BitVec.toNat_not,C,c,xP];have e:2 ^ 64-1-b=18446744073709551615-b:=I;rw[e];omega
def Þ(a b:Nat):Nat:=a&&&(18446744073709551615-b)
def eP(s t:BS):BS:=(Þ s.1 t.1,Þ s.2 t.2)
def j3(s t:BS)(w:t')(y:bQ s)(U:bQ t):
  Cl 153 #[cn s,cn t] w (Rb w<|cn<|eP s t):=by
 have a:=λw=>sh (t.1:Int) (t.2:Int) w;have a:=λw=>sg (t.1:Int) (t.2:Int) w;have o:=oL s.1 t.1 y.lo U.lo;have V:=oL s.2 t.2 y.hi U.hi;simp only[cn];go_enter func153,ntmps153;go_wp2_with fail;refine wp_loop_rounds 3 ?_;rw[uq];go_wp2_with fail;rw[uq];go_wp2_with fail;rw[uq];go_wp2_with fail;refine aC (v:=cn<|eP s t) (by simp[results153,go_sem,cn,eP,Þ]) rfl ⟨rfl,gU⟩
def Rz(a b:Nat):Þ a b<18446744073709551616:=by unfold Þ;have:a&&&(18446744073709551615-b)<2 ^ 64:=Nat.and_lt_two_pow _ I;omega
def Jy(s t:BS):bQ (eP s t):=⟨Rz _ _,Rz _ _⟩
def pS{a b}:=@Jy a b
def Bf(s:BS):Bool:=s.1==0&&s.2==0
def sd(s t:BS)(w:t')(y:bQ s)(U:bQ t):
  Cl 296 #[cn s,cn t] w (Rb w<|i'<|Bf<|eP s t):=by
 have b:=ſ λW=>j3 s t W y U;obtain⟨z,f⟩:=Ea<|eP s t;rw[<-f]at b|-;clear f y U;have a:=λw=>adD (z.1:Int) (z.2:Int) 0 0 w;have V:Tryz.prog.eqGuardType Tryz.prog.depth 267=Q':=H;simp only[cn]at b|-;go_enter func296,ntmps296;go_wp2_with (go_at_call 153;refine(b.o _).mono ?_;rintro e t ⟨rfl,l⟩);go_wp2_with fail;go_ret;refine⟨aZ ?_,aq cU l⟩;rw[Bf,cK];simp only[aS,eo];omega
def lK(w:t')(ao:u')(ss:List BS):Prop:=∀j s,ss[j]?=C' s->∃b o,ao=C' (O b o)/\χ w (O b<|o+j*2)=C' (Z s.1)/\χ w (O b<|o+j*2+1)=C' (Z s.2)
def e7(s t:BS):BS:=(s.1|||t.1,s.2|||t.2)
def AB(ss:List BS):BS:=ss.foldl e7 (0,0)
def gG{s t:BS}(h:bQ s)(k:bQ t):bQ (e7 s t):=
 ⟨by have:=h.lo;have:=k.lo;have:s.1|||t.1<2 ^ 64:=CX I I;show s.1|||t.1<_;omega,by have:=h.hi;have:=k.hi;have:s.2|||t.2<2 ^ 64:=CX I I;show s.2|||t.2<_;omega⟩
def R2:∀(l:List BS)(u:BS),bQ u->(∀s∈l,bQ s)->bQ (l.foldl e7 u)
 |[],u,h,_=>h
 |s::r,u,h,k=>R2 r _ (gG h<|k s ak) (λx F=>k x<|by simp[F])
def R1(l:List BS)(k:∀s∈l,bQ s):bQ (AB l):=R2 l _ ⟨aj,aj⟩ k
def R0{l:List BS}{k:Nat}{s:BS}(h:l[k]?=C' s):AB (l.take<|k+1)=e7 (AB<|l.take k) s:=by have X:=(aV.1 h).1;rw[cX X,(aV.1 h).2];simp[AB]
def Bz(q:u')(c:Nat)(l:List BS)(w:t')(h:lK w q l)(S:∀s∈l,bQ s)(X:ζ l<=1000):
  Cl 267 #[h' q (ζ l) c] w (Rb w<|cn<|AB l):=by
 go_enter func267,ntmps267;go_wp2_with fail;go_loopw[10] (λi wr=>∃k:Nat,k<=ζ l/\i=G k/\J (Bl w wr/\wr.1[δ w.1]?=C' jo/\wr.1[δ w.1+1]?=C' (j' #[Z (AB<|l.take k).1,Z (AB<|l.take k).2] 267 (0,0)))) (λi _=>ζ l-(intOf i).toNat)
 case atStart=>
  refine⟨0,bq _,rfl,cU,eO.1,?_⟩;have:=(bP w fj fj).2;simpa[AB]using this
 obtain⟨k,a,rfl,f⟩:=hrel;by_cases L:k<ζ l;rotate_left
 .have a:¬(k:Int)<(ζ l:Int):=I;have N:l.take k=l:=b! I;rw[N]at f;obtain⟨E,g⟩:=A f.B;obtain⟨p,d⟩:=A f.b;go_wp2_with fail;have r:χ (κ wr (O w.1.size 0)<|Z ((AB l).1:Int)) (O w.1.size 0)=C' (Z ((AB l).1:Int)):=by rw[(A<|aw f.b _).1];rfl
  have R:χ (κ (κ wr (O w.1.size 0)<|Z ((AB l).1:Int)) (O w.1.size 1)<|Z ((AB l).2:Int)) (O w.1.size 1)=C' (Z ((AB l).2:Int)):=by rw[(A<|aw (aw f.b _) _).1];rfl
  refine aC (v:=cn<|AB l) (by simp[results267,go_sem,cn,r,R]) rfl ⟨rfl,?_⟩;exact(f.a.setCell (aD _) _).setCell (aD _) _
 have a:(k:Int)<(ζ l:Int):=I;obtain⟨s,F⟩:=La L;obtain⟨a,a,rfl,T,Q⟩:=h k s F;have U:=λw=>sh (s.1:Int) (s.2:Int) w;have a:=λw=>sg (s.1:Int) (s.2:Int) w;have t:=aA T f.a;have Y:=aA Q f.a;obtain⟨E,g⟩:=A f.B;have a:=dh t;have P:=(bG.1 f.B).1;have B:=S s<|aK F;have b:=R1 (l.take k) λx F=>S x<|lg F;have o:=CY (AB<|l.take k).1 s.1 b.lo B.lo;have V:=CY (AB<|l.take k).2 s.2 b.hi B.hi;have v:=ſ F;clear B b F;obtain⟨u,C⟩:=Ea<|AB<|l.take k;rw[<-C]at E o V;have b:=ſ C;clear C;go_wp2_with fail
 generalize j:wr.alloc (kK s.1 s.2)=V;have B:J (Bl w V/\V.1[δ w.1]?=C' jo/\V.1[δ w.1+1]?=C' (q! u.1 u.2)):=by
  subst j;have D:=(bG.1 f.b).1;refine⟨f.a.alloc f.a.size _,?_,?_⟩
  .rw[ch _ _ _ D];exact f.b
  rw[ch _ _ _ P,b.o];exact f.B
 clear j E g T Q t Y;obtain⟨E,g⟩:=A B.B;refine wp_loop_rounds 3 ?_;rw[uq];go_wp2_with fail;obtain⟨p,d⟩:=A<|aw (o:=0) B.B<|Z ((u.1|||s.1:Nat):Int);clear E g;rw[uq];go_wp2_with fail;rw[uq];go_wp2_with fail;go_roundw
 case rel=>
  refine⟨k+1,I,f',?_,?_,?_⟩
  .exact(B.a.setCell I' _).setCell I' _
  .rw[bh _ _ _ _ I',bh _ _ _ _ I'];exact B.b
  rw[R0 v.o,<-b.o];exact aw (aw B.B _) _
 exact H'
def Wc(s:BS)(f:Nat):BS:=if f<64 then(s.1|||2 ^ f,s.2) else(s.1,s.2|||2 ^ (f-64))
def cJ(fs:List Nat):BS:=fs.foldl Wc (0,0)
def abQ{s:BS}(h:bQ s){f:Nat}(Y:f<128):bQ (Wc s f):=by
 unfold Wc;split
 .have:(2:Nat) ^ f<2 ^ 64:=Jg I I;have C:=h.lo;have a:s.1|||2 ^ f<2 ^ 64:=CX I this
  exact⟨I',h.hi⟩
 have:(2:Nat) ^ (f-64)<2 ^ 64:=Jg I I;have C:=h.hi;have a:s.2|||2 ^ (f-64)<2 ^ 64:=CX I this
 exact⟨h.lo,by show s.2|||2 ^ (f-64)<_;omega⟩
def Tx:∀(o:List Nat)(u:BS),bQ u->(∀f∈o,f<128)->bQ (o.foldl Wc u)
 |[],u,h,_=>h
 |s::r,u,h,k=>Tx r _ (abQ h<|k s ak) (λx F=>k x<|by simp[F])
def ie(o:List Nat)(k:∀f∈o,f<128):bQ (cJ o):=Tx o _ ⟨aj,aj⟩ k
def GD{o:List Nat}{k f:Nat}(h:o[k]?=C' f):cJ (o.take<|k+1)=Wc (cJ<|o.take k) f:=by have X:=(aV.1 h).1;rw[cX X,(aV.1 h).2];simp[cJ]
def Tn(a f:Nat)(b:a<18446744073709551616)(Y:f<64):bits .or .u64 (a:Int) (IntKind.u64.wrap<|2 ^ f)=((a|||2 ^ f:Nat):Int):=by
 have C:(2:Nat) ^ f<2 ^ 64:=Jg I Y;have c:IntKind.u64.wrap (2 ^ f)=((2 ^ f:Nat):Int):=by rw[xP,Int.natCast_pow];refine Int.emod_eq_of_lt (Int.pow_nonneg aj) ?_;have:((2 ^ f:Nat):Int)<((2 ^ 64:Nat):Int):=Int.ofNat_lt.2 C;rw[Int.natCast_pow]at this;simpa using this
 rw[c];exact CY a (2 ^ f) b I
def Su{p:Prop}(h:p:=by
 show(wr.setCell _ _).1[δ w.1]?=_;rw[bh _ _ _ _ I']
 exact c.b):p:=h
def Kz(q:u')(c:Nat)(o:List Nat)(w:t')(h:b7 w q<|o.map Int.ofNat)(S:∀f∈o,f<128)(X:ζ o<=1000):
  Cl 241 #[h' q (ζ o) c] w (Rb w<|cn<|cJ o):=by
 have s:=ſ<|M h S;clear h S;go_enter func241,ntmps241;go_wp2_with fail;go_loopw[8] (λi wr=>∃k:Nat,k<=ζ o/\i=G k/\J (Bl w wr/\wr.1[δ w.1]?=C' jo/\wr.1[δ w.1+1]?=C' (j' #[Z (cJ<|o.take k).1,Z (cJ<|o.take k).2] 267 (0,0)))) (λi _=>ζ o-(intOf i).toNat)
 case atStart=>
  refine⟨0,bq _,rfl,cU,eO.1,?_⟩;have:=(bP w fj fj).2;simpa[cJ]using this
 obtain⟨k,a,rfl,c⟩:=hrel;by_cases L:k<ζ o;rotate_left
 .have a:¬(k:Int)<(ζ o:Int):=I;have N:o.take k=o:=b! I;rw[N]at c;obtain⟨E,b⟩:=A c.B;obtain⟨d,d⟩:=A c.b;go_wp2_with fail;have r:χ (κ wr (O w.1.size 0)<|Z ((cJ o).1:Int)) (O w.1.size 0)=C' (Z ((cJ o).1:Int)):=by rw[(A<|aw c.b _).1];rfl
  have R:χ (κ (κ wr (O w.1.size 0)<|Z ((cJ o).1:Int)) (O w.1.size 1)<|Z ((cJ o).2:Int)) (O w.1.size 1)=C' (Z ((cJ o).2:Int)):=by rw[(A<|aw (aw c.b _) _).1];rfl
  refine aC (v:=cn<|cJ o) (by simp[results241,go_sem,cn,r,R]) rfl ⟨rfl,?_⟩;exact(c.a.setCell (aD _) _).setCell (aD _) _
 have a:(k:Int)<(ζ o:Int):=I;obtain⟨f,F⟩:=La L;obtain⟨a,a,rfl,T⟩:=s.a k (f:Int) (by rw[bH,F];rfl);have Y:=s.A f<|aK F;have a:=ſ F;clear F;have t:=aA T c.a;obtain⟨u,C⟩:=Ea<|cJ<|o.take k;have g:=ſ C;rw[<-C]at c;clear C;obtain⟨E,b⟩:=A c.B;by_cases b:f<64
 .have Q:f / 64=0:=I;have L:χ wr (O (δ w.1+1) 0)=C' (Z u.1):=by rw[E];rfl
  clear E;go_wp2_with fail
  go_region
  go_wp2_with fail;go_roundw
  case measure=>exact H'
  have d:=rG b;have B:=ie (o.take k) λx F=>s.A x<|lg F;rw[d,Tn u.1 f (by rw[g.o];exact B.lo) b];refine⟨k+1,I,f',?_,?_,?_⟩
  .exact(c.a.setCell I' _).drew
  .exact Su
  rw[GD a.o,<-g.o];rw[Wc,aB b];exact aw c.B _
 have Q:f / 64=1:=I;have L:χ wr (O (δ w.1+1) 1)=C' (Z u.2):=by rw[E];rfl
 clear E;go_wp2_with fail
 go_region
 go_wp2_with fail;go_roundw
 case measure=>exact H'
 have d:f % 64=f-64:=I;have B:=ie (o.take k) λx F=>s.A x<|lg F;rw[d,Tn u.2 (f-64) (by rw[g.o];exact B.hi) I];refine⟨k+1,I,f',?_,?_,?_⟩
 .exact(c.a.setCell I' _).drew
 .exact Su
 rw[GD a.o,<-g.o];rw[Wc,ax b];exact aw c.B _
def kz(W:t')(b f:Nat)(Y:f<128)(T:χ W (O b 0)=C' (G f)):
  Cl 241 (mL b) W (Rb W<|cn<|cJ [f]):=by
 refine Kz (C'<|O b 0) 1 [f] W ?_ (J' Y) ak;intro j x hj
 match j,hj with
 |0,hj=>simp at hj;subst hj;exact⟨b,0,rfl,T⟩
 |j+1,hj=>simp at hj
def YO(s:BS)(f:Nat)(w:t')(y:bQ s)(Y:f<128):
  Cl 245 #[cn s,G f] w (Rb w<|i'<|Bf<|eP (cJ [f]) s):=by
 have V:J (∀W b,χ W (O b 0)=C' (G f)->Cl 241 (mL b) W (Rb W<|cn<|cJ [f])):=λW b T=>kz W b f Y T;have Q:J (∀W,Cl 296 #[cn<|cJ [f],cn s] W<|Rb W<|i'<|Bf<|eP (cJ [f]) s):=λW=>sd _ _ W (ie _<|J' Y) y;obtain⟨z,a⟩:=Ea<|Bf<|eP (cJ [f]) s;rw[<-a]at Q|-;obtain⟨u,C⟩:=Ea<|cJ [f];rw[<-C]at Q V;clear a C y Y;simp only[cn]at V Q|-;go_enter func245,ntmps245;go_wp2_with fail;generalize j:w.alloc (kK s.1 s.2)=b;have B:J (Bl w b/\χ b (O w.1.size 0)=C' (Z s.1)/\χ b (O w.1.size 1)=C' (Z s.2)):=by subst j;exact⟨aY,ak,ak⟩
 have a:δ w.1<δ b.1:=dh B.b;have L:=B.b;have a:=B.B;have a:δ w.1≠δ b.1:=I;have x:δ b.1≠δ w.1:=I;clear j
 go_region_held3 (λc=>χ c (O w.1.size 0)=C' (Z s.1)/\χ c (O w.1.size 1)=C' (Z s.2)) (go_keep) (first|(go_at_call 241;refine(V.o _ _ ak).mono ?_;rintro e t ⟨rfl,l⟩;have p:Bl b t:=aq ay l;have R:=aA B.b p;have F:=aA B.B p;have wD:=ſ p;clear p l)|(go_at_call 296;refine(Q.o _).mono ?_;rintro e F ⟨rfl,X⟩;have r:Bl b F:=aq (by repeat(first|exact wD.o|with_reducible refine below_drewN ?_ _|with_reducible refine iJ ?_)) X;have i:=aA B.b r;have a:=aA B.B r;have c:=ſ r;clear r X))
 all_goals
  go_wp2_with fail;go_ret
  first|exact⟨rfl,aq B.a c.o⟩|exact⟨rfl,below_drewN (aq B.a c.o) _⟩
def fA(W:t')(b:Nat)(s t:BS)(y:bQ s)(U:bQ t)(T:χ W (O b 0)=C' (Z s.1))(Q:χ W (O b 1)=C' (Z s.2))(p:χ W (O b 2)=C' (Z t.1))(c:χ W (O b 3)=C' (Z t.2)):
  Cl 267 (rf b) W (Rb W<|cn<|e7 s t):=by
 have e:AB [s,t]=e7 s t:=by simp[AB,e7]
 rw[<-e];refine Bz (C'<|O b 0) 2 [s,t] W ?_ ?_ ak
 .intro j x hj
  match j,hj with
  |0,hj=>simp at hj;subst hj;exact⟨b,0,rfl,T,Q⟩
  |1,hj=>simp at hj;subst hj;exact⟨b,0,rfl,p,c⟩
  |j+2,hj=>simp at hj
 intro x F;simp at F;rcases F with rfl|rfl
 .exact y
 exact U
def j5(n:Nat):BS:=(range n).foldl (λs f=>e7 s<|cJ [f]) (0,0)
def yl(n:Nat):j5 (n+1)=e7 (j5 n) (cJ [n]):=by simp[j5,kI]
def o?:∀n,n<=128->bQ (j5 n)
 |0,_=>⟨aj,aj⟩
 |n+1,h=>by rw[yl];exact gG (o? n I)<|ie _ I'
def o8(n:Nat)(w:t')(K:n<=128):
  Cl 208 #[G n] w (Rb w<|cn<|j5 n):=by
 go_enter func208,ntmps208;go_wp2_with fail;go_loopw[6] (λi wr=>∃k:Nat,k<=n/\i=G k/\J (Bl w wr/\wr.1[δ w.1]?=C' jo/\wr.1[δ w.1+1]?=C' (j' #[Z (j5 k).1,Z (j5 k).2] 267 (0,0)))) (λi _=>n-(intOf i).toNat)
 case atStart=>
  refine⟨0,bq _,rfl,cU,eO.1,?_⟩;have:=(bP w fj fj).2;simpa[j5]using this
 obtain⟨k,b,rfl,c⟩:=hrel;by_cases L:k<n;rotate_left
 .have b:¬(k:Int)<n:=I;have N:k=n:=I;subst N;have E:=A c.B;have d:=A c.b;go_wp2_with fail;have r:χ (κ wr (O w.1.size 0)<|Z ((j5 k).1:Int)) (O w.1.size 0)=C' (Z ((j5 k).1:Int)):=by rw[(A<|aw c.b _).1];rfl
  have R:χ (κ (κ wr (O w.1.size 0)<|Z ((j5 k).1:Int)) (O w.1.size 1)<|Z ((j5 k).2:Int)) (O w.1.size 1)=C' (Z ((j5 k).2:Int)):=by rw[(A<|aw (aw c.b _) _).1];rfl
  refine aC (v:=cn<|j5 k) (by simp[results208,go_sem,cn,r,R]) rfl ⟨rfl,?_⟩;exact(c.a.setCell (aD _) _).setCell (aD _) _
 have b:(k:Int)<n:=I;have V:=ſ λW b T=>kz W b k I T;have g:J (∀(W:t') b,χ W (O b 0)=C' (Z ((j5 k).1:Int))->χ W (O b 1)=C' (Z ((j5 k).2:Int))->χ W (O b 2)=C' (Z ((cJ [k]).1:Int))->χ W (O b 3)=C' (Z ((cJ [k]).2:Int))->Cl 267 (rf b) W (Rb W<|cn<|j5<|k+1)):=by rw[yl];exact λW b D C a N=>fA W b _ _ (o? k I) (ie _ I') D C a N
 obtain⟨u,C⟩:=Ea<|j5 k;obtain⟨t,U⟩:=Ea<|cJ [k];obtain⟨v,R⟩:=Ea<|j5<|k+1;rw[<-R]at g;rw[<-C]at g c;rw[<-U]at g V;have B:=ſ R;clear C U R;have E:=A c.B;simp only[cn]at V g;have a:=(bG.1 c.B).1;have s:δ w.1+1≠δ wr.1:=I;have x:δ wr.1≠δ w.1+1:=I;go_wp2_with fail
 go_region_law (go_simp;first|(refine bE (V.o _ _ ak) ?_;rintro e t ⟨rfl,l⟩;have S:t.1[δ w.1+1]?=_:=(l.block _ (by simp;have:=(bG.1 c.B).1;omega)).trans<|(ch _ _ _ (bG.1 c.B).1).trans c.B;have W:=A S;have P:=(bG.1 S).1;have y:δ w.1+1≠δ t.1:=I;have r:=y.symm;have p:Bl wr t:=aq ay l;have a:=ſ<|M S p;clear S l p)|(refine bE (g.o _ _ ak ak ak ak) ?_;rintro e F ⟨rfl,X⟩;have b:F.1[δ w.1+1]?=_:=(X.block _ (by simp;have:=(bG.1 a.a).1;omega)).trans<|(ch _ _ _ (bG.1 a.a).1).trans a.a;have d:=A b;have r:Bl wr F:=aq (aq a.A ay) X;have d:=ſ<|M b r;clear b X r))
 all_goals
  go_wp2_with fail;go_roundw
  case rel=>
   refine⟨k+1,I,f',?_,?_,?_⟩
   .exact((aq c.a d.A).setCell I' _).setCell I' _
   .rw[bh _ _ _ _ I',bh _ _ _ _ I'];exact(d.A.block _ (bG.1 c.b).1).trans c.b
   rw[<-B.o];exact aw (aw d.a _) _
  exact H'
section
variable {s t:BS}
def bt(s:BS)(f:Nat):Bool:=if f<64 then s.1.testBit f else s.2.testBit (f-64)
def gT(s t:BS)(f:Nat):bt (e7 s t) f=(bt s f||bt t f):=by unfold bt e7;split<;>simp
def Mf(a b i:Nat)(c:b<18446744073709551616)(S:i<64):(Þ a b).testBit i=(a.testBit i&&!b.testBit i):=by rw[Þ,Nat.testBit_and];have:18446744073709551615-b=2 ^ 64-(b+1):=I;rw[this,Nat.testBit_two_pow_sub_succ I];simp[S]
def Vy(s t:BS)(f:Nat)(U:bQ t)(Y:f<128):bt (eP s t) f=(bt s f&&!bt t f):=by
 unfold bt eP;split
 .exact Mf _ _ _ U.lo I
 exact Mf _ _ _ U.hi I
def oM{a b c}:=@Vy a b c
def Wl(s:BS)(g f:Nat)(Y:f<128)(a:g<128):bt (Wc s g) f=(bt s f||decide (f=g)):=by
 unfold bt Wc;by_cases C:g<64
 .rw[aB C];by_cases a:f<64
  .rw[aB a,aB a,Nat.testBit_or,Nat.testBit_two_pow];simp[eq_comm]
  rw[ax a,ax a,show decide (f=g)=Q' by simp;omega,Bool.or_false]
 rw[ax C];by_cases a:f<64
 .rw[aB a,aB a,show decide (f=g)=Q' by simp;omega,Bool.or_false]
 rw[ax a,ax a,Nat.testBit_or,Nat.testBit_two_pow];congr 1;rw[xO];omega
def ji(f:Nat):bt (0,0) f=Q':=by unfold bt;split<;>simp
def VD:∀(o:List Nat)(u:BS)(f:Nat),f<128->(∀g∈o,g<128)->bt (o.foldl Wc u) f=(bt u f||decide (f∈o))
 |[],u,f,_,_=>ak
 |g::r,u,f,Y,hr=>by rw[e8,VD r _ f Y λx F=>hr x<|by simp[F],Wl u g f Y<|hr g ak,xN];congr 1;rw[cK];simp
def lI(o:List Nat)(f:Nat)(Y:f<128)(h:∀g∈o,g<128):bt (cJ o) f=decide (f∈o):=by rw[cJ,VD o _ f Y h,ji,km]
def wm:∀(n f:Nat),n<=128->f<128->bt (j5 n) f=decide (f<n)
 |0,f,_,_=>by rw[show j5 0=(0,0)from rfl,ji];simp
 |n+1,f,K,hf=>by rw[yl,gT,wm n f I hf,lI [n] f hf I',cK];simp;omega
def VA:∀(l:List BS)(u:BS)(f:Nat),bt (l.foldl e7 u) f=(bt u f||l.any λs=>bt s f)
 |[],u,f=>ak
 |s::r,u,f=>by rw[e8,VA r,gT,xR,xN]
def agF(l:List BS)(f:Nat):bt (AB l) f=l.any λs=>bt s f:=by rw[AB,VA,ji,km]
def Fs{a b:Nat}(c:a<18446744073709551616)(c:b<18446744073709551616)(h:∀i,i<64->a.testBit i=b.testBit i):a=b:=by
 refine Nat.eq_of_testBit_eq λi=>?_;by_cases S:i<64
 .exact h i S
 have a:(18446744073709551616:Nat)<=2 ^ i:=by have:=Fi (n:=2) I (show 64<=i by omega);exact this
 rw[Nat.testBit_lt_two_pow I,Nat.testBit_lt_two_pow I]
def VH(y:bQ s)(U:bQ t)(h:∀f,f<128->bt s f=bt t f):s=t:=by
 obtain⟨c,b⟩:=s;obtain⟨S,a⟩:=t;have V:c=S:=Fs y.lo U.lo λi S=>by have:=h i I;unfold bt at this;rwa[aB S,aB S]at this
 have u:b=a:=Fs y.hi U.hi λi S=>by have:=h (i+64) I;unfold bt at this;rw[ax I,ax I]at this;simpa using this
 rw[V,u]
def ad0(s:BS):Bf s=P'↔s=(0,0):=by obtain⟨a,b⟩:=s;simp[Bf]
def Zt(y:bQ s):Bf s=P'↔∀f,f<128->bt s f=Q':=by
 rw[ad0];constructor
 .rintro rfl f _;exact ji f
 intro h;exact VH y ⟨aj,aj⟩ λf Y=>by rw[h f Y,ji]
def mS(U:bQ t):Bf (eP s t)=P'↔∀f,f<128->bt s f=P'->bt t f=P':=by
 rw[Zt<|Jy s t];constructor
 .intro h f Y y;have:=h f Y;rw[Vy s t f U Y,y,eV]at this;simpa using this
 intro h f Y;rw[Vy s t f U Y];cases y:bt s f with
 |false=>rfl
 |true=>rw[h f Y y];rfl
def adj{f:Nat}(y:bQ s)(Y:f<128):Bf (eP (cJ [f]) s)=bt s f:=by
 rw[cK,mS y];constructor
 .intro h;exact h f Y (by rw[lI [f] f Y<|J' Y];simp)
 intro h g a d;rw[lI [f] g a<|J' Y]at d;simp at d;subst d;exact h
end
section
variable {a T p:Nat}{v:A'}
structure RR where
  st:List A'
  ea:u'
  ec:Nat
  es:List (Nat×A')
abbrev RR.ev(r:RR):A':=h' r.ea (ζ r.es) r.ec
def oU(r:RR):List A':=r.st++[r.ev]
def ix(rl:List RR):List A':=rl.flatMap oU
def iB(es:List<|Nat×A'):List A':=es.flatMap λe=>[G e.1,e.2]
def LA(a:List<|Nat×A')(e:Nat×A'):iB (a++[e])=iB a++[G e.1,e.2]:=by simp[iB]
def BJ{m:Nat}:∀(c:List RR),(∀r∈c,ζ r.st=m)->ζ (ix c)=ζ c*(m+1)
 |[],_=>by simp[ix]
 |r::q,h=>by have B:=BJ q (λx F=>h x<|by simp[F]);have D:=h r ak;simp only[ix,b9,aW,oU,bR,de]at B|-;rw[qX];omega
def yA{m:Nat}:∀(c:List RR)(k:Nat)(r:RR)(j:Nat),(∀r∈c,ζ r.st=m)->c[k]?=C' r->j<m+1->(ix c)[k*(m+1)+j]?=(oU r)[j]?
 |[],k,r,j,_,h,_=>by simp at h
 |a::q,0,r,j,d,h,hj=>by simp at h;subst h;have D:=d a ak;simp only[ix,b9,gN,bW];rw[iC<|by simp[oU];omega]
 |a::q,k+1,r,j,d,h,hj=>by have D:=d a ak;have B:=yA q k r j (λx F=>d x<|by simp[F]) (J' h) hj;simp only[ix,b9]at B|-;rw[fh<|by simp[oU,qX];omega,<-B];congr 1;simp[oU,qX];omega
def p9{m:Nat}:∀(c:List RR)(k:Nat)(r g:RR)(j:Nat)(v:A'),(∀r∈c,ζ r.st=m)->c[k]?=C' r->j<m+1->oU g=(oU r).set j v->(ix c).set (k*(m+1)+j) v=ix (c.set k g)
 |[],k,r,g,j,v,_,h,_,_=>by simp at h
 |a::q,0,r,g,j,v,d,h,f,he=>by simp at h;subst h;have D:=d a ak;simp only[ix,dp,b9,gN,bW];rw[Fg _ _<|by simp[oU];omega,he]
 |a::q,k+1,r,g,j,v,d,h,f,he=>by have D:=d a ak;have B:=p9 q k r g j v (λx F=>d x<|by simp[F]) (J' h) f he;simp only[ix,da,b9]at B|-;rw[oX _ _<|by simp[oU,qX];omega,<-B];congr 2;simp[oU,qX];omega
structure Sys(W:t')(B rb m tR tE:Nat)(rl:List RR):Prop where
  fE:W.1[rb]?=C' (j' (θ<|ix rl) tR (0,0))
  low:B<=rb
  len:∀r∈rl,ζ r.st=m
  row:∀r∈rl,ρ W B tE 2 r.ev (ζ r.es)<|iB r.es
  wN:∀(i j:Nat)(a b:RR),rl[i]?=C' a->rl[j]?=C' b->i≠j->φ a.ev=D'\/φ a.ev≠φ b.ev
def Sys.below{b:t'}{c:List RR}(e:Sys W B a m T p c)(f:Bl W b):Sys b B a m T p c:=by refine⟨(f.block _ (bG.1 e.fE).1).trans e.fE,e.low,e.len,λr a=>?_,e.wN⟩;have h:=e.row r a;exact ĵ
def Sys.cell{c:List RR}(h:Sys W B a m T p c){j:Nat}{r:RR}(b:c[k]?=C' r)(f:(oU r)[j]?=C' v):χ W (O a<|k*(m+1)+j)=C' v/\W.frozen? (O a<|k*(m+1)+j)=Q':=by
 have E:=A h.fE;refine⟨?_,E.2 _⟩;have X:=h.len r<|aK b;have L:j<m+1:=by have:=(aV.1 f).1;simp[oU]at this;omega
 rw[E.1,cz,yA c k r j h.len b L,f]
def lX{e size n t:Nat}{D:List A'}{L:Array A'}(h:ρ W B e size v n D)(a:W.1[k]?=C' (cL L t))(l:e≠t):φ v≠C' k:=by
 rcases h.2 with⟨V,_⟩|⟨g,b,Y,V,_,N,_⟩
 .rw[V];simp[Value.ownBlock]
 rw[V];intro u;have:g=k:=by simpa[Value.ownBlock]using u
 subst this;rw[N]at a;simp at a;exact l a.2
def Sys.grow{X l:t'}{c:List RR}{r:RR}{e:Nat×A'}{d:u'}{b:Nat}(h:Sys W B a m T p c)(U:p≠T)(hk:c[k]?=C' r)(f:Bl W X)
  (q:ξ X l<|φ r.ev) (t:ρ l B p 2 (h' d (ζ r.es+1) b) (ζ r.es+1)<|iB r.es++[G e.1,e.2]) (K:φ (h' d (ζ r.es+1) b)=φ r.ev\/φ (h' d (ζ r.es+1) b)=C' X.1.size):
  Sys (κ l (O a<|k*(m+1)+m)<|h' d (ζ r.es+1) b) B a m T p (c.set k ⟨r.st,d,b,r.es++[e]⟩):=by
 have P:=h.below f;have f:=(bG.1 P.fE).1;have z:some a≠φ r.ev:=λe=>lX (P.row r<|aK hk) P.fE U e.symm
 have w:=(q.block a f z).trans P.fE;have L:=lX t w U;have V:=h.len r<|aK hk;have o:=(aV.1 hk).1;have u:∀(size n:Nat)(v:A')(D:List A'),ρ l B p size v n D->φ v≠C' a->ρ (κ l (O a<|k*(m+1)+m)<|h' d (ζ r.es+1) b) B p size v n D:=by
  intro size n v D o R;refine⟨o.1,?_⟩;rcases o.2 with a|⟨g,b,Y,C,i,N,d⟩
  .exact aI a
  refine aH ⟨g,b,Y,C,i,?_,d⟩;rw[bh _ _ _ _ (by rintro rfl;exact R<|by rw[C];rfl)];exact N
 refine⟨?_,h.low,?_,?_,?_⟩
 .rw[aw w];congr 2;rw[cj];congr 1;refine p9 c k r _ m _ h.len hk I ?_;simp only[oU,RR.ev,aW,fP];rw[oX _ _ I,V,jx];rfl
 .intro x F;rcases hU F with F|rfl
  .exact h.len x F
  exact V
 .intro x F;rw[dN]at F;obtain⟨j,f⟩:=F;rw[eQ]at f;by_cases s:k=j
  .rw[aB s,aB I]at f;cases f;have:=u 2 _ _ _ t L;simpa[RR.ev,LA]using this
  rw[ax s]at f;have y:=P.row x<|aK f;have Q:=h.wN j k x r f hk I;have:ρ l B p 2 x.ev (ζ x.es) (iB x.es):=by
   refine⟨y.1,?_⟩;rcases y.2 with a|⟨g,b,Y,C,i,N,d⟩
   .exact aI a
   refine aH ⟨g,b,Y,C,i,(q.block g (bG.1 N).1 ?_).trans N,d⟩;rcases Q with Q|Q
   .rw[C]at Q;simp[Value.ownBlock]at Q
   intro e;exact Q (by rw[<-e,C];rfl)
  exact u 2 _ _ _ this<|lX y P.fE U
 intro i j a b S f t;rw[eQ]at S f;by_cases E:k=i
 .rw[aB E,aB I]at S;cases S;rw[ax I]at f;have Q:=h.wN j k b r f hk I;simp only[RR.ev,aW,fP];rcases K with K|K
  .rw[K];rcases Q with Q|Q
   .rw[show φ b.ev=D' from Q];cases o:φ r.ev with
    |none=>exact aI rfl
    |some q=>exact aH ak
   exact aH λe=>Q e.symm
  rw[K];refine aH λe=>?_;have:=((P.row b<|aK f).lt X.1.size e.symm).2;omega
 rw[ax E]at S;by_cases s:k=j;rotate_left
 .rw[ax s]at f;exact h.wN i j a b S f t
 rw[aB s,aB I]at f;cases f;have Q:=h.wN i k a r S hk I;simp only[RR.ev,aW,fP];rcases K with K|K
 .rw[K];exact Q
 rw[K];refine aH λe=>?_;have:=((P.row a<|aK S).lt X.1.size e).2;omega
structure Ef where
  drop:BS
  add:BS
def Fc(e:Ef):A':=k' #[Z e.drop.1,Z e.drop.2,Z e.add.1,Z e.add.2]
structure E9(e:Ef):Prop where
  drop:bQ e.drop
  add:bQ e.add
def IQ(e:Ef)(s:BS):BS:=e7 (eP s e.drop) e.add
def acu(e:Ef)(s:BS)(w:t')(l:E9 e)(y:bQ s):
  Cl 328 #[Fc e,cn s] w (Rb w<|cn<|IQ e s):=by
 have k:J (∀W,Cl 153 #[cn s,cn e.drop] W<|Rb W<|cn<|eP s e.drop):=λW=>j3 s e.drop W y l.drop;have g:J (∀(W:t') b,χ W (O b 0)=C' (Z ((eP s e.drop).1:Int))->χ W (O b 1)=C' (Z ((eP s e.drop).2:Int))->χ W (O b 2)=C' (Z e.add.1)->χ W (O b 3)=C' (Z e.add.2)->Cl 267 (rf b) W (Rb W<|cn<|IQ e s)):=λW b D C c N=>fA W b _ _ pS l.add D C c N;obtain⟨z,f⟩:=Ea<|IQ e s;obtain⟨u,C⟩:=Ea<|eP s e.drop;rw[<-f]at g|-;rw[<-C]at g k;clear f C l y;obtain⟨⟨Y,c⟩,N,l⟩:=e;obtain⟨f,e⟩:=s;simp only[cn,Fc]at k g|-;go_enter func328,ntmps328;go_wp2_with fail
 generalize j:((w.alloc<|j' #[Z Y,Z c,Z N,Z l] 397).alloc<|kK f e).alloc fj=b;have U:J (Bl w b/\b.1[δ w.1]?=C' (j' #[Z Y,Z c,Z N,Z l] 397 (0,0))/\b.1[δ w.1+1]?=C' (q! f e)/\b.1[δ w.1+1+1]?=C' jo):=by
  subst j;refine⟨gU,?_,?_,?_⟩
  .rw[ch _ _ _ I'];exact(bP w _ _).1
  .rw[ch _ _ _ ak];exact(bP w _ _).2
  have:=bj ((w.alloc<|j' #[Z Y,Z c,Z N,Z l] 397).alloc<|kK f e) fj;simpa using this
 clear j;have E:=A U.b;have c:=A U.c;have W:=A U.C;have e:=(bG.1 U.C).1;have c:δ w.1≠δ b.1:=I;have s:δ w.1+1≠δ b.1:=I;have x:δ w.1+1+1≠δ b.1:=I
 go_region_law (go_simp;first|(refine bE (k.o _) ?_;rintro L t ⟨rfl,l⟩;have p:Bl b t:=aq ay l;have F:=A<|(p.block _ I).trans U.b;have c:=p.size;have y:δ w.1≠δ t.1:=I;have c:δ w.1+1+1≠δ t.1:=I;have f:=y.symm;have k:=c.symm;have wD:=ſ p;clear p l)|(refine bE (g.o _ _ ak ak ak ak) ?_;rintro L F ⟨rfl,X⟩;have r:Bl b F:=aq (aq wD.o ay) X;have R:=A<|(r.block _ I).trans U.C;have c:=ſ r;clear r X))
 all_goals
  go_wp2_with fail;have v:=(c.o.block _ e).trans U.C;have b:χ (κ F (O (δ w.1+1+1) 0)<|Z z.1) (O (δ w.1+1+1) 0)=C' (Z z.1):=by rw[(A<|aw v _).1];rfl
  have r1:χ (κ (κ F (O (δ w.1+1+1) 0)<|Z z.1) (O (δ w.1+1+1) 1)<|Z z.2) (O (δ w.1+1+1) 1)=C' (Z z.2):=by rw[(A<|aw (aw v _) _).1];rfl
  refine aC (v:=cn z) (by simp[results328,go_sem,cn,b,r1]) rfl ⟨rfl,?_⟩;exact((aq U.a c.o).setCell I' _).setCell I' _
abbrev cP(rb n:Nat):A':=k'<|dB rb n
def vS(e:Ef):A':=.func (.func 328) #[Fc e] #[]
end
section
variable {a b:A'}{v:Ef}
def qy:(Tryz.prog.info? 267).map (λi=>(i.zero,i.size,i.bytes))=C' (C'<|k' #[Z 0,Z 0],2,16):=H
def eN(s:BS):List A':=[Z s.1,Z s.2]
def cI(ss:List BS):List A':=ss.flatMap eN
def Ï(s0:BS)(es:List<|Nat×Ef)(held:Nat->BS):BS:=AB (s0::es.map λe=>IQ e.2<|held e.1)
def tS:∀(l:List<|Nat×A')(k:Nat)(x:Nat×A'),l[k]?=C' x->(iB l)[k*2]?=C' (G x.1)/\(iB l)[k*2+1]?=C' x.2
 |[],k,x,h=>by simp at h
 |a::l,0,x,h=>by simp at h;subst h;simp[iB]
 |a::l,k+1,x,h=>by have:=tS l k x<|J' h;simp only[iB,b9,dA,c!]at this|-;rw[show(k+1)*2=k*2+1+1 by omega];simpa using this
def U9{l:List (Nat×A')}{a:List (Nat×Ef)}(c:l=a.map λe=>(e.1,vS e.2))(b:a[k]?=C' (m,v)):(iB l)[k*2]?=C' (G m)/\(iB l)[k*2+1]?=C' (vS v):=tS l k (m,vS v) (by rw[c,bH,b];rfl)
def GM{X:t'}{t:TypeId}(h:X.1[q]?=C' (j' #[a,b] t (0,0))):∀(j:Nat)(u:A'),[a,b][j]?=C' u->χ X (((O q 0):Addr).add j)=C' u:=by intro j u f;rw[fH,bW,(A h).1];simpa using f
def Bg{w a:t'}{o:Obj}(c:Below B w a)(h:w.1[k]?=C' o)(b:k<B):a.1[k]?=C' o:=(c.block k b).trans h
def Tt{e:Ef}{s:BS}(l:E9 e)(y:bQ s):bQ (IQ e s):=gG pS l.add
def tX:∀(l:List BS)(j:Nat)(s:BS),l[j]?=C' s->(cI l)[j*2]?=C' (Z s.1)/\(cI l)[j*2+1]?=C' (Z s.2)
 |[],j,s,h=>by simp at h
 |a::l,0,s,h=>by simp at h;subst h;simp[cI,eN]
 |a::l,j+1,s,h=>by have:=tX l j s<|J' h;simp only[cI,b9,eN,dA,c!]at this|-;rw[show(j+1)*2=j*2+1+1 by omega];simpa using this
def Sw{n c:Nat}{a:u'}{l:List BS}(h:ρ W B 267 2 (h' a n c) n<|cI l):lK W a l:=by
 intro j s f;have a:=tX l j s f;rcases h.2 with⟨R,_⟩|⟨g,b,Y,R,_⟩
 .exfalso;have C:=h.1;simp at R;have:=(aV.1 a.1).1;simp_all
 simp at R;obtain⟨rfl,rfl⟩:=R;have U:=h.cells (g:=g) rfl _ _ a.1;have b:=h.cells (g:=g) rfl _ _ a.2;rw[fH]at U b;exact⟨g,0,rfl,U,b⟩
def Td{t:Nat}(h:W.1[q]?=C' (j' #[a,b] t (0,0)))(v:B<=q):ρ W B t 2 (h' (C'<|O q 0) 1 1) 1 [a,b]:=by refine⟨rfl,aH ⟨q,1,#[a,b],rfl,v,h,aD _,?_,rfl,rfl⟩⟩;unfold maxLen;decide
def Xs{p:Nat}{r:RR}{b:List (Nat×Ef)}(h:ρ W B p 2 r.ev (ζ r.es)<|iB r.es)(l:r.es=b.map λe=>(e.1,vS e.2))(a:b[k]?=C' (m,v)):∃g,r.ea=C' (O g 0)/\χ W (O g<|k*2)=C' (G m)/\χ W (O g<|k*2+1)=C' (vS v):=by
 have o:=(aV.1 a).1;rcases h.2 with⟨_,e⟩|⟨g,b,Y,R,_⟩
 .rw[l,bA]at e;omega
 simp[RR.ev]at R;refine⟨g,R.1,?_,?_⟩
 .have:=h.cells (g:=g) (by simp[RR.ev,Value.ownBlock,R.1]) (k*2) (G m) (U9 l a).1;rwa[fH,bW]at this
 have:=h.cells (g:=g) (by simp[RR.ev,Value.ownBlock,R.1]) (k*2+1) (vS v) (U9 l a).2;rwa[fH,bW]at this
def OX(f B N n u:Nat)(c:List RR)(r:RR)(s0:BS)(es:List<|Nat×Ef)(C:Array A')(b:Nat->BS)(w:t')(j:Sys w B f 2 393 404 c)(X:ζ c=N)(p:N<=60)(hr:c[n]?=C' r)(R:r.st=eN s0)(T:bQ s0)(c:r.es=es.map λe=>(e.1,vS e.2))(g:∀e∈es,E9 e.2/\bQ (b e.1))(k:ζ es<=200)(E:∀D w,(callFunc u D).run Tryz.prog w=.ok (.enter u D) w)
  (V:∀e∈es,∀W,Bl w W->Cl u (#[G e.1]++C) W (Rb W<|cn<|b e.1)):
  Cl 226 #[cP f N,G n,.func (.func u) #[] C] w (Rb w<|cn<|Ï s0 es b):=by
 have o:=j.cell (j:=0) (v:=Z s0.1) hr (by simp[oU,R,eN]);have l:=j.cell (j:=1) (v:=Z s0.2) hr (by simp[oU,R,eN]);have p:=j.cell (j:=2) (v:=h' r.ea (ζ es) r.ec) hr (by simp[oU,R,eN,RR.ev,c]);have k:n<N:=by rw[<-X];exact(aV.1 hr).1
 have k:(n:Int)<N:=I;have D:=ſ<|j.row r<|aK hr;have B:=ſ<|M V<|M g<|M T c;simp only[Nat.reduceAdd,k!]at o l p;have k:=vu w (j' (dB f N) 260) fj;have t:=aA o.1 k;have Y:=aA l.1 k;have q:=aA p.1 k;clear j V g T c R hr X o l p k;simp only[cP];go_enter func226,ntmps226;go_upto_region 4 with(fail)
 generalize j:(((w.alloc<|j' (dB f N) 260).alloc fj).alloc<|j' #[Z s0.1,Z s0.2,h' r.ea (ζ es) r.ec] 393).alloc (kK s0.1 s0.2)=g;have U:J (Bl w g/\d' g w.1.size (dB f N) 260/\g.1[δ w.1+1]?=C' jo/\g.1[δ w.1+1+1+1]?=C' (q! s0.1 s0.2)):=by subst j;obtain⟨k,R,_,c⟩:=qL w (j' (dB f N) 260) fj (j' #[Z s0.1,Z s0.2,h' r.ea (ζ es) r.ec] 393)<|kK s0.1 s0.2;exact⟨oe,k,R,c⟩
 clear j t Y q;have c:=À U.C;go_loopw[8,22] (λf y wr=>∃(k:Nat)(a:u')(c:Nat),k<=ζ es/\y=G k/\f=h' a (k+1) c/\J (ρ wr (δ w.1+1+1+1) 267 2 (h' a (k+1) c) (k+1) (cI<|s0::(es.take k).map λe=>IQ e.2<|b e.1)/\Below (δ w.1+1+1+1) g wr)) (λ_ y _=>ζ es-(intOf y).toNat)
 case atStart=>exact⟨0,_,_,bq _,rfl,rfl,Td U.C<|aD _,aP _ _⟩
 obtain⟨k,a,c,f,rfl,rfl,R⟩:=hrel;have p:Bl w wr:=U.a.trans<|R.A.mono I;have f:=R.A.size;by_cases L:k<ζ es;rotate_left
 .have o:¬(k:Int)<(ζ es:Int):=I;have q:k=ζ es:=I;subst q;rw[nB]at R;have g:J (∀W,Bl wr W->Cl 267 #[h' a (ζ es+1) c] W (Rb W<|cn<|Ï s0 es b)):=by intro W j;have X:ζ (s0::es.map λe=>IQ e.2<|b e.1)=ζ es+1:=ak;have:=Bz a c (s0::es.map λe=>IQ e.2<|b e.1) W (Sw<|bu R.a j) (by intro s y;rcases cO.1 y with rfl|y;(· exact B.c);obtain⟨e,T,rfl⟩:=bp.1 y;exact Tt (B.b e T).1 (B.b e T).2) I';rwa[X]at this
  obtain⟨z,f⟩:=Ea<|Ï s0 es b;rw[<-f]at g;have j:=ſ f;clear f;have E:=A<|Bg R.A U.b I;have f:=ſ p;have l:δ w.1+1<δ wr.1:=I;clear p;simp only[cn]at g;go_wp2_with (go_at_call 267;refine(g.o _<|aP _ _).mono ?_;rintro e t ⟨rfl,l⟩;have v:=aF l<|Bg R.A U.c I;clear E;have E:=A v;have q:=ſ<|M l v;clear l v);have v:=q.A;have g:χ (κ t (O (δ w.1+1) 0)<|Z z.1) (O (δ w.1+1) 0)=C' (Z z.1):=by rw[(A<|aw v _).1];rfl
  have r1:χ (κ (κ t (O (δ w.1+1) 0)<|Z z.1) (O (δ w.1+1) 1)<|Z z.2) (O (δ w.1+1) 1)=C' (Z z.2):=by rw[(A<|aw (aw v _) _).1];rfl
  refine aC (v:=cn z) (by simp[results226,go_sem,cn,g,r1]) rfl ⟨by rw[j.o],?_⟩;exact((aq f.o q.a).setCell I' _).setCell I' _
 have o:(k:Int)<(ζ es:Int):=I;obtain⟨⟨m,v⟩,F⟩:∃x,es[k]?=C' x:=⟨_,aQ L⟩;obtain⟨g,g,o,f⟩:=Xs (bu D.o p) B.C F;obtain⟨N,D⟩:=B.b _<|aK F;have Y:J (∀W,Bl w W->Cl u (#[G m]++C) W (Rb W<|cn<|b m)):=B.a _<|aK F;have s:J (∀W,Cl 328 #[Fc v,cn<|b m] W<|Rb W<|cn<|IQ v<|b m):=λW=>acu v (b m) W N D;have U:=ſ F;clear F N D;rw[g];simp only[vS]at f;go_upto_region 6 with(fail)
 generalize g:wr.alloc (j' #[G m,.func (.func 328) #[Fc v] #[]] 404)=V;have B:J (Bl wr V/\d' V wr.1.size #[G m,.func (.func 328) #[Fc v] #[]] 404):=by subst g;exact⟨aY,bj _ _⟩
 clear g o f;have E:=A B.A;have u:J (Bl w V):=aq p B.a;have f:=B.a.size;obtain⟨x,g⟩:=Ea<|b m;obtain⟨f,j⟩:=Ea<|IQ v<|b m;rw[<-g]at Y s;have r:J (f=IQ v (b m)):=j;rw[g,<-j,<-g]at s;clear g j p;obtain⟨N,hi,D,j,g⟩:=cG qy;have o:J (_/\_/\_/\_):=⟨hi,D,j,g⟩;clear hi D j g;generalize g:Fc v=g at s;generalize cn x=g at Y s;simp only[cn]at s
 go_region_law (first|(go_simp;refine bE (Y.o _<|aq u.o ay) ?_;rintro e t ⟨rfl,l⟩;have q:J (Bl V t):=aq ay l;clear E l;have E:=A<|aF q.o B.A)|(go_simp;refine bE (s.o _) ?_;rintro e F ⟨rfl,X⟩;have j:J (Bl V F):=aq (aq q.o ay) X;clear X)|(refine dS rfl (.tmp 26) (.tmp 34) 264 rfl (δ w.1+1+1+1) 267 N (k' #[.int .u64 0,.int .u64 0]) 2 16 underlying264 o.a o.b o.c o.C rfl aj (h' a (k+1) c) (k+1) (cI<|s0::(es.take k).map λe=>IQ e.2<|b e.1) (by simp[Act.eval,Act.put]) (by exact bu R.a<|aq (aq B.a j.o) ay) (O F.1.size 0) 1 1 [.int .u64 (f.1:Int),.int .u64 (f.2:Int)] (by simp[Act.eval,Act.put]) rfl (GM<|bj F _) (by intro u C;simp at C;rcases C with rfl|rfl<;>rfl) (by unfold maxLen;omega) I (by have:=j.o.size;simp;omega) ?_;intro E c c W y;obtain⟨C,l,rfl⟩:=aX c;have g:=ſ<|M c W;clear c W y))
 all_goals
  go_wp2_with fail;go_roundw
  case rel=>
   have T:cI (s0::(es.take<|k+1).map λe=>IQ e.2<|b e.1)=cI (s0::(es.take k).map λe=>IQ e.2<|b e.1)++[Z f.1,Z f.2]:=by rw[cX L,(aV.1 U.o).2,eR,r.o];simp[cI,eN]
   refine⟨k+1,C,l,L,f',rfl,?_,?_⟩
   .rw[T];exact g.a
   exact R.A.trans ((((aq B.a j.o).mono I).alloc (L' j.o.size) _).grown g.A (by have:=j.o.size;simp;omega) λq e=>((bu R.a<|aq B.a j.o).lt q e).1)
  exact H'
end
abbrev RS:=List<|BS×List (Nat×Ef)
def JU(R:RS):List (List A'×List (Nat×A')):=R.map λr=>(eN r.1,r.2.map λe=>(e.1,vS e.2))
structure E5(R:RS)(N:Nat):Prop where
  len:ζ R=N
  most:N<=60
  each:∀r∈R,bQ r.1/\ζ r.2<=200/\∀e∈r.2,E9 e.2/\e.1<N
def og(w:t')(B rb:Nat)(R:RS):Prop:=∃rl,Sys w B rb 2 393 404 rl/\rl.map (λr=>(r.st,r.es))=JU R
def og.below{w a:t'}{B b:Nat}{R:RS}(h:og w B b R)(d:Bl w a):og a B b R:=by obtain⟨c,C,a⟩:=h;exact⟨c,C.below d,a⟩
def kg(R:RS)(held:Nat->BS)(n:Nat):BS:=match R[n]? with|some r=>Ï r.1 r.2 held|none=>(0,0)
def cv(hs:List BS)(n:Nat):BS:=hs.getD n (0,0)
def fe{y:List BS}(h:∀s∈y,bQ s)(n:Nat):bQ (cv y n):=by
 unfold cv;cases e:y[n]? with
 |none=>rw[getD,e];exact⟨aj,aj⟩
 |some s=>rw[getD,e];exact h s<|aK e
def yx{R:RS}{N:Nat}(h:E5 R N){b:Nat->BS}(V:∀n,bQ<|b n)(n:Nat):bQ (kg R b n):=by
 unfold kg;cases e:R[n]? with
 |none=>exact(show bQ (0,0)from⟨aj,aj⟩)
 |some r=>
  refine R1 _ λs y=>?_;have:=h.each r<|aK e;rcases cO.1 y with rfl|y
  .exact this.1
  obtain⟨x,F,rfl⟩:=bp.1 y;exact Tt (this.2.2 x F).1<|V x.1
def uD(h B N n u:Nat)(R:RS)(a:Array A')(b:Nat->BS)(w:t')(v:og w B h R)(i:E5 R N)(K:n<N)(d:∀m,bQ<|b m)(E:∀D w,(callFunc u D).run Tryz.prog w=.ok (.enter u D) w)
  (V:∀m,m<N->∀W,Bl w W->Cl u (#[G m]++a) W (Rb W<|cn<|b m)):
  Cl 226 #[cP h N,G n,.func (.func u) #[] a] w (Rb w<|cn<|kg R b n):=by
 obtain⟨c,C,f⟩:=v;have X:ζ c=N:=by have:=cQ length f;simp[JU]at this;rw[this,i.len]
 obtain⟨r,k⟩:=La (l:=c) (i:=n) I;obtain⟨q,g⟩:=La (l:=R) (i:=n) (by rw[i.len];exact K);have j:=cQ (λl=>l[n]?) f;simp only[JU,bH,k,g,gD,dq,gM]at j;have f:=i.each q<|aK g;have e:kg R b n=Ï q.1 q.2 b:=by rw[kg,g]
 rw[e];exact OX h B N n u c r q.1 q.2 a b w C X i.most k j.1 f.1 j.2 (λe l=>⟨(f.2.2 e l).1,d e.1⟩) f.2.1 E λe l W j=>V e.1 (f.2.2 e l).2 W j
def Ĵ{p:Prop}(h:p:=by
 (repeat first|exact aP _ _|refine lf ?_ (by first|omega|(simp;omega)) _|refine qZ ?_ (by first|omega|(simp;omega)|(simp;done)) _)):p:=h
def Qd(q m:Nat)(a:u')(N c:Nat)(y:List BS)(w:t')(e:w.1[q]?=C' (j' #[h' a N c] 264 (0,0)))(X:ζ y=N)(p:N<=60)(d:m<N)(u:lK w a y):
  Cl 240 (ya m q) w (Rb w<|cn<|cv y m):=by
 have F:y[m]?=C' (cv y m):=by rw[cv,getD,aQ I];rfl
 obtain⟨b,o,rfl,T,Q⟩:=u m _ F;have g:(m:Int)<N:=I;generalize cv y m=z at *;have E:=A e;have a:=cE w fj;have t:=aA T a;have Y:=aA Q a;have L:=À e;have s:q≠δ w.1:=I;clear u F X e T Q a;go_enter func240,ntmps240;go_wp2_with fail;refine aC (v:=cn z) (by simp[results240,go_sem,cn]) rfl ⟨rfl,?_⟩;exact Ĵ
def FT(R:RS)(hs:List BS)(N:Nat):Bool:=(range N).all λn=>Bf<|eP (kg R (cv hs) n)<|cv hs n
def JN(l B N c:Nat)(a:u')(R:RS)(y:List BS)(w:t')(v:og w B l R)(i:E5 R N)(X:ζ y=N)(u:lK w a y)(b:∀s∈y,bQ s):
  Cl 168 #[cP l N,h' a N c] w (Rb w<|i'<|FT R y N):=by
 have f:=i.most;have g:=ſ<|M v<|M i<|M X<|M u b;clear v i X u b;simp only[cP];go_enter func168,ntmps168;go_upto_region 3 with(fail)
 generalize j:(w.alloc<|j' (dB l N) 260).alloc (j' #[h' a N c] 264)=b;have U:J (Bl w b/\d' b w.1.size (dB l N) 260/\d' b (δ w.1+1) #[h' a N c] 264):=by subst j;exact⟨cU,eO.1,eO.2⟩
 clear j;have a:=À U.B;go_loopw[11] (λa wr=>∃k:Nat,k<=N/\a=G k/\J (FT R y k=P'/\Bl b wr)) (λa _=>N-(intOf a).toNat)
 case atStart=>exact⟨0,bq _,rfl,rfl,aP _ _⟩
 obtain⟨k,a,rfl,u⟩:=hrel;have a:=u.A.size;have p:Bl w wr:=aq U.a u.A;by_cases L:k<N;rotate_left
 .have a:¬(k:Int)<N:=I;have q:k=N:=I;go_wp2_with fail;go_ret;exact⟨by rw[<-q,u.a];rfl,p⟩
 have a:(k:Int)<N:=I;have F:y[k]?=C' (cv y k):=by rw[cv,getD,aQ<|by rw[g.c];exact L];rfl
 obtain⟨b,o,rfl,T,Q⟩:=g.d k _ F;have E:=aA T p;have Y:=aA Q p;have q:=A<|aF u.A U.b;have x:=ſ<|M p F;obtain⟨t,a⟩:=Ea<|Bf<|eP (kg R (cv y) k)<|cv y k;have K:J (t=Q'->FT R y N=Q'):=λh=>uK (k:=k) (a.symm.trans h) L;have HT:J (t=P'->FT R y (k+1)=P'):=λh=>by have C:=u.a;unfold FT at C|-;rw[lq,C,<-a,h];rfl
 have P:=fe g.D k;have X:J (∀W,Cl 296 #[cn<|kg R (cv y) k,cn<|cv y k] W<|Rb W<|i' t):=by rw[a];exact λW=>sd _ _ W (yx g.b (fe g.D) k) P
 have r:J (∀W,Bl wr W->Cl 226 #[cP l N,G k,.func (.func 240) #[] #[n'<|C'<|O (δ w.1+1) 0]] W (Rb W<|cn<|kg R (cv y) k)):=by intro W j;have C:=aq x.a j;refine uD l B N k _ R _ (cv y) W (g.a.below C) g.b L (fe g.D) (λD w=>Tryz.call240 D w) λm d v h=>?_;exact Qd (δ w.1+1) m _ N c y v (aF h<|aF j<|aF u.A U.B) g.c f d (λj s f=>by obtain⟨b,o,e,T,Q⟩:=g.d j s f;exact⟨b,o,e,aA (aA T C) h,aA (aA Q C) h⟩)
 simp only[cP]at r;generalize cv y k=z at *;generalize kg R (cv y) k=b at *;clear F T Q p a P;go_upto_region 5 with(fail)
 generalize g:wr.alloc (j' #[Z z.1,Z z.2] 267)=V;have B:J (Bl wr V/\d' V wr.1.size #[Z z.1,Z z.2] 267/\d' V w.1.size (dB l N) 260):=by subst g;exact⟨aY,bj _ _,aF aY<|aF u.A U.b⟩
 clear g E Y q;have E:=A B.b;have q:=A B.B;have U:χ V (O wr.1.size 0)=C' (Z z.1):=by rw[E.1];rfl
 have c:χ V (O wr.1.size 1)=C' (Z z.2):=by rw[E.1];rfl
 have a:χ V (O w.1.size 0)=C' (cw l N):=by rw[q.1];rfl
 have P:χ V (O w.1.size 1)=C' iP:=by rw[q.1];rfl
 have b:χ V (O w.1.size 2)=C' mM:=by rw[q.1];rfl
 have S:=ſ<|M U<|M c<|M a<|M P b;clear E q;simp only[cn]at r X
 go_region_held3 (λi=>χ i (O wr.1.size 0)=C' (Z z.1)/\χ i (O wr.1.size 1)=C' (Z z.2)/\χ i (O w.1.size 0)=C' (cw l N)/\χ i (O w.1.size 1)=C' iP/\χ i (O w.1.size 2)=C' mM) (go_keep) ((first|(go_at_call 226;refine(r.o _<|aq B.a ay).mono ?_;rintro e a ⟨rfl,l⟩;have p:Bl V a:=aq ay l;have r:=ſ p;have P:=aA S.a p;have F:=aA S.b p;have a:=aA S.c p;have s:=aA S.d p;have a:=aA S.D p;clear l p)|(go_at_call 296;refine(X.o _).mono ?_;rintro e v ⟨rfl,X⟩;have p:Bl V v:=aq (aq r.o ay) X;have j:=ſ p;have d:=aA S.a p;have N:=aA S.b p;have a:=aA S.c p;have a:=aA S.d p;have a:=aA S.D p;clear X p)))
 all_goals
  cases t
  .go_wp2_with fail;go_ret;exact⟨by rw[K.o<|by trivial];rfl,aq x.a<|aq B.a j.o⟩
  go_wp2_with fail;go_roundw
  case rel=>exact⟨k+1,L,f',HT.o<|by trivial,aq u.A<|aq B.a j.o⟩
  exact H'
section
variable {α:Type}{l:List BS}{x:Nd}
def L0(count:Int)(x:Nd):Bool:=match x.facts.getLast? with|some f=>decide (f<count)|none=>P'
def jW{l:List α}{x:α}(f:α->Bool)(h:l[k]?=C' x):(l.take<|k+1).all f=((l.take k).all f&&f x):=by have X:=(aV.1 h).1;rw[cX X,(aV.1 h).2];simp
def wq{l:List α}{x:α}(f:α->Bool)(h:l[k]?=C' x)(Y:f x=Q'):l.all f=Q':=by rw[vD];intro a;rw[bZ]at a;have:=a x<|aK h;rw[Y]at this;cases this
def EZ(T:u')(r:Nat)(v:List Nd)(count:Int)(w:t')(h:bX w T v)(B:∀x∈v,jR x)(K:ζ v<=60):
  Cl 167 #[h' T (ζ v) r,G count] w (Rb w<|i'<|v.all<|L0 count):=by
 have s:=ſ<|M h B;clear h B;go_enter func167,ntmps167;go_wp2_with fail;go_loopw[10] (λy wr=>∃i:Nat,i<=ζ v/\y=G i/\J ((v.take i).all (L0 count)=P'/\Bl w wr)) (λy _=>ζ v-(intOf y).toNat)
 case atStart=>exact⟨0,bq _,rfl,rfl,aP _ _⟩
 obtain⟨i,S,rfl,e⟩:=hrel;by_cases L:i<ζ v;rotate_left
 .have a:¬(i:Int)<(ζ v:Int):=I;go_wp2_with fail;go_ret;exact⟨by have C:=e.a;rw[b! I]at C;rw[C];rfl,e.A⟩
 have a:(i:Int)<(ζ v:Int):=I;obtain⟨x,F⟩:=La L;obtain⟨b,o,a,l,z,q,rc,k,rfl,T,Q,p,a,P,g⟩:=s.a.below e.A i x F;have c:=(s.A x<|aK F).fsz;have b:=ſ F;clear F;by_cases D:ζ x.facts=0
 .have U:J (L0 count x=P'):=by show _=_;rw[L0,fg.1 D];rfl
  rw[D]at T;go_wp2_with fail;go_roundw
  case rel=>exact⟨i+1,L,f',by rw[jW _ b.o,e.a,U.o];rfl,e.A.alloc e.A.size _⟩
  exact H'
 obtain⟨m,d⟩:∃m,ζ x.facts=m+1:=⟨ζ x.facts-1,I⟩;obtain⟨f,Y⟩:=La (l:=x.facts) (i:=m) I;obtain⟨o,h,rfl,j⟩:=g.facts m f Y;have a:=cE wr<|j' #[h' (C'<|O o h) (ζ x.facts) q,h' l (ζ x.a!) rc,i' x.reached,G x.rank,h' z (ζ x.aG) k] 96;have k:=aA j a;have U:J (L0 count x=decide (f<count)):=by show _=_;rw[L0,C7,d,Nat.add_sub_cancel,Y]
 clear g j Y a;rw[d]at T k;rw[d]at c;have g:(m:Int)<((m:Int)+1):=I;have B:wrap64 ((m:Int)+1-1)=m:=by unfold wrap64;omega
 by_cases T:count<=f
 .have Y:decide (f<count)=Q':=by simp;omega
  go_wp2_with fail;go_ret;exact⟨by rw[wq _ b.o<|U.o.trans Y];rfl,e.A.alloc e.A.size _⟩
 have Y:decide (f<count)=P':=by simp;omega
 go_wp2_with fail;go_roundw
 case rel=>exact⟨i+1,L,f',by rw[jW _ b.o,e.a,U.o,Y];rfl,e.A.alloc e.A.size _⟩
 exact H'
def d!(z:Array A')(m:Nat)(d:z.size=m):∀n,(madeCells z<|n*m).toList=(replicate n z.toList).flatten
 |0=>by simp[madeCells]
 |n+1=>by have B:=d! z m d n;simp only[madeCells,C0,CZ]at B|-;rw[qX,Nat.one_mul,xM,eR,B,replicate_succ',flatten_append];congr 1;rw[fF];simp only[oY,flatten_nil,fQ];refine Jk (by simp[d]) λi C a=>?_;simp only[bA,uA]at C;simp only[Jd,Jr,Function.comp,d];rw[xI n m,Nat.mul_add_mod,rG C,getElem!_pos z i I];simp
def N2(x:Nd):List Nat:=x.facts.map Int.toNat
def rT(x:Nd):BS:=cJ<|N2 x
def QJ(l:List BS):ζ (cI l)=ζ l*2:=by
 induction l with
 |nil=>rfl
 |cons a l B=>simp only[cI,b9,aW,bR]at B|-;simp[eN]at B|-;omega
def CH:∀(l:List BS)(k:Nat)(s:BS),k<ζ l->((cI l).set (k*2)<|Z s.1).set (k*2+1) (Z s.2)=cI (l.set k s)
 |[],k,s,h=>by simp at h
 |a::l,0,s,h=>by simp[cI,eN]
 |a::l,k+1,s,h=>by have:=CH l k s<|J' h;simp only[cI,b9,eN,dA,c!,da]at this|-;rw[show(k+1)*2=k*2+1+1 by omega];simp only[da];rw[this]
def xC{s:BS}(h:W.1[g]?=C' (j' (θ<|cI l) t (0,0)))(a:k<ζ l):(κ (κ W (O g<|k*2)<|Z s.1) (O g<|k*2+1)<|Z s.2).1[g]?=C' (j' (θ<|cI<|l.set k s) t (0,0)):=by rw[aw (aw h _) _];congr 2;rw[cj,cj,CH l k s a]
def QK(h:W.1[g]?=C' (j' (θ<|cI l) t (0,0)))(a:k<ζ l):∃u v,χ W (O g<|k*2)=C' u/\χ W (O g<|k*2+1)=C' v/\W.frozen? (O g<|k*2)=Q'/\W.frozen? (O g<|k*2+1)=Q':=by have E:=A h;have X:=QJ l;exact⟨(cI l)[k*2]'(I),(cI l)[k*2+1]'(I),by rw[E.1];simp,by rw[E.1];simp,E.2 _,E.2 _⟩
def IB(h:W.1[g]?=C' (j' (θ<|cI l) t (0,0))):lK W (C'<|O g 0) l:=by intro j s f;have E:=A h;have:=tX l j s f;exact⟨g,0,rfl,by rw[E.1];simpa using this.1,by rw[E.1];simpa using this.2⟩
def FX{f:Nd->α}{z:α}{v:List Nd}{i:Nat}(F:v[i]?=C' x):(((v.take i).map f)++replicate (ζ v-i) z).set i (f x)=((v.take<|i+1).map f)++replicate (ζ v-(i+1)) z:=by have X:=(aV.1 F).1;rw[oX _ _ I',cX X,(aV.1 F).2,bA,dG,kj I,jx,show ζ v-i=(ζ v-(i+1))+1 by omega,eW,dp];simp
def Ĝ{p:Prop}(h:p:=by
 induction n with
 |zero=>rfl
 |succ n B=>rw[eW,oY,B,eW];rfl):p:=h
def xr(n:Nat):(replicate n [Z 0,Z 0]).flatten=cI (replicate n (0,0)):=by exact Ĝ
def fB{B n a:Nat}{z:List A'}(h:ρ W B t a (cw g n) n z):W.1[g]?=C' (j' (θ z) t (0,0))/\B<=g:=by
 rcases h.2 with⟨e,_⟩|⟨g,a,Y,e,C,a,N,_,l,c⟩
 .simp at e
 simp at e;obtain⟨rfl,rfl⟩:=e;refine⟨?_,C⟩;rw[a];congr 2;rw[b!<|by simp[l]]at c;rw[<-c]
def UP{w:t'}{a:u'}(h:b7 w a x.facts)(D:∀f∈x.facts,0<=f):b7 w a ((N2 x).map Int.ofNat):=by
 have:(N2 x).map Int.ofNat=x.facts:=by
  rw[N2,fF]
  conv=>rhs;rw[<-map_id x.facts]
  refine eJ λf Y=>?_;have:=D f Y;simp only[Function.comp,id];exact Da this
 rw[this];exact h
def Sx(T:u')(b:Nat)(v:List Nd)(w:t')(h:bX w T v)(Y:∀x∈v,∀f∈x.facts,0<=f/\f<128)(X:∀x∈v,ζ x.facts<=128)(K:ζ v<=60):
  Cl 169 #[h' T (ζ v) b] w λe c=>∃g,e=o' (h' (C'<|O g 0) (ζ v)<|ζ v)/\lK c (C'<|O g 0) (v.map rT)/\Bl w c:=by
 obtain⟨j,S,D,P,a⟩:=cG qy;have b:J (_/\_/\_/\_):=⟨S,D,P,a⟩;clear S D P a;have s:=ſ<|M h<|M Y X;clear h Y X;go_enter func169,ntmps169;go_wp2_with (at_make;refine eK _ rfl (.tmp 7) (.tmp 7) 264 rfl w.1.size 267 j _ 2 underlying264 b.a b.b b.c .i64 .i64 (ζ v) (ζ v) (ζ v) rfl rfl rfl rfl (by rw[b.C];omega) (by unfold maxLen;omega) ak ?_;intro t a d;have V:=ſ<|M a d;clear a d);have r:J (t.1[δ w.1]?=C' (j' (θ<|cI<|((v.take 0).map rT)++replicate (ζ v-0) (0,0)) 267 (0,0))/\Bl w t):=by have C:=V.a;rw[d! _ 2 (by simp[Value.cells])<|ζ v]at C;refine⟨?_,(aP _ _).grown V.A (aD _) (λq e=>by cases e)⟩;rw[(fB C).1];congr 2;rw[uo,rI,c!,rH,<-xr];rfl
 clear V;go_loopw[11] (λy wr=>∃i:Nat,i<=ζ v/\y=G i/\J (wr.1[δ w.1]?=C' (j' (θ<|cI<|((v.take i).map rT)++replicate (ζ v-i) (0,0)) 267 (0,0))/\Bl w wr)) (λy _=>ζ v-(intOf y).toNat)
 case atStart=>exact⟨0,bq _,rfl,r.o⟩
 clear r;obtain⟨i,S,rfl,d⟩:=hrel;by_cases L:i<ζ v;rotate_left
 .have b:¬(i:Int)<(ζ v:Int):=I;go_wp2_with fail;go_ret;refine⟨δ w.1,rfl,?_,d.A⟩;have:=IB d.a;rwa[b! I,show ζ v-i=0 by omega,x6,fQ]at this
 have b:(i:Int)<(ζ v:Int):=I;obtain⟨x,F⟩:=La L;obtain⟨b,o,a,l,b,r,rc,b,rfl,B,Q,p,E,P,k⟩:=s.a.below d.A i x F;have Y:=s.b x<|aK F;have X:=s.B x<|aK F;have V:J (∀W,Bl wr W->Cl 241 #[h' a (ζ x.facts) r] W (Rb W<|cn<|rT x)):=by intro W j;have:=Kz a r (N2 x) W ((UP k.facts λf h=>(Y f h).1).below j) (λf h=>by obtain⟨g,u,rfl⟩:=bp.1 h;have:=Y g u;omega) (by simp[N2];omega);rwa[show(N2 x).length=ζ x.facts by simp[N2]]at this
 have D:=ſ F;have B:=À d.a;clear k Y F;obtain⟨z,k⟩:=Ea<|rT x;rw[<-k]at V;have c:=ſ k;clear k;have u:ζ (((v.take i).map rT)++replicate (ζ v-i) (0,0))=ζ v:=by simp;omega
 simp only[cn]at V;go_wp2_with (go_at_call 241;refine(V.o _ aY).mono ?_;rintro e t ⟨rfl,l⟩;have p:=aq aY l;have r:=aF p d.a;obtain⟨a,R,U,a,k,f⟩:=QK r (k:=i) (by rw[u];exact L);have b:=ſ<|M p r;clear l p r);go_roundw
 case rel=>
  refine⟨i+1,L,f',?_,?_⟩
  .have:=xC (s:=z) b.A (k:=i) (by rw[u];exact L);rwa[c.o,FX D.o,<-c.o]at this
  exact((aq d.A b.a).setCell (aD _) _).setCell (aD _) _
 exact H'
end
section
variable {x:Nd}{j:Nat}
def z70:Array A':=#[Z 0,Z 0]++Array.replicate 68 (G 0)
def ac8:(Tryz.prog.info? 354).map (λi=>(i.zero,i.size,i.bytes))=C' (C'<|k' z70,70,560):=H
abbrev RK:=BS×List Int
def xd(r:RK):List A':=eN r.1++r.2.map G
def gQ(l:List RK):List A':=l.flatMap xd
def iW{r:RK}(h:ζ r.2=68):ζ (xd r)=70:=by simp[xd,eN,h]
def F2:∀(l:List RK)(k:Nat)(r:RK)(j:Nat),(∀r∈l,ζ r.2=68)->l[k]?=C' r->j<70->(gQ l)[k*70+j]?=(xd r)[j]?
 |[],k,r,j,_,h,_=>by simp at h
 |a::l,0,r,j,d,h,hj=>by simp at h;subst h;simp only[gQ,b9,gN,bW];rw[iC<|by rw[iW<|d a ak];exact hj]
 |a::l,k+1,r,j,d,h,hj=>by have B:=F2 l k r j (λx F=>d x<|by simp[F]) (J' h) hj;simp only[gQ,b9]at B|-;rw[fh<|by rw[iW<|d a ak];omega,iW<|d a ak,<-B];congr 1;omega
def BL:∀(l:List RK)(k:Nat)(r g:RK)(j:Nat)(v:A'),(∀r∈l,ζ r.2=68)->l[k]?=C' r->j<70->xd g=(xd r).set j v->(gQ l).set (k*70+j) v=gQ (l.set k g)
 |[],k,r,g,j,v,_,h,_,_=>by simp at h
 |a::l,0,r,g,j,v,d,h,f,he=>by simp at h;subst h;simp only[gQ,dp,b9,gN,bW];rw[Fg _ _<|by rw[iW<|d a ak];exact f,he]
 |a::l,k+1,r,g,j,v,d,h,f,he=>by have B:=BL l k r g j v (λx F=>d x<|by simp[F]) (J' h) f he;simp only[gQ,da,b9]at B|-;rw[oX _ _<|by rw[iW<|d a ak];omega,iW<|d a ak,<-B];congr 2;omega
def YW(n:Nat):(replicate n z70.toList).flatten=gQ (replicate n ((0,0),replicate 68 0)):=by
 induction n with
 |zero=>rfl
 |succ n B=>rw[eW,oY,B,eW];simp only[gQ,b9];congr 1
def QX(l:List Int)(f:Int)(r:Int):List Int:=l.set f.toNat r
def JW(x:Nd)(k:Nat):List Int:=((x.facts.zip x.a!).take k).foldl (λl p=>QX l p.1 p.2)<|replicate 68 0
def ox(x:Nd):RK:=(rT x,JW x<|ζ x.facts)
def Xo(S:List<|Int×Int):∀l:List Int,ζ (S.foldl (λl p=>QX l p.1 p.2) l)=ζ l:=by
 induction S with
 |nil=>intro l;rfl
 |cons p S B=>intro l;rw[e8,B];simp[QX]
def Dy(x:Nd)(k:Nat):ζ (JW x k)=68:=by rw[JW,Xo];simp
def t!{a b}:=@Dy a b
def SK{f r:Int}(Y:x.facts[k]?=C' f)(b:x.a![k]?=C' r):JW x (k+1)=QX (JW x k) f r:=by
 have a:(x.facts.zip x.a!)[k]?=C' (f,r):=by rw[uy];exact⟨Y,b⟩
 have X:=(aV.1 a).1;rw[JW,cX X,(aV.1 a).2,uz];rfl
def yF{l:List RK}{r:RK}{v:A'}{r':RK}(d:∀r∈l,ζ r.2=68)(h:W.1[g]?=C' (j' (θ<|gQ l) t (0,0)))(a:l[k]?=C' r)(f:j<70)(b:xd r'=(xd r).set j v):(κ W (O g<|k*70+j) v).1[g]?=C' (j' (θ<|gQ<|l.set k r') t (0,0)):=by rw[aw h _];congr 2;rw[cj,BL l k r r' j v d a f b]
def sV{l:List RK}{r:RK}(d:∀r∈l,ζ r.2=68)(h:W.1[g]?=C' (j' (θ<|gQ l) t (0,0)))(a:l[k]?=C' r)(f:j<70):χ W (O g<|k*70+j)=(xd r)[j]?/\W.frozen? (O g<|k*70+j)=Q':=by have E:=A h;exact⟨by rw[E.1,cz,F2 l k r j d a f],E.2 _⟩
def yv{α:Type}{P:α->Prop}{l:List α}{x:α}(h:∀y∈l,P y)(F:P x):∀y∈l.set k x,P y:=by
 intro y B;rcases hU B with B|rfl
 .exact h y B
 exact F
def JY(ns:List Nd)(i:Nat):List RK:=((ns.take i).map ox)++replicate (ζ ns-i) ((0,0),replicate 68 0)
def yG(v:List Nd)(i:Nat):∀r∈JY v i,ζ r.2=68:=by
 intro r a;rcases eC.1 a with h|h
 .obtain⟨x,_,rfl⟩:=bp.1 h;exact t!
 rw[iM h];simp
def MH(v:List Nd)(h:i<=ζ v):ζ (JY v i)=ζ v:=by simp[JY];omega
def JX(v:List Nd)(h:i<ζ v):(JY v i)[i]?=C' ((0,0),replicate 68 0):=by rw[JY,fh I',bA,dG,kj I,jx,show ζ v-i=(ζ v-i-1)+1 by omega];rfl
def SM{v:List Nd}(F:v[i]?=C' x):(JY v i).set i (ox x)=JY v (i+1):=FX F
def Ka(T:u')(b:Nat)(v:List Nd)(w:t')(h:bX w T v)(Y:∀x∈v,∀f∈x.facts,0<=f/\f<68)(X:∀x∈v,ζ x.facts<=128/\ζ x.a!=ζ x.facts)(K:ζ v<=60):
  Cl 242 #[h' T (ζ v) b] w λe k=>∃g,e=o' (h' (C'<|O g 0) (ζ v)<|ζ v)/\k.1[g]?=C' (j' (θ<|gQ<|v.map ox) 354 (0,0))/\Below w.1.size w k:=by
 obtain⟨p,S,D,P,a⟩:=cG ac8;have b:J (_/\_/\_/\_):=⟨S,D,P,a⟩;clear S D P a;have s:=ſ<|M h<|M Y X;clear h Y X;go_enter func242,ntmps242;go_wp2_with (at_make;refine eK _ rfl (.tmp 9) (.tmp 9) 351 rfl w.1.size 354 p _ 70 underlying351 b.a b.b b.c .i64 .i64 (ζ v) (ζ v) (ζ v) rfl rfl rfl rfl (by rw[b.C];omega) (by unfold maxLen;omega) ak ?_;intro t a d;have V:=ſ<|M a d;clear a d);have o:J (t.1[δ w.1]?=C' (j' (θ<|gQ<|JY v 0) 354 (0,0))/\Below w.1.size w t):=by have C:=V.a;rw[d! _ 70 (by simp[Value.cells,z70])<|ζ v]at C;refine⟨?_,(aP _ _).grown V.A (aD _) (λq e=>by cases e)⟩;rw[(fB C).1];congr 2;unfold JY;rw[uo,rI,c!,rH,<-YW];rfl
 go_loopw[13] (λy wr=>∃i:Nat,i<=ζ v/\y=G i/\J (wr.1[δ w.1]?=C' (j' (θ<|gQ<|JY v i) 354 (0,0))/\Below w.1.size w wr)) (λy _=>ζ v-(intOf y).toNat)
 case atStart=>exact⟨0,bq _,rfl,o.o⟩
 obtain⟨i,S,rfl,u⟩:=hrel;by_cases L:i<ζ v;rotate_left
 .have b:¬(i:Int)<(ζ v:Int):=I;go_wp2_with fail;go_ret;refine⟨δ w.1,rfl,?_,u.A⟩;have:=u.a;unfold JY at this;rwa[b! I,show ζ v-i=0 by omega,x6,fQ]at this
 have b:(i:Int)<(ζ v:Int):=I;obtain⟨x,F⟩:=La L;obtain⟨b,o,a,ra,va,fc,rc,vc,rfl,j,r,d,l,z,c⟩:=s.a i x F;have T:=aA j u.A;have Q:=aA r u.A;have p:=aA d u.A;have b:=aA l u.A;have P:=aA z u.A;clear j r d l z;have Y:=s.b x<|aK F;have X:=s.B x<|aK F;have V:J (∀W,Bl wr W->Cl 241 #[h' a (ζ x.facts) fc] W (Rb W<|cn<|rT x)):=by intro W b;have:=Kz a fc (N2 x) W ((UP c.facts λf h=>(Y f h).1).below<|aq u.A b) (λf h=>by obtain⟨g,B,rfl⟩:=bp.1 h;have:=Y g B;omega) (by simp[N2];omega);rwa[show(N2 x).length=ζ x.facts by simp[N2]]at this
 have HX:=ſ<|M F<|M c<|M Y X;have B:=À u.a;have k:=X.1;clear c Y F X;obtain⟨z,d⟩:=Ea<|rT x;rw[<-d]at V;have c:=ſ d;clear d;simp only[cn]at V;go_upto_region 6 with(go_at_call 241;refine(V.o _ aY).mono ?_;rintro e t ⟨rfl,l⟩;have p:=aq (cE wr<|j' #[h' a (ζ x.facts) fc,h' ra (ζ x.a!) rc,i' x.reached,G x.rank,h' va (ζ x.aG) vc] 96) l;have r:=aF p u.a;have d:=aF l<|bj wr<|j' #[h' a (ζ x.facts) fc,h' ra (ζ x.a!) rc,i' x.reached,G x.rank,h' va (ζ x.aG) vc] 96;have U:=sV (j:=0) (yG v i) r (JX v L) I;have X:=sV (j:=1) (yG v i) r (JX v L) I;simp only[k!,xd,eN,dA,getElem?_cons_zero,nz]at U X;have b:=ſ<|M p<|M r d;clear l p r d)
 have B:J (Below w.1.size w (κ (κ t (O w.1.size<|i*70)<|Z z.1) (O w.1.size<|i*70+1)<|Z z.2)/\(κ (κ t (O w.1.size<|i*70)<|Z z.1) (O w.1.size<|i*70+1)<|Z z.2).1[δ w.1]?=C' (j' (θ<|gQ<|(JY v i).set i (z,JW x 0)) 354 (0,0))/\(κ (κ t (O w.1.size<|i*70)<|Z z.1) (O w.1.size<|i*70+1)<|Z z.2).1[δ wr.1]?=C' (j' #[h' a (ζ x.facts) fc,h' ra (ζ x.a!) rc,i' x.reached,G x.rank,h' va (ζ x.aG) vc] 96 (0,0))):=by
  refine⟨((aq u.A b.a).setCell (aD _) _).setCell (aD _) _,?_,?_⟩
  .have V:=yF (j:=0) (v:=Z z.1) (r':=((z.1,0),replicate 68 0)) (yG v i) b.b (JX v L) I (by simp[xd,eN]);rw[k!]at V;have u:=yF (j:=1) (v:=Z z.2) (r:=((z.1,0),replicate 68 0)) (r':=(z,replicate 68 0)) (yv (yG v i) ak) V (by rw[eQ,aB rfl,aB<|by rw[MH v S];exact L]) I (by simp[xd,eN]);rw[x7]at u;exact u
  rw[bh _ _ _ _ I',bh _ _ _ _ I'];exact b.B
 clear U X;generalize(κ t (O w.1.size<|i*70)<|Z z.1).setCell (O w.1.size<|i*70+1) (Z z.2)=V at B;have E:=A B.B;go_wp2_with fail;clear E;go_loopw[28] (λb D=>∃j:Nat,j<=ζ x.facts/\b=G j/\J (Below w.1.size w D/\D.1[δ w.1]?=C' (j' (θ<|gQ<|(JY v i).set i (z,JW x j)) 354 (0,0))/\D.1[δ wr.1]?=C' (j' #[h' a (ζ x.facts) fc,h' ra (ζ x.a!) rc,i' x.reached,G x.rank,h' va (ζ x.aG) vc] 96 (0,0)))) (λb _=>ζ x.facts-(intOf b).toNat)
 case atStart=>exact⟨0,bq _,rfl,B.o⟩
 rename t'=>D
 obtain⟨j,b,rfl,N⟩:=hrel;by_cases F:j<ζ x.facts;rotate_left
 .have R:¬(j:Int)<(ζ x.facts:Int):=I;go_wp2_with fail;go_roundw
  case rel=>
   refine⟨i+1,L,f',?_,N.a⟩;have:=N.b;rw[show j=ζ x.facts by omega,c.o]at this;rw[<-SM HX.a];exact this
  exact H'
 have R:(j:Int)<(ζ x.facts:Int):=I;have b:ζ x.a!=ζ x.facts:=HX.D;obtain⟨f,Y⟩:=La F;obtain⟨r,hr⟩:=La (l:=x.a!) (i:=j) I;have b:=HX.c f<|aK Y;obtain⟨d,rfl⟩:∃d:Nat,f=d:=⟨f.toNat,I⟩;have b:(d:Int)<68:=I;have l:J (vy D a ra va fc rc vc x):=HX.b.below N.a;obtain⟨b2,o2,rfl,cf⟩:=l.o.facts j _ Y;obtain⟨b3,o3,rfl,cr⟩:=l.o.a! j _ hr;have E:=A N.B;have b:((JY v i).set i (z,JW x j))[i]?=C' (z,JW x j):=by rw[eQ,aB rfl,aB<|by rw[MH v S];exact L]
 have R:=yv (x:=(z,JW x j)) (k:=i) (yG v i)<|Dy x j;obtain⟨u,C⟩:=La (l:=(xd (z,JW x j))) (i:=2+d) (by rw[iW<|Dy x j];omega);have U:=sV (j:=2+d) R N.b b I;rw[C]at U;have X:i*70+(2+d)=i*70+2+d:=I;rw[X]at U;have l:=À N.b;have a:=À N.B;have a:δ wr.1≠δ w.1:=I
 have p:J (Below w.1.size w (κ D.drew (O w.1.size<|i*70+2+d)<|G r)/\(κ D.drew (O w.1.size<|i*70+2+d)<|G r).1[δ w.1]?=C' (j' (θ<|gQ<|(JY v i).set i (z,JW x<|j+1)) 354 (0,0))/\(κ D.drew (O w.1.size<|i*70+2+d)<|G r).1[δ wr.1]?=C' (j' #[h' (C'<|O b2 o2) (ζ x.facts) fc,h' (C'<|O b3 o3) (ζ x.a!) rc,i' x.reached,G x.rank,h' va (ζ x.aG) vc] 96 (0,0))):=by
  refine⟨N.a.drew.setCell (aD _) _,?_,?_⟩;rotate_left
  .rw[bh _ _ _ _ a];exact N.B
  have e:=yF (j:=2+d) (v:=G r) (r':=(z,JW x<|j+1)) R (W:=D.drew) N.b b I (by
   rw[SK Y hr];simp only[xd,QX,rK]
   rw[oX _ _<|by simp[eN],show 2+d-ζ (eN z)=d by simp[eN],mx])
  rw[X,x7]at e;exact e
 clear Y hr b R C X;go_wp2_with fail
 go_region
 all_goals
  go_wp2_with fail;go_roundw
  case rel=>exact⟨j+1,F,f',p.o⟩
  exact H'
end
def kU(w:t'):Prop:=∀j,j<64->χ w (O 0 j)=C' (.int .u8 ((Lib.deBruijn64tab.getD j 0:Nat):Int))
def kU.below{w a:t'}(h:kU w)(b:Bl w a):kU a:=λj f=>aA (h j f) b
def abK(x a:Nat)(F:x<18446744073709551616)(z:x≠0)(i:x&&&(18446744073709551616-x)=a):
  IntKind.u64.wrap (bits BinOp.and IntKind.u64 (x:Int) (IntKind.u64.wrap<|-(x:Int))*285870213051353865) / 288230376151711744=((a*285870213051353865 % 18446744073709551616 / 288230376151711744:Nat):Int):=by
 have V:IntKind.u64.wrap (-(x:Int))=((18446744073709551616-x:Nat):Int):=by rw[xP];omega
 rw[V,bits_and_u64_nat x _ F I,i,xP];omega
def WV(x k a:Nat)(w:t')(z:((x:Int)==0)=Q')
  (X:IntKind.u64.wrap (bits BinOp.and IntKind.u64 (x:Int) (IntKind.u64.wrap<|-(x:Int))*285870213051353865) / 288230376151711744=(a:Int))
  (S:a<64) (b:k<64) (Y:χ w (O 0 a)=C' (.int .u8 (k:Int))):
  Cl 228 #[Z x] w λe a=>e=o' (G k)/\a=w:=by
 go_enter func228,ntmps228;go_wp2_with (simp only[X]);go_ret;exact⟨rfl,rfl⟩
def abL(x:Nat)(w:t')(F:x<18446744073709551616)(z:x≠0)(b:kU w):
  Cl 228 #[Z x] w λe a=>e=o' (G ((Lib.ctz 64 x:Nat):Int))/\a=w:=by
 obtain⟨i,c⟩:=Lib.lowest_bit 64 x z F;obtain⟨S,a⟩:=Lib.deBruijn64_at _ c;have Y:=b _ S;rw[a]at Y;exact WV x _ _ w (by rw[dO];omega) (abK x _ F z i) S c Y
def GY(x:Nat)(F:x<18446744073709551616)(z:x≠0):Lib.ctz 64 x<64/\x.testBit (Lib.ctz 64 x)=P'/\(∀i,i<Lib.ctz 64 x->x.testBit i=Q')/\∀i,(x&&&(x-1)).testBit i=(x.testBit i&&decide (i≠Lib.ctz 64 x)):=by
 obtain⟨m,d,b⟩:=Lib.ctzFrom_spec 64 x I F;have e:Lib.ctz 64 x=Lib.ctzFrom 64 x:=by simp[Lib.ctz,z]
 rw[e];generalize Lib.ctzFrom 64 x=k at d b;have U:0<2 ^ k:=Br I;have a:∀i,x.testBit i=(decide (k<=i)&&(2*m+1).testBit (i-k)):=by intro i;rw[d,xI,Nat.testBit_mul_two_pow]
 have Q:(x-1) / 2 ^ k=2*m:=by
  have:x-1=2 ^ k*(2*m)+(2 ^ k-1):=by rw[d,Nat.mul_add,rJ];omega
  rw[this,Rm U,Rl I];omega
 refine⟨b,?_,?_,?_⟩
 .rw[a];simp
 .intro i S;rw[a];simp;omega
 intro i;rw[Nat.testBit_and];by_cases C:i<k
 .rw[a,show decide (k<=i)=Q' by simp;omega];simp
 have b:(x-1).testBit i=(2*m).testBit (i-k):=by rw[<-Q,Nat.testBit_div_two_pow];congr 1;omega
 rw[b];by_cases N:i=k
 .subst N;simp
 obtain⟨j,f⟩:∃j,i-k=j+1:=⟨i-k-1,I⟩;rw[a,f,Nat.testBit_succ,Nat.testBit_succ,show(2*m+1) / 2=m by omega,show 2*m / 2=m by omega];cases a:m.testBit j<;>simp[N]
def nt(x base:Nat):List Nat:=((range 64).filter x.testBit).map (base+·)
def Lq{p:Nat->Bool}{k n:Nat}(a:k<n)(C:p k=P')(c:∀i,i<k->p i=Q'):(range n).filter p=k::(range n).filter λi=>p i&&decide (i≠k):=by
 have e:range n=range k++(k::(range<|n-k-1).map (λj=>k+1+j)):=by rw[show n=k+(1+(n-k-1))by omega,xM,xM];simp[kI,ld]
 have d:∀q:Nat->Bool,(∀i,i<k->q i=Q')->(range k).filter q=[]:=by intro q f;rw[Jt];intro a b;rw[cq]at b;rw[f a b];simp
 rw[e,C8,C8,d p c,d (λi=>p i&&decide (i≠k)) λi S=>by rw[c i S];rfl,c!,c!,nD,nD,C];simp only[b8,ne_eq,not_true_eq_false,decide_false,Bool.and_false,bV,bB];congr 1;refine Jf ?_;intro a b;simp only[bp,cq]at b;obtain⟨j,_,rfl⟩:=b;simp;intro _;omega
def LN(x k:Nat)(F:x<18446744073709551616)(z:x≠0):nt x k=(k+Lib.ctz 64 x)::nt (x&&&(x-1)) k:=by obtain⟨D,C,a,N⟩:=GY x F z;rw[nt,Lq D C a,dX];congr 2;refine Jf λi _=>(N i).symm
def su(k:Nat):nt 0 k=[]:=by rw[nt,Jt.2 (by intro a _;simp)];rfl
def dj(s:BS):List Nat:=nt s.1 0++nt s.2 64
def qq(s:BS)(y:bQ s)(f:Nat):f∈dj s↔f<128/\bt s f=P':=by
 unfold dj nt bt;rw[eC,bp,bp];constructor
 .rintro(⟨a,b,rfl⟩|⟨a,b,rfl⟩)<;>rw[C!,cq]at b
  .rw[aB I,bW];exact⟨I,b.2⟩
  rw[ax I,Js];exact⟨I,b.2⟩
 rintro⟨C,a⟩;by_cases h:f<64
 .rw[aB h]at a;exact aI ⟨f,by rw[C!,cq];exact⟨h,a⟩,I⟩
 rw[ax h]at a;exact aH ⟨f-64,by rw[C!,cq];exact⟨I,a⟩,I⟩
def fz{a}:=@qq a
def vi(s:BS):dj s=(range 128).filter (bt s):=by rw[dj,nt,show(128:Nat)=64+64 from rfl,xM,C8,filter_map];congr 1;simp only[bW,map_id'];refine Jf λi S=>?_;rw[cq]at S;rw[bt,aB S]
def nY(s:BS):ζ (dj s)<=128:=by rw[vi];exact br (length_filter_le _ _) ak
section
attribute [local go_sem] Oper.semAt_some
def tZ(s:BS)(w:t'):
  Cl 154 #[cn s] w λe a=>e=o' (.func (.func 227) #[]<|bM w.1.size)/\a=w.alloc (kK s.1 s.2):=by
 simp only[cn];go_enter func154,ntmps154;go_wp2_with fail;go_ret;exact⟨rfl,rfl⟩
def kU.keeps{d:Nat}{w a:t'}(h:kU w)(c:0<d)(b:Below d w a):kU a:=λj f=>(b.cell (p:=(O 0 j)) c).trans<|h j f
abbrev kG(s:BS):={f:Nat // f∈dj s}
def à(s:BS)(k:Nat):Nat:=if k=0 then s.1 else s.2
def Ð(s:BS)(k:Nat):List Nat:=if k=0 then dj s else if k=1 then nt s.2 64 else[]
def K?(s:BS)(k:Nat)(a:k<2)(w:t'):(Instr.index 267 (lj s.1 s.2)<|G k).run Tryz.prog w=.ok (Z ((à s k:Nat):Int)) w:=by
 match k,a with
 |0,_=>exact sh _ _ w
 |1,_=>exact sg _ _ w
def SF(s:BS)(k:Nat)(a:k<2):Ð s k=nt (à s k) (k*64)++Ð s (k+1):=by
 match k,a with
 |0,_=>simp[Ð,à,dj]
 |1,_=>simp[Ð,à]
def lJ(n:Nat)(K:1<=n)(s:BS)(B d:Nat)(w:t')(y:bQ s)(T:χ w (O B 0)=C' (Z s.1))(Q:χ w (O B 1)=C' (Z s.2))(b:kU w)(K:0<d)(V:d<=δ w.1):
  SeqStopsK Fence.wide n Tryz.prog 227 (bM B) (λx:kG s=>#[G x.1]) (Below d) (λD=>D.map Subtype.val=dj s) (λp=>p.map Subtype.val <+: dj s) (ζ<|dj s) w:=by
 intro l c a W j a a E D;have t:=aA T j;have Y:=aA Q j;have X:=ſ<|b.below j;clear T Q b;refine callsIn_of_wp func227 rfl trivial ?_ rfl;simp only[ntmps227,kH,bR,de,Nat.reduceAdd,Nat.reduceSub,sF,sE,sD,sC,c!,dA]
 gi_wp2
 gi_loopw[6] (λi wr=>∃(k:Nat)(p:List<|kG s),k<=2/\i=G k/\J (p.map Subtype.val++Ð s k=dj s)/\J (c p wr/\Below d W wr)) (λi _=>2-(intOf i).toNat)
 case atStart=>exact⟨0,[],I,rfl,rfl,D,aP _ _⟩
 obtain⟨k,p,a,rfl,Q,N⟩:=hrel;by_cases L:k<2;rotate_left
 .have e:¬(k:Int)<2:=I;have a:k=2:=I;subst a
  gi_wp2
  go_end0
  refine⟨⟨_,rfl⟩,.inl ⟨p,?_,N.a⟩⟩;have:=Q.o;rwa[show Ð s 2=[] from rfl,fQ]at this
 have e:(k:Int)<2:=I;have e:=λw=>K? s k L w;have a:à s k<18446744073709551616:=by unfold à;split;(· exact y.lo);exact y.hi
 obtain⟨F,z⟩:=Ea<|à s k;rw[<-z]at e a;have e:=ſ z;clear z
 gi_wp2
 gi_loopw[4] (λR q=>∃(x:Nat)(u:List<|kG s),x<18446744073709551616/\R=Z x/\J (u.map Subtype.val++(nt x (k*64)++Ð s (k+1))=dj s)/\J (c u q/\Below d W q)) (λR _=>(intOf R).toNat)
 case atStart=>exact⟨F,p,a,rfl,by show _=_;rw[e.o,<-SF s k L];exact Q.o,N.o⟩
 obtain⟨x,u,d,rfl,S,j⟩:=hrel;by_cases f:x=0
 .have C:((x:Int) !=0)=Q':=by simp[f]
  gi_wp2
  go_roundw
  case rel=>exact⟨k+1,u,I,f',by have:=S.o;rwa[f,su,c!]at this,j.o⟩
  exact H'
 have C:((x:Int) !=0)=P':=by simp;omega
 have i:=LN x (k*64) d f;obtain⟨a,_,_,_⟩:=GY x d f;obtain⟨c,T⟩:=Ea<|Lib.ctz 64 x;have o:J (∀W,kU W->Cl 228 #[Z x] W λe p=>e=o' (G c)/\p=W):=by rw[T];exact λW b=>abL x W d f b
 rw[<-T]at i a;have h:k*64+c∈dj s:=by have:=S.o;rw[i]at this;rw[<-this];simp
 have L:ζ u<ζ (dj s):=by have:=cQ length S.o;rw[i]at this;simp at this;omega
 obtain⟨g,r,b,a,B,v⟩:=E u ⟨k*64+c,h⟩ wr j.a L;have f:(Instr.yield l #[G<|(k:Int)*64+(c:Int)]).run Tryz.prog wr=.ok (.round l g r b a) wr:=by have e:(((k*64+c:Nat):Int))=(k:Int)*64+(c:Int):=I;rw[<-e];exact B
 have E:IntKind.u64.wrap ((x:Int)-1)=((x-1:Nat):Int):=by rw[xP];omega
 have a:=bits_and_u64_nat x (x-1) d I;have a:=ſ<|X.o.keeps K j.A;have P:J ((u++[(⟨k*64+c,h⟩:kG s)]).map Subtype.val++(nt (x&&&(x-1)) (k*64)++Ð s (k+1))=dj s):=by show _=_;have:=S.o;rw[i]at this;rw[eR,Jv,df,Ju,<-dA];exact this
 clear i T B
 gi_wp2_with (refine⟨trivial,?_⟩;gi_at_call 228;refine(gw.2<|o.o _ a.o).mono ?_;rintro e p ⟨rfl,rfl⟩)
 refine v.mono ?_;rintro e o (⟨rfl,b,U⟩|⟨rfl,a⟩)
 .gi_wp2
  go_roundw
  case rel=>exact⟨x&&&(x-1),u++[(⟨k*64+c,h⟩:kG s)],Jq Nat.and_le_left d,rfl,P,b,j.A.trans U⟩
  have:x&&&(x-1)<=x-1:=Nat.and_le_right;exact H'
 gi_wp2
 refine aC (xX rfl _ _ _) rfl ?_;refine⟨⟨_,rfl⟩,.inr ⟨u++[⟨k*64+c,h⟩],?_,a⟩⟩;exact⟨_,P.o⟩
end
section
attribute [local go_sem] Oper.semAt_some
def BG{α:Type}{P:List α->Prop}(D:P [])(C:∀l a,P l->P (l++[a]))(l:List α):P l:=by
 have:∀r:List α,P r.reverse:=by
  intro r;induction r with
  |nil=>exact D
  |cons a r B=>rw[reverse_cons];exact C _ _ B
 have:=this l.reverse;rwa[reverse_reverse]at this
def qS(r:RK)(rank:Int)(fs:List Nat):BS:=fs.foldl (λs f=>if r.2.getD f 0<rank then e7 s (cJ [f]) else s) (0,0)
def uX(r:RK)(rank:Int):BS:=qS r rank<|dj r.1
def uY(r:RK)(a:Int)(o:List Nat)(f:Nat):qS r a (o++[f])=if r.2.getD f 0<a then e7 (qS r a o) (cJ [f]) else qS r a o:=by simp[qS]
def Ns(r:RK)(a:Int):∀(o:List Nat),(∀f∈o,f<128)->bQ (qS r a o):=by
 intro o;refine BG (P:=λo=>(∀f∈o,f<128)->bQ (qS r a o)) ?_ ?_ o
 .intro _;exact(show bQ (0,0)from⟨aj,aj⟩)
 intro l f B h;rw[uY];have C:=B λx F=>h x (by simp[F]);split
 .exact gG C (ie _ λg a=>by rw[eX.1 a];exact h f ak)
 exact C
def qB{s:BS}(pre:List<|kG s):List Nat:=pre.map Subtype.val
def nh{s:BS}(p:List<|kG s)(x:kG s):qB (p++[x])=qB p++[x.1]:=by simp[qB]
def lH{β:Type}{B k:Nat}(o:β->Obj)(a:k<B):OwnFrom B λ(s:β) W=>W.1[k]?=C' (o s):=λs W a q y b a=>(b.block k (À y) λe=>L'<|(a k e.symm).1).trans y
def dJ{W a:t'}(h:Bl W a):KeepsOthers W a:=⟨h.size,λk o a _=>(h.block k<|À a).trans a⟩
def Z0(w:t')(a f e b c:Obj):(((((w.alloc a).alloc f).alloc e).alloc b).alloc c).1[δ w.1]?=C' a/\(((((w.alloc a).alloc f).alloc e).alloc b).alloc c).1[δ w.1+1]?=C' f/\(((((w.alloc a).alloc f).alloc e).alloc b).alloc c).1[δ w.1+1+1]?=C' e/\(((((w.alloc a).alloc f).alloc e).alloc b).alloc c).1[δ w.1+1+1+1]?=C' b/\(((((w.alloc a).alloc f).alloc e).alloc b).alloc c).1[δ w.1+1+1+1+1]?=C' c:=by obtain⟨C,d,N,d⟩:=qL w a f e b;have y:δ ((((w.alloc a).alloc f).alloc e).alloc b).1=δ w.1+1+1+1+1:=ak;have l:=bj ((((w.alloc a).alloc f).alloc e).alloc b) c;rw[y]at l;refine⟨?_,?_,?_,?_,l⟩;all_goals(rw[ch _ _ _<|by rw[y];omega];assumption)
def SJ(r:RK)(rank:Int)(w:t')(B:bQ r.1)(L:ζ r.2=68)(g:∀f∈dj r.1,f<68)(k:kU w):
  Cl 244 #[k'<|θ<|xd r,G rank] w (Rb w<|cn<|uX r rank):=by
 refine(gw (n:=6)).1 ?_;refine callsIn_of_wp_marks func244 rfl trivial ?_ rfl;simp only[ntmps244,kH,bR,de,Nat.reduceAdd,Nat.reduceSub,sF,sE,sD,sC,c!,dA];obtain⟨⟨s1,s2⟩,rs⟩:=r;simp only[xd,eN,dA,c!]at *
 gi_wp2_with (refine⟨trivial,?_⟩;gi_at_call 154;refine(gw.2<|tZ (s1,s2) _).mono ?_;rintro e t ⟨rfl,rfl⟩)
 generalize j:((((w.alloc<|j' (θ<|Z s1::Z s2::rs.map G) 354).alloc<|j' #[G rank] 3).alloc fj).alloc fj).alloc (kK s1 s2)=c;have b:J (Bl w c/\d' c w.1.size (θ<|Z s1::Z s2::rs.map G) 354/\c.1[δ w.1+1]?=C' (iN rank)/\c.1[δ w.1+1+1]?=C' jo/\c.1[δ w.1+1+1+1]?=C' jo/\c.1[δ w.1+1+1+1+1]?=C' (q! s1 s2)):=by subst j;exact⟨oe.alloc I' _,Z0 _ _ _ _ _ _⟩
 clear j;have j:=À b.E;have j:0<δ w.1:=dh<|k 0 aj;have s:=ſ<|M B<|M L g
 refine wpIn_rangeFunc_ownF rfl I (gf:=227) (lb:=#[n'<|C'<|O (δ w.1+1+1+1+1) 0]) rfl trivial (λD w=>Tryz.call227 D w)
  (lJ 5 I (s1,s2) (δ w.1+1+1+1+1) w.1.size c B ((A b.E).1 0) ((A b.E).1 1) (k.below b.a) j b.a.size) belowK_t (belowK_b b.a.size) (aP _ _) (λ_=>rfl)
  (λp W=>(W.1[δ w.1]?=C' (j' (θ<|Z s1::Z s2::rs.map G) 354 (0,0))/\W.1[δ w.1+1]?=C' (iN rank)/\W.1[δ w.1+1+1]?=C' jo/\W.1[δ w.1+1+1+1]?=C' (j' #[Z ((qS ((s1,s2),rs) rank<|qB p).1:Int),Z ((qS ((s1,s2),rs) rank<|qB p).2:Int)] 267 (0,0)))/\Bl w W)
  (λ_ _ _=>False)
  (OwnFrom.and (OwnFrom.and (lH (λ_=>_) I)<|OwnFrom.and (lH (λ_=>_) I)<|OwnFrom.and (lH (λ_=>_) I)<|lH (λ_=>_) I)<|ownFrom_below (aD _) b.a.size)
  (λ_ _ _ _ _ y _ _=>y)
  ⟨⟨b.b,b.c,b.d,b.e⟩,b.a⟩
  (λx=>{tmps:=#[k'<|θ<|Z s1::Z s2::rs.map G,G rank,n'<|cA w.1.size,n'<|C'<|O (δ w.1+1) 0,n'<|C'<|O (δ w.1+1+1) 0,n'<|C'<|O (δ w.1+1+1+1) 0,G x.1,n'<|cA w.1.size,k' #[Z s1,Z s2],.func (.func 227) #[] #[n'<|C'<|O (δ w.1+1+1+1+1) 0],G x.1,undef,undef,undef,undef,undef,undef,undef,undef,undef,undef,undef,undef,undef],defers:=[]}) ?assign ?body ?done ?stop
 case assign=>
  intro l x W K hK
  gi_wp2
  exact hK
 case body=>
  rintro l p ⟨f,Y⟩ W ⟨⟨b0,b1,o,b3⟩,hB⟩ _;have b:=s.B f Y;have b:(f:Int)<68:=I;have B:=s.b;obtain⟨v,R⟩:=La (l:=rs) (i:=f) I;have U:χ W (O w.1.size<|2+f)=C' (G v):=by rw[(A b0).1,cz,show 2+f=f+1+1 by omega,nz,nz,bH,R];rfl
  obtain⟨z,E⟩:=A b1;obtain⟨z1,k⟩:=A b3;obtain⟨u,C⟩:=Ea<|qS ((s1,s2),rs) rank<|qB p;have c:bQ u:=by rw[C];exact Ns _ _ _ λg j=>by obtain⟨⟨q,b⟩,_,rfl⟩:=bp.1 j;have:=s.B q b;simp only;omega
  have q:qS ((s1,s2),rs) rank (qB<|p++[(⟨f,Y⟩:kG (s1,s2))])=if v<rank then e7 u (cJ [f]) else u:=by rw[nh,uY,C];simp only[getD,R,Df]
  rw[<-C]at b3 z1;have B:=ſ<|M q<|M b0<|M b1<|M o b3;have D:=À b3;clear C q R b0 b1 o b3
  gi_wp2
  refine wpIn_mono (Q:=λe a q=>e=.normal/\a={tmps:=#[k'<|θ<|Z s1::Z s2::rs.map G,G rank,n'<|cA w.1.size,n'<|C'<|O (δ w.1+1) 0,n'<|C'<|O (δ w.1+1+1) 0,n'<|C'<|O (δ w.1+1+1+1) 0,G f,n'<|cA w.1.size,k' #[Z s1,Z s2],.func (.func 227) #[] #[n'<|C'<|O (δ w.1+1+1+1+1) 0],G f,G f,n'<|C'<|O w.1.size 2,n'<|C'<|O w.1.size<|2+f,G v,G rank,i' (decide (v<rank)),undef,undef,undef,undef,undef,undef,undef],defers:=[]}/\q=W.drew) ?_ ?_
  .gi_region
   all_goals gi_wp2
  rintro e a q ⟨rfl,rfl,rfl⟩;clear U z E;by_cases z:v<rank;rotate_left
  .gi_wp2
   refine⟨KeepsOthers.drew _,(aP _ _).drew,⟨B.b,B.c,B.d,?_⟩,hB.drew⟩;rw[B.a,ax I];exact B.D
  have V:J (∀X b,χ X (O b 0)=C' (G f)->Cl 241 (mL b) X (Rb X<|cn<|cJ [f])):=λX b T=>kz X b f I T;have s:J (∀(X:t') b,χ X (O b 0)=C' (Z u.1)->χ X (O b 1)=C' (Z u.2)->χ X (O b 2)=C' (Z ((cJ [f]).1:Int))->χ X (O b 3)=C' (Z ((cJ [f]).2:Int))->Cl 267 (rf b) X (Rb X<|cn<|e7 u<|cJ [f])):=λX b D C t N=>by have:=fA X b u (cJ [f]) c (ie _ λg j=>by rw[eX.1 j];omega) D C t N;exact this
  have C:J (qS ((s1,s2),rs) rank (qB<|p++[(⟨f,Y⟩:kG (s1,s2))])=e7 u (cJ [f])):=by show _=_;rw[B.a,aB z]
  obtain⟨b,g⟩:=Ea<|cJ [f];obtain⟨z,b⟩:=Ea<|e7 u<|cJ [f];rw[<-b]at C s;rw[<-g]at V s;clear g b c;simp only[cn]at V s
  gi_wp2
  refine wpIn_mono (Q:=λe a q=>e=.normal/\∃F,Bl W F/\q=κ (κ F (O (δ w.1+1+1+1) 0)<|Z z.1) (O (δ w.1+1+1+1) 1) (Z z.2)) ?_ ?_
  .gi_region_with (first|(refine⟨trivial,?_⟩;gi_at_call 241;refine(CallsIn.inRound l<|gw.2<|V.o _ _ ak).mono ?_;rintro e t ⟨rfl,g⟩;have c:J (Bl W t):=aq ay g;clear z1 k g;obtain⟨z1,k⟩:=A<|aF c.o B.D)|(refine⟨trivial,?_⟩;gi_at_call 267;refine(CallsIn.inRound l<|gw.2<|s.o _ _ ak ak ak ak).mono ?_;rintro e F ⟨rfl,X⟩;have j:J (Bl W F):=aq (aq c.o ay) X;clear z1 k X;obtain⟨z1,k⟩:=A<|aF j.o B.D))
   all_goals exact⟨rfl,F,j.o,rfl⟩
  rintro e a q ⟨rfl,F,X,rfl⟩;have y:=X.size;refine⟨(dJ X).trans<|(KeepsOthers.setCell _ _ _).trans<|KeepsOthers.setCell _ _ _,?_,⟨?_,?_,?_,?_⟩,?_⟩
  .exact(((X.mono hB.size).setCell I' _).setCell I' _)
  .rw[bh _ _ _ _ I',bh _ _ _ _ I'];exact aF X B.b
  .rw[bh _ _ _ _ I',bh _ _ _ _ I'];exact aF X B.c
  .rw[bh _ _ _ _ I',bh _ _ _ _ I'];exact aF X B.d
  .rw[C.o,aw (aw (aF X B.D) _) _];rfl
  exact((aq hB X).setCell I' _).setCell I' _
 case done=>
  rintro D c W t u ⟨⟨b0,b1,o,b3⟩,hB⟩ hK;obtain⟨z,b⟩:=Ea<|qS ((s1,s2),rs) rank<|qB c;have c:J (uX ((s1,s2),rs) rank=z):=by show _=_;rw[b];rw[uX,qB,u]
  rw[<-b]at b3;obtain⟨E,g⟩:=A o;obtain⟨z1,k⟩:=A b3;have B:=ſ<|M o b3;have s:δ w.1+1+1≠δ w.1+1+1+1:=I;clear b0 b1 o b3 b u
  gi_wp2
  have g:(κ (κ W (O (δ w.1+1+1) 0)<|Z z.1) (O (δ w.1+1+1) 1)<|Z z.2).1[D]?=C' (.deferred<|C' []):=((KeepsOthers.setCell _ _ _).trans<|KeepsOthers.setCell _ _ _).same D _ hK rfl;refine⟨ak,.inl ⟨_,_,rfl,run_takeDeferred g,?_⟩⟩;have b:χ (κ (κ W (O (δ w.1+1+1) 0)<|Z z.1) (O (δ w.1+1+1) 1)<|Z z.2) (O (δ w.1+1+1) 0)=C' (Z z.1):=by rw[(A<|aw (aw B.a _) _).1];rfl
  have r1:χ (κ (κ W (O (δ w.1+1+1) 0)<|Z z.1) (O (δ w.1+1+1) 1)<|Z z.2) (O (δ w.1+1+1) 1)=C' (Z z.2):=by rw[(A<|aw (aw B.a _) _).1];rfl
  have j:=cell_kept b (grownBy_putObj' _ D<|.deferred D') (λr e=>by cases e;exact⟨_,g,rfl⟩);have R:=cell_kept r1 (grownBy_putObj' _ D<|.deferred D') (λr e=>by cases e;exact⟨_,g,rfl⟩);have b:Bl w (κ (κ W (O (δ w.1+1+1) 0)<|Z z.1) (O (δ w.1+1+1) 1)<|Z z.2):=(hB.setCell I' _).setCell I' _;refine⟨cn z,by simp[results244,go_sem,cn,j,R],by rw[c.o],?_⟩;exact b.trans<|belowK_b (w:=w) (aD _) _ D _ _ I g rfl rfl
 rintro D c p W _ _ h _;exact h.elim
end
def MQ{σ α:Type}{F:Fence}{n:Nat}{P:Program}{g:Operand}{ps:Array Tmp}{assign body:Code}{Q:Exit->Act->t'->Prop}{a:Act}{w:t'}
    (o:F.round=D') (h1:1<=n) {gf:Nat} {lb:Array A'} (hg:a.eval g=.func (.func gf) #[] lb) (ae:F.fn gf) (X:∀args w,(callFunc gf args).run P w=.ok (.enter gf args) w)
    {Qy:α->Array A'} (T:∀x,(Qy x).size=ps.size) (f N:σ->t'->Prop) (V:α->σ->t'->Prop) (lt:σ->σ->Prop) (R:OwnFrom w.1.size f) (E:OwnFrom w.1.size N) (z:∀x,OwnFrom w.1.size<|V x) {s0:σ} (h0:f s0 w)
    (hit:∀(l:Nat)(K:t'->Prop)(W:t'),(∀b B,K b->KeepsOthers b B->K B)->(∀s x i,V x s i->K i->YieldAt F (n-1-1) P l (Qy x) i λe m=>e=o' (i' P')/\(∃q,lt q s/\f q m)/\K m)->f s0 W->K W ->
      CallsIn F (n-1) P gf (#[.func (.yield l) #[] #[]]++lb) W λe m=>(∃v,e=o' v)/\(∃s,N s m)/\K m)
    (u:α->Act)
    (d:∀(l:Nat)(x:α)(W:t')(K:Act->t'->Prop),K (u x) W ->
      assign.wpIn (F.inRound l) (n-1-1) P (Exit.then K λ_ _ _=>False) {tmps:=(ps.zip<|Qy x).foldl (λt (p,v)=>t.setIfInBounds p v) a.tmps,defers:=[]} W)
    (r:∀(l:Nat)(s:σ)(x:α)(W:t'),V x s W->body.wpIn (F.inRound l) (n-1-1) P (λe _ m=>e=.normal/\KeepsOthers W m/\∃q,lt q s/\f q m) (u x) W)
    (C:∀(D:Nat)(s:σ)(W:t'),δ w.1<=D->N s W->W.1[D]?=C' (.deferred<|C' [])->Q .normal {a with defers:={target:=.collected D,args:=#[]}::a.defers} W):
    (Code.rangeFunc g ps assign body).wpIn F n P Q a w:=by
  refine wpIn_rangeFunc ?_;intro fn U;rw[o];obtain⟨rec,c⟩:=Ea (λst pe=>{state:=st,pending:=pe,fn,tmps:=a.tmps,params:=ps,assign,body,defers:=δ w.1}:LoopState->Option Code->Loop);obtain⟨i,j⟩:∃i,(w.alloc<|.deferred<|C' []).alloc (.loop<|rec .ready D')=i:=⟨_,rfl⟩;have L:i.1[δ w.1+1]?=C' (.loop<|rec .ready D'):=by rw[<-j];have:=World.alloc_heap_new (w.alloc<|.deferred<|C' [])<|.loop<|rec .ready D';rwa[World.size_alloc]at this
  have aa:i.1[δ w.1]?=C' (.deferred<|C' []):=by rw[<-j];exact(ch _ _ _ ak).trans<|World.alloc_heap_new w _
  have Y:f s0 i:=by rw[<-j];exact R.alloc _<|R.alloc _ h0
  refine⟨δ w.1+1,[{target:=.collected w.1.size,args:=#[]}],i,{target:=.fn (.func gf) lb,args:=#[.func (.yield<|δ w.1+1) #[] #[]]},i,gf,
    #[.func (.yield<|δ w.1+1) #[] #[]]++lb,i,?_,?_,?_,?_,λ_=>h1,?_⟩
  · rw[<-j,c];exact run_enterLoop_outer _ _ _ _ _
  · simp only[resolve,hg]
    simp[go_sem]
  · intro f y;simp[Target.leads]at y;subst y;exact ae
  · simp[invoke,go_sem,X]
  refine(hit (δ w.1+1) (λW=>W.1[δ w.1+1]?=C' (.loop<|rec .ready D')/\W.1[δ w.1]?=C' (.deferred<|C' [])) i (λb B h k=>⟨k.same _ _ h.1 rfl,k.same _ _ h.2 rfl⟩) ?_ Y ⟨L,aa⟩).mono ?_;rotate_left
  · rintro e F ⟨⟨v,rfl⟩,⟨s,y⟩,X,b⟩
    exact⟨D',_,by have:=run_endLoop (P:=P) X (by rw[c];simp);rwa[c]at this,C _ s _ (aD _) (E.putObj _ y I X rfl)<|(World.putObj_heap_other I).trans b⟩
  rintro s x W f ⟨X,b⟩;have L:δ w.1+1<δ W.1:=(bG.1 X).1;have B:=run_yield (P:=P) (args:=Qy x) X (by rw[c];exact T x);rw[c]at B;refine⟨fn,_,assign,body,B,roundIn_of_wpIn U<|d _ x W _ ⟨_,run_beginRound X<|by rw[c],?_⟩⟩;have i:(W.putObj (δ w.1+1)<|.loop {rec .ready D' with state:=.busy}).1[δ w.1+1]?=C' (.loop {rec .ready D' with state:=.busy}):=World.putObj_heap_same L;have d:(W.putObj (δ w.1+1)<|.loop {rec .ready D' with state:=.busy}).1[δ w.1]?=C' (.deferred<|C' []):=(World.putObj_heap_other I).trans b;refine wpIn_mono (r _ s x _<|(z x).putObj _ f I X rfl) ?_;rintro e b o ⟨rfl,U,q,b,e⟩;have r:=U.same _ _ i rfl;have f:=run_endRound (P:=P) D' r;rw[c]at f r;refine⟨_,_,f,rfl,⟨q,b,R.putObj _ e I r rfl⟩,?_,?_⟩
  · rw[c];exact World.putObj_heap_same (bG.1 r).1
  exact(World.putObj_heap_other I).trans<|U.same _ _ d rfl
def jQ(w:t')(pb:Nat)(v:A'):Prop:=∃(a:u')(ps:List Int)(c:Nat),v=h' a (ζ ps) c/\ζ ps<=c/\c<=maxLen/\∀j x,ps[j]?=C' x->∃o,a=C' (O pb o)/\dK x/\χ w (O pb<|o+j)=C' (G x)
def jQ.keep{w w':t'}{N:Nat}{v:A'}(h:jQ w N v)(g:∀o u,χ w (O N o)=C' u->χ w' (O N o)=C' u):jQ w' N v:=by obtain⟨a,S,c,C,b,N,d⟩:=h;refine⟨a,S,c,C,b,N,λj x f=>?_⟩;obtain⟨o,e,i,k⟩:=d j x f;exact⟨o,e,i,g _ _ k⟩
abbrev Bi(wt:BS)(pv:A'):Obj:=j' #[Z wt.1,Z wt.2,pv] 323 (0,0)
def Qz(x n:Int)(K:1<=n):∃i:Nat,(i:Int)<n/\(if x.tmod n<0 then x.tmod n+n else x.tmod n)=i:=by
 have C:=Int.tmod_lt_of_pos x (show 0<n by omega);have a:-n<x.tmod n:=by
  rcases Int.le_total 0 x with h|h
  .have:=Int.tmod_nonneg n h;omega
  have N:=Int.tmod_lt_of_pos (-x) (show 0<n by omega);rw[Int.neg_tmod]at N;omega
 split
 .exact⟨(x.tmod n+n).toNat,I,I⟩
 exact⟨(x.tmod n).toNat,I,I⟩
def Pt(u N n:Nat)(g:BS)(h:A')(w:t')(K:1<=n)(b:n<=128)(s:w.1[u]?=C' (Bi g h))(U:jQ w N h)(z:u≠N):
  Cl 307 #[n'<|C'<|O u 0,G n] w λe g=>∃(i:Nat)(b:A'),i<n/\e=o' (G i)/\jQ g N b/\(g=w/\b=h\/g=κ w (O u 2) b):=by
 obtain⟨E,g⟩:=A s;have T:=ſ s;obtain⟨a,S,c,rfl,m,q,d⟩:=U;have Q:J (jQ w N<|bk a (ζ S) c):=⟨a,S,c,rfl,m,q,d⟩;clear s;cases S with
 |nil=>go_enter func307,ntmps307;go_wp2_with fail;go_ret;exact⟨0,_,K,rfl,Q.o,aI ⟨rfl,rfl⟩⟩
 |cons x r=>
  obtain⟨o,rfl,F,s⟩:=d 0 x rfl;obtain⟨i,S,l⟩:=Qz x n I;have X:J (∀W,W.1[N]?=w.1[N]?->jQ W N (h' (C'<|O N<|o+1) (ζ r)<|c-1)):=by intro W p;refine⟨_,r,_,rfl,by simp at m;omega,I,λj y f=>?_⟩;obtain⟨b,e,i,k⟩:=d (j+1) y<|J' f;cases e;exact⟨_,rfl,i,by rw[show o+1+j=o+(j+1)by omega];exact(bF p).trans k⟩
  clear d;simp only[bR,k!]at *;have a:((n:Int)==0)=Q':=by simp;omega
  have b:(((ζ r+1:Nat):Int)==0)=Q':=by simp;omega
  go_enter func307,ntmps307;go_wp2_with fail
  all_goals
   go_ret;refine⟨i,I,?_,_,?_,aH rfl⟩
   .first|(rw[<-l,aB<|g'];rfl)|(rw[<-l,ax I];rfl)
   first
    |exact X.o _<|bh _ _ _ _<|oh z
    |exact⟨_,[],0,by rw[show ζ r=0 by omega];rfl,bq _,bq _,λj y f=>by simp at f⟩
section
attribute [local go_sem] Oper.semAt_some
def Q7(f:Nat):A':=G f
def LX(s:BS)(B:Nat)(w:t')(c:bQ s)(T:χ w (O B 0)=C' (Z s.1))(Q:χ w (O B 1)=C' (Z s.2))(b:kU w):
  Cl 339 #[h' D' 0 0,.func (.func 227) #[]<|bM B] w λe f=>∃v,e=o' v/\ρ f w.1.size 3 1 v (ζ<|dj s) ((dj s).map Q7)/\Bl w f:=by
 refine(gw (n:=6)).1 ?_;refine callsIn_of_wp_marks func339 rfl trivial ?_ rfl;simp only[ntmps339,kH,bR,de,Nat.reduceAdd,Nat.reduceSub,sF,sE,sD,sC,c!,dA]
 gi_wp2
 have e:0<δ w.1:=dh<|b 0 aj;have L:=cE w<|j' #[h' D' 0 0] 36
 refine wpIn_rangeFunc_ownF rfl I (gf:=227) (lb:=(bM B)) rfl trivial (λf w=>Tryz.call227 f w)
  (lJ 5 I s B w.1.size _ c (aA T L) (aA Q L) (b.below L) e ak) belowK_t (belowK_b ak) (aP _ _) (λ_=>rfl)
  (λp W=>(∃v,Boxed W w.1.size 36 v/\ρ W w.1.size 3 1 v (ζ<|qB p) ((qB p).map Q7)/\ζ p<=128)/\Bl w W)
  (λ_ _ _=>False)
  (OwnFrom.and (Own.from (holdsRow_own w.1.size w.1.size 36 3 1 (λp=>ζ<|qB p) (λp=>(qB p).map Q7) λp v=>ζ p<=128) _)<|ownFrom_below (aD _) ak)
  (λ_ _ _ _ _ y _ _=>y)
  ⟨⟨_,Boxed.new w _ _,cY _ _ _ _,ak⟩,L⟩
  (λx=>{tmps:=#[h' D' 0 0,.func (.func 227) #[]<|bM B,n'<|cA w.1.size,undef,h' D' 0 0,G x.1,.func (.func 227) #[]<|bM B,G x.1,undef,undef,undef,undef,undef],defers:=[]}) ?assign ?body ?done ?stop
 case assign=>
  intro l x W K h
  gi_wp2
  exact h
 case body=>
  rintro l p ⟨f,Y⟩ W ⟨⟨v,R,d,k⟩,j⟩ L;obtain⟨N,S,b,P,c⟩:=cG nW;have L:ζ (qB p)<128:=by have:=nY s;simp[qB];omega
  have o:=R.cell
  gi_wp2_with (gi_at_builtin;refine wpListIn_append_own _ rfl _ _ 36 rfl w.1.size 3 N (G 0) 1 8 underlying36 S b P c rfl aj _ _ _ rfl (d.alloc _) (O W.1.size 0) 1 1 [G f] rfl rfl (cell_one_new _ _ _) (by simp[Value.oneCell']) (by unfold maxLen;omega) I (by have:=j.size;simp;omega) ?_;intro g b i F _;obtain⟨b,b,rfl⟩:=ownsRow_succ i;obtain⟨b,f,q,e,X⟩:=R.appended aj d j.size (aD _) i F;have c:=b.cell;have c:=b.frozen)
  refine⟨e,X,⟨_,f,?_,?_⟩,j.trans X⟩
  .rw[nh,eR,aW];exact q
  have:=nY s;simp;omega
 case done=>
  rintro D z W t u ⟨⟨v,R,d,k⟩,j⟩ h;have o:=R.cell;obtain⟨a,m,rfl⟩:=aX d
  gi_wp2
  refine⟨ak,.inl ⟨_,_,rfl,run_takeDeferred h,?_⟩⟩;have b:qB z=dj s:=u;refine⟨h' a (ζ<|qB z) m,by simp[results339,go_sem],_,rfl,?_,j.trans<|belowK_b (w:=w) (aD _) W D _ _ (by simp at t;omega) h rfl rfl⟩;rw[<-b];exact ownsRow_putObj d _ h rfl
 rintro D c p W _ _ h _;exact h.elim
def Ir(s:BS)(B:Nat)(w:t')(c:bQ s)(T:χ w (O B 0)=C' (Z s.1))(Q:χ w (O B 1)=C' (Z s.2))(b:kU w):
  Cl 306 #[.func (.func 227) #[]<|bM B] w λe a=>∃v,e=o' v/\ρ a w.1.size 3 1 v (ζ<|dj s) ((dj s).map Q7)/\Bl w a:=by
 have a:=LX s B w c T Q b;clear T Q;go_enter func306,ntmps306;go_wp2_with (go_at_call 339;refine a.mono ?_;rintro e W ⟨v,rfl,C,a⟩);go_ret;exact⟨v,rfl,C,a⟩
end
section
variable {S:Nat->Prop}{a:t'}
structure Kx(S:Nat->Prop)(w w':t'):Prop where
  os:w'.os=w.os
  tape:w'.tape=w.tape
  output:w'.output=w.output
  size:δ w.1<=δ w'.1
  keep:∀k,k<δ w.1->¬S k->w'.1[k]?=w.1[k]?
def Kx.of(h:Bl w a):Kx S w a:=⟨h.os,h.tape,h.output,h.size,λk a _=>h.block k a⟩
def Kx.refl(S:Nat->Prop)(w:t'):Kx S w w:=Kx.of<|aP _ _
def vx{a b}:=@Kx.refl a b
def Kx.trans{u v:t'}(h:Kx S u v)(k:Kx S v w):Kx S u w:=
 ⟨k.os.trans h.os,k.tape.trans h.tape,k.output.trans h.output,br h.size k.size,λi S y=>(k.keep i (ep S h.size) y).trans<|h.keep i S y⟩
def Kx.mono{a:Nat->Prop}{b:t'}(h:Kx S w b)(y:∀k,k<δ w.1->S k->a k):Kx a w b:=⟨h.os,h.tape,h.output,h.size,λk a K=>h.keep k a λe=>K<|y k a e⟩
def Kx.set{c:t'}(h:Kx S w c){b:Nat}(a:S b\/δ w.1<=b)(o:Nat)(v:A'):Kx S w (κ c (O b o) v):=
 ⟨h.os,h.tape,h.output,by simpa[World.setCell]using h.size,λk c K=>(bh _ _ _ _ (by rintro rfl;rcases a with a|a;(· exact K a);omega)).trans<|h.keep k c K⟩
def Kx.drewN(h:Kx S w a)(n:Nat):Kx S w (a.drewN n):=⟨h.os,h.tape,h.output,h.size,h.keep⟩
def Kx.box(h:Kx S w a){o:Obj}(e:w.1[q]?=C' o)(b:¬S q):a.1[q]?=C' o:=(h.keep q (À e) b).trans e
def Kx.cell(h:Kx S w a){o:Nat}{v:A'}(e:χ w (O q o)=C' v)(b:¬S q):χ a (O q o)=C' v:=(bF<|h.keep q (dh e) b).trans e
def Kx.others(h:Kx S w a)(y:∀k o,S k->w.1[k]?=C' o->o.isCells=P'):KeepsOthers w a:=
 ⟨h.size,λk o a T=>h.box a λe=>by rw[y k o e a]at T;cases T⟩
def Kx.tab(h:Kx S w a)(b:kU w)(y:¬S 0):kU a:=λj f=>h.cell (b j f) y
def Kx.below(h:Kx S w a){B:Nat}(v:B<=δ w.1)(y:∀k,S k->B<=k):Below B w a:=⟨h.os,h.tape,h.output,h.size,λk a=>h.keep k I λe=>L'<|y k e⟩
def pJ{u:Nat}(h:Kx (·=u) w a)(o:Nat)(v:A'):Kx (·=u) w (κ a (O u o) v):=h.set (b:=u) (aI rfl) o v
def Om(u:Nat)(c s:BS)(a:A')(w:t')(d:w.1[u]?=C' (Bi c a))(S:bQ c)(y:bQ s):
  Cl 211 #[n'<|C'<|O u 0,cn s] w λe b=>(∃v,e=o' v)/\b.1[u]?=C' (Bi (e7 c s) a)/\Kx (·=u) w b:=by
 have g:=ſ λX b D C a N=>fA X b c s S y D C a N;obtain⟨z,f⟩:=Ea<|e7 c s;rw[<-f]at g|-;have b:=cE w<|kK s.1 s.2;have a:=À d;have T:=ſ d;obtain⟨E,a⟩:=A<|aF b d;clear f S y d;simp only[cn]at g|-;go_enter func211,ntmps211;go_upto_region 1 with(fail)
 generalize c:w.alloc (kK s.1 s.2)=V at b E a|-;have B:J (Bl w V/\V.1[δ w.1]?=C' (q! s.1 s.2)):=⟨b,by rw[<-c];exact bj _ _⟩;clear c b;obtain⟨b,d⟩:=A B.A;have b:=À B.A;have s:δ w.1≠δ V.1:=I;have x:u≠δ V.1:=I;have c:=s.symm;have b:=x.symm
 go_region_law (go_simp;refine bE (g.o _ _ ak ak ak ak) ?_;rintro e F ⟨rfl,X⟩;have j:J (Bl V F):=aq ay X;clear E a X;obtain⟨E,a⟩:=A<|aF j.o<|aF B.a T.o)
 all_goals
  go_wp2_with fail
  go_end0
  have a:=aF j.o<|aF B.a T.o;refine⟨⟨_,rfl⟩,?_,pJ (pJ (Kx.of<|aq B.a j.o) _ _) _ _⟩;rw[aw (aw a _) _];rfl
def Sd(u N:Nat)(c:BS)(j:A')(w:t')(g:w.1[u]?=C' (Bi c j))(U:jQ w N j)(l:u≠N)(S:bQ c)(f:dj c≠[])(b:kU w):
  Cl 269 (bM u) w λe k=>∃x d,x∈dj c/\e=o' (G x)/\k.1[u]?=C' (Bi (eP c<|cJ [x]) d)/\jQ k N d/\Kx (·=u) w k:=by
 have R:J (∀s,Cl 154 #[k' #[Z c.1,Z c.2]] s λe k=>e=o' (.func (.func 227) #[]<|bM s.1.size)/\k=s.alloc (kK c.1 c.2)):=λs=>tZ c s;have Y:J (∀W B,kU W->χ W (O B 0)=C' (Z c.1)->χ W (O B 1)=C' (Z c.2)->Cl 306 #[.func (.func 227) #[]<|bM B] W λe k=>∃v,e=o' v/\ρ k W.1.size 3 1 v (ζ<|dj c) ((dj c).map Q7)/\Bl W k):=λW B b s Q=>Ir c B W S s Q b;have X:=nY c;have m:1<=ζ (dj c):=L4.2 f;have q:=ſ<|M g<|M U<|M b S;obtain⟨E,y⟩:=A g;have s:=À g;obtain⟨o,a⟩:=Ea<|dj c;rw[<-a]at Y X m;have L:=ſ a;clear g U b S f a;go_enter func269,ntmps269;go_upto_region 2 with(first|(go_at_call 154;refine(R.o _).mono ?_;rintro e t ⟨rfl,rfl⟩)|(go_at_call 306;refine(Y.o _ _ (q.c.below aY) ak ak).mono ?_;rintro e t ⟨v,rfl,b,a⟩;obtain⟨U,s,rfl⟩:=aX b;have p:=ſ<|M (bC (f:=δ w.1) b ak)<|aq aY a;clear b a))
 have a:=aF p.A q.a;have HP:J (Cl 307 #[n'<|C'<|O u 0,G<|ζ o] t λe k=>∃(i:Nat)(d:A'),i<ζ o/\e=o' (G i)/\jQ k N d/\(k=t/\d=j\/k=κ t (O u 2) d)):=Pt u N (ζ o) c j t m X a (q.b.keep λ_ _ h=>aA h p.A) l;have T:J (∃g,U=C' (O g 0)/\δ w.1<=g/\∀(j x:Nat),o[j]?=C' x->χ t (O g j)=C' (G x)):=by
  have b:=p.a;rcases b.2 with⟨_,e⟩|⟨g,m,Y,R,m,_⟩
  .omega
  simp at R;refine⟨g,R.1,m,λj x m=>?_⟩;have:=b.cells (g:=g) (by simp[Value.ownBlock,R.1]) j (Q7 x) (by rw[bH,m];rfl);rwa[fH,bW]at this
 obtain⟨g,rfl,P,r⟩:=T.o;have D:=ſ r;have b:=p.A.size;clear T r a E y;go_upto_region 3 with(go_at_call 307;refine HP.o.mono ?_;rintro e F ⟨i,d,S,rfl,a,r⟩;have T:J (Kx (·=u) t F/\F.1[u]?=C' (Bi c d)/\jQ F N d):=⟨by rcases r with⟨rfl,_⟩|rfl;(· exact vx);exact pJ vx _ _,by rcases r with⟨rfl,rfl⟩|rfl;(· exact aF p.A q.a);rw[aw (aF p.A q.a) _];rfl,a⟩;obtain⟨x,b⟩:=La S;have C:χ F (O g i)=C' (G x):=T.a.cell (D.o i x b) I;have K:=ſ b;clear r a b;have b:(i:Int)<(ζ o:Int):=I)
 have S:x<128:=by have h:=aK K.o;rw[L.o]at h;exact((qq c q.C x).1 h).1
 have V:J (∀X b,χ X (O b 0)=C' (G x)->Cl 241 (mL b) X (Rb X<|cn<|cJ [x])):=λX b C=>kz X b x S C;have a:J (∀X,Cl 153 #[cn c,cn<|cJ [x]] X<|Rb X<|cn<|eP c<|cJ [x]):=λX=>j3 c (cJ [x]) X q.C<|ie _<|J' S;have HZ:J (x∈dj c):=by rw[<-L.o];exact aK K.o
 obtain⟨o1,r⟩:=Ea<|cJ [x];obtain⟨z,f⟩:=Ea<|eP c o1;have g:J (eP c (cJ [x])=z):=by rw[f,r];exact rfl
 rw[<-r]at V a;rw[<-f]at a;clear r f C K;obtain⟨E,y⟩:=A T.b;have s:u≠δ F.1:=by have:=T.a.size;omega
 have b:=s.symm;have b:∀(o:Obj)(i:Nat),χ (F.alloc o) (O u i)=(#[Z c.1,Z c.2,d]:Array A')[i]?:=λo i=>(bF<|ch F o _<|À T.b).trans<|E i;simp only[cn]at V a
 go_region_law (first|(go_simp;refine bE (V.o _ _ ak) ?_;rintro e b ⟨rfl,Y⟩;have D:J (Bl F b):=aq ay Y;clear E y Y;obtain⟨E,y⟩:=A<|aF D.o T.b)|(go_simp;refine bE (a.o _) ?_;rintro e b ⟨rfl,v⟩;have k:J (Bl F b):=aq (aq D.o ay) v;clear E y v;obtain⟨E,y⟩:=A<|aF k.o T.b))
 all_goals
  go_wp2_with fail;go_ret;have a:=aF k.o T.b;have c:Kx (·=u) w (κ (κ b (O u 0)<|Z z.1) (O u 1)<|Z z.2):=pJ (pJ ((Kx.of p.A).trans<|T.a.trans<|Kx.of k.o) _ _) _ _;refine⟨x,d,HZ.o,rfl,?_,?_,c⟩
  .rw[aw (aw a _) _,g.o];rfl
  exact T.B.keep λo u h=>(bF<|by rw[bh _ _ _ _ l.symm,bh _ _ _ _ l.symm]).trans<|aA h k.o
end
section
variable {n:Nat}{L:Nat->Bool}{l:List Nat}
section
variable {P:Program}{ops:Array Oper}{Q:Exit->Act->t'->Prop}{md:Region.Mode}{S:t'->Prop}
def IW(listed:Array Bool)(i:Nat):Bool:=listed.getD i P'
def left(listed:Array Bool)(n:Nat):Nat:=(range n).countP λi=>!IW listed i
def Sa(md:Region.Mode)(ops:Array Oper):Bool:=(range ops.size).all λi=>match ops[i]? with|some o=>o.after.all λe=>!Region.binds md e||decide (e.on<i)|none=>P'
def Nr(g:Array Bool)(i:Nat):IW (g.setIfInBounds i P')=λj=>j==i||IW g j:=by
 funext j;unfold IW;by_cases h:j=i
 .subst h;by_cases a:j<g.size
  .simp[a]
  simp[xK<|Nat.le_of_not_lt a]
 rw[getD_set_ne P' λe=>h e.symm,dO.2 h,km]
def z6{p q:Nat->Bool}{i:Nat}:∀(l:List Nat),l.Nodup->i∈l->p i=P'->q i=Q'->(∀j,j≠i->q j=p j)->l.countP q+1=l.countP p
 |[],_,h,_,_,_=>by cases h
 |x::l,K,h,C,a,h3=>by
  rw[ux]at K;rw[countP_cons,countP_cons];by_cases e:x=i
  .subst e;rw[C,a];have:l.countP q=l.countP p:=countP_congr λj f=>by rw[h3 j λe=>K.1<|e▸f]
   simp[this]
  have d:i∈l:=by rcases cO.1 h with h|h;(· exact absurd h.symm e);exact h
  have:=z6 l K.2 d C a h3;rw[h3 x e];omega
def G6{g:Array Bool}(a:i<n)(h:IW g i=Q'):left (g.setIfInBounds i P') n+1=left g n:=by rw[left,Nr];exact z6 _ nodup_range (cq.2 a) (by simp[h]) ak (λj f=>by simp[dO.2 f])
def We(b:(Nat->Bool)->Act->t'->Prop)(d:Sa md ops=P')(u:∀L a w,b L a w->S w)
  (step:∀(i:Nat)(o:Oper)(L:Nat->Bool)(a:Act)(w:t'),ops[i]?=C' o->L i=Q'->(∀e∈o.after,Region.binds md e=P'->L e.on=P')->b L a w->∀K:Act->t'->Prop,Shut (∀z p,b (λj=>j==i||L j) z p->K z p)->if Region.wanted o (yielded ops a.tmps)=P' then Oper.wp P o a w K Q else K (a.put o.dst undef) w)
  (done:∀L a w,(∀i,i<ops.size->L i=P')->b L a w->Q .normal a w):
  ∀(c:Nat)(g:Array Bool)(a:Act)(w:t'),left g ops.size<=c->b (IW g) a w->wpAnyH P md ops Q S c g a w:=by
 have W:∀(g:Array Bool),Region.ready md ops g=[]->∀i,i<ops.size->IW g i=P':=by
  intro g j i;induction i using Nat.strongRecOn with
  |ind i B=>
   intro h;cases X:IW g i with
   |true=>rfl
   |false=>
    exfalso
    have r:i∈Region.ready md ops g:=by
     refine rF.2 ⟨X,ops[i],rE h,λe l q=>?_⟩;unfold Sa at d;rw[bZ]at d;have C:=d i<|cq.2 h;rw[rE h]at C;simp only[Array.all_eq_true]at C;obtain⟨k,d,rfl⟩:=Array.getElem_of_mem l;have b:=C k d;rw[q]at b;have N:=J' b;have d:=B _ N<|Nat.lt_trans N h;unfold IW at d;rcases iL ops[i].after[k].on g.size with s|s
     .simp[s]at d|-;exact d
     exfalso;unfold IW at X;rcases iL i g.size with f|f
     .omega
     simp[xK f]at X
    rw[j]at r;cases r
 intro c;induction c with
 |zero=>
  intro g a w Y b
  have R:∀i,i<ops.size->IW g i=P':=λi h=>by
   cases X:IW g i with
   |true=>rfl
   |false=>have:=G6 h X;omega
  refine⟨?_,done _ a w R b⟩;cases j:Region.ready md ops g with
  |nil=>rfl
  |cons x r=>
   exfalso;have F:x∈Region.ready md ops g:=by rw[j];simp
   obtain⟨C,o,d,_⟩:=rF.1 F;have:=R x (bG.1 d).1;unfold IW at this;rw[C]at this;cases this
 |succ c B=>
  intro g a w Y b;refine⟨λj=>done _ a w (W g j) b,λi h=>?_⟩;obtain⟨C,o,d,R⟩:=rF.1 h;refine wpOp_step d λK f=>step i o (IW g) a w d C (λe l q=>?_) b K λz p c=>f z p ⟨u _ _ _ c,B _ z p ?_<|by rw[Nr];exact c⟩
  .have:=R e l q;unfold IW;rcases iL e.on g.size with s|s
   .simp[s]at this|-;exact this
   simp[xK s]at this
  have:=G6 (bG.1 d).1 C;omega
def agH(J:Act->(Nat->Bool)->Act->t'->Prop){fuel:Nat}{listed:Array Bool}{a:Act}{w:t'}(ha:Sa md ops=P':=by kernel_rfl)(hf:decide (left listed ops.size<=fuel)=P':=by kernel_rfl)(h0:J a (IW listed) a w)(hS:∀L b v,J a L b v->S v)
  (step:∀(i:Nat)(o:Oper)(L:Nat->Bool)(b:Act)(v:t'),ops[i]?=C' o->L i=Q'->(∀e∈o.after,Region.binds md e=P'->L e.on=P')->J a L b v->∀K:Act->t'->Prop,Shut (∀a' w',J a (λj=>j==i||L j) a' w'->K a' w')->if Region.wanted o (yielded ops b.tmps)=P' then Oper.wp P o b v K Q else K (b.put o.dst undef) v)
  (done:∀L b v,(∀i,i<ops.size->L i=P')->J a L b v->Q .normal b v):wpAnyH P md ops Q S fuel listed a w:=
 We (J a) ha hS step done fuel listed a w (xV hf) h0
end
def Č(h:(range n).all (λj=>L j||l.contains j)=P')(a:i<n)(C:L i=Q'):i∈l:=by rw[bZ]at h;have:=h i<|cq.2 a;rw[C,km]at this;simpa using this
def oC(h:(range n).all (λj=>L j||l.contains j)=true):(range n).all (λj=>(j==i||L j)||l.contains j)=P':=by rw[bZ]at h|-;intro j f;have:=h j f;rw[xN,this,Bool.or_true]
end
section
variable {s:z'}
def dc(w:t')(rb:Nat)(s:z')(bad:Bool):Prop:=w.1[rb]?=C' (j' #[m' s,i' bad] 178 (0,0))
def dc.grown{w c:t'}{b:Nat}{a:Bool}{q:Option Nat}(h:dc w b s a)(e:ξ w c q)(d:some b≠q):dc c b s a:=(e.block b (bG.1 h).1 d).trans h
def Sf(h:0<s.size):s.toList.isEmpty=Q':=by
 have X:ζ s.1.1=s.size:=rfl;rw[eT];cases y:s.1.1 with
 |nil=>rw[y]at X;simp at X;omega
 |cons a r=>rfl
def R4{p:Prop}(h:p:=by
 go_enter func156,ntmps156;go_wp2_with fail;go_ret
 exact⟨rfl,Q.o⟩):p:=h
def rU(b:Nat)(s:z')(c:Bool)(w:t')(h:dc w b s c)(f:c=P'\/s.size=0):
  Cl 156 (bM b) w λe a=>e=o' (.int .u8 0)/\dc a b s P'/\ξ w a (C' b):=by
 have E:=A h;have d:=(show J (dc w b s c)from h);clear h;have a:dc (κ w (O b 1)<|i' P') b s P'/\ξ w (κ w (O b 1)<|i' P') (C' b):=⟨aw d.o _,ub⟩;have Q:=ſ a;clear a;cases c with
 |true=>exact R4
 |false=>
  have y:s.size=0:=by rcases f with h|h;cases h;exact h
  have l:s=⟨#[]⟩:=Â (by have:ζ s.1.1=0:=y;simpa using fg.1 this);subst l;exact R4
def BK(b:Nat)(s:z')(w:t')(h:dc w b s Q')(D:0<s.size)(y:s.size<=60000):
  Cl 156 (bM b) w λe a=>e=o' (.int .u8 (s[0]).toNat)/\dc a b (s.extract 1 s.size) Q'/\ξ w a (C' b):=by
 have E:=A h;have d:=(show J (dc w b s Q')from h);clear h;have z:=Sf D;have a:dc (κ w (O b 0)<|m'<|s.extract 1 s.size) b (s.extract 1 s.size) Q'/\ξ w (κ w (O b 0)<|m'<|s.extract 1 s.size) (C' b):=⟨aw d.o _,ub⟩;have Q:=ſ a;clear a;exact R4
end
def jz(v:Vl):A':=k' #[G v.aO,G v.lo,G v.hi,i' v.bO,G v.first,G v.rank]
def Hb(p g:Int)(w:t'):Cl 203 #[k' #[G p,G g]] w λe a=>e=o' (i' (decide (g=1)))/\a=w.alloc (dr p g):=by go_enter func203,ntmps203;go_wp2;go_ret;exact⟨aZ<|by rw[cK];simp,rfl⟩
def ju{a b c}:=@Hb a b c
def Hs(p g:Int)(w:t'):Cl 134 #[k' #[G p,G g]] w λe a=>e=o' (i' (decide (p<=4)))/\a=w.alloc (dr p g):=by go_enter func134,ntmps134;go_wp2;go_ret;exact⟨rfl,rfl⟩
def wB{a b c}:=@Hs a b c
def l6(p g:Int)(w:t'):Cl 131 #[k' #[G p,G g]] w λe a=>e=o' (i'<|Á p g)/\a=w.alloc (dr p g):=by
 go_enter func131,ntmps131;go_wp2
 all_goals
  go_ret;refine⟨aZ ?_,by first|rfl|simp_all⟩;rw[Á,cK];simp;omega
def He(p g r:Int)(v:Vl)(l:v.bO=P')(w:t'):Cl 305 #[k' #[G p,G g],k' #[G v.aO,G v.lo,G v.hi,i' v.bO,G v.first,G v.rank],G r] w λe a=>e=o' (i'<|nR g r v)/\Below w.1.size w a:=by
 go_enter func305,ntmps305;go_wp2_with (go_at_call 203;refine ju.mono ?_;rintro e b ⟨rfl,rfl⟩)
 all_goals
  go_ret;refine⟨aZ ?_,by first|exact gU|exact cU⟩;simp[nR, *]
  try omega
def SO{p:Prop}(h:p:=by
 go_enter func265,ntmps265;go_wp2_with fail
 all_goals
  go_ret;refine⟨aZ ?_,by first|exact gU|exact cU⟩;unfold eE
  simp[*]):p:=h
def qx(p g r:Int)(v:Vl)(w:t'):Cl 265 #[k' #[G p,G g],k' #[G v.aO,G v.lo,G v.hi,i' v.bO,G v.first,G v.rank],G r] w (Rb w<|i'<|eE p g r v):=by
 by_cases c:p=6
 .exact SO
 cases l:v.bO with
 |true=>have T:=λW=>He p g r v l W;rw[l]at T;go_enter func265,ntmps265;go_wp2_with (go_at_call 305;refine(T _).mono ?_;rintro e b ⟨rfl,a⟩);go_ret;refine⟨aZ<|by simp[eE,c,l],aq cU a⟩
 |false=>exact SO
section
variable {u:t'}{b:Nat}
def Wr(w:t')(B b:Nat)(l:y'):Prop:=
 B<=b/\∃v,w.1[b]?=C' (j' #[v] 168 (0,0))/\ρ w B 5 1 v (ζ l) (Lib.byteCells l)/\φ v≠C' b
structure ew(w w':t')(B b:Nat)(l:y'):Prop where
  wr:Wr w' B b l
  kp:Kp b w w'
  below:Below B w w'
def Wr.lt{l:y'}(h:Wr w B b l):b<δ w.1:=(bG.1 h.2.choose_spec.1).1
def Wr.alloc{l:y'}(h:Wr w B b l)(o:Obj):Wr (w.alloc o) B b l:=by obtain⟨c,v,a,b,K⟩:=h;exact⟨c,v,(ch _ _ _ (bG.1 a).1).trans a,b.alloc o,K⟩
def ew.trans{v:t'}{l m:y'}(h:ew u v B b l)(k:ew v w B b m):ew u w B b m:=⟨k.wr,h.kp.trans k.kp,h.below.trans k.below⟩
def G!(b:Nat)(w:t')(o:Obj):Kp b w (w.alloc o):=⟨rfl,rfl,rfl,ak,λ_ _ a _ _=>(ch _ _ _ (bG.1 a).1).trans a⟩
def Wr.wrote{l:y'}(h:Wr w B b l):ew w w B b l:=⟨h,Kp.refl _ _,aP _ _⟩
def ew.alloc{l:y'}(h:ew u w B b l)(o:Obj):ew u (w.alloc o) B b l:=
 ⟨h.wr.alloc o,h.kp.trans<|G! _ _ _,h.below.alloc (rL<|Jq h.wr.1 h.wr.lt) _⟩
def ew.box{a:t'}{k:Nat}{l q:y'}{L:Array A'}{t:TypeId}(h:ew w a B b l)(c:Wr w B b q)(b:w.1[k]?=C' (cL L t))(U:t≠168)(l:t≠5):a.1[k]?=C' (cL L t):=by refine h.kp.keep k _ b ?_ (λa a e=>by simp at e;exact l e.2.1);rintro rfl;obtain⟨_,v,a,_⟩:=c;rw[b]at a;simp at a;exact U a.2
def gj(B b:Nat)(l:y')(c:UInt8)(w:t')(h:Wr w B b l)(f:ζ l+1<=140737488355328):
  Cl 85 #[n'<|C'<|O b 0,.int .u8 c.toNat] w λe f=>e=o' (p' #[])/\ew w f B b (l++[c]):=by
 obtain⟨N,S,D,P,f⟩:=cG tH;have p:=Jq h.1 h.lt;obtain⟨j,v,r,o,z⟩:=h;have c1:χ w (O b 0)=C' v:=by rw[ki r];rfl
 have L:b<δ w.1:=(bG.1 r).1;have d:=ſ<|M r<|M o z;clear o r;go_enter func85,ntmps85;go_wp2_with (at_builtin;refine iK _ rfl _ _ 157 rfl B 5 N (.int .u8 0) 1 1 underlying157 S D P f rfl aj _ _ _ rfl (d.b.alloc _) (O w.1.size 0) 1 1 [.int .u8 c.toNat] rfl rfl ?c1 ?c2 ?c3 ?c4 ?c5 ?_)
 case c1=>exact Ap
 case c2=>intro u C;simp at C;subst C;rfl
 case c3=>unfold maxLen;omega
 case c4=>omega
 case c5=>simp;omega
 intro g W i F _;obtain⟨r,o,z⟩:=d.o;have X:W.1[b]?=C' (j' #[v] 168 (0,0)):=by rw[F.block b I' λe=>z e.symm];exact(ch _ _ _ L).trans r
 have Y:χ W (O b 0)=C' v:=by rw[ki X];rfl
 have K:W.frozen? (O b 0)=Q':=Dc X 0;obtain⟨q,a,rfl⟩:=aX i;go_wp2
 go_end0
 have d:φ (h' q (ζ l+1) a)≠C' b:=by
  rcases i.2 with⟨R,_⟩|⟨g,u,Y,R,_,a,_⟩
  .rw[R];simp[Value.ownBlock]
  rw[R];simp only[Value.ownBlock,ne_eq,dq];rintro rfl;rw[X]at a;simp at a
 refine⟨rfl,⟨j,_,?_,?_,d⟩,zz ((G! _ _ _).trans<|zA F<|o.alloc _) 0 _,(((aP _ _).alloc (rL p) _).grown F I' λk a=>(o.lt k a).1).setCell (p:=(O b 0)) j _⟩
 .simp[World.setCell,sH,X]
 have e:Lib.byteCells (l++[c])=Lib.byteCells l++[Value.int .u8 c.toNat]:=by simp[Lib.byteCells]
 rw[aW,e];refine⟨by simpa using i.1,?_⟩;rcases i.2 with h|⟨g,u,Y,R,C,a,N⟩
 .exact aI h
 refine aH ⟨g,u,Y,R,C,(bh _ _ _ _ ?_).trans a,N⟩;rintro rfl;exact d (by rw[R];rfl)
def tM(B b:Nat)(l:y')(c:Bool)(w:t')(h:Wr w B b l)(L:ζ l+1<=140737488355328):
  Cl 136 #[n'<|C'<|O b 0,i' c] w λe a=>e=o' (p' #[])/\ew w a B b (l++[if c then 1 else 0]):=by
 cases c with
 |true=>
  go_enter func136,ntmps136;go_wp2_with (go_at_call 85;refine(gj B b l 1 _ h L).mono ?_;rintro e a ⟨rfl,C⟩)
  go_end0
  exact⟨rfl,C⟩
 |false=>
  go_enter func136,ntmps136;go_wp2_with (go_at_call 85;refine(gj B b l 0 _ h L).mono ?_;rintro e a ⟨rfl,C⟩)
  go_end0
  exact⟨rfl,C⟩
def Tq:∀r:Fin 256,bits BinOp.or IntKind.u8 ((r.val:Nat):Int) 128=((r.val % 128+128:Nat):Int):=by decide +kernel
def XN(m:Nat):bits BinOp.or IntKind.u8 ((m:Int) % 256) 128=(((UInt8.ofNat<|m % 128+128).toNat:Nat):Int):=by have h:=Tq ⟨m % 256,Fk _ aj⟩;have e:(((⟨m % 256,Fk _ aj⟩:Fin 256).val:Nat):Int)=(m:Int) % 256:=ak;rw[e]at h;rw[h];simp only[Fh];omega
def z?{m:Nat}(h:m<256):(m:Int)=(((UInt8.ofNat m).toNat:Nat):Int):=by simp only[Fh];omega
def vq(B b:Nat)(l:y')(n:Nat)(w:t')(h:Wr w B b l)(K:n<18446744073709551616)(L:ζ (l++iI n)<=140737488355328):
  Cl 133 #[n'<|C'<|O b 0,Z n] w λe a=>e=o' (p' #[])/\ew w a B b (l++iI n):=by
 have c:=ſ h.wrote;clear h;go_enter func133,ntmps133;go_wp2_with fail;go_loopw[1] (λi wr=>∃(m:Nat)(q:y'),i=Z m/\m<18446744073709551616/\J (q++iI m=l++iI n)/\J (ew w wr B b q)) (λi _=>(intOf i).toNat)
 case atStart=>exact⟨n,l,rfl,K,by show _=_;rfl,c⟩
 clear c;obtain⟨m,q,rfl,d,S,c⟩:=hrel;have a:ζ q+1<=140737488355328:=by
  have C:=cQ length S.o;have d:1<=ζ (iI m):=by
   by_cases y:m<128
   .rw[k? y];simp
   rw[qI y];simp
  simp only[aW]at C L;omega
 by_cases y:m<128
 .have d:¬(128<=(m:Int)):=I;go_wp2_with fail;rw[z?<|show m<256 by omega];refine(gj B b q (UInt8.ofNat m) wr c.o.wr a).mono ?_;rintro e f ⟨rfl,C⟩;go_wp2_with fail
  go_end0
  refine⟨rfl,c.o.trans ?_⟩;rw[<-S.o,k? y];exact C
 have d:128<=(m:Int):=I;go_wp2_with fail;rw[XN m];refine(gj B b q (UInt8.ofNat<|m % 128+128) wr c.o.wr a).mono ?_;rintro e f ⟨rfl,C⟩;go_wp2_with fail;refine⟨⟨m / 128,q++[UInt8.ofNat<|m % 128+128],ak,I,?_,c.o.trans C⟩,by simp[intOf];omega⟩;show _=_;rw[<-S.o,qI y];simp
def iw(B b:Nat)(l:y')(x:Int)(w:t')(h:Wr w B b l)(F:0<=x)(a:x<=9223372036854775807)(L:ζ (l++cT x)<=140737488355328):
  Cl 86 #[n'<|C'<|O b 0,G x] w λe a=>e=o' (p' #[])/\ew w a B b (l++cT x):=by
 obtain⟨n,rfl⟩:=Jp F;have K:n<18446744073709551616:=I;have a:=ſ<|M h L;clear h L;go_enter func86,ntmps86;go_wp2_with (go_at_call 133;refine(vq B b l n _ a.a K a.A).mono ?_;rintro e b ⟨rfl,C⟩)
 go_end0
 exact⟨rfl,C⟩
def Uv{p:Prop}(h:p:=by
 go_enter func266,ntmps266;go_wp2_with fail;refine(vq B b l (Fm x) _ a.a f a.A).mono ?_;rintro e c ⟨rfl,C⟩;go_wp2_with fail
 go_end0
 exact⟨rfl,C⟩):p:=h
def r?(B b:Nat)(l:y')(x:Int)(w:t')(h:Wr w B b l)(F:dK x)(L:ζ (l++AO x)<=140737488355328):
  Cl 266 #[n'<|C'<|O b 0,G x] w λe c=>e=o' (p' #[])/\ew w c B b (l++AO x):=by
 obtain⟨c,g⟩:=F;have a:=ſ<|M h L;clear h L;have f:Fm x<18446744073709551616:=by unfold Fm;split<;>omega
 by_cases D:0<=x
 .have e:2*x=((Fm x:Nat):Int):=by rw[Fm,aB D];omega
  exact Uv
 have e:2*-(x+1)+1=((Fm x:Nat):Int):=by rw[Fm,ax D];omega
 exact Uv
end
section
variable {α:Type}{p:Prop}
def rV{Y:Int}{o:List Int}{f:Int}(h:o[k]?=C' f):cR Y (o.drop k)=(decide (Y<=f)&&decide (f<=100000)&&cR (f+1) (o.drop<|k+1)):=by have X:=aV.1 h;rw[nC X.1,X.2];rfl
def ni{l:List α}{x:α}{p:α->Bool}(h:l[k]?=C' x):(l.drop k).all p=(p x&&(l.drop<|k+1).all p):=by have X:=aV.1 h;rw[nC X.1,X.2];rfl
def EY(a:u')(q:Nat)(o:List Int)(w:t')(h:b7 w a o)(B:∀f∈o,dK f)(X:ζ o*8<=140737488355328):
  Cl 263 #[h' a (ζ o) q] w (Rb w<|i'<|cR 0 o):=by
 have s:J (b7 w a o/\∀f∈o,dK f):=⟨h,B⟩;clear h B;go_enter func263,ntmps263;go_wp2_with fail;go_loopw[3,8] (λY i wr=>wr=w/\∃(k:Nat)(f:Int),k<=ζ o/\i=G k/\Y=G f/\J (cR 0 o=cR f (o.drop k))) (λ_ i _=>ζ o-(intOf i).toNat)
 case atStart=>exact⟨rfl,0,0,bq _,rfl,rfl,by show _=_;simp⟩
 obtain⟨rfl,k,Y,a,rfl,rfl,b⟩:=hrel;by_cases L:k<ζ o;rotate_left
 .have a:¬(k:Int)<(ζ o:Int):=I;obtain rfl:k=ζ o:=I;go_wp2_with fail;go_ret;exact⟨aZ<|by rw[b.o];simp[cR],aP _ _⟩
 have a:(k:Int)<(ζ o:Int):=I;obtain⟨x,F⟩:=La L;obtain⟨a,a,rfl,Q⟩:=s.a k x F;obtain⟨L,g⟩:=s.A x<|aK F;have c:=ſ F;clear F;go_wp2_with fail
 all_goals first
  |(
   refine⟨⟨by trivial,k+1,x+1,I,f',f',?_⟩,by simp[intOf];omega⟩;show _=_;rw[b.o,rV c.o];have a:Y<=x/\x<=100000:=I
   simp[a.1,a.2])
  |(
   go_ret;refine⟨aZ ?_,aP _ _⟩;rw[b.o,rV c.o];symm;rw[vD];simp
   omega)
def EW(p g:Int)(l:u')(rc:Nat)(y:List Int)(m:Nat)(w:t')(h:b7 w l y)(d:m*8<=140737488355328)(X:ζ y*8<=140737488355328):
  Cl 264 #[k' #[G p,G g],h' l (ζ y) rc,G m] w (Rb w<|i'<|eF g y m):=by
 have s:=ſ h;clear h;by_cases f:g=1;rotate_left
 .go_enter func264,ntmps264;go_wp2_with (go_at_call 203;refine ju.mono ?_;rintro e b ⟨rfl,rfl⟩);go_ret;exact⟨aZ (by rw[eF,ax f];cases y<;>simp<;>omega),cU⟩
 by_cases V:ζ y=m;rotate_left
 .have c:((ζ y:Int) !=(m:Int))=P':=by simp;omega
  go_enter func264,ntmps264;go_wp2_with (go_at_call 203;refine ju.mono ?_;rintro e b ⟨rfl,rfl⟩);go_ret;exact⟨aZ<|by simp[eF,f,V],cU⟩
 subst V;go_enter func264,ntmps264;go_wp2_with (go_at_call 203;refine ju.mono ?_;rintro e b ⟨rfl,rfl⟩);have U:=ſ<|vu w (j' #[G p,G 1] 166)<|j' #[G p,G 1] 166;go_loopw[21] (λi wr=>∃k:Nat,k<=ζ y/\i=G k/\J (Bl w wr)/\J (y.all rk=(y.drop k).all rk)) (λi _=>ζ y-(intOf i).toNat)
 case atStart=>exact⟨0,bq _,rfl,U,by show _=_;simp⟩
 obtain⟨k,b,rfl,U,h⟩:=hrel;by_cases L:k<ζ y;rotate_left
 .have a:¬(k:Int)<(ζ y:Int):=I;obtain rfl:k=ζ y:=I;go_wp2_with fail;go_ret;exact⟨aZ<|by rw[eF,h.o];simp,U.o⟩
 have a:(k:Int)<(ζ y:Int):=I;obtain⟨x,F⟩:=La L;obtain⟨a,a,rfl,Q⟩:=(s.o.below U.o) k x F;have b:=ſ F;clear F;go_wp2_with fail
 all_goals first
  |(
   refine⟨⟨k+1,I,f',U,?_⟩,by simp[intOf];omega⟩;show _=_;rw[h.o,ni b.o];have a:rk x=P':=by unfold rk;simp;omega
   simp[a])
  |(
   go_ret;refine⟨aZ ?_,U.o⟩;rw[eF,h.o,ni b.o];have a:rk x=Q':=by rw[rk,vD];simp;omega
   simp[a,f])
def qD(l:List α):l.isEmpty=decide (ζ l=0):=by cases l<;>simp
def Yf(l:List α):(((ζ l:Nat):Int)==0)=decide (l=[]):=by
 cases l with
 |nil=>rfl
 |cons a r=>simp;omega
def Eg{l:List α}(h:¬ζ l=0):(((ζ l:Nat):Int) !=0)=P':=by rw[bne_iff_ne];omega
def K5(a l z:u')(q rc x:Nat)(n:Nd)(w:t')(h:jR n):
  Cl 201 #[k' #[h' a (ζ n.facts) q,h' l (ζ n.a!) rc,i' n.reached,G n.rank,h' z (ζ n.aG) x]] w (Rb w<|i'<|ky n):=by
 go_enter func201,ntmps201;go_wp2
 all_goals
  go_ret;refine⟨aZ ?_,aY⟩;simp[ky,qD,Yf, *]
def P!(p g:Int)(a f z:u')(q rc x:Nat)(n:Nd)(w:t')(h:vy w a f z q rc x n)(i:jR n):
  Cl 200 #[k' #[G p,G g],k' #[h' a (ζ n.facts) q,h' f (ζ n.a!) rc,i' n.reached,G n.rank,h' z (ζ n.aG) x]] w (Rb w<|i'<|e6 g n):=by
 obtain⟨d,c,y,b,P⟩:=n;have s:J (b7 w a d/\b7 w f c):=⟨h.facts,h.a!⟩;have K:=ſ i;clear h i;cases y with
 |true=>go_enter func200,ntmps200;go_wp2_with fail;go_ret;exact⟨aZ<|by simp[e6],cU⟩
 |false=>
  by_cases g:b=0;rotate_left
  .go_enter func200,ntmps200;go_wp2_with fail;go_ret;exact⟨aZ<|by simp[e6,g],cU⟩
  by_cases R:ζ P=0;rotate_left
  .have b:=Eg R;go_enter func200,ntmps200;go_wp2_with fail;go_ret;exact⟨aZ<|by simp[e6,qD,R],cU⟩
  subst g;have b:((ζ P:Int) !=0)=Q':=by simp[R]
  go_enter func200,ntmps200
  go_wp2_with (first
   |(go_at_call 263;refine(EY a q d _ (s.a.below cU) K.o.facts K.o.fsz).mono ?_;rintro e t ⟨rfl,l⟩;have E:=A<|(l.block _ I').trans (bP w _ _).1;have a:=A<|(l.block _ ak).trans (bP w _ _).2;have r:=ſ<|aq cU l;clear l)
   |(go_at_call 264;refine(EW _ _ f rc c _ _ (s.A.below r.o) K.o.fsz K.o.rsz).mono ?_;rintro e F ⟨rfl,X⟩))
  all_goals
   go_ret;refine⟨aZ ?_,by first|exact aq r.o X|exact r.o⟩;simp[e6,qD,R, *]
def Th(h:p:=by
 have d:¬(k:Int)<(ζ P:Int):=I;obtain rfl:k=ζ P:=I;go_wp2_with fail;go_ret
 exact⟨aZ<|by rw[V.o,T.o];simp,b.o⟩):p:=h
theorem To(h:p:=by
 refine⟨⟨k+1,by omega,by go_num,aq (aq c.o aY) X,?_⟩,by simp[intOf];omega⟩;show _=_;rw[T.o,ni B.o,f]
 rfl):p:=h
def Tu(h:p:=by
 subst j
 exact⟨gU,(ch _ _ _ I').trans (bP w _ _).1,(ch _ _ _ ak).trans (bP w _ _).2⟩):p:=h
def TO(h:p:=by
 go_ret
 exact⟨aZ<|by rw[V.o,T.o,ni B.o,f];rfl,aq (aq b.o aY) X⟩):p:=h
def Qa(p g:Int)(a l z:u')(q rc x:Nat)(n:Nd)(w:t')(h:vy w a l z q rc x n)(K:jR n)(b:n.reached=P'):
  Cl 202 #[k' #[G p,G g],k' #[h' a (ζ n.facts) q,h' l (ζ n.a!) rc,i' n.reached,G n.rank,h' z (ζ n.aG) x]] w (Rb w<|i'<|eM p g n):=by
 obtain⟨d,c,y,y,P⟩:=n;simp only at b;subst b;have s:=ſ h.aG;have b:=ſ K;have N:=K.vsz;clear h K;by_cases Y:ζ d=0;rotate_left
 .have b:=Eg Y;go_enter func202,ntmps202;go_wp2_with fail;go_ret;exact⟨aZ<|by simp[eM,qD,Y],cU⟩
 by_cases f:ζ c=0;rotate_left
 .have b:=Eg f;go_enter func202,ntmps202;go_wp2_with fail
  all_goals
   go_ret;exact⟨aZ<|by simp[eM,qD,f],cU⟩
 by_cases R:ζ P<=8;rotate_left
 .have b:¬((ζ P:Int)<=8):=I;obtain rfl:d=[]:=fg.1 Y;obtain rfl:c=[]:=fg.1 f;simp only[de];go_enter func202,ntmps202;go_wp2_with fail;go_ret;exact⟨aZ<|by simp[eM,qD,R],cU⟩
 obtain rfl:d=[]:=fg.1 Y;obtain rfl:c=[]:=fg.1 f;simp only[de];by_cases W:0<=y/\y<=100000;rotate_left
 .go_enter func202,ntmps202;go_wp2_with fail
  all_goals
   go_ret;exact⟨aZ<|by simp[eM,rk];omega,cU⟩
 cases C:decide (g=1)with
 |false=>
  by_cases f:y=0;rotate_left
  .have D:(y !=0)=P':=by rw[bne_iff_ne];exact f
   go_enter func202,ntmps202;go_wp2_with (go_at_call 203;refine ju.mono ?_;rw[C];rintro e h ⟨rfl,rfl⟩);go_ret;exact⟨aZ<|by simp[eM,C,f],gU⟩
  subst f;have V:J (eM p g ⟨[],[],P',0,P⟩=P.all (eE p g 0)):=by show _=_;simp[eM,rk];omega
  go_enter func202,ntmps202;go_wp2_with (go_at_call 203;refine ju.mono ?_;rw[C];rintro e h ⟨rfl,rfl⟩);generalize j:((w.alloc<|dr p g).alloc<|j' #[h' a 0 q,h' l 0 rc,i' P',G 0,h' z (ζ P) x] 96).alloc (dr p g)=t;have U:J (Bl w t/\t.1[δ w.1]?=C' (ot p g)/\d' t (δ w.1+1) #[h' a 0 q,h' l 0 rc,i' P',G 0,h' z (ζ P) x] 96):=by exact Tu
  clear j C W;go_loopw[44] (λi wr=>∃k:Nat,k<=ζ P/\i=G k/\J (Bl t wr)/\J (P.all (eE p g 0)=(P.drop k).all (eE p g 0))) (λi _=>ζ P-(intOf i).toNat)
  case atStart=>exact⟨0,bq _,rfl,aP _ _,by show _=_;simp⟩
  obtain⟨k,N,rfl,c,T⟩:=hrel;have E:=A<|(c.o.block _ (bG.1 U.b).1).trans U.b;have K:=A<|(c.o.block _ (bG.1 U.B).1).trans U.B;have b:=ſ<|aq U.a c.o;have S:=(bG.1 U.B).1;have r:=c.o.size;have e1:δ w.1<δ wr.1:=I;have u:δ w.1+1<δ wr.1:=I;clear S r;by_cases L:k<ζ P;rotate_left
  .exact Th
  have d:(k:Int)<(ζ P:Int):=I;obtain⟨v,o⟩:=La L;obtain⟨D,R,rfl,c0,Q,Y,c3,c4,c5⟩:=(s.o.below b.o) k v o;have B:=ſ o;clear o;cases f:eE p g 0 v with
  |true=>go_wp2_with (go_at_call 265;refine(qx p g 0 v _).mono ?_;rw[f];rintro e F ⟨rfl,X⟩);exact To
  |false=>go_wp2_with (go_at_call 265;refine(qx p g 0 v _).mono ?_;rw[f];rintro e F ⟨rfl,X⟩);exact TO
 |true=>
  have V:J (eM p g ⟨[],[],P',y,P⟩=P.all (eE p g y)):=by show _=_;simp[eM,rk,C,W];omega
  go_enter func202,ntmps202;go_wp2_with (go_at_call 203;refine ju.mono ?_;rw[C];rintro e h ⟨rfl,rfl⟩);generalize j:((w.alloc<|dr p g).alloc<|j' #[h' a 0 q,h' l 0 rc,i' P',G y,h' z (ζ P) x] 96).alloc (dr p g)=t;have U:J (Bl w t/\t.1[δ w.1]?=C' (ot p g)/\d' t (δ w.1+1) #[h' a 0 q,h' l 0 rc,i' P',G y,h' z (ζ P) x] 96):=by exact Tu
  clear j C W;go_loopw[44] (λi wr=>∃k:Nat,k<=ζ P/\i=G k/\J (Bl t wr)/\J (P.all (eE p g y)=(P.drop k).all (eE p g y))) (λi _=>ζ P-(intOf i).toNat)
  case atStart=>exact⟨0,bq _,rfl,aP _ _,by show _=_;simp⟩
  obtain⟨k,N,rfl,c,T⟩:=hrel;have E:=A<|(c.o.block _ (bG.1 U.b).1).trans U.b;have K:=A<|(c.o.block _ (bG.1 U.B).1).trans U.B;have b:=ſ<|aq U.a c.o;have S:=(bG.1 U.B).1;have r:=c.o.size;have e1:δ w.1<δ wr.1:=I;have u:δ w.1+1<δ wr.1:=I;clear S r;by_cases L:k<ζ P;rotate_left
  .exact Th
  have d:(k:Int)<(ζ P:Int):=I;obtain⟨v,o⟩:=La L;obtain⟨D,R,rfl,c0,Q,Y,c3,c4,c5⟩:=(s.o.below b.o) k v o;have B:=ſ o;clear o;cases f:eE p g y v with
  |true=>go_wp2_with (go_at_call 265;refine(qx p g y v _).mono ?_;rw[f];rintro e F ⟨rfl,X⟩);exact To
  |false=>go_wp2_with (go_at_call 265;refine(qx p g y v _).mono ?_;rw[f];rintro e F ⟨rfl,X⟩);exact TO
end
def zG(p g:Int)(a c z:u')(q rc x:Nat)(n:Nd)(w:t')(h:vy w a c z q rc x n)(K:jR n):
  Cl 132 #[k' #[G p,G g],k' #[h' a (ζ n.facts) q,h' c (ζ n.a!) rc,i' n.reached,G n.rank,h' z (ζ n.aG) x]] w (Rb w<|i'<|cB p g n):=by
 have s:=ſ<|M h K;clear h K;cases U:decide (p<=4)with
 |true=>
  have V:J (cB p g n=e6 g n):=by show _=_;rw[cB,aB<|J' U]
  go_enter func132,ntmps132
  go_wp2_with (first
   |(go_at_call 134;refine wB.mono ?_;rw[U];rintro e b ⟨rfl,rfl⟩)
   |(go_at_call 200;refine(P! p g a c z q rc x n _ (s.a.below gU) s.A).mono ?_;rintro e t ⟨rfl,l⟩))
  go_ret;exact⟨aZ V.o.symm,aq gU l⟩
 |false=>
  have Q:J (¬p<=4):=by show ¬p<=4;simpa using U
  cases d:n.reached with
  |true=>
   have V:J (cB p g n=eM p g n):=by show _=_;rw[cB,ax Q.o,d];rfl
   have T:=λW f=>Qa p g a c z q rc x n W (s.a.below f) s.A d;rw[d]at T;go_enter func132,ntmps132
   go_wp2_with (first
    |(go_at_call 134;refine wB.mono ?_;rw[U];rintro e b ⟨rfl,rfl⟩)
    |(go_at_call 202;refine(T _ gU).mono ?_;rintro e t ⟨rfl,l⟩))
   go_ret;exact⟨aZ V.o.symm,aq gU l⟩
  |false=>
   have V:J (cB p g n=ky n):=by show _=_;rw[cB,ax Q.o,d];rfl
   have T:=λW=>K5 a c z q rc x n W s.A;rw[d]at T;go_enter func132,ntmps132
   go_wp2_with (first
    |(go_at_call 134;refine wB.mono ?_;rw[U];rintro e b ⟨rfl,rfl⟩)
    |(go_at_call 201;refine(T _).mono ?_;rintro e t ⟨rfl,l⟩))
   go_ret;exact⟨aZ V.o.symm,aq gU l⟩
def TZ{p:Prop}(h:p:=by
 go_enter func84,ntmps84;go_wp2_with (go_at_call 131;refine(l6 _ _ _).mono ?_;rw[a];rintro e b ⟨rfl,rfl⟩);go_ret
 exact⟨aZ V.o.symm,gU⟩):p:=h
def zI(T:u')(r:Nat)(c:Ct)(w:t')(h:bX w T c.nodes)(a:ny c):
  Cl 84 #[k'<|gO c.aM c.cu T (ζ c.nodes) r] w (Rb w<|i'<|ku c):=by
 obtain⟨p,g,v⟩:=c;have s:J (bX w T v/\∀n∈v,jR n):=⟨h,a.nodes⟩;have y:=a.sz;clear h a;simp only;cases a:Á p g with
 |false=>
  have V:J (ku ⟨p,g,v⟩=Q'):=by show _=_;simp[ku,a]
  exact TZ
 |true=>
  by_cases f:ζ v<=60;rotate_left
  .have V:J (ku ⟨p,g,v⟩=Q'):=by show _=_;simp[ku,f]
   have K:60<(ζ v:Int):=I;exact TZ
  have V:J (ku ⟨p,g,v⟩=v.all (cB p g)):=by show _=_;simp[ku,a,f]
  have K:¬(60<(ζ v:Int)):=I;go_enter func84,ntmps84;go_wp2_with (go_at_call 131;refine(l6 _ _ _).mono ?_;rw[a];rintro e b ⟨rfl,rfl⟩);generalize j:((w.alloc<|j' #[G p,G g,h' T (ζ v) r] 51).alloc<|dr p g).alloc (dr p g)=t;have U:J (Bl w t/\t.1[δ w.1+1]?=C' (ot p g)):=by subst j;exact⟨gU,(ch _ _ _ ak).trans (bP w _ _).2⟩
  clear j a;go_loopw[23] (λi wr=>∃k:Nat,k<=ζ v/\i=G k/\J (Bl t wr)/\J (v.all (cB p g)=(v.drop k).all (cB p g))) (λi _=>ζ v-(intOf i).toNat)
  case atStart=>exact⟨0,bq _,rfl,aP _ _,by show _=_;simp⟩
  obtain⟨k,a,rfl,d,T⟩:=hrel;have a:=A<|(d.o.block _ (bG.1 U.A).1).trans U.A;have b:=ſ<|aq U.a d.o;have S:=(bG.1 U.A).1;have r:=d.o.size;have u:δ w.1+1<δ wr.1:=I;clear S r;by_cases L:k<ζ v;rotate_left
  .have a:¬(k:Int)<(ζ v:Int):=I;obtain rfl:k=ζ v:=I;go_wp2_with fail;go_ret;exact⟨aZ<|by rw[V.o,T.o];simp,b.o⟩
  have a:(k:Int)<(ζ v:Int):=I;obtain⟨n,C⟩:=La L;obtain⟨a,a,a,l,z,q,rc,x,rfl,c,Q,c,c,P,W⟩:=(s.a.below b.o) k n C;have B:J (v[k]?=C' n/\jR n/\vy wr a l z q rc x n):=⟨C,s.A n<|aK C,W⟩;clear C W;cases c:cB p g n with
  |true=>go_wp2_with (go_at_call 132;refine(zG p g a l z q rc x n _ (B.B.below aY) B.b).mono ?_;rw[c];rintro e F ⟨rfl,X⟩);refine⟨⟨k+1,I,f',aq (aq d.o aY) X,?_⟩,by simp[intOf];omega⟩;show _=_;rw[T.o,ni B.a,c];rfl
  |false=>go_wp2_with (go_at_call 132;refine(zG p g a l z q rc x n _ (B.B.below aY) B.b).mono ?_;rw[c];rintro e F ⟨rfl,X⟩);go_ret;exact⟨aZ<|by rw[V.o,T.o,ni B.a,c];rfl,aq (aq b.o aY) X⟩
section
variable {x:Int}
def abE(h:dK x):Fm x<18446744073709551616:=by obtain⟨C,a⟩:=h;unfold Fm;split<;>omega
def yu(h:dK x):ζ (AO x)<=10:=gR<|abE h
def Rx{j S:Int}(a:j<=S)(X:dK j)(V:dK S):IntKind.u64.wrap (IntKind.u64.wrap S-IntKind.u64.wrap j)=(((S-j).toNat:Nat):Int):=by
 obtain⟨m,i⟩:=X;obtain⟨q,r⟩:=V;have e:∀n:Int,IntKind.u64.wrap n=n % 18446744073709551616:=λn=>by simp[IntKind.wrap,IntKind.bits,IntKind.signed]
 rw[e,e,e];omega
def LJ(B b:Nat)(l:y')(v:Vl)(w:t')(h:Wr w B b l)(R:Aq v)(a:v.lo<=v.hi)(L:ζ l+100<=140737488355328):
  Cl 204 #[n'<|C'<|O b 0,k' #[G v.aO,G v.lo,G v.hi,i' v.bO,G v.first,G v.rank]] w λe c=>e=o' (p' #[])/\ew w c B b (l++(AO v.lo++iI (v.hi-v.lo).toNat)):=by
 obtain⟨x,j,S,bO,first,f⟩:=v;obtain⟨_,X,V,_,_⟩:=R;simp only at a X V|-;have Q:(S-j).toNat<18446744073709551616:=by obtain⟨N,c⟩:=X;obtain⟨c,o⟩:=V;omega
 have C:=Rx a X V;generalize(S-j).toNat=d at Q C|-;have a:=ſ<|M h<|M (yu X)<|M (gR Q) X;clear h X V;go_enter func204,ntmps204
 go_wp2_with (first
  |(go_at_call 266;refine(r? B b l j _ (a.a.alloc _) a.C (by have:=a.b;simp only[aW];omega)).mono ?_;rintro e t ⟨rfl,C⟩;obtain⟨E,g⟩:=A<|C.box (a.a.alloc _) (bj w _) aj aj;have c:=ſ C;clear C)
  |(go_at_call 133;refine(vq B b (l++AO j) d _ c.o.wr Q (by have:=a.b;have:=a.c;simp only[aW];omega)).mono ?_;rintro e F ⟨rfl,(u:J _)⟩))
 go_end0
 refine⟨rfl,?_⟩;have:=(((a.a.wrote).alloc<|j' #[G x,G j,G S,i' bO,G first,G f] 73).trans c.o).trans u.o;rwa[df]at this
def JH(B b:Nat)(l:y')(p g r:Int)(v:Vl)(w:t')(h:Wr w B b l)(R:Aq v)(o:eE p g r v=P')(U:p≠6)(a:0<=r)(L:ζ l+100<=140737488355328):
  Cl 205 #[n'<|C'<|O b 0,k' #[G p,G g],k' #[G v.aO,G v.lo,G v.hi,i' v.bO,G v.first,G v.rank]] w λe a=>e=o' (p' #[])/\ew w a B b (l++eY p g v):=by
 obtain⟨x,j,S,bO,first,d⟩:=v;obtain⟨_,X,_,Y,a⟩:=R;simp only at X Y a|-;have a:=((h.wrote.alloc<|dr p g).alloc<|j' #[G x,G j,G S,i' bO,G first,G d] 73);have f:=ſ<|M a<|M (yu X)<|M (yu Y)<|M X Y;clear h X Y a;have y:(x=1/\bO=Q')\/(x=2/\(bO=Q'\/(bO=P'/\g=1/\0<=d/\d<=100000))):=by
  unfold eE at o;rw[ax U]at o;cases bO with
  |true=>simp[nR]at o|-;omega
  |false=>simp at o|-;omega
 rcases y with⟨rfl,rfl⟩|⟨rfl,y⟩
 .have s:J (eY p g ⟨1,j,S,Q',first,d⟩=1::AO j):=by show _=_;simp[eY,U]
  clear o;go_enter func205,ntmps205
  go_wp2_with (first
   |(go_at_call 85;refine(gj B b l 1 _ f.a.wr I).mono ?_;rintro e t ⟨rfl,C⟩;have E:=A<|C.box f.a.wr (bP w _ _).1 aj aj;have z:=A<|C.box f.a.wr (bP w _ _).2 aj aj;have c:=ſ C;clear C)
   |(go_at_call 266;refine(r? B b (l++[1]) j _ c.o.wr f.d (by have:=f.b;simp only[aW,fP];omega)).mono ?_;rintro e F ⟨rfl,i⟩;have u:=ſ i;clear i))
  (try simp only[Exit.inBlock,Exit.then]);refine aC (xX rfl _ _ _) rfl ?_
  refine⟨rfl,?_⟩;rw[s.o];have:=(f.a.trans c.o).trans u.o;rwa[df]at this
 cases D:decide (g=1)with
 |false=>
  have v:=J' D;have s:J (eY p g ⟨2,j,S,bO,first,d⟩=[2]):=by show _=_;simp[eY,U,v]
  clear o y v;go_enter func205,ntmps205
  go_wp2_with (first
   |(go_at_call 85;refine(gj B b l 2 _ f.a.wr I).mono ?_;rintro e t ⟨rfl,C⟩;have E:=A<|C.box f.a.wr (bP w _ _).1 aj aj;have z:=A<|C.box f.a.wr (bP w _ _).2 aj aj;have c:=ſ C;clear C)
   |(go_at_call 203;refine ju.mono ?_;rw[D];rintro e N ⟨rfl,rfl⟩))
  (try simp only[Exit.inBlock,Exit.then]);refine aC (xX rfl _ _ _) rfl ?_
  refine⟨rfl,?_⟩;rw[s.o];exact(f.a.trans c.o).alloc _
 |true=>
  have v:=J' D;cases bO with
  |false=>
   have s:J (eY p g ⟨2,j,S,Q',first,d⟩=[2]++[if Q'=P' then 1 else 0]):=by show _=_;simp[eY,U,v]
   clear o y v;go_enter func205,ntmps205
   go_wp2_with (first
    |(go_at_call 85;refine(gj B b l 2 _ f.a.wr I).mono ?_;rintro e t ⟨rfl,C⟩;have m:=C.box f.a.wr (bP w _ _).1 aj aj;have k:=C.box f.a.wr (bP w _ _).2 aj aj;have E:=A m;have z:=A k;have V:=(bG.1 m).1;have K:=(bG.1 k).1;have c:=ſ<|M C<|M m k;clear C m k)
    |(go_at_call 203;refine ju.mono ?_;rw[D];rintro e N ⟨rfl,rfl⟩)
    |(go_at_call 136;refine(tM B b (l++[2]) Q' _ (c.a.wr.alloc _)<|by simp only[aW,fP];omega).mono ?_;rintro e F ⟨rfl,i⟩;have W:=A<|i.box (c.a.wr.alloc _) ((ch _ _ _ K).trans c.B) aj aj;have u:=ſ i;clear i E z))
   go_end0
   refine⟨rfl,?_⟩;rw[s.o];have:=((f.a.trans c.a).alloc<|dr p g).trans u.o;rwa[df]at this
  |true=>
   have q:0<=d/\d<=100000:=by rcases y with h|h;cases h;exact h.2.2
   have s:J (eY p g ⟨2,j,S,P',first,d⟩=[2]++[if P'=P' then 1 else 0]++AO first++cT d/\ζ (cT d)<=10):=by refine⟨by simp[eY,U,v],gR I⟩
   clear o y v;go_enter func205,ntmps205
   go_wp2_with (first
    |(go_at_call 85;refine(gj B b l 2 _ f.a.wr I).mono ?_;rintro e t ⟨rfl,C⟩;have m:=C.box f.a.wr (bP w _ _).1 aj aj;have k:=C.box f.a.wr (bP w _ _).2 aj aj;have E:=A m;have z:=A k;have V:=(bG.1 m).1;have K:=(bG.1 k).1;have c:=ſ<|M C<|M m k;clear C m k)
    |(go_at_call 203;refine ju.mono ?_;rw[D];rintro e N ⟨rfl,rfl⟩)
    |(go_at_call 136;refine(tM B b (l++[2]) P' _ (c.a.wr.alloc _)<|by simp only[aW,fP];omega).mono ?_;rintro e F ⟨rfl,i⟩;have k:=i.box (c.a.wr.alloc _) ((ch _ _ _ K).trans c.B) aj aj;have W:=A k;have u:=ſ<|M i k;clear i k E z)
    |(go_at_call 266;refine(r? B b (l++[2]++[if P'=P' then 1 else 0]) first _ u.a.wr f.D (by have:=f.c;simp only[aW,fP];omega)).mono ?_;rintro e o ⟨rfl,N⟩;have R:=A<|N.box u.a.wr u.A aj aj;have z:=ſ N;clear N W)
    |(go_at_call 86;refine(iw B b (l++[2]++[if P'=P' then 1 else 0]++AO first) d _ z.o.wr q.1 I (by have:=f.c;have:=s.A;simp only[aW,fP];omega)).mono ?_;rintro e a ⟨rfl,(B:J _)⟩))
   go_end0
   refine⟨rfl,?_⟩;rw[s.a];have:=((((f.a.trans c.a).alloc<|dr p g).trans u.a).trans z.o).trans B.o;simpa only[df]using this
end
