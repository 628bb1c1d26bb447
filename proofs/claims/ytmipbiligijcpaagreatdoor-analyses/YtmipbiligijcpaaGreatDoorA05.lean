import Derived.Test.YtmipbiligijcpaaGreatDoorA04
import Derived.Test.YtmipbiligijcpaaGreatDoorA02
import Derived.Deep.AppendLies
import Derived.Lib.SlBytesConst
import Derived.Lib.SlBytesRow
namespace Go.Proofs.YtmipbiligijcpaaGreatDoor
set_option linter.all false
set_option maxHeartbeats 0
set_option maxRecDepth 99999
open Go.RowKit Go.Proofs Go.Maps Tryz List Go.WideMaps open List renaming length->ζ,toArray->θ open _root_.Array renaming size->δ open World renaming setCell->κ,ownsRow->ρ,cell?->χ,grownBy->ξ open Value renaming ownBlock->φ open Value renaming slice->g',bool->h',agg->j',string->k',pointer->m',tuple->o' open Obj renaming cells->i' open Ending renaming returned->n' open Option renaming some->z',none->A' open Bool renaming true->N',false->O'
variable {B g k m n:Nat}{a w:p'}{h l p:Int}
section
variable {W:p'}{t:Nat}{l:List BS}
def dF(z:Array y')(m:Nat)(d:z.size=m):∀n,(madeCells z<|n*m).toList=(replicate n z.toList).flatten
 |0=>by simp[madeCells]
 |n+1=>by have B:=dF z m d n;simp only[madeCells,Array.toList_map,Array.toList_range]at B|-;rw[lZ,Nat.one_mul,xr,fq,B,IU,flatten_append];congr 1;rw[fS];simp only[oj,flatten_nil,iE];refine xy (by simp[d]) λi C a=>?_;simp only[b9,qP]at C;simp only[xx,IX,Function.comp,d];rw[qZ n m,Nat.mul_add_mod,AP C,getElem!_pos z i I];simp
def fsN(x:Nd):List Nat:=x.facts.map Int.toNat
def stN(x:Nd):BS:=de<|fsN x
def Cb:∀(l:List BS)(k:Nat)(s:BS),k<ζ l->((di l).set (k*2)<|Z s.1).set (k*2+1) (Z s.2)=di (l.set k s)
 |[],k,s,h=>by simp at h
 |a::l,0,s,h=>by simp[di,fV]
 |a::l,k+1,s,h=>by have:=Cb l k s<|H' h;simp only[di,bW,fV,fW,gg,cO]at this|-;rw[show(k+1)*2=k*2+1+1 by omega];simp only[cO];rw[this]
def Ed{k:Nat}{s:BS}(h:W.1[g]?=z' (i' (θ<|di l) t (0,0)))(a:k<ζ l):(κ (κ W (O g<|k*2)<|Z s.1) (O g<|k*2+1)<|Z s.2).1[g]?=z' (i' (θ<|di<|l.set k s) t (0,0)):=by rw[H (H h _) _];congr 2;rw[cj,cj,Cb l k s a]
def U8(h:W.1[g]?=z' (i' (θ<|di l) t (0,0))):Ep W (z'<|O g 0) l:=by intro j s f;have E:=A h;have:=tI l j s f;exact⟨g,0,rfl,by rw[E.1];simpa using this.1,by rw[E.1];simpa using this.2⟩
def TU{p:Prop}(h:p:=by
 induction n with
 |zero=>rfl
 |succ n B=>rw[gM,oj,B,gM];rfl):p:=h
def DM(n:Nat):(replicate n [Z 0,Z 0]).flatten=di (replicate n (0,0)):=by exact TU
def eJ{B n a:Nat}{z:List y'}(h:ρ W B t a (cG g n) n z):W.1[g]?=z' (i' (θ z) t (0,0))/\B<=g:=by
 rcases h.2 with⟨e,_⟩|⟨g,a,Y,e,C,a,N,_,l,c⟩
 .simp at e
 simp at e;obtain⟨rfl,rfl⟩:=e;refine⟨?_,C⟩;rw[a];congr 2;rw[c!<|by simp[l]]at c;rw[<-c]
end
abbrev RK:=BS×List Int
def rkC(r:RK):List y':=fV r.1++r.2.map G
def rkS(l:List Int)(f:Int)(r:Int):List Int:=l.set f.toNat r
def rkL(x:Nd)(k:Nat):List Int:=((x.facts.zip x.bf).take k).foldl (λl p=>rkS l p.1 p.2)<|replicate 68 0
def Ia(s:x'):List x':=Lib.goFieldsP Wm.Dh s
def Jb(s:x'):(Ia s).map (·.data.toList)=Wm.ji [] s.1.1:=Wm.PK s
def K4(w:p'):PredAtRunes Tryz.prog 122 #[] Wm.Dh w:=by intro W x F a;refine(GK x W).mono λe a h=>?_;refine⟨h.1.trans<|bC ?_,0,h.2⟩;rw[Wm.Dh,cC];simp;omega
def kZ(ws:List x'):Bool:=match ws with|[]=>N'|x::_=>match x.1.1 with|c::_=>c==35|[]=>O'
def uy(a:t')(b:Nat)(w:p'):
  Cl 78 #[g' a 0 b] w λe a=>e=n' (h' N')/\a=w:=by
 go_enter func78,ntmps78;go_wp2;go_ret;exact⟨rfl,rfl⟩
def nM(g t c a:Nat)(x:x')(R:List x')(w:p')(X:((c:Int)==0)=O')(F:0<x.size)(d:x.size<=3000)(j:Ws w g t<|x::R):
  Cl 78 #[g' (z'<|O g t) c a] w λe a=>e=n' (h'<|kZ<|x::R)/\a=w:=by
 have T:χ w (O g t)=z' (k' x):=j.cell 0 x rfl;have b:(0:Int)<c:=by rw[dB]at X;omega
 have e:kZ (x::R)=((x[0].toNat:Int)==35):=by
  have:=Wm.fj x F;simp only[kZ];rw[this];simp only;rw[cC];simp;constructor
  .intro h;rw[h];rfl
  intro h;exact xN.1 (by simpa using(by omega:x[0].toNat=35))
 rw[e];go_enter func78,ntmps78;go_wp2;go_ret;exact⟨rfl,rfl⟩
section
variable {D:List NC}{S:List (bI×Nat)}{c:NC}
def Gm{k:Nat}(U:kC 0 [] (D.map NC.bB)=z' S)(T:D[k]?=z' c)(h:(!jumps c.n.aH||decide (c.n.bD.1.1∈iw S))=O'):dX D=O':=by
 have:lL S D=O':=by rw[lL,all_eq_false];exact⟨c,aO T,by rw[h];simp⟩
 simp[dX,U,this]
def Kd{a:List NC}(U:kC 0 [] (D.map NC.bB)=z' S)(h:Lk w S D a<|ζ D)(K:0<ζ D)(T:D[ζ D-1]?=z' c):dX D=!(jh S c<|ζ D-1).contains (ζ D:Int):=by
 have C:lL S D=N':=by rw[lL,bV];intro d Q;obtain⟨j,f,rfl⟩:=xE Q;obtain⟨_,_,_,_,e⟩:=h.done j _ f<|bj f;exact e
 have a:D.getLast?=z' c:=by rw[IG,T]
 simp[dX,U,C,rF,a]
def Hl{a:t'}{l c:Nat}{d:List Int}(h:Er w (g' a l c) d)(X:ζ d<=2)(x:Int):
  Cl 129 #[g' a l c,G x] w λe a=>e=n' (h'<|d.contains x)/\a=w:=by
 rcases h with⟨rfl,h⟩|⟨b,h,a⟩
 .cases h;exact Tryz.slices_Contains_int_empty A' 0 x w
 cases h
 have:=Tryz.slices_Contains_int b 0 (ζ d) (ζ d) d x w aK I (λj f=>by
  simp[World.cell?,a,f,bN])
 rwa[jj]at this
def X9(k g n:Int):ζ (Hb k g n)<=2:=by unfold Hb;split;simp;split;simp;split<;>simp
def S7(g E:Nat)(D:List NC)(w:p')(p:iB w g E D)(h0:0<ζ D)(L:ζ D<=60)(i:∀c∈D,c.bB.size<=3000)(hzg:∀c∈D,c.n.bD.size<=3000):
  Cl 80 #[g' (z'<|O g 0) (ζ D) E] w λe R=>
   e=n' (h'<|dX D)/\ξ w R (z' g)/\(dX D=N'->∃S y,kC 0 [] (D.map NC.bB)=z' S/\iB R g E y/\Lk R S D y (ζ D)):=by
 have hg:=p.lt;have t:((ζ D:Int)==0)=O':=by rw[dB];omega
 have t:decide (60<(ζ D:Int))=O':=by rw[e9];omega
 go_enter func80,ntmps80;go_wp2_with fail;refine(wm g E D w p L i).mono ?_;rintro e t ⟨a,l⟩;rcases a with⟨S,x,U,rfl,hmb,o⟩|⟨U,rfl⟩;rotate_left
 .have v:J (dX D=O'):=by show _=_;simp[dX,U]
  clear U;go_wp2_with fail;go_ret;exact⟨bC v.o.symm,jW (bF l) _,λh=>by rw[v.o]at h;cases h⟩
 have Q:J (kC 0 [] (D.map NC.bB)=z' S):=U;clear U;have a:=p.of_block<|l.block g hg;have i:=a.lt;go_wp2_with fail;go_loopw[26] (λi wr=>∃(k:Nat)(y:List NC),k<=ζ D/\i=G k/\iB wr g E y/\Lk wr S D y k/\wr.ownsMap Tryz.prog 9 (plainElem Tryz.prog 3) x 60 (qf S)/\ξ w wr (z' g)) (λi _=>ζ D-(intOf i).toNat)
 case atStart=>exact⟨0,D,bm,rfl,a,⟨rfl,λj c f=>I,λ_ _=>rfl⟩,o,jW (bF l) _⟩
 clear o a;obtain⟨k,y,i,rfl,d,C,o,b⟩:=hrel;by_cases n8:k<ζ D;rotate_left
 .obtain rfl:k=ζ D:=I;obtain⟨c,T⟩:=La (l:=D) (i:=ζ D-1) I;obtain⟨t,K,i,l,_⟩:=C.done (ζ D-1) c I T;have v:J (dX D=!(jh S c<|ζ D-1).contains (ζ D:Int)):=Kd Q.o C h0 T;obtain⟨_,_,_,_,_,_,_,_,_,_,_,_,q12,_⟩:=d.all (ζ D-1) t K;have i:((ζ D-1:Nat):Int)=(ζ D:Int)-1:=I;clear p;go_wp2_with fail;refine(Hl l (X9 _ _ _) _).mono ?_;rintro e R ⟨rfl,rfl⟩;go_wp2;go_ret;exact⟨bC<|by rw[v.o];simp,b,λ_=>⟨S,y,Q.o,d,C⟩⟩
 obtain⟨c,T⟩:=La n8;have K:y[k]?=z' c:=by rw[C.rest k aK];exact T
 obtain⟨i,R,i,i,i,y,i,i,i,i,i,i,q12,i⟩:=d.all k c K;have i:c.n.bD.size<=maxLen:=by have:=hzg c<|aO T;unfold maxLen;omega
 have l:(k:Int)<(ζ D:Int):=I;have q:keyOf Tryz.prog 9 (k' c.n.bD)=z' (ld c.n.bD.1.1):=keyOf_string_mk underlying9 i;have hat:=atA S c.n.bD.1.1;have agF:=acF S c.n.bD.1.1;have E:=d.frozen<|k*14+12;obtain⟨W,hjb⟩:∃W,jumps c.n.aH=W:=⟨_,rfl⟩;obtain⟨s,a⟩:∃s,decide (c.n.bD.1.1∈iw S)=s:=⟨_,rfl⟩;rw[a]at agF;cases U:(!W||s)with
 |false=>
  obtain⟨rfl,rfl⟩:W=N'/\s=O':=by cases W<;>cases s<;>simp_all
  have v:J (dX D=O'):=Gm Q.o T (by rw[hjb,a];rfl);clear a
  go_wp2_with (first
   |(at_lookup;refine Cj _ rfl _ _ 141 rfl 9 3 .i64 Gr underlying141 underlying3 (AY _) x 60 (qf S) rfl (o.alloc _) _ _ rfl q ?_;intro z P hwc)
   |(go_at_call 127;refine(oU c _).mono ?_;rintro e F ⟨rfl,X⟩))
  go_ret;exact⟨bC v.o.symm,b.trans<|cE<|jW (bF X) _,λh=>by rw[v.o]at h;cases h⟩
 |true=>
  have N:J ((!jumps c.n.aH||decide (c.n.bD.1.1∈iw S))=N'):=by show _=_;rw[hjb,a];exact U
  clear a;cases W<;>cases s<;>simp only[uf,Cs,xu,Bool.or_true,eF]at U
  all_goals
   go_wp2_with (first
    |(at_lookup;refine Cj _ rfl _ _ 141 rfl 9 3 .i64 Gr underlying141 underlying3 (AY _) x 60 (qf S) rfl (o.alloc _) _ _ rfl q ?_;intro z P hwc)
    |(go_at_call 127;refine(oU c _).mono ?_;rintro e F ⟨rfl,X⟩;have r:=eo (bF X) (λk e=>by cases e);have L:=A r;have R:g<δ F.1:=eh d.lt (by have:=X.size;simp at this;omega);have a:=((d.alloc _).of_block<|X.block g (by have:=d.lt;simp;omega)).all k c K;have h:=((d.alloc _).of_block<|X.block g (by have:=d.lt;simp;omega)).frozen<|k*14+12;obtain⟨_,_,_,_,_,_,_,_,_,_,_,_,a,_⟩:=a)
    |(go_at_call 128;refine(PW _ _ _ _).mono ?_;rintro e W3 ⟨ea,V,B,rfl,HE,Y⟩;have u:=((d.alloc _).of_block<|X.block g (by have:=d.lt;simp;omega)).of_block<|Y.block g R;have a:=u.all k c K;have d:=u.frozen<|k*14+12;obtain⟨_,_,_,_,_,_,_,_,_,_,_,_,a,_⟩:=a))
   go_roundw
   case rel=>
    have ez:z=mZ S c.n.bD.1.1:=by have:=P.symm.trans hat;simpa using this
    subst ez;have a:Bl wr W3:=(((AW _ wr).alloc aK _).trans<|X.mono ak).trans<|Y.mono (by have:=X.size;simp at this;omega);have d:Er W3 (g' ea V B) (jh S c k):=HE.o;refine⟨k+1,_,I,e',u.Od k c K ea V B,(C.bJ a).step u T K ea V B d N.o,?_,?_⟩
    .refine World.ownsMap.setCell ?_ ?_ _
     .exact o.kept (bF a) ak
     show x≠g;omega
    have C:=b.trans<|jW (bF a)<|z' g;refine⟨C.os,C.tape,C.output,by simpa[World.setCell]using C.size,λj f z=>?_⟩;rw[aJ (by intro e;exact z<|by rw[e])];exact C.block j f z
   exact F'
end
section
variable {c:NC}{D:List NC}
structure PN where
  bB:x'
  ws:List x'
  n:SN
def PN.nc(p:PN):NC:=⟨p.bB,A',0,0,p.n,A',0,0⟩
def nN(vs:List bI)(acc:List PN):List (List x')->Option (List PN×List bI)
 |[]=>z' (acc,vs)
 |ws::r=>if kZ ws then nN vs acc r else if (jS vs ws).2.2.2.1 then nN (jS vs ws).2.2.2.2 (acc++[⟨(jS vs ws).1,ws.drop (jS vs ws).2.1,(jS vs ws).2.2.1⟩]) r else A'
def MQ(s:x'):List x':=Lib.splitB ⟨#[10]⟩ 0 (Lib.countB s ⟨#[10]⟩) s
def BJ(s:x'):List (List x'):=(MQ s).map Ia
abbrev Pr:=Bool ⊕ (List PN×List bI)
abbrev Pr.Qj:Pr:=.inl O'
abbrev Pr.prg:Pr:=.inl N'
abbrev Pr.ok(pl:List PN)(vs:List bI):Pr:=.inr (pl,vs)
def ia(pl:List PN)(vs:List bI):Bool:=decide (ζ vs<=8)&&decide (0<ζ pl)&&decide (ζ pl<=60)&&dX (pl.map PN.nc)
def iD(s:x'):Pr:=
 if 3000<s.size then Pr.Qj else
 match nN [] [] (BJ s)with
 |none=>Pr.Qj
 |some (pl,vs)=>if ia pl vs then Pr.ok pl vs else Pr.prg
def L4(E:List bI)(R:List x'):ζ (iz E R).2.2<=ζ E+3:=by
 have a:∀R,ζ (oO E R).2.2<=ζ E+3:=by
  intro R;unfold oO;split
  .rename_i b;have:=jP E b;simp only;omega
  simp[gQ]
 have d:∀R,ζ (jX E R).2.2<=ζ E+3:=by intro R;unfold jX;split<;>simp[gQ]
 have S:∀R,ζ (z7 E R).2.2<=ζ E+3:=by
  intro R;unfold z7;split
  .rename_i _ b W i Y p;split
   .have:=jP E b;have:=jP (bS E b) i;simp only;omega
   simp[gQ]
  simp[gQ]
 have c:∀R,ζ (fp E R).2.2<=ζ E+3:=by
  intro R;unfold fp;split;rotate_left
  .simp[gQ]
  rename_i u b W q;have C:=kY E u.1.1;have b:=jP (cy E u.1.1) W;split;rotate_left
  .simp[gQ]
  split
  .split<;>(simp only;omega)
  .rename_i i Y;have N:=jP (bS (cy E u.1.1) W) Y;simp only;omega
  simp only;omega
 unfold iz;split
 .simp[gQ]
 split
 .exact a _
 split
 .exact S _
 split
 .exact d _
 split
 .simp
 exact c _
def Dx(E:List bI)(R:List x'):ζ (jS E R).2.2.2.2<=ζ E+3:=by
 unfold jS;split
 .simp[gQ]
 split
 .split
  .split
   .simp[gQ]
   exact L4 _ _
  simp[gQ]
 exact L4 _ _
structure Rep(w:p')(c:NC)(p:PN):Prop where
  bB:c.bB=p.bB
  n:c.n=p.n
  ws:∃g off,c.wa=z' (O g off)/\Ws w g off p.ws
  wl:c.wl=ζ p.ws
structure wN(w:p')(nl:List NC)(pl:List PN):Prop where
  len:ζ nl=ζ pl
  each:∀(j:Nat)(c:NC)(p:PN),nl[j]?=z' c->pl[j]?=z' p->Rep w c p
def Rep.mono{p:PN}(h:Rep w c p)(B:∀g t R,Ws w g t R->Ws a g t R):Rep a c p:=by obtain⟨g,t,C,a⟩:=h.ws;exact⟨h.bB,h.n,⟨g,t,C,B _ _ _ a⟩,h.wl⟩
def wN.mono{b:List PN}(h:wN w D b)(B:∀g t R,Ws w g t R->Ws a g t R):wN a D b:=
 ⟨h.len,λj c p a b=>(h.each j c p a b).mono B⟩
def afV{p:Prop}(h:p:=by
 refine⟨by simp[h.len],λj a b c d=>?_⟩;by_cases f:j<ζ D
 .rw[gI f]at c;rw[gI<|I' h.len]at d;exact h.each j a b c d
 have X:=h.len;rw[eB I]at c;rw[eB I]at d;have a:j-ζ D=0:=by have:=(aX.1 c).1;simp at this;omega
 rw[a]at c;rw[<-X,a]at d;simp at c d;subst c;subst d
 exact T):p:=h
def wN.snoc{a:List PN}{p:PN}(h:wN w D a)(T:Rep w c p):wN w (D++[c]) (a++[p]):=by exact afV
def r!(b:Bl w a):∀g t R,Ws w g t R->Ws a g t R:=λg _ _ h=>h.of_block<|b.block g h.lt
def aaK{x:Nat}(d:∃b c,w.1[x]?=z' (.map b c))(b:ξ w a<|z' x):∀g t R,Ws w g t R->Ws a g t R:=λ_ _ _ h=>h.grown d b
def QG{q:Option Nat}(l:∀k,q=z' k->∃Y f,w.1[k]?=z' (i' Y 152 f))(b:ξ w a q):∀g t R,Ws w g t R->Ws a g t R:=by intro g t R h;refine h.of_block<|b.block g h.lt ?_;intro e;obtain⟨Y,f,T⟩:=l g e.symm;obtain⟨N,K,_⟩:=h;rw[T]at K;simp at K
def Ph(D:List NC)(d:List PN)(X:ζ D=ζ d)(h:∀(j:Nat)(c:NC)(p:PN),D[j]?=z' c->d[j]?=z' p->c.bB=p.bB/\c.n=p.n):dX D=dX (d.map PN.nc):=by
 have V:D.map NC.bB=(d.map PN.nc).map NC.bB:=by
  apply et;intro j;simp only[a!];by_cases f:j<ζ D
  .have a:=bj f;have b:=bj (l:=d) (i:=j) I;rw[a,b];simp[(h j _ _ a b).1,PN.nc]
  rw[cq I,cq (l:=d) I];rfl
 have u:D.map NC.n=(d.map PN.nc).map NC.n:=by
  apply et;intro j;simp only[a!];by_cases f:j<ζ D
  .have a:=bj f;have b:=bj (l:=d) (i:=j) I;rw[a,b];simp[(h j _ _ a b).2,PN.nc]
  rw[cq I,cq (l:=d) I];rfl
 unfold dX;rw[V];split;rotate_left
 .rfl
 rename_i S _;have N:∀l:List NC,lL S l=(l.map NC.n).all (λn=>!jumps n.aH||decide (n.bD.1.1∈iw S)):=by intro l;simp[lL,all_map];rfl
 have k:∀l:List NC,rF S l=match (l.map NC.n).getLast? with|some n=>!(Hb n.aH (mZ S n.bD.1.1) ((ζ (l.map NC.n)-1:Nat)+1)).contains (ζ (l.map NC.n):Int)|none=>O':=by intro l;unfold rF jh;rw[getLast?_map];simp only[b9];cases l.getLast?<;>rfl
 rw[N,k,N,k,u]
end
section
namespace Wm
open Go.Lib
theorem ab9:∀(l Y x:List UInt8),x∈z6 Y l->x.length<=Y.length+l.length:=by
 intro l;induction l with
 |nil=>intro Y x F;simp[z6]at F;subst F;simp
 |cons c r B=>
  intro Y x F;rw[z6]at F;split at F
  .rcases cM.1 F with rfl|h
   .simp
   have:=B [] x h;simp at this|-;omega
  have:=B _ x F;simp at this|-;omega
theorem Yg:∀(l Y x:List UInt8),x∈ji Y l->x.length<=Y.length+l.length/\x≠[]:=by
 intro l;induction l with
 |nil=>
  intro Y x F;rw[ji]at F;split at F
  .simp at F
  rename_i h;simp at F;subst F;exact⟨by simp,h⟩
 |cons c r B=>
  intro Y x F;rw[ji]at F;split at F;rotate_left
  .have:=B _ x F;simp only[bg,bU,eY]at this|-;exact⟨by omega,this.2⟩
  split at F
  .have:=B [] x F;simp only[eY,bU]at this|-;exact⟨by omega,this.2⟩
  rename_i h;rcases cM.1 F with rfl|F
  .exact⟨by simp,h⟩
  have:=B [] x F;simp only[eY,bU]at this|-;exact⟨by omega,this.2⟩
theorem UD:∀(l Y:List UInt8),(ji Y l).length<=l.length+1:=by
 intro l;induction l with
 |nil=>intro Y;rw[ji];split<;>simp
 |cons c r B=>
  intro Y;rw[ji];split
  .split
   .have:=B [];simp;omega
   have:=B [];simp;omega
  have:=B<|Y++[c];simp;omega
theorem Xf:∀(l Y:List UInt8),(z6 Y l).length=count l [10]+1:=by
 intro l
 suffices h:∀n (l Y:List UInt8),l.length<=n->(z6 Y l).length=count l [10]+1 from λY=>h _ l Y aK
 intro n;induction n with
 |zero=>intro l Y h;obtain rfl:l=[]:=fT.1 I;rw[count_miss<|by simp[index]];simp[z6]
 |succ n B=>
  intro l Y h;rcases Gi l Y with⟨C,c⟩|⟨a,b,D,C,c⟩
  .rw[count_miss C,c];rfl
  have d:l.drop (a.length+([10]:List UInt8).length)=b:=by rw[D];simp
  rw[count_hit ak C,c,d,bU,B b [] (by rw[D]at h;simp at h;omega)];omega
theorem KY(l:List UInt8):count l [10]<=l.length+1:=count_le l [10]
end Wm
end
section
variable {e size:Nat}{v:y'}{D:List y'}{s:x'}{q:Option Nat}
def Tr:(Tryz.prog.info? 152).map (λi=>(i.zero,i.size,i.bytes))=z' (z'<|j' #[k' ⟨#[]⟩,g' A' 0 0,G 0,G 0,G 0,G 0,h' O',G 0,G 0,h' O',G 0,G 0,g' A' 0 0,k' ⟨#[]⟩],14,160):=M
structure Env(w:p'):Prop where
  glob:eI w
  Xb:∃m,χ w (O 1 0)=z' (G m)
def adA(w:p')(r:Pr)(e:Ending)(w':p'):Prop:=
 Bl w w' /\
 match r with
 | .inl false=>e=n' (o' #[j' nK,G 1])
 | .inl true=>e=n' (o' #[j' nK,G 2])
 | .inr (pl,vs)=>∃g cap nl ps,e=n' (o' #[j'<|fC g (ζ pl) cap<|ζ vs,G 0])/\δ w.1<=g/\iB w' g cap nl/\wN w' nl pl/\kC 0 [] (pl.map PN.bB)=z' ps/\(∀(j:Nat)(c:NC)(p:PN),nl[j]?=z' c->pl[j]?=z' p->Er w' c.ev (jh ps p.nc j))
def J2(s:x')(w:p')(h:decide (3000<(s.size:Int))=N'):
  Cl 40 #[k' s] w (adA w Pr.Qj):=by
 go_enter func40,ntmps40;go_wp2;exact aE (v:=o' #[j' nK,G 1]) (by simp[results40,go_sem]) rfl ⟨aQ.alloc aK _,rfl⟩
def Env.alloc(h:Env w)(o:Obj):Env (w.alloc o):=
 ⟨h.glob.alloc o,let ⟨m,d⟩:=h.Xb;⟨m,(j6 w o A').cell d ak⟩⟩
def Env.below(h:Env w)(b:Bl w a):Env a:=by obtain⟨⟨i,z,T⟩,m,d⟩:=h;exact⟨⟨i,z,(bF b).cell T ak⟩,m,(bF b).cell d ak⟩
def gA{W:p'}(h:ρ W B e size v n D)(b:Bl W a):ρ a B e size v n D:=
 h.kept (row:=A') (bF b) (Classical.em _)
def MP(s:x'):ζ (MQ s)=Lib.countB s ⟨#[10]⟩+1:=by have h:=cZ length<|Wm.y8 s;rw[b9,Wm.Xf]at h;exact h
def Xg(s:x'):ζ (MQ s)<=s.size+2:=by rw[MP];have:=Wm.KY s.1.1;have e:Lib.countB s ⟨#[10]⟩=Lib.count s.1.1 [10]:=rfl;have:=Wm.bT s;omega
def Gj(s x:x')(h:x∈MQ s):x.size<=s.size:=by
 have:x.1.1∈Wm.z6 [] s.1.1:=by rw[<-Wm.y8 s];exact IF h
 have:=Wm.ab9 _ _ _ this;have C:=Wm.bT s;have a:=Wm.bT x;simp only[eY]at this;omega
def xY(s x:x')(h:x∈Ia s):x.size<=s.size/\0<x.size:=by
 have:x.1.1∈Wm.ji [] s.1.1:=by rw[<-Jb s];exact IF h
 have:=Wm.Yg _ _ _ this;have C:=Wm.bT s;have a:=Wm.bT x;simp only[eY]at this;refine⟨I,?_⟩;rcases IH x.size with e|e
 .exact absurd (fT.1<|a.trans e) this.2
 exact e
def LK(s:x'):ζ (Ia s)<=s.size+1:=by have h:=cZ length<|Jb s;rw[b9]at h;have:=Wm.UD s.1.1 [];have:=Wm.bT s;omega
def Ja(s:x')(h:s.size<=3000):wb (Ia s):=
 ⟨I'<|LK s,λx F=>I' ((xY s x F).1)⟩
structure Pre(B:Nat)(s:x')(w:p'):Prop where
  res:w.1[B]?=z' (i' nK 86 (0,0))
  lines:w.1[B+3]?=z' (i' (θ ((MQ s).map k')) 9 (0,0))
def Pre.grown(h:Pre B s w)(b:ξ w a q)(C:some B≠q)(c:some (B+3)≠q):Pre B s a:=
 ⟨(b.block B (bq.1 h.res).1 C).trans h.res,(b.block (B+3) (bq.1 h.lines).1 c).trans h.lines⟩
def Pre.line(h:Pre B s w)(k:Nat)(x:x')(F:(MQ s)[k]?=z' x):χ w (O (B+3) k)=z' (k' x):=by simp[World.cell?,h.lines,F]
def Hj(x:x')(R:List x')(F:Ia x=R)(w:p')(y:x.size<=3000):
  Cl 77 #[k' x] w λe a=>∃(g c:Nat),e=n' (gX g (ζ R) c)/\δ w.1<=g/\ζ R<=c/\c<=maxLen/\Ws a g 0 R/\Bl w a:=by
 subst F;have a:=Tryz.strings_FieldsFunc_runes 122 #[] (enters_of func122 M rfl) Wm.Dh x w I<|K4 w;go_enter func77,ntmps77;go_wp2_with fail;refine a.mono ?_;rintro e b ⟨a,rfl,s,o,b⟩;go_wp2;go_ret;have C:=LK x;refine⟨a,ζ<|Ia x,rfl,s,aK,by unfold maxLen;omega,?_,b⟩;rcases o.2 with⟨D,_⟩|⟨g,c,Y,R,_,a,_,_,_,U⟩
 .cases D
 cases R;exact⟨Y,a,by simpa[Ia]using U⟩
def E6(E:List bI)(R:List x')(h:wb R):(iz E R).1.bD.size<=3000:=by
 have l:emp.size<=3000:=aj;have a:∀R,(oO E R).1.bD.size<=3000:=by intro R;unfold oO;split<;>exact l
 have c:∀R,wb R->(jX E R).1.bD.size<=3000:=by
  intro R f;unfold jX;split
  .rename_i b;exact f.word b ak
  exact l
 have S:∀R,wb R->(z7 E R).1.bD.size<=3000:=by
  intro R f;unfold z7;split
  .rename_i _ b W i Y p;split
   .exact f.word p ak
   exact l
  exact l
 have b:∀R,(fp E R).1.bD.size<=3000:=by
  intro R;unfold fp;split;rotate_left
  .exact l
  split
  .split
   .split<;>exact l
   .exact l
   exact l
  exact l
 unfold iz;split
 .exact l
 split
 .exact a _
 split
 .exact S _ h
 split
 .exact c _ h
 split
 .exact l
 exact b _
def S8(E:List bI)(R:List x')(h:wb R):(jS E R).1.size<=3000/\(jS E R).2.2.1.bD.size<=3000:=by
 have l:emp.size<=3000:=aj;unfold jS;split
 .exact⟨l,l⟩
 rename_i u r;have X:(jw u).size<=3000:=by have:=pW u;have:=h.word u ak;omega
 split
 .split
  .split
   .exact⟨l,l⟩
   exact⟨X,E6 _ _ h.tail⟩
  exact⟨l,l⟩
 exact⟨l,E6 _ _ h⟩
def abL(h:ρ w (B+4) e size v n D):φ v=A'\/φ v≠z' (B+1):=by
 cases R:φ v with
 |none=>exact aP rfl
 |some k=>have:=(h.lt k R).1;exact aR G'
def vK(W:p')(o:Obj)(L:Array y')(t:TypeId):∀(j:Nat)(u:y'),L.toList[j]?=z' u->χ ((W.alloc o).alloc<|i' L t) (((O (δ W.1+1) 0):Addr).add j)=z' u:=by
 intro j u f;have h:((W.alloc o).alloc<|i' L t).1[δ (W.alloc o).1]?=z' (cU L t):=cv;have a:δ (W.alloc o).1=δ W.1+1:=ak;rw[a]at h;have a:((O (δ W.1+1) 0):Addr).add j=(O (δ W.1+1) j):=by unfold Addr.add;split<;>simp_all
 rw[a];simp only[World.cell?,h];simpa using f
def Fa(b:x')(a:t')(l c:Nat)(n:SN):∀u∈(aS b (g' a l c) n gR).toList,u.oneCell'=N':=by intro u C;simp only[aS,gR,cM,mem_nil_iff,dz]at C;rcases C with rfl|rfl|rfl|rfl|rfl|rfl|rfl|rfl|rfl|rfl|rfl|rfl|rfl|rfl<;>rfl
def VK{t:Nat}{R:List x'}(h:Ws w g t R):∀k,Ws w g (t+k) (R.drop k):=by
 intro k;induction k with
 |zero=>simpa using h
 |succ k B=>
  by_cases a:k<ζ R
  .rw[mX a]at B;exact B.tail
  rw[qO I];obtain⟨Y,C,_⟩:=h;exact⟨Y,C,ak⟩
def ady(w:p')(a f e b:Obj):((((w.alloc a).alloc f).alloc e).alloc b).1[δ w.1]?=z' a/\((((w.alloc a).alloc f).alloc e).alloc b).1[δ w.1+1]?=z' f/\((((w.alloc a).alloc f).alloc e).alloc b).1[δ w.1+1+1]?=z' e/\((((w.alloc a).alloc f).alloc e).alloc b).1[δ w.1+3]?=z' b:=by
 have W:δ (w.alloc a).1=δ w.1+1:=ak;have k:δ ((w.alloc a).alloc f).1=δ w.1+1+1:=ak;have c:δ (((w.alloc a).alloc f).alloc e).1=δ w.1+3:=ak;have C:=cF w a;have g:=cF (w.alloc a) f;have N:=cF ((w.alloc a).alloc f) e;have d:=cF (((w.alloc a).alloc f).alloc e) b;rw[W]at g;rw[k]at N;rw[c]at d;refine⟨?_,?_,?_,d⟩
 .rw[bR I,bR I,bR I];exact C
 .rw[bR I,bR I];exact g
 rw[bR I];exact N
def Ga{D:List NC}(h:ρ w B 152 14 v (ζ D)<|fN D)(a:0<ζ D):∃g a,v=g' (z'<|O g 0) (ζ D) a/\B<=g/\iB w g a D:=by
 rcases h.2 with⟨_,e⟩|⟨g,a,Y,R,b,c,T,_,y,U⟩
 .omega
 exact⟨g,a,R,b,Y,c,y,U,T⟩
def J?(h:ρ w B 152 14 v n D):∃a b,v=g' a n b:=by
 rcases h.2 with⟨rfl,e⟩|⟨g,b,Y,R,_⟩
 .exact⟨A',0,by rw[e]⟩
 exact⟨_,_,R⟩
def ach(D:List NC)(d:List PN)(X:ζ D=ζ d)(h:∀(j:Nat)(c:NC)(p:PN),D[j]?=z' c->d[j]?=z' p->c.bB=p.bB):D.map NC.bB=d.map PN.bB:=by
 apply et;intro j;simp only[a!];by_cases f:j<ζ D
 .have a:=bj f;have b:=bj (l:=d) (i:=j) I;rw[a,b];simp[h j _ _ a b]
 rw[cq I,cq (l:=d) I];rfl
def Um{a:y'}{b:List Int}{Y:Array y'}{t:TypeId}{f:Nat×Nat}(h:Er w a b)(T:w.1[g]?=z' (i' Y t f))(U:t≠3)(o:Nat)(v:y'):Er (κ w (O g o) v) a b:=by
 rcases h with h|⟨b,C,a⟩
 .exact aP h
 refine aR ⟨b,C,(aJ ?_).trans a⟩;rintro rfl;rw[T]at a;simp at a;exact U a.2.1
def Rd.s7{b:p'}{a x:Nat}{E:List bI}(h:Rd w a x E)(c:ξ w b q)(C:some a≠q)(d:some x≠q):Rd b a x E:=
 ⟨(c.block a h.Pd C).trans h.box,h.own.kept c d,h.nodup⟩
def Env.s7(h:Env w)(b:ξ w a q)(C:z' 5≠q)(c:z' 1≠q):Env a:=by obtain⟨⟨i,z,T⟩,m,d⟩:=h;exact⟨⟨i,z,b.cell T C⟩,m,b.cell d c⟩
def BH{b j:Nat}(h:∀k,q=z' k->b<=k)(f:j<b):some j≠q:=by intro e;have:=h j e.symm;omega
def afq(h:Env w):1<δ w.1:=by obtain⟨m,d⟩:=h.Xb;exact World.block_lt_of_cell? w _ d
def QT{p:Prop}(h:p:=by
 refine aE (v:=.tuple #[.agg nK,G 2]) (by simp[results,results40,go_sem,L.1]) rfl ?_;rw[HN.o]
 exact⟨(hb.setCell aK _).setCell aK _,rfl⟩):p:=h
def OZ(s:x')(w:p')(y:s.size<=3000)(c:Env w):
  Cl 40 #[k' s] w (adA w<|iD s):=by
 have i:decide (3000<(s.size:Int))=O':=by rw[e9];omega
 have i:=@run_makeMap Tryz.prog;obtain⟨N,S,D,P,a⟩:=cI Tr;have HI:J (Tryz.prog.info? 152=z' N/\N.zero=z' (j' #[k' ⟨#[]⟩,g' A' 0 0,G 0,G 0,G 0,G 0,h' O',G 0,G 0,h' O',G 0,G 0,g' A' 0 0,k' ⟨#[]⟩])/\N.size=14/\N.bytes=160):=⟨S,D,P,a⟩;clear S D P a;go_enter func40,ntmps40;go_wp2_with fail;have b:=((c.alloc<|i' nK 86).alloc<|.map #[] 0).alloc<|i' #[.map<|z'<|δ w.1+1] 143;obtain⟨m,d⟩:=b.Xb;refine(Tryz.strings_Split s ⟨#[10]⟩ m _ I d aj).mono ?_;rintro e v ⟨rfl,a⟩;have i:=MP s;have y:=Xg s;rw[<-i]at *;have f:Env v:=by rw[a];exact b.alloc _
 have l:Bl w v:=by rw[a];exact(((aQ.alloc aK _).alloc ak _).alloc G' _).alloc G' _
 have h4:=ady w (i' nK 86) (.map #[] 0) (i' #[.map<|z'<|δ w.1+1] 143)<|i' (θ ((MQ s).map k')) 9;have wD:Pre w.1.size s v:=by rw[a];exact⟨h4.1,h4.2.2.2⟩
 have VB:Rd v (δ w.1+1+1) (δ w.1+1) []:=by
  rw[a];refine⟨h4.2.2.1,?_,Ll⟩;obtain⟨es,i,hb,F,hs',hD⟩:=World.ownsMap_made (H:=Unit) (w.alloc<|i' nK 86) Tryz.prog 9<|plainElem Tryz.prog 3;have y:(((w.alloc<|i' nK 86).alloc<|.map #[] 0)).1[δ w.1+1]?=z' (.map es i):=by have:δ (w.alloc<|i' nK 86).1=δ w.1+1:=ak;rw[<-this];exact hb
  refine⟨es,i,?_,F,hs',hD⟩;rw[bR ak,bR ak];exact y
 clear h4;have P:δ v.1=δ w.1+4:=by rw[a];simp
 have HG:J (5<δ w.1/\1<δ w.1):=⟨c.glob.lt,afq c⟩;have y:J (δ v.1=δ w.1+4):=P;clear a d P b c;go_wp2_with fail;go_loopw[5,20] (λv i wr=>∃(k:Nat)(E:List bI)(V:List PN)(nl:List NC),k<=ζ (MQ s)/\i=G k/\J (nN [] [] (BJ s)=nN E V ((BJ s).drop k))/\ρ wr (δ w.1+4) 152 14 v (ζ nl) (fN nl)/\wN wr nl V/\Rd wr (δ w.1+1+1) (δ w.1+1) E/\Env wr/\Pre w.1.size s wr/\Bl w wr/\J (ζ E<=3*k/\ζ nl<=k/\(∀c∈nl,c.bB.size<=3000/\c.n.bD.size<=3000)/\δ w.1+4<=δ wr.1)) (λ_ i _=>ζ (MQ s)-(intOf i).toNat)
 case atStart=>
  refine⟨0,[],[],[],bm,rfl,rfl,dj,⟨rfl,λj c p h=>by simp at h⟩,VB,f,wD,l,?_⟩;exact⟨ak,ak,ak,I' y.o⟩
 clear VB f wD l;obtain⟨k,E,V,nl,i,rfl,a,o,P,VB,hEn,wD,hb,U⟩:=hrel;by_cases n8:k<ζ (MQ s)
 .obtain⟨x,u⟩:=La n8;have hxs:x.size<=3000:=by have:=Gj s x<|aO u;omega
  obtain⟨R,l⟩:∃R,Ia x=R:=⟨_,rfl⟩;have afO:=wD.line k x u;have i:(k:Int)<(ζ (MQ s):Int):=I;have Px:wb R:=l▸Ja x hxs;have uR:∀y∈R,0<y.size:=by rw[<-l];exact λy i=>(xY x y i).2
  have i:=λW=>Hj x R l W hxs;have r:=(show J (∀W,Cl 77 #[k' x] W λe w'=>∃(g cap:Nat),e=n' (gX g (ζ R) cap)/\δ W.1<=g/\ζ R<=cap/\cap<=maxLen/\Ws w' g 0 R/\Bl W w')from i);have d:(BJ s).drop k=R::(BJ s).drop (k+1):=by rw[mX<|by simpa[BJ]using n8];congr 1;have v:=(aX.1 u);simp only[BJ,xx,v.2,l]
  have B:J (nN [] [] (BJ s)=nN E V (R::(BJ s).drop (k+1))):=by show _=_;rw[a.o,d]
  clear i d l a u;have i:=hb.size;go_wp2_with fail;refine bP (r.o _) ?_;clear r;rintro e W2 ⟨d,cap,rfl,v,XI,agD,TS,X⟩;have XJ:=hb.trans<|X.mono i
  match R,Px,uR,B,XI,TS with
  | [],Px,uR,B,XI,TS=>
   go_wp2_with (go_at_call 78;refine(uy _ _ _).mono ?_;rintro e w' ⟨rfl,rfl⟩);refine⟨⟨k+1,E,V,nl,I,e',?_,gA o X,P.mono<|r! X,VB.grown X,hEn.below X,wD.grown (bF X) ak ak,XJ,?_⟩,by simp[intOf];omega⟩
   .show _=_;rw[B.o];rfl
   have:=U.o;exact⟨I,I,this.2.2.1,I' X.size⟩
  |u::r,Px,uR,B,XI,TS=>
   have hw0:=uR u ak;have hw3:=Px.word u ak;have hl0:((ζ (u::r):Int)==0)=O':=by rw[dB];simp;omega
   have XM:=VB.grown X;have acI:=hEn.below X;have i:=C0 (δ w.1+1+1) (δ w.1+1) d 0 cap (u::r) E W2 ak XI agD Px (by have:=U.a;unfold maxLen;omega) XM acI.glob TS;have l:J (Cl 79 #[m'<|z'<|O (δ w.1+1+1) 0,g' (z'<|O d 0) (ζ<|u::r) cap] W2<|Vr W2 (δ w.1+1+1) (δ w.1+1) d 0 (ζ<|u::r) cap<|jS E<|u::r):=i;clear i;cases Vy:kZ (u::r)with
   |true=>
    go_wp2_with (go_at_call 78;refine(nM d 0 _ cap u r _ hl0 hw0 hw3 TS).mono ?_;rintro e w' ⟨rfl,rfl⟩);refine⟨⟨k+1,E,V,nl,I,e',?_,gA o X,P.mono<|r! X,XM,acI,wD.grown (bF X) ak ak,XJ,?_⟩,by simp[intOf];omega⟩
    .show _=_;rw[B.o,nN,Vy,aD rfl]
    have:=U.o;exact⟨I,I,this.2.2.1,I' X.size⟩
   |false=>
    go_wp2_with (go_at_call 78;refine(nM d 0 _ cap u r _ hl0 hw0 hw3 TS).mono ?_;rintro e w' ⟨rfl,rfl⟩);refine bP l.o ?_;clear l;rintro e W3 ⟨bB,kk,ad,l,c,n,ok,vt,rfl,HS,Qx,agR,Q⟩;have TT:=(wD.grown (bF X) ak ak).grown Q ak ak;have L:=A TT.res;have hBz:δ w.1<δ W3.1:=(bq.1 TT.res).1;have Y:Bl w W3:=XJ.trans ⟨Q.os,Q.tape,Q.output,Q.size,λj f=>Q.block j (I' XJ.size) G'⟩;have h4:δ w.1+4<=δ W3.1:=by have:=U.C;have:=X.size;have:=Q.size;omega
    cases ok with
    |false=>
     have HN:J (iD s=Pr.Qj):=by show _=_;unfold iD;rw[aA I,B.o,nN,Vy,<-HS.o];rfl
     go_wp2_with fail;refine aE (v:=o' #[j' nK,G 1]) (by simp[results40,go_sem,L.1,hBz]) rfl ?_;rw[HN.o];refine⟨?_,rfl⟩;refine lB ?_ (by simp[World.setCell];omega) _;exact(Y.setCell aK _).setCell aK _
    |true=>
     have v:=((((gA o X).kept Q<|abL o)).alloc<|i' (aS bB (g' ad l c) n gR) 152).alloc<|i' (aS bB (g' ad l c) n gR) 152;have i:=vK W3 (i' (aS bB (g' ad l c) n gR) 152) (aS bB (g' ad l c) n gR) 152;have y:=Fa bB ad l c n;have F:ζ nl+1<=maxLen:=by have:=U.b;unfold maxLen;omega
     have GU:(ζ nl+1)*160<=140737488355328:=by have:=U.b;omega
     have x:δ w.1+4<=δ ((W3.alloc<|i' (aS bB (g' ad l c) n gR) 152).alloc<|i' (aS bB (g' ad l c) n gR) 152).1:=by simp;omega
     have HH:J (_/\_/\_/\_):=⟨v,i,y,x⟩;have hR3:=(P.mono<|r! X).mono<|aaK XM.isMap Q;have X:Env W3:=acI.s7 Q (by have:=HG.a;first|(simp;omega)|(intro e;have:=cJ e;omega)) (by have:=HG.A;first|(simp;done)|(simp;omega)|(intro e;have:=cJ e;omega));have hW3:=TS.grown XM.isMap Q;have Q:J (wN W3 nl V/\Env W3/\Ws W3 d 0 (u::r)):=⟨hR3,X,hW3⟩;clear hR3 X hW3;simp only[aS,gR]at HH;clear o v i y x P VB hEn wD afO;go_wp2_with (at_builtin;go_must (refine fz rfl (.tmp 36) (.tmp 38) 84 rfl (δ w.1+4) 152 N _ 14 160 underlying84 HI.a HI.b HI.c HI.C rfl aj _ _ _ rfl HH.a (O (δ W3.1+1) 0) 1 1 _ rfl rfl HH.b HH.c F GU HH.C ?_;intro i F y x i));have i:=HH.a.lt;have v:=((j6 W3 (i' #[k' bB,g' ad l c,G n.aH,G n.var,G n.op,G n.test,h' n.a.aU,G n.a.var,G n.a.cg,h' n.b.aU,G n.b.var,G n.b.cg,g' A' 0 0,k' n.bD] 152)<|φ u5).trans<|j6 _ (i' #[k' bB,g' ad l c,G n.aH,G n.var,G n.op,G n.test,h' n.a.aU,G n.a.var,G n.a.cg,h' n.b.aU,G n.b.var,G n.b.cg,g' A' 0 0,k' n.bD] 152)<|φ u5).trans x;have z:∀j,j<δ w.1+4->some j≠φ u5:=λj f=>BH (λq hq=>(i q hq).1) f;have wB:=S8 E (u::r) Px;have i:=Dx E<|u::r;rw[<-HS.o]at wB i;simp only at wB i;have hB:=U.o;have i:∀g t R,Ws W3 g t R->Ws F g t R:=by intro g t R h;exact QG (eK HH.a) x g t R ((h.alloc _).alloc _)
     refine⟨⟨k+1,vt,V++[⟨bB,(u::r).drop kk,n⟩],nl++[⟨bB,ad,l,c,n,A',0,0⟩],I,e',?_,?_,?_,agR.s7 v (z _ I)<|z _ I,Q.b.s7 v (z _<|I' HG.a)<|z _<|I' HG.A,TT.grown v (z _ I)<|z _ I,?_,?_⟩,by simp[intOf];omega⟩
     .show _=_;rw[B.o,nN,Vy,<-HS.o];rfl
     .rw[bg,Ae];exact y
     .refine(Q.a.mono i).snoc ⟨rfl,rfl,?_,?_⟩
      .obtain⟨l,u,r⟩:=Qx.o trivial;refine⟨d,0+kk,l,i _ _ _ ?_⟩;exact VK Q.B kk
      obtain⟨l,u,r⟩:=Qx.o trivial;rw[u];simp
     .refine⟨v.os.trans Y.os,v.tape.trans Y.tape,v.output.trans Y.output,bX Y.size v.size,λj f=>(v.block j I<|z j I).trans<|Y.block j f⟩
     refine⟨I,G',?_,I' v.size⟩;intro d Q;rcases iF.1 Q with h|h
     .exact hB.2.2.1 d h
     simp at h;subst h;exact wB
 obtain rfl:k=ζ (MQ s):=I;have HF:J (nN [] [] (BJ s)=z' (V,E)):=by show _=_;rw[a.o,qO<|by simp[BJ]];rfl
 clear a;have Y:=VB.cell;have hmo:=VB.own;have d:=Fb E VB.nodup;have L:=A wD.res;have hB:=U.o;by_cases d:8<ζ E
 .have d:decide (8<(ζ E:Int))=N':=by rw[bM];omega
  have HN:J (iD s=Pr.prg):=by show _=_;unfold iD;rw[aA I,HF.o];simp only;rw[aA<|by simp[ia];omega]
  go_wp2_with (at_len;refine xn _ rfl _ 141 rfl 9 3 underlying141 _ (δ w.1+1) (ζ E) (tab E) rfl hmo ?_);exact QT
 have d:decide (8<(ζ E:Int))=O':=by rw[e9];omega
 by_cases v:ζ nl=0\/60<ζ nl
 .have HN:J (iD s=Pr.prg):=by show _=_;unfold iD;rw[aA I,HF.o];simp only;rw[aA (by have:=P.len;simp[ia];intros;omega)]
  obtain⟨a,cp,rfl⟩:=J? o;have C:∀W,Cl 80 #[g' a (ζ nl) cp] W λe w'=>e=n' (h' O')/\w'=W:=by
   intro W;by_cases d:ζ nl=0
   .rw[d];exact Pf a cp W
   exact Pg a _ cp W (by rw[dB];omega) (by rw[bM];omega)
  have d:J (∀W,Cl 80 #[g' a (ζ nl) cp] W λe w'=>e=n' (h' O')/\w'=W):=C;clear C
  go_wp2_with (first
   |(at_len;refine xn _ rfl _ 141 rfl 9 3 underlying141 _ (δ w.1+1) (ζ E) (tab E) rfl hmo ?_)
   |(go_at_call 80;refine bP (d.o _) ?_;rintro e w' ⟨rfl,rfl⟩))
  exact QT
 obtain⟨g,cp,rfl,hgB,K⟩:=Ga o I;have k:=hid (S7 g cp nl wr K I I (λc T=>(hB.2.2.1 c T).1) λc T=>(hB.2.2.1 c T).2);have C:dX nl=dX (V.map PN.nc):=Ph nl V P.len λj c p a b=>⟨(P.each j c p a b).bB,(P.each j c p a b).n⟩;have i:some w.1.size≠z' g:=by simp;omega
 have x:some (δ w.1+3)≠z' g:=by simp;omega
 have l:some (δ w.1+1+1)≠z' g:=by simp;omega
 have o:some (δ w.1+1)≠z' g:=by simp;omega
 have d:J (_/\_/\_/\_):=⟨i,x,l,o⟩;clear i x l o;have r:J (dX nl=dX (V.map PN.nc)):=C;clear C;cases o:dX nl with
 |false=>
  have HN:J (iD s=Pr.prg):=by show _=_;unfold iD;rw[aA I,HF.o];simp only;rw[aA<|by simp only[ia,<-r.o,o];simp]
  go_wp2_with (first
   |(at_len;refine xn _ rfl _ 141 rfl 9 3 underlying141 _ (δ w.1+1) (ζ E) (tab E) rfl hmo ?_)
   |(go_at_call 80;refine bP k.o ?_;rintro e C ⟨rfl,D,i⟩;clear L;have L:=A (wD.grown D d.a d.b).res))
  refine aE (v:=o' #[j' nK,G 2]) (by simp[results40,go_sem,L.1]) rfl ?_;rw[HN.o];refine⟨?_,rfl⟩;have l:Bl w C:=hb.trans ⟨D.os,D.tape,D.output,D.size,λj f=>D.block j (I' hb.size) G'⟩;exact(l.setCell aK _).setCell aK _
 |true=>
  have HN:J (iD s=Pr.ok V E):=by show _=_;unfold iD;rw[aA I,HF.o];simp only;rw[aD (by have:=P.len;simp only[ia,<-r.o,o];simp;omega)]
  go_wp2_with (first
   |(at_len;first|refine xn _ rfl _ 141 rfl 9 3 underlying141 _ (δ w.1+1) (ζ E) (tab E) rfl r ?_|refine xn _ rfl _ 141 rfl 9 3 underlying141 _ (δ w.1+1) (ζ E) (tab E) rfl hmo ?_)
   |(go_at_call 80;refine bP k.o ?_;rintro e C ⟨rfl,D,i⟩;clear L;have L:=A (wD.grown D d.a d.b).res;have k:=VB.s7 D d.c d.C;have s:=k.cell;have r:=k.own))
  refine aE (v:=o' #[j'<|fC g (ζ nl) cp<|ζ E,G 0]) (by simp[results40,go_sem,L.1]) rfl ?_;rw[HN.o];have l:Bl w C:=hb.trans ⟨D.os,D.tape,D.output,D.size,λj f=>D.block j (I' hb.size) G'⟩;refine⟨(l.setCell aK _).setCell aK _,?_⟩;obtain⟨S,nl',hp,hN5,hL5⟩:=i o;have acB:=(wD.grown D d.a d.b).res;have hR5:wN C nl V:=P.mono<|QG (λq hq=>by cases hq;obtain⟨cur,T,_⟩:=K;exact⟨cur,(0,0),T⟩) D;refine⟨g,cp,nl',S,by rw[P.len],I,?_,?_,?_,?_⟩
  .exact hN5.of_block ((aJ G').trans<|aJ G')
  .refine wN.mono (w:=C) ?_ ?_
   .refine⟨hL5.len.trans P.len,λj c' p K hp'=>?_⟩;have f:j<ζ nl:=by have:=(aX.1 K).1;have:=hL5.len;omega
    have T:=bj f;obtain⟨c2,a1,a2,a3,a4⟩:=hL5.done j _ f T;rw[K]at a1;cases a1;have hr:=hR5.each j _ p T hp';exact⟨a2.bB.trans hr.bB,a2.n.trans hr.n,by rw[a2.wa];exact hr.ws,a2.wl.trans hr.wl⟩
   intro a t R h;have z:a≠δ w.1:=by rintro rfl;obtain⟨cur,T,_⟩:=h;rw[acB]at T;simp at T
   exact(h.set z _).set z _
  .rw[<-ach nl V P.len (λj c p a b=>(P.each j c p a b).bB)];exact hp
  intro j c' p K hp';have f:j<ζ nl:=by have:=(aX.1 K).1;have:=hL5.len;omega
  have T:=bj f;obtain⟨c2,a1,a2,a3,a4⟩:=hL5.done j _ f T;rw[K]at a1;cases a1;have hr:=hR5.each j _ p T hp';have e:jh S p.nc j=jh S nl[j] j:=by unfold jh;rw[hr.n];rfl
  rw[e];have v:(κ C (O w.1.size 0)<|gX g (ζ nl) cp).1[δ w.1]?=z' (i' #[g' (z'<|O g 0) (ζ nl) cp,G 0] 86 (0,0)):=by simp[World.setCell,AV,acB]
  exact Um (Um a3 acB aj 0 _) v aj 1 _
def Bz(s:x')(w:p')(a:Env w):Cl 40 #[k' s] w (adA w<|iD s):=by
 by_cases h:3000<s.size
 .have e:iD s=Pr.Qj:=by rw[iD,aD h]
  rw[e];exact J2 s w (by rw[bM];omega)
 exact OZ s w I a
end
section
variable {b:Nat}{c:Array y'}{t:TypeId}{f:Nat×Nat}{R:List x'}
structure Psz(pl:List PN):Prop where
  len:ζ pl<=60
  bB:∀p∈pl,p.bB.size<=3000
  ws:∀p∈pl,wb p.ws
def afx{l:u'}(h:Bld w B b l)(d:w.1[k]?=z' (i' c t f))(U:t≠159):k≠b:=by rintro rfl;obtain⟨_,p,v,_,a,_⟩:=h;rw[d]at a;simp at a;exact U a.2.1
def Gy{l:u'}(h:Bld w B b l)(d:Kp b w a)(T:w.1[k]?=z' (i' c t f))(U:t≠159)(l:t≠5):a.1[k]?=w.1[k]?:=by rw[d.keep k _ T (afx h T U) (λa a e=>by simp at e;exact l e.2.1),T]
def Ws.kp{t:Nat}{l:u'}(h:Ws w g t R)(v:Bld w B b l)(c:Kp b w a):Ws a g t R:=by obtain⟨Y,T,U⟩:=h;exact⟨Y,(Gy v c T aj aj).trans T,U⟩
def iB.kp{c:p'}{a:Nat}{l:u'}{D:List NC}(h:iB w g a D)(v:Bld w B b l)(d:Kp b w c):iB c g a D:=by obtain⟨Y,T,U⟩:=h;exact⟨Y,(Gy v d T aj aj).trans T,U⟩
def Bld.alloc{l:u'}(h:Bld w B b l)(o:Obj):Bld (w.alloc o) B b l:=by obtain⟨c,p,v,U,a,b,K⟩:=h;exact⟨c,p,v,U,(bR (bq.1 a).1).trans a,b.alloc o,K⟩
def QF(h:wb R)(k:Nat):wb (R.drop k):=⟨by have:=h.len;simp;omega,λx F=>h.word x<|mem_of_mem_drop F⟩
def abt:∀(L:List<|List x')(E:List bI)(V b:List PN)(a:List bI),(∀R∈L,wb R)->(∀p∈V,p.bB.size<=3000/\wb p.ws)->nN E V L=z' (b,a)->∀p∈b,p.bB.size<=3000/\wb p.ws:=by
 intro L;induction L with
 |nil=>intro E V b a _ c h;simp[nN]at h;rw[<-h.1];exact c
 |cons R r B=>
  intro E V b a C c h;have f:=C R ak;rw[nN]at h;split at h
  .exact B E V b a (λx F=>C x<|by simp[F]) c h
  split at h
  .refine B _ _ b a (λx F=>C x<|by simp[F]) ?_ h;intro p U;rcases iF.1 U with U|U
   .exact c p U
   simp at U;subst U;exact⟨(S8 E R f).1,QF f _⟩
  cases h
def aca(s:x')(h:s.size<=3000):∀R∈BJ s,wb R:=by intro R z;obtain⟨x,F,rfl⟩:=bG.1 z;exact Ja x<|I'<|Gj s x F
def yK{s:x'}{b:List PN}{E:List bI}(h:iD s=Pr.ok b E):Psz b/\0<ζ b/\ia b E=N'/\nN [] [] (BJ s)=z' (b,E)/\s.size<=3000:=by
 unfold iD at h;split at h
 .cases h
 rename_i y;split at h
 .cases h
 rename_i a a a;split at h;rotate_left
 .cases h
 rename_i U;cases h;have f:=abt (BJ s) [] [] b E (aca s I) ak a;have c:=U;simp only[ia,aY,bM]at c;exact⟨⟨c.1.2,λp U=>(f p U).1,λp U=>(f p U).2⟩,c.1.1.2,U,a,I⟩
end
def jQ(o a b:Int):Int:=if o=0 then wrap64 (a+b) else if o=1 then wrap64 (a-b) else if o=2 then wrap64 (a*b) else if b=0 then 0 else wrap64 (a.tdiv b)
def wo(o b:Int):Bool:=o==0||o==1||o==2||!(b==0)
def oC(t a b:Int):Bool:=if t=0 then decide (a<b) else if t=1 then decide (a<=b) else if t=2 then a==b else a !=b
def LI:wrap64 0=0:=by unfold wrap64;omega
def S?(a b:Int):(decide (a<b)||a==b)=decide (a<=b):=by rw[cC];simp;omega
def Zr{p:Prop}(h:p:=by
 go_enter func172,ntmps172;go_wp2
 all_goals
  go_ret2
  refine⟨fg ?_ ?_,rfl⟩<;>simp_all[jQ,wo,LI]):p:=h
def P8(o a b:Int)(w:p'):
  Cl 172 #[G o,G a,G b] w λe c=>e=n' (o' #[G<|jQ o a b,h'<|wo o b])/\c=w:=by
 by_cases a:b=0
 .subst a;exact Zr
 have D:(b==0)=O':=by simp[a]
 exact Zr
def Pz(t a b:Int)(w:p'):
  Cl 173 #[G t,G a,G b] w λe c=>e=n' (h'<|oC t a b)/\c=w:=by
 go_enter func173,ntmps173;go_wp2
 all_goals
  go_ret;refine⟨bC ?_,rfl⟩<;>simp_all[oC]
section
variable {K:Type}
structure Pm where
  nd:List SN
  nx:List (List Nat)
  nv:Nat
def yT(ps:List<|bI×Nat):Nat->List PN->List (List Nat)
 |_,[]=>[]
 |j,p::r=>(jh ps p.nc j).map Int.toNat::yT ps (j+1) r
def l8(pl:List PN)(ps:List<|bI×Nat)(nv:Nat):Pm:=⟨pl.map PN.n,yT ps 0 pl,nv⟩
def Pm.at(P:Pm)(j:Nat):SN:=P.nd.getD j nZ
def Pm.qk(P:Pm)(j:Nat):List Nat:=P.nx.getD j []
def hU(n:SN):Bool:=decide (n.aH<=2)
abbrev Key:=(Bool×Int×Int)×Int×(Bool×Int×Int)
def jT(o:lz):Bool×Int×Int:=(o.aU,o.var,o.cg)
def tZ(n:SN):Option Key:=if n.aH=1/\(n.a.aU=N'\/n.b.aU=N') then z' (jT n.a,n.op,jT n.b) else A'
def eH[DecidableEq K](acc:List K)(o:Option K):List K:=match o with|none=>acc|some x=>if x∈acc then acc else acc++[x]
def zv[DecidableEq K](ks:List<|Option K):List K:=ks.foldl eH []
def Pm.ex(P:Pm):List Key:=zv<|P.nd.map tZ
def qC(k:Key)(v:Int):Bool:=(k.1.1&&k.1.2.1==v)||(k.2.2.1&&k.2.2.2.1==v)
def Pm.ev(P:Pm)(i f:Nat):Bool:=match tZ (P.at i),P.ex[f]? with|some x,some y=>decide (x=y)|_,_=>O'
def Pm.kl(P:Pm)(i f:Nat):Bool:=hU (P.at i)&&(match P.ex[f]? with|some y=>qC y (P.at i).var|none=>O')
def nS:Nat->List SN->List Nat
 |_,[]=>[]
 |i,n::r=>if hU n then i::nS (i+1) r else nS (i+1) r
def Pm.mU(P:Pm)(f:Nat):Option Nat:=if f<P.nv then A' else(nS 0 P.nd)[f-P.nv]?
def Pm.KU(P:Pm)(f:Nat):Int:=if f<P.nv then f else match P.mU f with|some i=>(P.at i).var|none=>-1
def dZ(n:SN):Nat:=if n.aH=0\/n.aH=3 then 1 else if n.aH=1\/n.aH=4 then 2 else 0
def VZ(n:SN)(v:Int):Bool:=(decide (0<dZ n)&&n.a.aU&&n.a.var==v)||(decide (1<dZ n)&&n.b.aU&&n.b.var==v)
def Pm.facts(P:Pm)(p:Int):Nat:=if p=1 then P.nv+ζ (nS 0 P.nd) else if p=2 then P.nv else ζ P.ex
def Pm.st(P:Pm)(p:Int)(n f:Nat):Bool:=
 if p=1 then n==0&&decide (f<P.nv)
 else if p=2 then VZ (P.at n) f
 else if p=3 then n==0
 else(P.at n).aH==6||(P.kl n f&&!P.ev n f)
def Pm.ad(P:Pm)(p:Int)(m f:Nat):Bool:=if p=1 then P.mU f==z' m else if p=3 then P.kl m f else O'
def Pm.ps(P:Pm)(p:Int)(n m f:Nat):Bool:=
 if p=1 then !(hU (P.at m)&&(P.at m).var==P.KU f)
 else if p=2 then !(hU (P.at n)&&(P.at n).var==f)
 else if p=3 then !P.ev m f
 else !P.ev n f
def fm(n:Nat):Nat->List Nat->List Nat
 |_,[]=>[]
 |k,t::r=>if t=n then k::fm n (k+1) r else fm n (k+1) r
def dD(n:Nat):Nat->List (List Nat)->List (Nat×Nat)
 |_,[]=>[]
 |i,l::r=>(fm n 0 l).map (λk=>(i,k))++dD n (i+1) r
def Pm.ins(P:Pm)(n:Nat):List (Nat×Nat):=dD n 0 P.nx
def Pm.Qo(P:Pm)(p:Int)(n:Nat):List Nat:=if p=2\/p=4 then P.qk n else(P.ins n).map Prod.fst
def Pm.rule(P:Pm)(p:Int)(f n:Nat)(th:Nat->Bool):Bool:=P.st p n f||(P.Qo p n).any λm=>P.ad p m f||(P.ps p n m f&&th m)
def EA:Nd:=⟨[],[],O',0,[]⟩
def Ct.at(c:Ct)(j:Nat):Nd:=c.nodes.getD j EA
def Nd.zm(x:Nd)(f:Nat):Bool:=decide ((f:Int)∈x.facts)
def Nd.oF(x:Nd)(f:Nat):Int:=x.bf.getD (x.facts.idxOf (f:Int)) 0
def pF(c:Ct)(f:Nat)(r:Int)(n:Nat):Bool:=(c.at n).zm f&&(decide (r<0)||decide ((c.at n).oF f<r))
def Ab(P:Pm)(c:Ct):Bool:=(range<|P.facts c.aL).all λf=>(range<|ζ P.nd).all λn=>!P.rule c.aL f n (pF c f (-1))||pF c f (-1) n
def wz(P:Pm)(c:Ct):Bool:=(range<|P.facts c.aL).all λf=>(range<|ζ P.nd).all λn=>!pF c f (-1) n||P.rule c.aL f n (pF c f ((c.at n).oF f))
def eW(vs:List VV)(o:lz):VV:=if o.aU then vs.getD o.var.toNat ⟨O',0,0⟩ else VV.one o.cg
def Ao (n:SN) (k:Nat) (vs:List VV):EV:=
  if n.aH=2 then z' (vs.set n.var.toNat VV.dT)
  else if n.aH=0 then z' (vs.set n.var.toNat<|eW vs n.a)
  else if n.aH=4 then(if (eW vs n.a).any||(eW vs n.b).any||oC n.test (eW vs n.a).lo (eW vs n.b).lo==decide (k=0) then z' vs else A')
  else if n.aH=1 then
    (if n.op=3/\(eW vs n.b).any=O'/\(eW vs n.b).lo=0 then A'
     else if (eW vs n.a).any||(eW vs n.b).any then z' (vs.set n.var.toNat VV.dT)
     else z' (vs.set n.var.toNat<|VV.one<|jQ n.op (eW vs n.a).lo (eW vs n.b).lo))
  else z' vs
def tL(t:Int)(yes:Bool)(a b:VV):Option (VV×VV):=
 if t=0/\yes=N' then(if b.hi=-2^63\/a.lo=9223372036854775807 then A' else z' (cA a (-2^63)<|b.hi-1,cA b (a.lo+1) 9223372036854775807))
 else if t=1/\yes=N' then z' (cA a (-2^63) b.hi,cA b a.lo 9223372036854775807)
 else if t=0 then z' (cA a b.lo 9223372036854775807,cA b (-2^63) a.hi)
 else if t=1 then(if a.hi=-2^63\/b.lo=9223372036854775807 then A' else z' (cA a (b.lo+1) 9223372036854775807,cA b (-2^63)<|a.hi-1))
 else if (t=2/\yes=N')\/(t≠2/\yes=O') then z' (cA a b.lo b.hi,cA a b.lo b.hi)
 else if a.lo=a.hi/\VV.p5 a b=N' then A'
 else z' (a,b)
def vI(q:VV×VV):Option (VV×VV):=if q.1.hi<q.1.lo\/q.2.hi<q.2.lo then A' else z' q
def mD(t:Int)(yes:Bool)(a b:VV):Option (VV×VV):=match tL t yes a b with|none=>A'|some q=>vI q
def Nv (av bv:Int) (vs:List VV) (x y:VV):EV:=
  if 0<=bv then
    (if (if bv=av then cA x y.lo y.hi else y).hi<(if bv=av then cA x y.lo y.hi else y).lo then A'
     else z' ((if 0<=av then vs.set av.toNat x else vs).set bv.toNat<|if bv=av then cA x y.lo y.hi else y))
  else z' (if 0<=av then vs.set av.toNat x else vs)
def l9(o:lz):Int:=if o.aU then o.var else -1
def chV(n:SN)(vs:List VV)(x y:VV):EV:=Nv (l9 n.a) (l9 n.b) vs x y
def Qr(op:Int)(a b:VV):Option VV:=if op=0 then z' (ve a b) else if op=1 then z' (ke a b) else if op=2 then z' (uK a b) else hC a b
def An(n:SN)(k:Nat)(vs:List VV):EV:=
 if n.aH=2 then z' (vs.set n.var.toNat VV.all)
 else if n.aH=0 then z' (vs.set n.var.toNat<|eW vs n.a)
 else if n.aH=4 then(match mD n.test (decide (k=0)) (eW vs n.a) (eW vs n.b)with|none=>A'|some q=>chV n vs q.1 q.2)
 else if n.aH=1 then(match Qr n.op (eW vs n.a) (eW vs n.b)with|none=>A'|some v=>z'<|vs.set n.var.toNat v)
 else z' vs
def vM(p:Int)(n:SN)(k:Nat)(e:EV):EV:=match e with|none=>A'|some vs=>if p=5 then Ao n k vs else An n k vs
def Pm.E?(P:Pm)(n:Nat):EV:=if n=0 then z' (replicate P.nv ⟨O',0,0⟩) else A'
def Pm.say(P:Pm)(p:Int)(n:Nat)(at_:Nat->EV):EV:=(P.ins n).foldl (λout q=>qD p out<|vM p (P.at q.1) q.2<|at_ q.1)<|P.E? n
def cS(r:Int)(v:Vl):VV:=if v.aH=3 then⟨O',v.lo,v.hi⟩ else if v.aH=1 then VV.one v.lo else if v.bY&&decide (0<=r)&&decide (r<=v.rank) then VV.one v.first else VV.dT
def gC(x:Nd)(r:Int):EV:=if x.aF=O'\/(0<=r/\r<=x.rank) then A' else z' (x.aM.map<|cS r)
def eg(c:Ct)(r:Int)(n:Nat):EV:=gC (c.at n) r
def ye(P:Pm)(c:Ct):Bool:=(range<|ζ P.nd).all λn=>t? c.aL (P.say c.aL n<|eg c (-1))<|eg c (-1) n
def zB(e:EV)(j:Nat):Bool:=match e with|none=>O'|some vs=>(vs.getD j ⟨O',0,0⟩).any
def rE(P:Pm)(c:Ct)(n:Nat):Bool:=
 !(c.at n).aF||(t? c.aL (gC (c.at n) ((c.at n).rank+1)) (P.say c.aL n<|eg c (c.at n).rank) &&
  (range<|ζ (c.at n).aM).all λj=>match (c.at n).aM[j]? with|some v=>!v.bY||zB (P.say c.aL n<|eg c v.rank) j|none=>N')
def wy(P:Pm)(c:Ct):Bool:=(range<|ζ P.nd).all λn=>rE P c n
def lh(P:Pm)(c:Ct):Bool:=decide (ζ c.nodes=ζ P.nd)&&c.nodes.all λx=>(x.facts.all λf=>decide (f<(if c.aL<=4 then(P.facts c.aL:Int) else 0)))&&(!x.aF||decide (ζ x.aM=P.nv))
def pg(P:Pm)(c:Ct):Int:=
 if lh P c=O' then 6
 else if c.aL<=4 then(if Ab P c=O' then 7 else if c.grade=2\/wz P c=N' then 0 else 8)
 else(if ye P c=O' then 7 else if c.grade=1/\wy P c=O' then 8 else 0)
def plV(v:Vl):Vl:=⟨v.aH,v.lo,v.hi,O',0,0⟩
def tU(x:Nd):Nd:=⟨x.facts,[],x.aF,0,x.aM.map plV⟩
end
def w8(a:List PN):(a.map PN.nc).map NC.bB=a.map PN.bB:=by simp[PN.nc,qY]
def pC(E:List bI)(v:bI):0<=eS E v:=by unfold eS;split<;>omega
section
variable {x y z:VV}{a b c:EV}
def ie(p:Int)(x y:VV):Prop:=if p=5 then x=y\/y=VV.dT else x.any=y.any/\y.lo<=x.lo/\x.hi<=y.hi
structure okV(p:Int)(x:VV):Prop where
  bd:nY x
  form:if p=5 then x=VV.dT\/x=VV.one x.lo else x.any=O'/\x.lo<=x.hi
def okV.age(h:okV p x)(l:p≠5):x.any=O':=by have:=h.form;rw[aA l]at this;exact this.1
def iN(p:Int)(x:VV):ie p x x:=by unfold ie;split;exact aP rfl;exact⟨rfl,fY,fY⟩
def Pl(h:ie p x y)(k:ie p y z):ie p x z:=by
 unfold ie at *;split at h
 .rename_i U;rw[aD U]at k|-;rcases h with rfl|rfl
  .exact k
  rcases k with rfl|rfl<;>exact aR rfl
 rename_i U;rw[aA U]at k|-;exact⟨h.1.trans k.1,Int.le_trans k.2.1 h.2.1,Int.le_trans h.2.2 k.2.2⟩
def Tk(F:okV p x)(B:okV p y):VV.p5 (g! p x y) y=N'↔ie p x y:=by
 rw[VV.fX];unfold g! ie;split
 .by_cases e:VV.p5 x y=N'
  .rw[aD e];have:=(VV.fX x y).1 e;exact⟨λ_=>aP this,λ_=>this⟩
  rw[aA e];exact⟨λh=>aR h.symm,λh=>h.elim (λh=>absurd ((VV.fX x y).2 h) e) λh=>h.symm⟩
 obtain⟨c,a,b⟩:=x;obtain⟨a,f,d⟩:=y;simp only[VV.mk.injEq];constructor
 .rintro⟨C,a,N⟩;refine⟨C,?_,?_⟩
  .split at a<;>omega
  split at N<;>omega
 rintro⟨C,a,N⟩;refine⟨C,?_,?_⟩
 .split<;>omega
 split<;>omega
def acp(F:okV p x)(B:okV p y):okV p (g! p x y):=by
 unfold g!;split
 .split
  .exact F
  rename_i l _;exact⟨⟨aj,aj⟩,by rw[aD l];exact aP rfl⟩
 rename_i l;have L:=F.form;have u:=B.form;rw[aA l]at L u;have g:=F.bd;have a:=B.bd;have N:=g.lo;have b:=g.hi;have b:=a.lo;have C:=a.hi;refine⟨⟨?_,?_⟩,?_⟩
 .simp only;split<;>omega
 .simp only;split<;>omega
 rw[aA l];refine⟨L.1,?_⟩;simp only;split<;>split<;>omega
def afB(F:okV p x)(B:okV p y):ie p x (g! p x y):=by
 unfold g! ie;split
 .split
  .exact aP rfl
  exact aR rfl
 refine⟨rfl,?_,?_⟩<;>(simp only;split<;>omega)
def afA(F:okV p x)(B:okV p y):ie p y (g! p x y):=by
 unfold g! ie;split
 .split
  .rename_i e;exact aP ((VV.fX x y).1 e).symm
  exact aR rfl
 rename_i l;refine⟨by rw[F.age l,B.age l],?_,?_⟩<;>(simp only;split<;>omega)
def Xo(h:ie p x z)(k:ie p y z):ie p (g! p x y) z:=by
 unfold g! ie at *;split;rotate_left
 .rename_i l;rw[aA l]at h k;refine⟨h.1,?_,?_⟩<;>(simp only;split<;>omega)
 rename_i l;rw[aD l]at h k;split
 .exact h
 rename_i e;rcases h with rfl|rfl
 .rcases k with rfl|rfl
  .exact absurd ((VV.fX y y).2 rfl) e
  exact aP rfl
 exact aP rfl
def iP(p:Int):EV->EV->Prop
 |none,_=>True
 |some _,none=>False
 |some a,some b=>∀(j:Nat)(x y:VV),a[j]?=z' x->b[j]?=z' y->ie p x y
def dw(p:Int)(n:Nat)(e:EV):Prop:=∀vs,e=z' vs->ζ vs=n/\∀v∈vs,okV p v
def SH(p:Int)(n:Nat):dw p n A':=λ_ h=>by cases h
def lq{a b}:=@SH a b
def iO(p:Int):∀e:EV,iP p e e
 |none=>trivial
 |some a=>λj x y h k=>by rw[h]at k;cases k;exact iN p x
def fh(e:dw p n b)(d:dw p n a)(h:iP p a b)(k:iP p b c):iP p a c:=by
 match a,b,c,h,k with
 |none,_,_,_,_=>trivial
 |some a,some b,some c,h,k=>intro j x z F f;have X:=(d a rfl).1;have i:=(e b rfl).1;have a:=(aX.1 F).1;have B:b[j]?=z' b[j]:=bj I;exact Pl (h j x _ F B)<|k j _ z B f
def ja(c:dw p n a)(d:dw p n b):t? p a b=N'↔iP p a b:=by
 match a,b with
 |none,_=>simp[t?,iP]
 |some a,none=>simp[t?,iP]
 |some a,some b=>
  have C:=c a rfl;have c:=d b rfl;simp only[t?,iP,bV];constructor
  .intro h j x y F B;have:=h (x,y)<|aO (by rw[xk];exact⟨F,B⟩:(zip a b)[j]?=z' (x,y));exact(Tk (C.2 x<|aO F)<|c.2 y<|aO B).1 this
  rintro h ⟨x,y⟩ d;obtain⟨j,f⟩:=gF.1 d;rw[xk]at f;exact(Tk (C.2 x<|aO f.1)<|c.2 y<|aO f.2).2<|h j x y f.1 f.2
def Lt{α β γ:Type}{f:α->β->γ}{a:List α}{b:List β}{j:Nat}{z:γ}(h:(zipWith f a b)[j]?=z' z):∃x y,a[j]?=z' x/\b[j]?=z' y/\z=f x y:=by
 rw[QA]at h;cases F:a[j]? with
 |none=>rw[F]at h;simp at h
 |some x=>
  cases B:b[j]? with
  |none=>rw[F,B]at h;simp at h
  |some y=>rw[F,B]at h;simp at h;exact⟨x,y,rfl,rfl,h.symm⟩
def oZ(c:dw p n a)(d:dw p n b):dw p n (qD p a b):=by
 match a,b with
 |none,_=>exact d
 |some a,none=>exact c
 |some a,some b=>intro E h;have C:=c a rfl;have a:=d b rfl;simp only[qD,dU]at h;subst h;refine⟨by simp[C.1,a.1],λv R=>?_⟩;obtain⟨j,f⟩:=gF.1 R;obtain⟨x,y,F,B,rfl⟩:=Lt f;exact acp (C.2 x<|aO F)<|a.2 y<|aO B
def aao(d:dw p n a)(e:dw p n b):iP p a (qD p a b):=by
 match a,b with
 |none,_=>trivial
 |some a,none=>exact iO p _
 |some a,some b=>intro j x z F f;obtain⟨i,y,c,B,rfl⟩:=Lt f;rw[F]at c;cases c;exact afB ((d a rfl).2 x<|aO F) ((e b rfl).2 y<|aO B)
def Tl(d:dw p n a)(e:dw p n b):iP p b (qD p a b):=by
 match a,b with
 |none,b=>exact iO p _
 |some a,none=>trivial
 |some a,some b=>intro j y z B f;obtain⟨x,g,F,c,rfl⟩:=Lt f;rw[B]at c;cases c;exact afA ((d a rfl).2 x<|aO F) ((e b rfl).2 y<|aO B)
def DB(e:dw p n a)(e:dw p n b)(h:iP p a c)(k:iP p b c):iP p (qD p a b) c:=by
 match a,b,c with
 |none,_,_=>exact k
 |some a,none,_=>exact h
 |some a,some b,none=>exact h
 |some a,some b,some c=>intro j z w f B;obtain⟨x,y,F,d,rfl⟩:=Lt f;exact Xo (h j x w F B)<|k j y w d B
end
section
variable {c d:Int}{a b:List VV}{x y:VV}
def Dw{α:Type}{l:List α}{j:Nat}{v x:α}(h:(l.set k v)[j]?=z' x):(k=j/\x=v/\j<ζ l)\/(k≠j/\l[j]?=z' x):=by
 rw[e5]at h;split at h
 .split at h
  .cases h;rename_i e l;exact aP ⟨e,rfl,I⟩
  cases h
 rename_i e;exact aR ⟨e,h⟩
def kG{n:Nat}(k:Nat)(h:iP p (z' a)<|z' b)(R:ie p x y):iP p (z'<|a.set k x) (z'<|b.set k y):=by
 intro j u w C B;rcases Dw C with⟨e,rfl,_⟩|⟨e,C⟩
 .rcases Dw B with⟨_,rfl,_⟩|⟨c,_⟩
  .exact R
  exact absurd e c
 rcases Dw B with⟨c,_,_⟩|⟨_,B⟩
 .exact absurd c e
 exact h j u w C B
def kD(k:Nat)(h:dw p n<|z' a)(R:okV p x):dw p n (z'<|a.set k x):=by
 intro E e;cases e;have C:=h a rfl;refine⟨by simp[C.1],λv d=>?_⟩;rcases gJ d with d|rfl
 .exact C.2 v d
 exact R
def sR(p:Int)(T:-9223372036854775808<=c/\c<=9223372036854775807):okV p (VV.one c):=⟨⟨T,T⟩,by split;exact aR rfl;exact⟨rfl,fY⟩⟩
def yS(p:Int):okV p ⟨O',0,0⟩:=sR p aj
def Dl:okV 5 VV.dT:=⟨⟨aj,aj⟩,ak⟩
def Au(o:lz):Prop:=-9223372036854775808<=o.cg/\o.cg<=9223372036854775807
def pA(x:Int):-9223372036854775808<=wrap64 x/\wrap64 x<=9223372036854775807:=by unfold wrap64;omega
def SE(o a b:Int):-9223372036854775808<=jQ o a b/\jQ o a b<=9223372036854775807:=by
 unfold jQ;split
 .exact pA _
 split
 .exact pA _
 split
 .exact pA _
 split
 .decide
 exact pA _
def M6(c:ζ a=n)(c:ζ b=n)(h:iP p (z' a)<|z' b)(k:Nat):ie p (a.getD k ⟨O',0,0⟩) (b.getD k ⟨O',0,0⟩):=by
 by_cases c:k<n
 .have C:a[k]?=z' a[k]:=bj I;have a:b[k]?=z' b[k]:=bj I;rw[getD,getD,C,a];exact h k _ _ C a
 rw[getD,getD,cq I,cq I];exact iN _ _
def XQ(h:∀v∈a,okV p v)(k:Nat):okV p (a.getD k ⟨O',0,0⟩):=by
 cases e:a[k]? with
 |none=>rw[getD,e];exact yS p
 |some x=>rw[getD,e];exact h x<|aO e
def Dk(c:ζ a=n)(d:ζ b=n)(h:iP p (z' a)<|z' b)(o:lz):ie p (eW a o) (eW b o):=by
 unfold eW;split
 .exact M6 c d h _
 exact iN _ _
def ic(h:∀v∈a,okV p v)(o:lz)(b:Au o):okV p (eW a o):=by
 unfold eW;split
 .exact XQ h _
 exact sR _ b
def le5(h:ie 5 x y):x=y\/y=VV.dT:=by simpa[ie]using h
def Kg(h:x=y\/y=VV.dT):ie 5 x y:=by simpa[ie]using h
def ok5(h:okV 5 x):x=VV.dT\/x=VV.one x.lo:=H' h.form
def ab6{n:SN}{E:List VV}(T:Au n.a/\Au n.b)(h:dw 5 m<|z' E):dw 5 m (Ao n k E):=by
 have C:=(h E rfl).2;unfold Ao;split
 .exact kD _ h Dl
 split
 .exact kD _ h<|ic C _ T.1
 split
 .split
  .exact h
  exact lq
 split
 .split
  .exact lq
  split
  .exact kD _ h Dl
  exact kD _ h<|sR _<|SE _ _ _
 exact h
def ab7{n:SN}(j:dw 5 m<|z' a)(i:dw 5 m<|z' b)(h:iP 5 (z' a)<|z' b):iP 5 (Ao n k a) (Ao n k b):=by
 have s:=(j a rfl);have v:=(i b rfl);have C:=le5<|Dk s.1 v.1 h n.a;have e:=le5<|Dk s.1 v.1 h n.b;have c:∀(x:VV)(t:Nat),iP 5 (z'<|a.set t x) (z'<|b.set t VV.dT):=λx t=>kG (n:=m) t h<|Kg<|aR rfl;unfold Ao;split
 .exact kG (n:=m) _ h<|iN _ _
 split
 .exact kG (n:=m) _ h<|Kg C
 split
 .generalize eW a n.a=E at C|-;generalize eW a n.b=g at e|-;generalize eW b n.a=f at C|-;generalize eW b n.b=d at e|-;rcases C with rfl|rfl
  .rcases e with rfl|rfl
   .split
    .exact h
    trivial
   rw[aD (c:=(E.any||VV.dT.any||oC n.test E.lo VV.dT.lo==decide (k=0))=N')<|by simp[VV.dT]];split
   .exact h
   trivial
  rw[aD (c:=(VV.dT.any||d.any||oC n.test VV.dT.lo d.lo==decide (k=0))=N')<|by simp[VV.dT]];split
  .exact h
  trivial
 split;rotate_left
 .exact h
 generalize eW a n.a=E at C|-;generalize eW a n.b=g at e|-;generalize eW b n.a=f at C|-;generalize eW b n.b=d at e|-;split
 .trivial
 rename_i Q
 have P:¬(n.op=3/\d.any=O'/\d.lo=0):=by
  rcases e with rfl|rfl
  .exact Q
  simp[VV.dT]
 rw[aA P];by_cases B:(f.any||d.any)=N'
 .rw[aD B];split
  .exact c _ _
  exact c _ _
 have V:E=f:=C.resolve_right (by rintro rfl;simp[VV.dT]at B);have u:g=d:=e.resolve_right (by rintro rfl;simp[VV.dT]at B);subst V;subst u;rw[aA B,aA B];exact kG (n:=m) _ h<|iN _ _
def MS(h:ie 6 x y):x.any=y.any/\y.lo<=x.lo/\x.hi<=y.hi:=by simpa[ie]using h
def y9(h:x.any=y.any/\y.lo<=x.lo/\x.hi<=y.hi):ie 6 x y:=by simpa[ie]using h
def Mz(h:okV 6 x):x.any=O'/\x.lo<=x.hi:=H' h.form
def rB(h:x.any=O')(X:x.lo<=x.hi)(a:nY x):okV 6 x:=⟨a,by rw[aA aj];exact⟨h,X⟩⟩
def ML{x y:Int}(C:l<=x)(a:x<=h):(l*y<=x*y/\x*y<=h*y)\/(h*y<=x*y/\x*y<=l*y):=by
 by_cases B:0<=y
 .exact aP ⟨Int.mul_le_mul_of_nonneg_right C B,Int.mul_le_mul_of_nonneg_right a B⟩
 exact aR ⟨Int.mul_le_mul_of_nonpos_right a I,Int.mul_le_mul_of_nonpos_right C I⟩
def Gf{x y:Int}(C:l<=x)(a:x<=h):(y*l<=y*x/\y*x<=y*h)\/(y*h<=y*x/\y*x<=y*l):=by rw[Ls y l,Ls y x,Ls y h];exact ML C a
def wq(z a b c d:Int):Prop:=(a<=z\/b<=z\/c<=z\/d<=z)/\(z<=a\/z<=b\/z<=c\/z<=d)
def Dt{a C P b x y:Int}(N:a<=x)(d:x<=C)(c:P<=y)(o:y<=b):wq (x*y) (a*P) (a*b) (C*P) (C*b):=by have U:=ML (y:=y) N d;have b:=Gf (y:=a) c o;have k:=Gf (y:=C) c o;unfold wq;omega
def DC(a:VV)(c:Int):∃j S,g! 6 a (VV.one c)=⟨a.any,j,S⟩/\j<=a.lo/\j<=c/\(j=a.lo\/j=c)/\a.hi<=S/\c<=S/\(S=a.hi\/S=c):=by
 have e:g! 6 a (VV.one c)=⟨a.any,if c<a.lo then c else a.lo,if c>a.hi then c else a.hi⟩:=by rw[g!,aA aj];rfl
 rw[e];by_cases C:c<a.lo
 .by_cases b:c>a.hi
  .rw[aD C,aD b];exact⟨_,_,rfl,I⟩
  rw[aD C,aA b];exact⟨_,_,rfl,I⟩
 by_cases b:c>a.hi
 .rw[aA C,aD b];exact⟨_,_,rfl,I⟩
 rw[aA C,aA b];exact⟨_,_,rfl,I⟩
def sW{z a b L e:Int}(h:wq z a b c d)(C:L<=a/\L<=b/\L<=c/\L<=d)(f:a<=e/\b<=e/\c<=e/\d<=e):L<=z/\z<=e:=by
 obtain⟨a,b⟩:=h;constructor
 .rcases a with k|k|k|k<;>omega
 rcases b with k|k|k|k<;>omega
def El(a b c d:Int):∃j S,g! 6 (g! 6 (g! 6 (VV.one a)<|VV.one b)<|VV.one c) (VV.one d)=⟨O',j,S⟩/\(j<=a/\j<=b/\j<=c/\j<=d)/\(a<=S/\b<=S/\c<=S/\d<=S)/\(j=a\/j=b\/j=c\/j=d)/\(S=a\/S=b\/S=c\/S=d):=by obtain⟨e,C,V,E⟩:=DC (VV.one a) b;rw[V];obtain⟨P,f,u,g⟩:=DC ⟨(VV.one a).any,e,C⟩ c;rw[u];obtain⟨D,N,b,q⟩:=DC ⟨(⟨(VV.one a).any,e,C⟩:VV).any,P,f⟩ d;rw[b];simp only[VV.one]at E g q;exact⟨D,N,rfl,I,I,I,I⟩
def Vc(a b c d:Int)(f:Bool):(vd a b c d f).any=O':=by
 obtain⟨j,S,e,_⟩:=El a b c d;unfold vd;split
 .rw[e]
 rfl
def xd(x:Int):aN x=N'↔-9223372036854775808<=x/\x<=9223372036854775807:=by simp[aN]
def Vd{a b o X i m:Int}{f v:Bool}(Y:f=N'↔aN a=N'/\aN b=N'/\aN c=N'/\aN d=N')(h:v=N'↔aN o=N'/\aN X=N'/\aN i=N'/\aN m=N')(s:wq a o X i m)(q:wq b o X i m)(T:wq c o X i m)(Q:wq d o X i m):ie 6 (vd a b c d f) (vd o X i m v):=by
 obtain⟨e,S,e,C,l,l,l⟩:=El a b c d;obtain⟨x,l,L,k,g,r,p⟩:=El o X i m;simp only[xd]at Y h;refine y9 ⟨by rw[Vc,Vc],?_⟩;have y:=sW s k g;have B:=sW q k g;have z:=sW T k g;have w:=sW Q k g;unfold vd;rw[e,L];cases v with
 |false=>
  cases f with
  |false=>exact⟨fY,fY⟩
  |true=>obtain⟨N,t,j,u⟩:=Y.1 rfl;simp only[dQ,VV.all,eF,eV];clear y B z w s q T Q k g r p Y h;omega
 |true=>obtain⟨N,t,j,u⟩:=h.1 rfl;have B:∀{z:Int},wq z o X i m->-2^63<=z/\z<=9223372036854775807:=λa=>sW a ⟨N.1,t.1,j.1,u.1⟩ ⟨N.2,t.2,j.2,u.2⟩;have:f=N':=Y.2 ⟨B s,B q,B T,B Q⟩;rw[this];simp only[dQ];clear B s q T Q Y h k g r p;omega
end
section
variable {f o t D:Int}{a b c d x v y:VV}{yes Q:Bool}{q:VV×VV}{n:SN}{P:Pm}
def Na(x y:Bool):(x&&y)=N'↔x=N'/\y=N'/\x=N'/\y=N':=by cases x<;>cases y<;>simp
def Uc(x y z u:Bool):(x&&y&&z&&u)=N'↔x=N'/\y=N'/\z=N'/\u=N':=by cases x<;>cases y<;>cases z<;>cases u<;>simp
def Zz{p:Prop}(h:p:=by
 have h:=MS h;have k:=MS k;have e:=(Mz e).2;have f:=(Mz f).2
 exact Vd (Na _ _) (Na _ _) (by unfold wq;omega) (by unfold wq;omega) (by unfold wq;omega) (by unfold wq;omega)):p:=h
def YD(e:okV 6 a)(f:okV 6 b)(h:ie 6 a c)(k:ie 6 b d):ie 6 (ve a b) (ve c d):=by exact Zz
def L3(e:okV 6 a)(f:okV 6 b)(h:ie 6 a c)(k:ie 6 b d):ie 6 (ke a b) (ke c d):=by exact Zz
def WZ(e:okV 6 a)(f:okV 6 b)(h:ie 6 a c)(k:ie 6 b d):ie 6 (uK a b) (uK c d):=by have h:=MS h;have k:=MS k;have e:=(Mz e).2;have f:=(Mz f).2;exact Vd (Uc _ _ _ _) (Uc _ _ _ _) (Dt I I I I) (Dt I I I I) (Dt I I I I)<|Dt I I I I
def Lc:okV 6 VV.all:=rB rfl aj ⟨aj,aj⟩
def Ek{a b c d:Int}{f:Bool}(Y:f=N'->aN a=N'/\aN b=N'/\aN c=N'/\aN d=N'):okV 6 (vd a b c d f):=by
 obtain⟨j,S,e,C,g,N,g⟩:=El a b c d;rw[vd,e];cases f with
 |false=>exact Lc
 |true=>have Y:=Y rfl;simp only[xd]at Y;have N:=Y;rw[aD rfl];exact rB rfl (by simp only;omega) ⟨by simp only;omega,by simp only;omega⟩
def YC(a b:VV):okV 6 (ve a b):=Ek (Na _ _).1
def L2(a b:VV):okV 6 (ke a b):=Ek (Na _ _).1
def WY(a b:VV):okV 6 (uK a b):=Ek (Uc _ _ _ _).1
def oD{a b c:Int}(T:c<0)(h:a<=b):b.tdiv c<=a.tdiv c:=by have C:b.tdiv (-c)=-(b.tdiv c):=Cq ..;have d:a.tdiv (-c)=-(a.tdiv c):=Cq ..;have N:a.tdiv (-c)<=b.tdiv (-c):=Cp I h;omega
def Db{x c:Int}(F:-9223372036854775808<=x/\x<=9223372036854775807)(D:c≠0)(C:c≠-1):-9223372036854775808<=x.tdiv c/\x.tdiv c<=9223372036854775807:=(xd _).1<|Da ((xd _).2 F) D C
def Nk(c:okV 6 a)(h:hC a b=z' v):okV 6 v:=by
 unfold hC at h;have C:=(Mz c).2;have b:=c.bd;split at h
 .cases h;exact Lc
 split at h
 .cases h
 rename_i a;split at h
 .cases h;exact L2 _ _
 rename_i c;split at h
 .rename_i U;cases h;exact rB rfl (Cp U C) ⟨Db b.lo a c,Db b.hi a c⟩
 cases h;exact rB rfl (oD I C) ⟨Db b.hi a c,Db b.lo a c⟩
def Xj(h:okV 6 v):ie 6 v VV.all:=by have C:=h.bd.lo;have a:=h.bd.hi;exact y9 ⟨(Mz h).1,by simp only[VV.all];omega,by simp only[VV.all];omega⟩
def leO(p:Int):Option VV->Option VV->Prop
 |none,_=>True
 |some _,none=>False
 |some x,some y=>ie p x y
def X!(f:okV 6 a)(g:okV 6 b)(h:ie 6 a c)(k:ie 6 b d):leO 6 (hC a b) (hC c d):=by
 have V:=MS h;have e:=MS k;have e:=(Mz f).2;have l:=(Mz g).2;by_cases Q:d.lo=d.hi;rotate_left
 .have e:hC c d=z' VV.all:=by unfold hC;rw[aD Q]
  rw[e];cases F:hC a b with
  |none=>trivial
  |some v=>exact Xj<|Nk f F
 have a:b.lo=d.lo:=I;have u:b.hi=d.hi:=I;unfold hC;rw[aA (c:=b.lo≠b.hi) I,aA (c:=d.lo≠d.hi) I,a];split
 .trivial
 split
 .exact L3 (yS 6) f (iN _ _) h
 split
 .rename_i U;exact y9 ⟨rfl,Cp U V.2.1,Cp U V.2.2⟩
 exact y9 ⟨rfl,oD I V.2.2,oD I V.2.1⟩
def ac2(e:okV 6 a)(f:okV 6 b)(h:ie 6 a c)(k:ie 6 b d):leO 6 (Qr o a b) (Qr o c d):=by
 unfold Qr;split
 .exact YD e f h k
 split
 .exact L3 e f h k
 split
 .exact WZ e f h k
 exact X! e f h k
def ac1(c:okV 6 a)(h:Qr o a b=z' v):okV 6 v:=by
 unfold Qr at h;split at h
 .cases h;exact YC _ _
 split at h
 .cases h;exact L2 _ _
 split at h
 .cases h;exact WY _ _
 exact Nk c h
def D?(a:VV)(l h:Int):∃j S,cA a l h=⟨a.any,j,S⟩/\a.lo<=j/\l<=j/\(j=a.lo\/j=l)/\S<=a.hi/\S<=h/\(S=a.hi\/S=h):=by
 unfold cA;by_cases C:l>a.lo
 .by_cases b:h<a.hi
  .rw[aD C,aD b];exact⟨_,_,rfl,I⟩
  rw[aD C,aA b];exact⟨_,_,rfl,I⟩
 by_cases b:h<a.hi
 .rw[aA C,aD b];exact⟨_,_,rfl,I⟩
 rw[aA C,aA b];exact⟨_,_,rfl,I⟩
def i6{c s:Int}(k:ie 6 a b)(X:c<=l)(V:h<=s):ie 6 (cA a l h) (cA b c s):=by have k:=MS k;obtain⟨E,g,V,W⟩:=D? a l h;obtain⟨a,d,u,a⟩:=D? b c s;rw[V,u];exact y9 ⟨k.1,by simp only;omega,by simp only;omega⟩
def i7(b:nY a)(X:-9223372036854775808<=l/\l<=9223372036854775807)(V:-9223372036854775808<=h/\h<=9223372036854775807):nY (cA a l h):=by obtain⟨E,g,V,W⟩:=D? a l h;have:=b.lo;have:=b.hi;rw[V];exact⟨by simp only;omega,by simp only;omega⟩
def leP:Option (VV×VV)->Option (VV×VV)->Prop
 |none,_=>True
 |some _,none=>False
 |some x,some y=>ie 6 x.1 y.1/\ie 6 x.2 y.2
def abS{x y:VV×VV}(C:ie 6 x.1 y.1)(a:ie 6 x.2 y.2):leP (vI x) (vI y):=by
 have b:=MS C;have k:=MS a;unfold vI;by_cases F:x.1.hi<x.1.lo\/x.2.hi<x.2.lo
 .rw[aD F];trivial
 rw[aA F,aA I];exact⟨C,a⟩
def ads(g:okV 6 a)(f:okV 6 b)(T:okV 6 c)(Q:okV 6 d)(h:ie 6 a c)(k:ie 6 b d):leP (tL t yes a b) (tL t yes c d):=by
 have V:=MS h;have j:=MS k;have i:=(Mz g).2;have l:=(Mz f).2;have X:=f.bd.hi;have Y:=f.bd.lo;have f:=g.bd.lo;have f:=g.bd.hi;have Y:=T.bd.lo;have E:=T.bd.hi;have P:=Q.bd.lo;have N:=Q.bd.hi;unfold tL;split
 .by_cases K:b.hi=-2^63\/a.lo=9223372036854775807
  .rw[aD K];trivial
  rw[aA K,aA (c:=d.hi=-2^63\/c.lo=9223372036854775807) I];exact⟨i6 h fY I,i6 k I fY⟩
 split
 .exact⟨i6 h fY I,i6 k I fY⟩
 split
 .exact⟨i6 h I fY,i6 k fY I⟩
 split
 .by_cases K:a.hi=-2^63\/b.lo=9223372036854775807
  .rw[aD K];trivial
  rw[aA K,aA (c:=c.hi=-2^63\/d.lo=9223372036854775807) I];exact⟨i6 h I fY,i6 k fY I⟩
 split
 .exact⟨i6 h I I,i6 h I I⟩
 by_cases K:a.lo=a.hi/\VV.p5 a b=N'
 .rw[aD K];trivial
 rw[aA K];by_cases f:c.lo=c.hi/\VV.p5 c d=N';rotate_left
 .rw[aA f];exact⟨h,k⟩
 exfalso;have e:=(VV.fX c d).1 f.2;apply K;subst e;refine⟨I,(VV.fX a b).2 ?_⟩;obtain⟨N,d,c⟩:=a;obtain⟨a,o,x⟩:=b;simp only at *;obtain⟨q,r,w⟩:=V;obtain⟨s,v,y⟩:=j;rw[q,s];have:d=o:=I;have:c=x:=I;simp_all
def adq(e:okV 6 a)(f:okV 6 b)(T:okV 6 c)(Q:okV 6 d)(h:ie 6 a c)(k:ie 6 b d):leP (mD t yes a b) (mD t yes c d):=by
 have:=ads (t:=t) (yes:=yes) e f T Q h k;unfold mD;cases F:tL t yes a b with
 |none=>trivial
 |some x=>
  cases B:tL t yes c d with
  |none=>rw[F,B]at this;exact this.elim
  |some y=>rw[F,B]at this;exact abS this.1 this.2
def adt(f:okV 6 a)(g:okV 6 b)(h:tL t Q a b=z' q):nY q.1/\nY q.2/\q.1.any=O'/\q.2.any=O':=by
 have c:=(Mz f).1;have l:=(Mz g).1;have X:=g.bd.hi;have Y:=g.bd.lo;have e:=f.bd.lo;have d:=f.bd.hi;have a:-2^63<=(-2^63:Int)/\(-2^63:Int)<=9223372036854775807:=aj;have X:-2^63<=(9223372036854775807:Int)/\(9223372036854775807:Int)<=9223372036854775807:=aj;unfold tL at h;split at h
 .split at h
  .cases h
  cases h;exact⟨i7 f.bd a I,i7 g.bd I X,c,l⟩
 split at h
 .cases h;exact⟨i7 f.bd a I,i7 g.bd I X,c,l⟩
 split at h
 .cases h;exact⟨i7 f.bd I X,i7 g.bd a I,c,l⟩
 split at h
 .split at h
  .cases h
  cases h;exact⟨i7 f.bd I X,i7 g.bd a I,c,l⟩
 split at h
 .cases h;exact⟨i7 f.bd I I,i7 f.bd I I,c,c⟩
 split at h
 .cases h
 cases h;exact⟨f.bd,g.bd,c,l⟩
def adp(c:okV 6 a)(e:okV 6 b)(h:mD t Q a b=z' q):okV 6 q.1/\okV 6 q.2:=by
 unfold mD at h;cases F:tL t Q a b with
 |none=>rw[F]at h;cases h
 |some r=>
  rw[F]at h;simp only[vI]at h;split at h
  .cases h
  cases h;obtain⟨C,a,N,d⟩:=adt c e F;exact⟨rB N I C,rB d I a⟩
def ac4{a b:List VV}{i:VV}(h:iP 6 (z' a)<|z' b)(F:ie 6 x i)(B:ie 6 y c):iP 6 (Nv f D a x y) (Nv f D b i c):=by
 have L:=MS F;have u:=MS B;have C:iP 6 (z'<|if 0<=f then a.set f.toNat x else a) (z'<|if 0<=f then b.set f.toNat i else b):=by
  split
  .exact kG (n:=0) _ h F
  exact h
 have d:ie 6 (if D=f then cA x y.lo y.hi else y) (if D=f then cA i c.lo c.hi else c):=by
  split
  .exact i6 F u.2.1 u.2.2
  exact B
 have N:=MS d;unfold Nv;split;rotate_left
 .exact C
 generalize(if D=f then cA x y.lo y.hi else y)=z at *;generalize(if D=f then cA i c.lo c.hi else c)=e at *;by_cases f:z.hi<z.lo
 .rw[aD f];trivial
 rw[aA f,aA (c:=e.hi<e.lo) I];exact kG (n:=0) _ C d
def ac3{a:List VV}(h:dw 6 m<|z' a)(F:okV 6 x)(B:okV 6 y):dw 6 m (Nv f D a x y):=by
 have C:dw 6 m (z'<|if 0<=f then a.set f.toNat x else a):=by
  split
  .exact kD _ h F
  exact h
 unfold Nv;split;rotate_left
 .exact C
 have a:nY (if D=f then cA x y.lo y.hi else y)/\(if D=f then cA x y.lo y.hi else y).any=O':=by
  split
  .exact⟨i7 F.bd B.bd.lo B.bd.hi,(Mz F).1⟩
  exact⟨B.bd,(Mz B).1⟩
 generalize(if D=f then cA x y.lo y.hi else y)=z at *;split
 .exact lq
 exact kD _ C<|rB a.2 I a.1
def ab3{E:List VV}(T:Au n.a/\Au n.b)(h:dw 6 m<|z' E):dw 6 m (An n k E):=by
 have C:=(h E rfl).2;unfold An;split
 .exact kD _ h Lc
 split
 .exact kD _ h<|ic C _ T.1
 split
 .cases F:mD n.test (decide (k=0)) (eW E n.a) (eW E n.b)with
  |none=>exact lq
  |some q=>have:=adp (ic C _ T.1) (ic C _ T.2) F;exact ac3 h this.1 this.2
 split
 .cases F:Qr n.op (eW E n.a) (eW E n.b)with
  |none=>exact lq
  |some v=>exact kD _ h<|ac1 (ic C _ T.1) F
 exact h
def ab4{a b:List VV}(T:Au n.a/\Au n.b)(g:dw 6 m<|z' a)(f:dw 6 m<|z' b)(h:iP 6 (z' a)<|z' b):iP 6 (An n k a) (An n k b):=by
 have s:=(g a rfl);have v:=(f b rfl);have C:=Dk s.1 v.1 h n.a;have c:=Dk s.1 v.1 h n.b;have N:=ic s.2 _ T.1;have d:=ic s.2 _ T.2;have e:=ic v.2 _ T.1;have o:=ic v.2 _ T.2;unfold An;split
 .exact kG (n:=m) _ h<|iN _ _
 split
 .exact kG (n:=m) _ h C
 split
 .have:=adq (t:=n.test) (yes:=decide (k=0)) N d e o C c;cases F:mD n.test (decide (k=0)) (eW a n.a) (eW a n.b)with
  |none=>trivial
  |some q=>
   cases B:mD n.test (decide (k=0)) (eW b n.a) (eW b n.b)with
   |none=>rw[F,B]at this;exact this.elim
   |some r=>rw[F,B]at this;exact ac4 h this.1 this.2
 split;rotate_left
 .exact h
 have:=ac2 (o:=n.op) N d C c;cases F:Qr n.op (eW a n.a) (eW a n.b)with
 |none=>trivial
 |some v=>
  cases B:Qr n.op (eW b n.a) (eW b n.b)with
  |none=>rw[F,B]at this;exact this.elim
  |some u=>rw[F,B]at this;exact kG (n:=m) _ h this
def oV(U:p=5\/p=6){e:EV}(T:Au n.a/\Au n.b)(h:dw p m e):dw p m (vM p n k e):=by
 cases e with
 |none=>exact lq
 |some E=>
  unfold vM;rcases U with rfl|rfl
  .exact ab6 T h
  exact ab3 T h
def ab5(U:p=5\/p=6){a b:EV}(T:Au n.a/\Au n.b)(c:dw p m a)(d:dw p m b)(h:iP p a b):iP p (vM p n k a) (vM p n k b):=by
 match a,b,h with
 |none,_,_=>trivial
 |some a,some b,h=>
  unfold vM;rcases U with rfl|rfl
  .exact ab7 c d h
  exact ab4 T c d h
def nD(P:Pm):Prop:=∀i,Au (P.at i).a/\Au (P.at i).b
def uw(p:Int)(P:Pm)(n:Nat):dw p P.nv (P.E? n):=by
 unfold Pm.E?;split
 .intro E h;cases h;exact⟨ak,λv R=>by rw[fB R];exact yS p⟩
 exact lq
def DL{p:Int}(U:p=5\/p=6){P:Pm}(T:nD P){a:Nat->EV}(c:∀m,dw p P.nv<|a m):∀(l:List<|Nat×Nat)(e:EV),dw p P.nv e->dw p P.nv (l.foldl (λb q=>qD p b<|vM p (P.at q.1) q.2<|a q.1) e)
 |[],e,h=>h
 |q::l,e,h=>DL U T c l _<|oZ h<|oV U (T q.1)<|c q.1
def gi(U:p=5\/p=6)(T:nD P){a:Nat->EV}(n:Nat)(b:∀m,dw p P.nv<|a m):dw p P.nv (P.say p n a):=DL U T b _ _<|uw p P n
def M9{p:Int}(U:p=5\/p=6){P:Pm}(T:nD P){a c:Nat->EV}(g:∀m,dw p P.nv<|a m)(f:∀m,dw p P.nv<|c m)(h:∀m,iP p (a m)<|c m):∀(l:List<|Nat×Nat)(e d:EV),dw p P.nv e->dw p P.nv d->iP p e d->iP p (l.foldl (λb q=>qD p b<|vM p (P.at q.1) q.2<|a q.1) e) (l.foldl (λb q=>qD p b<|vM p (P.at q.1) q.2<|c q.1) d)
 |[],e,d,_,_,k=>k
 |q::l,e,d,b,Q,k=>by
  have y:=oV (k:=q.2) U (T q.1)<|g q.1;have r:=oV (k:=q.2) U (T q.1)<|f q.1;have a:=ab5 (k:=q.2) U (T q.1) (g q.1) (f q.1)<|h q.1;refine M9 U T g f h l _ _ (oZ b y) (oZ Q r)<|DB b y ?_ ?_
  .exact fh Q b k<|aao Q r
  exact fh r y a<|Tl Q r
def yj(U:p=5\/p=6)(T:nD P){a b:Nat->EV}(n:Nat)(c:∀m,dw p P.nv<|a m)(d:∀m,dw p P.nv<|b m)(h:∀m,iP p (a m)<|b m):iP p (P.say p n a) (P.say p n b):=
 M9 U T c d h _ _ _ (uw p P n) (uw p P n) (iO p _)
end
section
variable {P:Pm}{f Q:Nat}{a b:EV}{c:Ct}
def mI{p:Int}{th a:Nat->Bool}(h:∀m,th m=N'->a m=N')(b:P.rule p f n th=N'):P.rule p f n a=N':=by
 unfold Pm.rule at *;rw[eZ]at *;rcases b with b|b
 .exact aP b
 refine aR<|xK.2 ?_;obtain⟨m,d,F⟩:=xK.1 b;refine⟨m,d,?_⟩;rw[eZ,aY]at *;exact F.elim aP λF=>aR ⟨F.1,h m F.2⟩
def aaY(P:Pm)(p:Int)(th:Nat->Nat->Bool):Prop:=∀f n,f<P.facts p->n<ζ P.nd->P.rule p f n (th f)=N'->th f n=N'
def RE(P:Pm)(c:Ct):Ab P c=N'↔aaY P c.aL λf=>pF c f (-1):=by
 simp only[Ab,aaY,bV,cx,eZ,jo];constructor
 .intro h f n Y K a;rcases h f Y n K with h|h
  .rw[a]at h;cases h
  exact h
 intro h f Y n K;cases a:P.rule c.aL f n (pF c f (-1))with
 |false=>exact aP rfl
 |true=>exact aR<|h f n Y K a
def S3(P:Pm)(c:Ct):wz P c=N'↔∀f n,f<P.facts c.aL->n<ζ P.nd->pF c f (-1) n=N'->P.rule c.aL f n (pF c f ((c.at n).oF f))=N':=by
 simp only[wz,bV,cx,eZ,jo];constructor
 .intro h f n Y K a;rcases h f Y n K with h|h
  .rw[a]at h;cases h
  exact h
 intro h f Y n K;cases a:pF c f (-1) n with
 |false=>exact aP rfl
 |true=>exact aR<|h f n Y K a
def tG(K:n<ζ c.nodes):c.at n∈c.nodes:=by rw[Ct.at,getD,bj K];exact eG K
def pf(K:¬n<ζ c.nodes):c.at n=EA:=by rw[Ct.at,getD,cq I];rfl
structure YE(c:Ct):Prop where
  p:c.aL<=4
  dI:∀x∈c.nodes,dI 0 x.facts=N'
  bare:∀x∈c.nodes,x.aF=O'/\x.aM=[]
  bf:c.grade=1->∀x∈c.nodes,ζ x.bf=ζ x.facts/\∀r∈x.bf,0<=r/\r<=100000
def V?(h:qi c=N')(U:c.aL<=4):YE c:=by
 unfold qi at h;simp only[aY,bV]at h;have k:∀x∈c.nodes,gH c.grade x=N':=λx F=>by have:=h.2 x F;unfold cY at this;rwa[aD U]at this
 unfold gH at k;simp only[aY,jo,og,bM]at k;refine⟨U,λx F=>(k x F).1.2,λx F=>⟨(k x F).1.1.1.1,(k x F).1.1.2⟩,λa x F=>?_⟩;have:=(k x F).2;unfold iL at this;rw[aD a]at this;simp only[aY,bM,bV]at this;refine⟨this.1,λr a=>?_⟩;have:=this.2 r a;unfold rk at this;simpa using this
def Mb(h:YE c)(a:c.grade=1):0<=(c.at n).oF f:=by
 unfold Nd.oF;cases e:(c.at n).bf[(c.at n).facts.idxOf (f:Int)]? with
 |none=>rw[getD,e];exact QC 0
 |some r=>
  rw[getD,e];by_cases K:n<ζ c.nodes
  .exact((h.bf a _<|tG K).2 r<|aO e).1
  rw[pf K]at e;simp[EA]at e
def mO{P:Pm}{c:Ct}(T:YE c)(a:c.grade=1)(X:wz P c=N')(p:ζ c.nodes=ζ P.nd){th:Nat->Nat->Bool}(y:aaY P c.aL th):∀(k:Nat)(f n:Nat),f<P.facts c.aL->pF c f (-1) n=N'->(c.at n).oF f<k->th f n=N'
 |0,f,n,_,_,h=>by have:=Mb (n:=n) (f:=f) T a;omega
 |k+1,f,n,Y,U,hk=>by
  have K:n<ζ P.nd:=by
   rw[<-p];by_cases K:n<ζ c.nodes
   .exact K
   unfold pF at U;rw[pf K]at U;simp[Nd.zm,EA]at U
  have e:=(S3 P c).1 X f n Y K U;refine y f n Y K<|mI (λm d=>?_) e;have D:=Mb (n:=n) (f:=f) T a;unfold pF at d;simp only[aY,eZ,bM]at d;refine mO T a X p y k f m Y ?_ I;simp[pF,d.1]
def sG:∀(l:List Int)(Y:Int),dI Y l=N'->∀x∈l,Y<=x
 |[],_,_,x,h=>by cases h
 |a::l,Y,h,x,hx=>by
  simp only[dI,aY,bM]at h;rcases cM.1 hx with rfl|hx
  .exact h.1.1
  have:=sG l (a+1) h.2 x hx;omega
def Bm:∀(l c:List Int)(Y d:Int),dI Y l=N'->dI d c=N'->(∀x,x∈l↔x∈c)->l=c
 |[],[],_,_,_,_,_=>rfl
 |[],b::c,_,_,_,_,h=>by have:=(h b).2 ak;cases this
 |a::l,[],_,_,_,_,h=>by have:=(h a).1 ak;cases this
 |a::l,b::c,Y,d,C,f,h=>by
  simp only[dI,aY,bM]at C f;have g:=sG l (a+1) C.2;have k:=sG c (b+1) f.2;have e:a=b:=by
   rcases cM.1 ((h a).1 ak)with e|e
   .exact e
   rcases cM.1 ((h b).2 ak)with L|L
   .exact L.symm
   have:=k a e;have:=g b L;omega
  subst e;congr 1;refine Bm l c _ _ C.2 f.2 λx=>?_;constructor
  .intro F;rcases cM.1 ((h x).1<|gp F)with e|e
   .have:=g x F;omega
   exact e
  intro F;rcases cM.1 ((h x).2<|gp F)with e|e
  .have:=k x F;omega
  exact e
def B0(h:lh P c=N')(U:c.aL<=4):ζ c.nodes=ζ P.nd/\∀x∈c.nodes,∀f∈x.facts,f<(P.facts c.aL:Int):=by unfold lh at h;simp only[aY,bV,bM]at h;refine⟨h.1,λx F f Y=>?_⟩;have:=(h.2 x F).1 f Y;rwa[aD U]at this
def zn(h:lh P c=N'):ζ c.nodes=ζ P.nd/\∀x∈c.nodes,x.aF=N'->ζ x.aM=P.nv:=by
 unfold lh at h;simp only[aY,bV,bM,eZ,jo]at h;refine⟨h.1,λx F a=>?_⟩;rcases(h.2 x F).2 with e|e
 .rw[a]at e;cases e
 exact e
def LY(c:Ct)(f n:Nat):pF c f (-1) n=N'↔(f:Int)∈(c.at n).facts:=by simp[pF,Nd.zm]
def Du(T:YE c)(Y:lh P c=N'){x:Int}(F:x∈(c.at n).facts):∃f:Nat,x=f/\f<P.facts c.aL/\pF c f (-1) n=N':=by
 have K:n<ζ c.nodes:=by
  by_cases K:n<ζ c.nodes
  .exact K
  rw[pf K]at F;cases F
 have D:=sG _ _ (T.dI _<|tG K) x F;have C:=(B0 Y T.p).2 _ (tG K) x F;refine⟨x.toNat,I,I,?_⟩;rw[LY,show((x.toNat:Nat):Int)=x by omega];exact F
structure AI(c:Ct)(nv:Nat):Prop where
  p:c.aL=5
  ok:∀x∈c.nodes,x.aF=N'->ζ x.aM=nv/\0<=x.rank/\∀v∈x.aM,(v.aH=1/\v.bY=O')\/(v.aH=2/\v.bY=N'/\x.rank<v.rank/\v.lo=0)\/(v.aH=2/\v.bY=O'/\v.lo=0)
  bd:∀x∈c.nodes,∀v∈x.aM,(-2^63<=v.lo/\v.lo<=9223372036854775807)/\(-2^63<=v.first/\v.first<=9223372036854775807)
  hi:∀x∈c.nodes,∀v∈x.aM,v.hi=0
  bare:∀x∈c.nodes,x.facts=[]/\(x.aF=O'->x.aM=[])
def VS{v:Vl}{r:Int}(h:(-9223372036854775808<=v.lo/\v.lo<=9223372036854775807)/\(-9223372036854775808<=v.first/\v.first<=9223372036854775807))(N:v.aH≠3):okV 5 (cS r v):=by
 rw[cS,aA N];split
 .exact sR _ h.1
 split
 .exact sR _ h.2
 exact Dl
def fH(h:AI c Q)(r:Int)(n:Nat):dw 5 Q (eg c r n):=by
 unfold eg gC;split
 .exact lq
 rename_i K;intro E e;cases e;by_cases X:n<ζ c.nodes
 .have C:=tG X;have b:(c.at n).aF=N':=by cases V:(c.at n).aF;(· exact absurd (aP V) K);rfl
  have a:=h.ok _ C b;refine⟨by simp[a.1],λv R=>?_⟩;obtain⟨u,b,rfl⟩:=bG.1 R;exact VS (h.bd _ C u b) (by rcases a.2.2 u b with k|k|k<;>omega)
 rw[pf X]at K;exact absurd (aP rfl) K
def E!(m:nD P)(h:AI c P.nv):ye P c=N'↔∀n,n<ζ P.nd->iP 5 (P.say 5 n<|eg c (-1)) (eg c (-1) n):=by simp only[ye,bV,cx,h.p];exact⟨λk n K=>(ja (gi (aP rfl) m n<|fH h _)<|fH h _ _).1<|k n K,λk n K=>(ja (gi (aP rfl) m n<|fH h _)<|fH h _ _).2<|k n K⟩
def X5{j:Nat}(c:dw 5 n a)(d:dw 5 n b)(h:iP 5 a b)(l:zB a j=N'):zB b j=N':=by
 match a,b,h with
 |some a,some b,h=>
  unfold zB at *;have C:=M6 (c a rfl).1 (d b rfl).1 h j;rcases le5 C with e|e
  .simp only[e]at l|-;exact l
  simp only[e];rfl
 |none,_,_=>simp[zB]at l
def ki{P:Pm}{c:Ct}(e:nD P)(T:AI c P.nv)(X:wy P c=N')(p:ζ c.nodes=ζ P.nd){S:Nat->EV}(u:∀n,dw 5 P.nv<|S n)(l:∀n,n<ζ P.nd->iP 5 (P.say 5 n S) (S n)):∀(k:Nat)(n:Nat)(r:Int),0<=r->r<=k->iP 5 (eg c r n) (S n)
 |k, n,r,D,hk=>by
  by_cases W:(c.at n).aF=O'\/(0<=r/\r<=(c.at n).rank)
  .rw[eg,gC,aD W];trivial
  have g:(c.at n).aF=N':=by cases V:(c.at n).aF;(· exact absurd (aP V) W);rfl
  have K:n<ζ c.nodes:=by
   by_cases K:n<ζ c.nodes
   .exact K
   rw[pf K]at g;cases g
  have i:(c.at n).rank<r:=I;have C:=T.ok _ (tG K) g;have i:=X;unfold wy at i;simp only[bV,cx]at i;have F:=i n I;unfold rE at F;rw[g,T.p]at F;simp only[uf,ko,aY,bV,cx]at F;have d:iP 5 (gC (c.at n) ((c.at n).rank+1)) (S n):=by have V:=(ja (n:=P.nv) (by have:=fH T ((c.at n).rank+1) n;exact this)<|gi (aP rfl) e n<|fH T _).1 F.1;have o:iP 5 (P.say 5 n<|eg c (c.at n).rank) (P.say 5 n S):=yj (aP rfl) e n (fH T _) u λm=>ki e T X p u l (k-1) m _ C.2.1 I;exact fh (gi (aP rfl) e n<|fH T _) (fH T ((c.at n).rank+1) n) V<|fh (gi (aP rfl) e n u) (gi (aP rfl) e n<|fH T _) o<|l n I
  unfold eg;unfold gC at d|-;rw[aA W];rw[aA<|by rw[g];simp;omega]at d;cases a:S n with
  |none=>rw[a]at d;exact d.elim
  |some bs=>
   rw[a]at d;intro j x y f h;rw[a!]at f;cases R:(c.at n).aM[j]? with
   |none=>rw[R]at f;cases f
   |some v=>
    rw[R]at f;cases f;have f:=d j (cS ((c.at n).rank+1) v) y (by rw[a!,R];rfl) h;by_cases L:v.bY=N'/\v.rank<r;rotate_left
    .have:cS r v=cS ((c.at n).rank+1) v:=by
      unfold cS;rcases C.2.2 v (aO R)with q|q|q
      .rw[q.1];rfl
      .rw[q.2.1]at L|-;have N:decide (0<=r)=N':=H' D;have i:decide (r<=v.rank)=N':=by simp at L|-;omega
       have d:decide (0<=(c.at n).rank+1)=N':=by simp;omega
       have g:decide ((c.at n).rank+1<=v.rank)=N':=by simp;omega
       rw[N,i,d,g]
      rw[q.2.1];rfl
     rw[this];exact f
    -- it is any,justly
    have s:=F.2 j (aX.1 R).1;rw[R]at s;simp only[L.1,uf,ko]at s;rcases C.2.2 v (aO R)with q|q|q
    .rw[q.2]at L;cases L.1
    .have o:iP 5 (P.say 5 n<|eg c v.rank) (P.say 5 n S):=yj (aP rfl) e n (fH T _) u λm=>ki e T X p u l (k-1) m _ I I;have d:=fh (gi (aP rfl) e n u) (gi (aP rfl) e n<|fH T _) o<|l n I;have c:=X5 (gi (aP rfl) e n<|fH T _) (u n) d s;rw[a]at c;unfold zB at c;simp only[getD,h,xH]at c;have i:=ok5 ((u n bs a).2 y<|aO h);refine Kg<|aR ?_;rcases i with e|e
     .exact e
     rw[e]at c;simp[VV.one]at c
    rw[q.2.1]at L;cases L.1
def Pn{x y:VV}(h:ie 5 x y)(k:ie 5 y x):x=y:=by
 rcases le5 h with e|e
 .exact e
 rcases le5 k with L|L
 .exact L.symm
 rw[e,L]
def BL(c:dw 5 n a)(d:dw 5 n b)(h:iP 5 a b)(k:iP 5 b a):a=b:=by
 match a,b,h,k with
 |none,none,_,_=>rfl
 |some a,some b,h,k=>have C:=(c a rfl).1;have c:=(d b rfl).1;congr 1;refine xy I λj f c=>?_;have V:=bj f;have u:=bj c;exact Pn (h j _ _ V u)<|k j _ _ u V
def Yh(h:AI c Q){R:Int}(D:0<=R)(d:∀x∈c.nodes,x.rank<R/\∀v∈x.aM,v.rank<R)(n:Nat):eg c R n=eg c (-1) n:=by
 unfold eg gC;by_cases X:n<ζ c.nodes;rotate_left
 .rw[pf X];simp[EA]
 have C:=tG X;have a:=d _ C;cases d:(c.at n).aF with
 |false=>simp
 |true=>
  rw[aA G',aA ak];congr 1;refine eQ λv c=>?_;have N:=a.2 v c;unfold cS;have N:decide (R<=v.rank)=O':=by simp;omega
  have a:decide (0<=(-1:Int))=O':=aj;rw[N,a];simp
def KP{d:Ct}{e:Nat}(T:AI c e)(g:AI d e)(X:ζ c.nodes=ζ d.nodes)(h:∀n,eg c (-1) n=eg d (-1) n):c.nodes.map tU=d.nodes.map tU:=by
 refine xy (by simp[X]) λn e r=>?_;simp only[b9]at e r;have V:c.at n=c.nodes[n]:=by rw[Ct.at,getD,bj e];rfl
 have u:d.at n=d.nodes[n]:=by rw[Ct.at,getD,bj r];rfl
 have F:=h n;have C:=tG e;have p:=tG r;unfold eg gC at F;simp only[xx,<-V,<-u,tU];have e:=T.bare _ C;have o:=g.bare _ p;cases r1:(c.at n).aF with
 |false=>
  cases q:(d.at n).aF with
  |false=>rw[e.1,o.1,e.2 r1,o.2 q]
  |true=>rw[r1,q]at F;simp at F
 |true=>
  cases q:(d.at n).aF with
  |false=>rw[r1,q]at F;simp at F
  |true=>
   rw[r1,q]at F;simp only[Bool.true_eq_false,false_or]at F;rw[aA I,aA I]at F;rw[e.1,o.1];congr 1;have s:=T.ok _ C r1;have k:=g.ok _ p q;refine xy (by simp[s.1,k.1]) λj o e=>?_;simp only[b9]at o e;have f:=cZ (λl=>l[j]?)<|cJ F;simp only[a!,bj o,bj e,gK,dU]at f;simp only[xx,plV];have y:=eG o;have t:=eG e;have z:=T.hi _ C _ y;have x:=g.hi _ p _ t;generalize(c.at n).aM[j]=v at *;generalize(d.at n).aM[j]=u at *;unfold cS at f;have c:decide (0<=(-1:Int))=O':=aj;rw[c]at f;simp only[AL,vi,eF,eV]at f;rcases s.2.2 v y with q|q|q<;>rcases k.2.2 u t with c|c|c
   all_goals(rw[q.1,c.1]at f;simp[VV.one,VV.dT]at f)
   all_goals(rw[z,x,q.1,c.1])
   .rw[f]
   .rw[q.2.2.2,c.2.2.2]
   .rw[q.2.2.2,c.2.2]
   .rw[q.2.2,c.2.2.2]
   rw[q.2.2,c.2.2]
end
section
variable {c:Ct}
def U!{u v:p'}(h:Below B u v)(k:Below B v w):Below B u w:=h.trans k
def SQ(B b:Nat)(l:u')(p g:Int)(a j z:t')(q rc x:Nat)(n:Nd)(w:p')(h:Wr w B b l)(c:∀W,Below B w W->tP W a j z q rc x n)(K:lA n)(o:cY p g n=N')(L:ζ l+4000000<=140737488355328):
  Cl 87 #[m'<|z'<|O b 0,j' #[G p,G g],j' #[g' a (ζ n.facts) q,g' j (ζ n.bf) rc,h' n.aF,G n.rank,g' z (ζ n.aM) x]] w λe s=>e=n' (o' #[])/\eE w s B b (l++d! p g n):=by
 have d:=hid ((h.wrote.alloc<|qw p g).alloc<|i' #[g' a (ζ n.facts) q,g' j (ζ n.bf) rc,h' n.aF,G n.rank,g' z (ζ n.aM) x] 96);have T:J ((∀W,Below B w W->tP W a j z q rc x n)/\lA n):=⟨c,K⟩;clear h c K;cases U:decide (p<=4)with
 |true=>
  have c:p<=4:=H' U;have V:J (d! p g n=setB n/\gH g n=N'):=by refine⟨by rw[d!,aD c],?_⟩;unfold cY at o;rwa[aD c]at o
  clear o c;go_enter func87,ntmps87
  go_wp2_with (first
   |(go_at_call 134;refine Cg.mono ?_;rw[U];rintro e y ⟨rfl,rfl⟩)
   |(go_at_call 135;refine(V8 B b l g a j z q rc x n _ (d.o.wr.alloc _) (λW s=>(T.a W ((d.o.alloc _).below.trans s)).facts) (λW s=>(T.a W ((d.o.alloc _).below.trans s)).bf) V.A I).mono ?_;rintro e t ⟨rfl,C⟩;have i:=hid C;clear C))
  (try simp only[Exit.inBlock,Exit.then]);refine aE (CA rfl _ _ _) rfl ?_
  refine⟨rfl,?_⟩;rw[V.a];exact(d.o.alloc _).trans i.o
 |false=>
  have c:¬p<=4:=H' U;cases r:n.aF with
  |true=>
   have V:J (d! p g n=[if N'=N' then 1 else 0]++rL p g n/\jR p g n=N'):=by refine⟨by rw[d!,aA c,r];rfl,?_⟩;unfold cY at o;rwa[aA c,r,aD rfl]at o
   rw[r]at d;clear o c;have u:=λW h s=>wF B b (l++[if N'=N' then 1 else 0]) p g a j z q rc x n W h (λF v=>(T.a F<|U! s v).aM) T.A V.A (by simp only[bg,e4];omega);rw[r]at u;go_enter func87,ntmps87
   go_wp2_with (first
    |(go_at_call 134;refine Cg.mono ?_;rw[U];rintro e y ⟨rfl,rfl⟩)
    |(go_at_call 137;refine(u _ i.a.wr ((d.o.alloc _).below.trans i.a.below)).mono ?_;rintro e F ⟨rfl,(u:J _)⟩)
    |(go_at_call 136;refine(tw B b l N' _ (d.o.wr.alloc _) I).mono ?_;rintro e t ⟨rfl,C⟩;have f:=C.box (d.o.wr.alloc _) ((bR G').trans (bE w _ _).1) aj aj;have k:=C.box (d.o.wr.alloc _) ((bR ak).trans (bE w _ _).2) aj aj;have E:=A f;have D:=A k;have i:=hid<|Aa C<|Aa f k;clear C f k))
   go_end0
   refine⟨rfl,?_⟩;rw[V.a,<-fK];exact((d.o.alloc _).trans i.a).trans u.o
  |false=>
   have V:J (d! p g n=[if O'=N' then 1 else 0]):=by show _=_;rw[d!,aA c,r];rfl
   rw[r]at d;clear o c;go_enter func87,ntmps87
   go_wp2_with (first
    |(go_at_call 134;refine Cg.mono ?_;rw[U];rintro e y ⟨rfl,rfl⟩)
    |(go_at_call 136;refine(tw B b l O' _ (d.o.wr.alloc _) I).mono ?_;rintro e t ⟨rfl,C⟩;have f:=C.box (d.o.wr.alloc _) ((bR G').trans (bE w _ _).1) aj aj;have k:=C.box (d.o.wr.alloc _) ((bR ak).trans (bE w _ _).2) aj aj;have E:=A f;have D:=A k;have i:=hid<|Aa C<|Aa f k;clear C f k))
   go_end0
   refine⟨rfl,?_⟩;rw[V.o];exact(d.o.alloc _).trans i.a
def Yl(w:p')(C:Array y')(n c g:Nat)(a:g=δ w.1):
  (convert 157 157<|gX g n c).run Tryz.prog (w.alloc<|i' C 5)=.ok (gX g n c) (w.alloc<|i' C 5 (C.size,C.size+1)):=by
 subst a;exact Lib.run_convert_bytes_const w 157 5 C n c underlying157 underlying5
def J7(B b r n:Nat)(l:u')(c:UInt8)(w:p')(v:B<=b)(a:w.1[b]?=z' (i' (mG r n) 168 (0,0)))(K:n=ζ l)(X:∀(j:Nat)(u:y'),(Lib.byteCells l)[j]?=z' u->χ w (O r<|0+j)=z' u)(n:ζ l+1<=140737488355328):
  Cl 85 #[m'<|z'<|O b 0,.int .u8 c.toNat] w λe n=>e=n' (o' #[])/\eE w n B b (l++[c]):=by
 obtain⟨N,S,D,P,g⟩:=cI infoByte;subst K;have c1:χ w (O b 0)=z' (cG r<|ζ l):=by rw[CB a];rfl
 have L:b<δ w.1:=(bq.1 a).1;have o:=hid<|Aa a X;clear a X;go_enter func85,ntmps85;go_wp2_with (at_builtin;refine wpList_append_grows _ rfl _ _ 157 rfl 5 N (.int .u8 0) 1 1 underlying157 S D P g rfl aj (z'<|O r 0) (ζ l) (ζ l) (Lib.byteCells l) rfl ?c0 ?c1 ?c2 (O w.1.size 0) 1 1 [.int .u8 c.toNat] rfl rfl ?c3 ?c4 ?c5 ?c6 ?c7 ?_)
 case c0=>intro h;cases h
 case c1=>simp[Lib.byteCells]
 case c2=>
  intro g a j u f;cases a;have C:=o.A j u f;have p:((O r 0):Addr).add j=(O r<|0+j):=by rw[dY]
  rw[p];exact(bh<|bR<|dW C).trans C
 case c3=>exact lT
 case c4=>intro u d;simp at d;subst d;rfl
 case c5=>omega
 case c6=>unfold maxLen;omega
 case c7=>omega
 intro g W i d;have X:W.1[b]?=z' (i' (mG r<|ζ l) 168 (0,0)):=by rw[d.block b G' ak];exact(bR L).trans o.a
 have Y:χ W (O b 0)=z' (cG r<|ζ l):=by rw[CB X];rfl
 have K:W.frozen? (O b 0)=O':=Lib.frozen_of_heap X 0;obtain⟨s,k,rfl⟩:=aV i;go_wp2
 go_end0
 have q:φ (g' s (ζ l+1) k)≠z' b:=by
  rcases dE i (q:=b) (by first|omega|(simp;omega))with h|h
  .rw[h];simp
  exact h
 have f:Kp b w W:=⟨d.os,d.tape,d.output,bX ak d.size,λk o a _ _=>(d.block k (by have:=(bq.1 a).1;simp;omega) ak).trans ((bR (bq.1 a).1).trans a)⟩;refine⟨rfl,⟨v,_,?_,?_,q⟩,Tb f 0 _,((aQ.alloc I _).grown d G' (λk a=>by simp at a)).setCell (p:=(O b 0)) v _⟩
 .simp[World.setCell,AV,X]
 have e:Lib.byteCells (l++[c])=Lib.byteCells l++[Value.int .u8 c.toNat]:=by simp[Lib.byteCells]
 rw[bg,e];refine⟨by simpa using i.1,?_⟩;rcases i.2 with h|⟨g,u,Y,R,C,p,N⟩
 .exact aP h
 refine aR ⟨g,u,Y,R,by first|omega|(simp at C;omega),(aJ ?_).trans p,N⟩;rintro rfl;exact q (by rw[R];rfl)
def O7(B b:Nat)(l:u')(m:Nat)(w:p')(d:m<256)(h:Wr w B b l)(L:ζ l+1<=140737488355328):
  Cl 85 #[m'<|z'<|O b 0,.int .u8 (m:Int)] w λe a=>e=n' (o' #[])/\eE w a B b (l++[UInt8.ofNat m]):=by
 have:=gB B b l (UInt8.ofNat m) w h L;rwa[<-tH d]at this
def F9(B b r n:Nat)(l:u')(m:Nat)(w:p')(d:m<256)(v:B<=b)(c:w.1[b]?=z' (i' (mG r n) 168 (0,0)))(K:n=ζ l)(X:∀(j:Nat)(u:y'),(Lib.byteCells l)[j]?=z' u->χ w (O r<|0+j)=z' u)(L:ζ l+1<=140737488355328):
  Cl 85 #[m'<|z'<|O b 0,.int .u8 (m:Int)] w λe a=>e=n' (o' #[])/\eE w a B b (l++[UInt8.ofNat m]):=by
 have:=J7 B b r n l (UInt8.ofNat m) w v c K X L;rwa[<-tH d]at this
def eE.Aw{a:p'}{b k:Nat}{l:u'}{L:Array y'}{t:TypeId}(h:eE w a B b l)(c:w.1[k]?=z' (cU L t))(U:k≠b)(l:t≠5):a.1[k]?=z' (cU L t):=
 h.kp.keep k _ c U (λn a e=>by simp at e;exact l e.2.1)
def u?{v:y'}{l:u'}(h:ρ w B 5 1 v (ζ l)<|Lib.byteCells l)(D:l≠[]):
  ∃a c,v=g' (z' a) (ζ l) c/\(convert 157 9<|g' (z' a) (ζ l) c).run Tryz.prog w=.ok (k' ⟨θ l⟩) w:=by
 rcases h.2 with⟨_,e⟩|⟨g,c,Y,R,_⟩
 .exact absurd (fT.1 e) D
 refine⟨_,c,R,run_convert_bytes_back w 157 9 5 _ c l underlying157 underlying5 underlying9 λj f=>?_⟩;subst R;exact h.cells (g:=g) rfl j _ (by simp[Lib.byteCells,f])
def Pp{p g:Int}(h:known p g=N'):∃o a:Nat,p=o/\g=a/\1<=o/\o<=6/\1<=a/\a<=2:=by unfold known at h;simp at h;refine⟨p.toNat,g.toNat,?_⟩;omega
def O5(h:qi c=N'):known c.aL c.grade=N'/\ζ c.nodes<=60/\∀n∈c.nodes,cY c.aL c.grade n=N':=by unfold qi at h;simp only[aY,bM,bV]at h;exact⟨h.1.1,h.1.2,h.2⟩
def TM(h:ζ c.nodes<=60):ζ (o4 c)<=15:=by have:=@fP (ζ c.nodes) I;simp only[o4,bg,bU,eY];omega
def KQ(T:t')(i:Nat)(c:Ct)(w:p')(h:cw w T c.nodes)(d:rV c)(j:qi c=N')(a:ζ (kH c)<=60000)(f:c.aL<=4->c.grade=1):
  Cl 42 #[j' #[G c.aL,G c.grade,g' T (ζ c.nodes) i]] w (Rb w<|o' #[k' ⟨θ<|kH c⟩,G 0]):=by
 obtain⟨p,g,v⟩:=c;have Y:=hid λW N=>Kr T i p g v W (h.below N) d.nodes j f;have s:=hid<|Aa h<|Aa d.nodes a;clear h d f a;simp only at Y|-;obtain⟨c,f,R⟩:=O5 j;simp only at c f R;obtain⟨o,a,rfl,rfl,hp1,V,d,hg2⟩:=Pp c;have HK:=hid R;clear j c R;go_enter func42,ntmps42;go_wp2_with fail;refine(Y.o _ bA).mono ?_;rintro e t ⟨rfl,l⟩;have d:=(l.block _ ak).trans<|cF w<|i' #[G o,G a,g' T (ζ v) i] 51;have E:=A d;have e0:δ w.1<δ t.1:=by have:=l.size;simp at this;omega
 have r:=hid<|Aa (aq bA l) d;have kc:=Yl (t.alloc<|i' #[G o,G a] 166) #[.int .u8 87,.int .u8 67,.int .u8 1] 3 3 (δ t.1+1) ak;clear l d;go_upto_region 5 with(fail)
 clear kc E;generalize c:((t.alloc<|i' #[G o,G a] 166).alloc Lv).alloc (i' #[g' (z'<|O (δ t.1+1) 0) 3 3] 168)=V;have B:J (Bl w V/\V.1[δ w.1]?=z' (i' #[G o,G a,g' T (ζ v) i] 51 (0,0))/\V.1[δ t.1]?=z' (i' #[G o,G a] 166 (0,0))/\V.1[δ t.1+1+1]?=z' (i' #[g' (z'<|O (δ t.1+1) 0) 3 3] 168 (0,0))/\(∀(j:Nat)(u:y'),(Lib.byteCells [87,67,1])[j]?=z' u->χ V (O (δ t.1+1)<|0+j)=z' u)):=by
  subst c;refine⟨aq r.a eD,?_,?_,?_,?_⟩
  .exact((mx t _ _ _).block _ e0).trans r.A
  .exact(bR G').trans (bE t _ _).1
  .have:=cF ((t.alloc<|i' #[G o,G a] 166).alloc Lv)<|i' #[g' (z'<|O (δ t.1+1) 0) 3 3] 168;simpa using this
  intro j u d;have N:=(rY ((t.alloc<|i' #[G o,G a] 166).alloc Lv) (i' #[g' (z'<|O (δ t.1+1) 0) 3 3] 168) (δ t.1+1) ak).trans (bE t (i' #[G o,G a] 166) Lv).2;simp only[World.cell?,N,bH];simpa[Lib.byteCells]using d
 clear c r;generalize δ t.1=sb at e0 B|-;have E:=A B.b;have i:o<256:=I;have j:a<256:=I
 go_upto_region 8 with(first
  |(go_at_call 86;refine(ik w.1.size (sb+1+1) ([87,67,1]++[UInt8.ofNat o]++[UInt8.ofNat a]) (ζ v) _ U.a.wr I I (by have:=@p? (ζ v) I;simp only[bg,bU,eY];omega)).mono ?_;clear E;rintro e d ⟨rfl,N⟩;have d:=N.Aw U.b I aj;have g:=N.Aw U.B I aj;have E:=A d;have z:=hid<|Aa N<|Aa d g;clear N d g)
  |(go_at_call 85;refine(O7 w.1.size (sb+1+1) ([87,67,1]++[UInt8.ofNat o]) a _ j c.a.wr ak).mono ?_;clear E;rintro e p ⟨rfl,y⟩;have d:=y.Aw c.b I aj;have g:=y.Aw c.B I aj;have E:=A d;have U:=hid<|Aa y<|Aa d g;clear y d g)
  |(go_at_call 85;refine(F9 w.1.size (sb+1+1) (sb+1) 3 [87,67,1] o _ i I B.d rfl B.D ak).mono ?_;clear E;rintro e i ⟨rfl,h1⟩;have d:=h1.Aw B.b I aj;have g:=h1.Aw B.c I aj;have E:=A d;have c:=hid<|Aa h1<|Aa d g;clear h1 d g))
 have d:=hid<|Aa B.a<|Aa (B.a.trans<|c.a.below.trans<|U.a.below.trans z.a.below)<|Aa z.a.wr z.B;have g:J (o4 ⟨o,a,v⟩=[87,67,1]++[UInt8.ofNat o]++[UInt8.ofNat a]++dS (ζ v)):=by show _=_;simp[o4,dS]
 have HL:J (ζ (o4 ⟨o,a,v⟩)<=15):=TM f;clear B c U z;go_wp2_with fail;clear E;go_loopw[34] (λi wr=>∃(k:Nat)(q:u'),k<=ζ v/\i=G k/\J (q++(v.drop k).flatMap (d! o a)=kH ⟨o,a,v⟩)/\J (ζ q<=60000/\q≠[])/\J (Bl w wr/\Wr wr w.1.size (sb+1+1) q/\wr.1[sb]?=z' (i' #[G o,G a] 166 (0,0)))) (λi _=>ζ v-(intOf i).toNat)
 case atStart=>
  refine⟨0,o4 ⟨o,a,v⟩,bm,rfl,?_,⟨I' HL.o,by rw[g.o];simp⟩,d.b,by rw[g.o];exact d.c,d.C⟩;show _=_;simp[kH]
 clear d g HL;obtain⟨k,q,tY,rfl,S,HL,h⟩:=hrel;have d:=A h.B;have e1:=(bq.1 h.B).1;by_cases L:k<ζ v;rotate_left
 .obtain rfl:k=ζ v:=I;have E:¬(ζ v:Int)<(ζ v:Int):=I;have F:=S.o;rw[Cz]at F;simp only[xF,iE]at F;subst F;obtain⟨_,v2,r,c,_⟩:=h.b;obtain⟨a2,cp2,rfl,kc⟩:=u? c HL.A;have z1:=A r;clear r c;go_wp2_with fail;go_ret2;exact⟨rfl,h.a⟩
 have E:(k:Int)<(ζ v:Int):=I;obtain⟨n,C⟩:=La L;obtain⟨d,d,fa,l,z,fc,rc,x,rfl,c0,Q,c2,c3,P,hat⟩:=(s.a.below h.a) k n C;have B:∀W,Below w.1.size (wr.alloc<|i' #[g' fa (ζ n.facts) fc,g' l (ζ n.bf) rc,h' n.aF,G n.rank,g' z (ζ n.aM) x] 96) W->tP W fa l z fc rc x n:=by intro W d;have X:=(h.a.alloc h.a.size<|i' #[g' fa (ζ n.facts) fc,g' l (ζ n.bf) rc,h' n.aF,G n.rank,g' z (ζ n.aM) x] 96).trans d;obtain⟨d,f,E,d,d,g,d,d,D,t,Y,d,d,F,d⟩:=(s.a.below X) k n C;cases D;obtain⟨d,d,d,Y,d,d,d,d,D,d0',d1',d,d,d4',agQ⟩:=s.a k n C;cases D;have q0:=(aB d0' h.a).symm.trans c0;have R:=(aB d1' h.a).symm.trans Q;have q4:=(aB d4' h.a).symm.trans P;simp at q0 R q4;obtain⟨rfl,rfl⟩:=q0;obtain⟨rfl,rfl⟩:=R;obtain⟨rfl,rfl⟩:=q4;exact agQ.below X
 have K:=hid<|Aa C<|Aa B<|Aa (s.b n<|aO C)<|HK.o n<|aO C;have d:ζ q<=60000:=HL.a;clear C hat B;have d:ζ (q++d! o a n)<=60000:=by have h1:=cZ length S.o;have y:=s.B;rw[kQ (d! o a) v k n K.a]at h1;simp only[bg]at h1|-;omega
 have t:¬60000<((ζ q:Nat):Int)+((ζ (d! o a n):Nat):Int):=by simp only[bg]at d;omega
 have B:=hid d;clear d;go_wp2_with (go_at_call 87;refine(SQ w.1.size (sb+1+1) q o a fa l z fc rc x n _ (h.b.alloc _) K.b K.c K.C I).mono ?_;rintro e F ⟨rfl,y⟩;obtain⟨_,v2,r,c,_⟩:=y.wr;obtain⟨a2,cp2,rfl⟩:=aV c;have z1:=A r;have U:=hid y;clear y r c);refine⟨⟨k+1,q++d! o a n,I,e',?_,⟨B.o,by have:=HL.A;simp[this]⟩,(h.a.alloc h.a.size _).trans U.o.below,U.o.wr,U.o.Aw ((bR e1).trans h.B) I aj⟩,by simp[intOf];omega⟩;show _=_;rw[<-S.o,kQ (d! o a) v k n K.a];simp
end
def M3:(Tryz.prog.info? 9).map (λi=>(i.zero,i.size,i.bytes))=z' (z'<|k' ⟨#[]⟩,1,16):=M
def j0(s:x')(a b:Nat):(s.extract a b).1.1=Wm.sub s.1.1 a b:=by rw[Lib.extract_data];simp[Wm.sub,take_drop]
def sX:∀{a b:List x'},a.map (·.data.toList)=b.map (·.data.toList)->a=b
 |[],[],_=>rfl
 |[],_::_,h=>by simp at h
 |_::_,[],h=>by simp at h
 |x::a,y::b,h=>by simp only[fA,xL]at h;rw[data_inj h.1,sX h.2]
def KW(Y r:u')(c:UInt8)(h:Wm.dy c=N'):Wm.ji Y (c::r)=(if Y=[] then[] else[Y])++Wm.ji [] r:=by rw[Wm.ji,h];simp only[dQ];split<;>simp
def Yr(c:UInt8):Wm.dy c=(((c.toNat:Int)==32)||((c.toNat:Int)==9)||((c.toNat:Int)==13)):=by rw[Wm.dy,cC];simp;omega
def drop_cons(s:x')(k:Nat)(h:k<s.size):s.1.1.drop k=s[k]::s.1.1.drop (k+1):=by rw[mX<|by rw[Wm.bT];exact h];rfl
def sub_one(s:x')(k:Nat)(h:k<s.size):Wm.sub s.1.1 k (k+1)=[s[k]]:=by rw[Wm.sub,drop_cons s k h];simp
def Inv(s:x')(k fr:Nat)(acc:List x'):Prop:=
 if k<=s.size then acc.map (·.data.toList)++Wm.ji (Wm.sub s.1.1 fr k) (s.1.1.drop k)=Wm.ji [] s.1.1 else acc.map (·.data.toList)=Wm.ji [] s.1.1
def M1(s:x')(k b:Nat)(V:List x')(c:k<=s.size)(Y:b<=k)(a:∀h:k<s.size,Wm.dy s[k]=N')(h:Inv s k b V):Inv s (k+1) (k+1) (if b<k then V++[s.extract b k] else V):=by
 have d:=Wm.bT s;unfold Inv at h|-;rw[aD c]at h;have E:(if Wm.sub s.1.1 b k=[] then([]:List<|u') else[Wm.sub s.1.1 b k])=(if b<k then[(s.extract b k).1.1] else[]):=by
  by_cases L:b<k
  .rw[aD L,aA<|Wm.Jl _ _ _ L I,j0]
  obtain rfl:b=k:=I;rw[aA L,Wm.sub_self,aD rfl]
 have c:(if b<k then V++[s.extract b k] else V).map (·.data.toList)=V.map (·.data.toList)++(if b<k then[(s.extract b k).1.1] else[]):=by split<;>simp
 by_cases L:k<s.size
 .rw[aD I,c,Wm.sub_self];rw[drop_cons s k L,KW _ _ _<|a L,E]at h;rw[fK];exact h
 obtain rfl:k=s.size:=I;rw[aA I,c];rw[show s.1.1.drop s.size=[] from qO I,Wm.ji,E]at h;exact h
def Xq(s:x')(k b:Nat)(V:List x')(a:k<s.size)(Y:b<=k)(d:Wm.dy s[k]=O')(h:Inv s k b V):Inv s (k+1) b V:=by have c:=Wm.bT s;unfold Inv at h|-;rw[aD I]at h;rw[aD I];rw[drop_cons s k a,Wm.ji,d]at h;simp only[eF,eV]at h;rw[Wm.sk s.1.1 b k (k+1) Y I,sub_one s k a];exact h
def Zu{p:Prop}(h:p:=by
 by_cases B:b<k
 .have d:J (Inv s (k+1) (k+1)<|V++[s.extract b k]):=by have:=p.o;rwa[aD B]at this
  have g:(b:Int)<k:=I;have j:(b:Int)<=k:=I;go_wp2_with (at_builtin;refine fz rfl (.tmp 37) (.tmp 42) 101 rfl w.1.size 9 N (k' ⟨#[]⟩) 1 16 underlying101 y.a y.b y.c y.C rfl aj _ _ _ rfl (o.alloc _) (O wr.1.size 0) 1 1 [k'<|s.extract b k] rfl rfl lT (by intro u C;simp at C;subst C;rfl) (by unfold maxLen;omega) I G' ?_;intro E F e W c)
  all_goals
   go_roundw
   case rel=>
    refine⟨k+1,k+1,V++[s.extract b k],I,I,e',e',d.o,G',?_,(f.alloc l _).grown W G' λq i=>(o.lt q i).1⟩;rw[bg,fq];exact e
   exact F'
 have d:J (Inv s (k+1) (k+1) V):=by have:=p.o;rwa[aA B]at this
 have g:¬(b:Int)<k:=I;go_wp2
 all_goals
  go_roundw
  case rel=>exact⟨k+1,k+1,V,I,I,e',e',d.o,I,o,f⟩
  exact F'):p:=h
def Jt(s:x')(w:p')(y:s.size<=3000):
  Cl 67 #[k' s] w λe a=>∃v,e=n' v/\ρ a w.1.size 9 1 v (ζ<|Ia s) ((Ia s).map k')/\Bl w a:=by
 obtain⟨N,S,D,P,a⟩:=cI M3;have y:J (Tryz.prog.info? 9=z' N/\N.zero=z' (k' ⟨#[]⟩)/\N.size=1/\N.bytes=16):=⟨S,D,P,a⟩;clear S D P a;have k:=Wm.bT s;go_enter func67,ntmps67;go_wp2;go_loopw[3,4,5] (λv f i wr=>∃(k b:Nat)(V:List x'),k<=s.size+1/\b<=k/\i=G k/\f=G b/\J (Inv s k b V)/\ζ V<=k/\ρ wr w.1.size 9 1 v (ζ V) (V.map k')/\Bl w wr) (λ_ _ i _=>s.size+1-(intOf i).toNat)
 case atStart=>exact⟨0,0,[],I,I,rfl,rfl,by show Inv _ _ _ _;simp[Inv,Wm.sub],ak,dj,aQ⟩
 obtain⟨k,b,V,a,a,rfl,rfl,T,F,o,f⟩:=hrel;have l:=f.size;by_cases R:k<=s.size;rotate_left
 .obtain rfl:k=s.size+1:=I;have E:¬((s.size+1:Nat):Int)<=(s.size:Int):=I;go_wp2;go_ret;have e:=T.o;unfold Inv at e;rw[aA I]at e;have:V=Ia s:=sX<|e.trans (Jb s).symm;subst this;exact⟨_,rfl,o,f⟩
 have g:(k:Int)<=(s.size:Int):=I;by_cases c:k=s.size
 .have p:=hid<|M1 s k b V R a (λh=>I) T.o;have z:((k:Int)==(s.size:Int))=N':=by rw[dP];omega
  clear c;exact Zu
 have L:k<s.size:=I;have z:((k:Int)==(s.size:Int))=O':=by rw[dB];omega
 have t:=Yr s[k];cases r:Wm.dy s[k]with
 |false=>
  have p:=hid<|Xq s k b V L a r T.o;rw[r]at t;have Y:=t.symm;simp only[lX]at Y;obtain⟨⟨z,D⟩,x⟩:=Y;clear t;go_wp2;go_roundw
  case rel=>exact⟨k+1,b,V,I,I,e',rfl,p.o,I,o,f⟩
  exact F'
 |true=>
 have p:=hid<|M1 s k b V R a (λh=>r) T.o;rw[r]at t;have Y:=hid t.symm;clear t r;cases z:((s[k].toNat:Int)==32)<;>cases D:((s[k].toNat:Int)==9)<;>cases x:((s[k].toNat:Int)==13)<;>(have v:=Y.o;rw[z,D,x]at v;clear Y)
 all_goals first|(exfalso;simp at v;done)|skip
 all_goals clear v
 all_goals
  exact Zu
end Go.Proofs.YtmipbiligijcpaaGreatDoor
