import Derived.Test.YtmipbiligijcpaaGreatDoorA07
import Derived.Test.YtmipbiligijcpaaGreatDoorA08
namespace Go.Proofs.YtmipbiligijcpaaGreatDoor
set_option linter.all false
set_option maxHeartbeats 0
set_option maxRecDepth 99999
open Go.RowKit Go.Proofs Go.Maps Tryz List Go.Shelf open List renaming length->ζ,toArray->θ open _root_.Array renaming size->δ open World renaming setCell->κ,ownsRow->ρ,cell?->χ,setCells->ψ open Value renaming slice->h',bool->i',agg->k',string->m',pointer->n' open Obj renaming cells->j' open Ending renaming returned->o' open Option renaming some->C',none->D' open Bool renaming true->P',false->Q'
variable {B Q a b hb k n q:Nat}{F P:List Int}{W w:t'}{p:Prop}{s:z'}
structure I7 where
  l:y'
  p0:z'
  r:List z'
  ws:List z'
  os:List z'
  lP:Bool
structure ė(d:I7):Prop where
  no:(10:UInt8)∉d.l
  sz:ζ d.l<=3000
  cut:oR [] d.l=(d.p0::d.r).map (·.data.toList)
  h0:0<d.p0.size
  hp:d.p0.size<=3001
  hr:tV d.p0=P'->d.r≠[]
  hq:d.ws=if tV d.p0 then d.r else d.p0::d.r
  shp:ă d.ws d.lP d.os
  pos:∀s∈d.ws,0<s.size/\s.size<=3000
  hx:d.lP=P'->∀x r,d.ws=x::r->Q6 x=P'
structure QQ where
  hl:List HL
  is:List (List Int)
  vs:List bD
  es:List bD
def S3:QQ:=⟨[],[],[],[]⟩
def eL(s:QQ)(d:I7):QQ:=
 let v:=E? s.vs d.lP d.ws
 let q:=i7 (v.1,[]) d.os
 let b:=d.lP&&decide (ζ d.os=2)&&decide (0<ζ q.2)
 let e:=Ib d.ws
 ⟨s.hl++[⟨v.2,q.2,if b then(if e∈s.es then(s.es.idxOf e:Int) else(ζ s.es:Int)) else -1⟩],if b&&!decide (e∈s.es) then s.is++[q.2] else s.is,q.1,if b&&!decide (e∈s.es) then s.es++[e] else s.es⟩
def LM.hl(x:LM):HL:=⟨x.lM,x.u.us,x.own⟩
def Pl(lm:List LM)(im:List UM)(vs es:List bD):QQ:=⟨lm.map LM.hl,im.map UM.us,vs,es⟩
def Sn{s:QQ}{d:I7}(h:s.es.Nodup/\ζ s.is=ζ s.es):(eL s d).es.Nodup/\ζ (eL s d).is=ζ (eL s d).es:=by
 unfold eL;simp only;split
 .rename_i c;simp only[aS,jY,gB]at c;exact⟨vC.2 ⟨h.1,ak,λa f b X e=>by simp at X;subst X;subst e;exact c.2 f⟩,by simp[h.2]⟩
 exact h
def QO{d:I7}{E b c a:List bD}{e:List LM}{P N:List UM}{x:LM}(h:Ķ d.ws d.os d.lP E b P x c a N)(K:b.Nodup):Pl (e++[x]) N c a=eL (Pl e P E b) d:=by
 obtain⟨C,a,N,c⟩:=h;unfold eL Pl;simp only;rw[<-a,<-C];have F:x.hl=⟨x.lM,x.u.us,x.own⟩:=rfl;rw[eR,dX,rI,F,N];rcases c with⟨c,V,u,a⟩|⟨c,l⟩
 .rw[c,V,u,a];simp
 rw[c];rcases l with⟨V,u,k,a,e⟩|⟨o,V,u,a⟩
 .have c:=aK a;have S:b.idxOf (Ib d.ws)=k:=by obtain⟨X,l⟩:=aV.1 a;exact Lb K X l
  rw[V,u,e];simp[c,S]
 rw[V,u,a];simp[o]
def Cd:∀l:List LM,ζ (jr l)=ζ l*4
 |[]=>rfl
 |x::l=>by have:=Cd l;have e:jr (x::l)=x.cells++jr l:=rfl;rw[e,aW,this,bR];simp[LM.cells];omega
def G1:∀(l:List LM)(j:Nat)(x:LM),l[j]?=C' x->(jr l)[j*4]?=C' (bk x.wa x.wl x.wc)/\(jr l)[j*4+1]?=C' (G x.lM)/\(jr l)[j*4+2]?=C' x.u.v/\(jr l)[j*4+3]?=C' (G x.own)
 |[],j,x,h=>by simp at h
 |y::l,0,x,h=>by simp at h;subst h;simp[jr,LM.cells]
 |y::l,j+1,x,h=>by have B:=G1 l j x<|J' h;have e:jr (y::l)=h' y.wa y.wl y.wc::G y.lM::y.u.v::G y.own::jr l:=rfl;rw[e,show(j+1)*4=j*4+1+1+1+1 by omega,show j*4+1+1+1+1+1=(j*4+1)+1+1+1+1 by omega,show j*4+1+1+1+1+2=(j*4+2)+1+1+1+1 by omega,show j*4+1+1+1+1+3=(j*4+3)+1+1+1+1 by omega];simpa using B
def Tg.txr{w:t'}{c:Nat}{b:List LM}{P:List UM}{E k:List bD}{z q x:A'}{s:Option Nat}(h:Tg w c b P E k z q x s)(X:ζ P=ζ k):VU w c (b.map LM.hl) (ζ E) (P.map UM.us):=by
 obtain⟨k,d,o,z⟩:=h.tp.box;obtain⟨t,v,rfl⟩:=aX o;obtain⟨i,l,rfl⟩:=aX h.lines;obtain⟨D,B,rfl⟩:=aX h.kB;obtain⟨m,V,rfl⟩:=aX h.ins
 have a:∀{u:UM},E4 w (c+1) u->b7 w u.a u.us:=fun {u} C=>by
  intro j x f;have r:=(aV.1 f).1;rcases C.2 with⟨_,e⟩|⟨g,p,Y,R,_⟩
  .omega
  have c:=R;simp[UM.v]at c;refine⟨g,0,c.1,?_⟩;have:=C.cells (g:=g) (by rw[R];rfl) j (G x) (by rw[bH,f];rfl);rwa[fH]at this
 refine⟨i,t,D,m,l,v,B,V,by rw[d,bA,bA,X],λj x f=>?_,λj l f=>?_⟩;rotate_left
 .rw[bH]at f;cases F:P[j]? with
  |none=>rw[F]at f;cases f
  |some u=>
   rw[F]at f;cases f;have r:=(aV.1 F).1;rcases h.ins.2 with⟨_,e⟩|⟨g,p,Y,R,_⟩
   .omega
   simp at R;obtain⟨rfl,rfl⟩:=R;refine⟨g,0,u.a,u.c,rfl,?_,a<|h.qT u<|aK F⟩;rw[bW,h.ins.cellAt _ I,bH,F];rfl
 rw[bH]at f;cases F:b[j]? with
 |none=>rw[F]at f;cases f
 |some y=>
  rw[F]at f;cases f;have r:=(aV.1 F).1;rcases h.lines.2 with⟨_,e⟩|⟨g,p,Y,R,_⟩
  .omega
  simp at R;obtain⟨rfl,rfl⟩:=R;have W:=G1 b j y F;have f:=(Cd b).symm;refine⟨g,0,y.wa,y.wl,y.wc,y.u.a,y.u.c,rfl,?_,?_,?_,?_,a<|h.uses y<|aK F⟩
  .rw[bW,h.lines.cellAt _ I];exact W.1
  .rw[bW,h.lines.cellAt _ I];exact W.2.1
  .rw[bW,h.lines.cellAt _ I];exact W.2.2.1
  rw[bW,h.lines.cellAt _ I];exact W.2.2.2
section
variable {d c y:List I7}{wr:t'}{t:z'}
def kA(ds:List I7):y':=ds.flatMap λd=>d.l++[10]
def Cv:∀(l r:y')(m:Nat),(10:UInt8)∉l->(∀j,j<m->(l++10::r)[j]?≠C' 10)->(l++10::r)[m]?=C' 10->m=ζ l
 |[],r,0,_,_,_=>rfl
 |[],r,m+1,_,h,_=>absurd rfl (h 0 I)
 |a::l,r,0,K,_,h=>by simp at h;subst h;simp at K
 |a::l,r,m+1,K,h,h2=>by have:=Cv l r m (λd=>K<|by simp[d]) (λj f=>by have:=h (j+1) I;simpa using this)<|J' h2;simp[this]
def abS{R m:List z'}{i:Bool}(h:ă R i m):ζ m<=2:=by rcases h with⟨_,_,_,_,_,_,_,rfl⟩|⟨_,_,_,_,_,_,_,rfl⟩|⟨_,_,_,_,_,_,_,_,_,rfl⟩|⟨_,_,_,_,_,_,rfl⟩|⟨_,_,_,_,_,_,_,_,_,_,_,rfl⟩|⟨_,_,_,_,_,_,_,rfl⟩|⟨_,_,_,_,_,rfl⟩<;>simp
def WX(E:List bD)(i:Bool)(R:List z'):ζ (E? E i R).1<=ζ E+1:=by
 unfold E?;split
 .exact j4 _ _
 simp only;omega
def OL{s:QQ}{d:I7}(h:ζ d.os<=2):ζ (eL s d).vs<=ζ s.vs+3/\ζ (eL s d).es<=ζ s.es+1/\ζ (eL s d).is<=ζ s.is+1/\ζ (eL s d).hl=ζ s.hl+1:=by
 unfold eL;simp only;refine⟨?_,?_,?_,ak⟩
 .have C:=WX s.vs d.lP d.ws;have a:=(ti d.os ((E? s.vs d.lP d.ws).1,[])).1;simp only at a;omega
 .split<;>simp
 split<;>simp
def Cs:∀(y:List I7)(s:QQ),(∀d∈y,ζ d.os<=2)->ζ (y.foldl eL s).vs<=ζ s.vs+3*ζ y/\ζ (y.foldl eL s).es<=ζ s.es+ζ y/\ζ (y.foldl eL s).is<=ζ s.is+ζ y/\ζ (y.foldl eL s).hl=ζ s.hl+ζ y
 |[],s,_=>⟨aD _,aD _,aD _,rfl⟩
 |d::r,s,h=>by have C:=OL (s:=s)<|h d ak;have a:=Cs r (eL s d) (λx F=>h x<|by simp[F]);rw[e8,bR];omega
def zQ:∀(y:List I7)(s:QQ),s.es.Nodup/\ζ s.is=ζ s.es->(y.foldl eL s).es.Nodup/\ζ (y.foldl eL s).is=ζ (y.foldl eL s).es
 |[],s,h=>h
 |d::r,s,h=>zQ r (eL s d)<|Sn h
structure î(w wr:t')(tb:Nat)(t:z')(ds dn rs:List I7)(fr k:Nat):Prop where
  all:ds=dn++rs
  frl:fr=ζ (kA dn)
  no:∀j,fr<=j->j<k->t.1.1[j]?≠C' 10
  low:Bl w wr
  tx:∃lm im vs es lv ev iv vb,Tg wr tb lm im vs es lv ev iv vb/\Pl lm im vs es=dn.foldl eL S3
def ML(h:î w wr a t d c y b k)(U:t.1.1=kA d):t.1.1.drop b=kA y:=by
 rw[U,h.all,h.frl];have e:kA (c++y)=kA c++kA y:=by simp[kA]
 rw[e,drop_left]
def Xq{tb fr:Nat}{ds dn rs:List I7}(h:î w wr tb t ds dn rs fr k)(ht:t.1.1=kA ds)(fy:fr<=k)(hk:k<t.size)(ml:t.1.1[k]?=C' 10)(hno:∀d∈ds,(10:UInt8)∉d.l:=by exact λd hd=>(HH.A d hd).no):∃d aa,rs=d::aa/\(t.extract fr k).1.1=d.l:=by
 have hr:=ML h ht;have hln:=Wm.bS t;cases rs with
 |nil=>have:=cQ length hr;rw[Jl,hln]at this;simp[kA]at this;omega
 |cons d aa=>
  refine⟨d,aa,rfl,?_⟩;have e:kA (d::aa)=d.l++10::kA aa:=by simp[kA]
  rw[e]at hr
  have hm:=Cv d.l (kA aa) (k-fr) (hno d<|by rw[h.all];simp) (λj hj=>by
   rw[<-hr,C5]
   exact h.no (fr+j) I I) (by rw[<-hr,C5,show fr+(k-fr)=k by omega];exact ml)
  rw[EA];rw[Wm.sub,hr,hm,take_left]
def ab2(h:î w wr a t d c y b k)(U:t.1.1=kA d)(a:t.size<=k):y=[]:=by
 have g:=ML h U;cases y with
 |nil=>rfl
 |cons d f=>
  exfalso;have e:kA (d::f)=d.l++10::kA f:=by simp[kA]
  rw[e]at g;have C:(t.1.1.drop b)[ζ d.l]?=C' 10:=by rw[g];simp
  rw[C5]at C;have a:=(aV.1 C).1;rw[Wm.bS]at a;exact h.no (b+ζ d.l) I I C
def SS (t:z') (ds:List I7) (w:t') (ht:t.1.1=kA ds) (hd:∀d∈ds,ė d) (c:ζ ds<=60) (c:t.size<=100000):
    Cl 49 #[m' t] w λe c=>(∃tb,e=o' (lR tb)/\VU c tb (ds.foldl eL S3).hl (ζ (ds.foldl eL S3).vs) (ds.foldl eL S3).is)/\Below w.1.size w c:=by
  have HH:=ſ<|M ht hd;have hln:=Wm.bS t;clear ht hd;go_enter func49,ntmps49;go_upto_region 2 with fail
  refine oP (F:=Code.wp _ _ _ _) λV B=>?_;have a:J (î w V w.1.size t ds [] ds 0 0):=⟨rfl,rfl,λj _ h=>I,B.a,[],[],[],[],h' D' 0 0,h' D' 0 0,h' D' 0 0,D',⟨⟨⟨h' D' 0 0,B.b,cY _ _ _ _,rfl⟩,vB⟩,cY _ _ _ _,cY _ _ _ _,cY _ _ _ _,ak,ak,ak⟩,rfl⟩;clear B;generalize v:δ w.1=tb at a|-;have T:=ſ v;clear v;go_wp2_with fail;go_loopw[4,5] (λf i wr=>∃(k fr:Nat)(dn rs:List I7),k<=t.size/\fr<=k/\i=G k/\f=G fr/\J (î w wr tb t ds dn rs fr k)) (λ_ i _=>t.size-(intOf i).toNat)
  case atStart=>exact⟨0,0,[],ds,bq _,aD _,rfl,rfl,a⟩
  clear a;obtain⟨k,fr,dn,rs,hk,fy,rfl,rfl,p⟩:=hrel;by_cases L:k<t.size;rotate_left
  · have c:¬(k:Int)<(t.size:Int):=I
    have X:=ab2 p.o HH.a I;obtain⟨Q,P,E,U,r,N,y,S,b,B⟩:=p.o.tx;have R:=p.o.all;rw[X,fQ]at R;have a:=(zQ dn S3 ⟨vB,rfl⟩).2;rw[<-B]at a;have F:=b.txr (by simpa[Pl]using a);have f:=ſ<|M F<|M B<|M R p.o.low;clear F B R b a X;go_wp2_with fail;go_ret;refine⟨⟨tb,rfl,?_⟩,f.C⟩;rw[f.c,<-f.b];exact f.a
  have c:(k:Int)<(t.size:Int):=I;have c:(fr:Int)<=k:=I;have l:t.1.1[k]?=C' t[k]:=aQ (by rw[hln];exact L);cases z:((t[k].toNat:Int)==10)with
  |false=>
    have K:J (î w wr tb t ds dn rs fr<|k+1):=⟨p.o.all,p.o.frl,λj C s=>by
      by_cases e:j=k
      · subst e;rw[l];intro u;rw[dq]at u;rw[u]at z;simp at z
      · exact p.o.no j C I,p.o.low,p.o.tx⟩
    clear l;go_wp2_with fail;go_roundw
    case rel=>exact⟨k+1,fr,dn,rs,I,I,f',rfl,K⟩
    exact H'
  |true=>
    have q:t[k]=10:=by have:=eo.1 z;apply Bq.1;show t[k].toNat=10;omega
    obtain⟨d,aa,X,m⟩:=Xq p.o HH.a fy L (by rw[l,q]);subst X;have i:d∈ds:=by rw[p.o.all];simp
    have o:=HH.A d i;obtain⟨Q,P,E,U,r,N,y,S,b,B⟩:=p.o.tx;have u:=Cs dn S3 λx F=>abS (HH.A x<|by rw[p.o.all];simp[F]).shp;have c:ζ dn<60:=by have C:=p.o.all;have s:=cQ length C;simp at s;omega
    rw[<-B]at u;simp only[Pl,S3,de,bA]at u;have a:=(zQ dn S3 ⟨vB,rfl⟩).1;rw[<-B]at a;have K:=ſ<|Oy (t.extract fr k) d.p0 d.r d.ws wr (by have C:ζ (t.extract fr k).1.1=ζ d.l:=(by rw[m]);have s:=o.sz;rw[Wm.bS]at C;omega) (by rw[m];exact o.cut) o.h0 o.hp o.hr o.hq;have F:=ſ λ(W:t') g f c (z:Bl wr W) (D:Ws W g f d.ws) (v:δ wr.1<=g)=>UE tb g f c d.ws d.os d.lP Q P E U r N y S W (b.below z) D (λe=>L'<|(b.tp.vlt g e).2) (λe=>L'<|(b.kB.lt g e).2) o.shp o.pos o.hx I I I I;have y:=ſ<|M B<|M a m;clear B a o i u l q b m;go_wp2_with (first|(go_at_call 101;refine K.o.mono ?_;rintro e b ⟨g,f,c,rfl,D,v,l⟩;have a:=ſ<|F.o b g f c l D v;have r:=ſ l;clear D v l)|(go_at_call 100;refine a.o.mono ?_;rintro e F ⟨⟨v,rfl⟩,X,x,i,f,N,c,S,D,g,a,b⟩;have u:=ſ<|M X<|M a b;clear X a b));go_roundw
    case rel=>
      refine⟨k+1,k+1,dn++[d],aa,I,I,f',f',by rw[p.o.all];simp,?_,λj C s=>I,?_,Q++[x],N,i,f,c,S,D,g,u.b,?_⟩
      · have C:ζ (t.extract fr k).1.1=ζ d.l:=by rw[y.B]
        rw[Wm.bS,ByteArray.size_extract]at C;have s:=p.o.frl;have e:kA (dn++[d])=kA dn++(d.l++[10]):=by simp[kA]
        rw[e,aW,aW];simp;omega
      · have C:=p.o.low
        have s:=r.o;have N:=u.a;rw[<-T.o]at N;exact(C.trans<|s.mono C.size).trans N
      rw[uz,<-y.a];exact QO u.B y.b
    exact H'
end
section
variable {a b:z'}{E f:List bD}{o:kE}{p:PN}
namespace Wm
def Zh(l:y'):∀a,oQ a l=a*10 ^ ζ l+gp l:=by
 induction l with
 |nil=>intro a;simp[oQ,gp]
 |cons c r B=>intro a;have C:=B<|a*10+(c.toNat-48);have b:=B<|0*10+(c.toNat-48);have V:oQ a (c::r)=oQ (a*10+(c.toNat-48)) r:=qG a c r;have u:gp (c::r)=oQ (0*10+(c.toNat-48)) r:=qG 0 c r;rw[V,u,C,b,bR,vA,qX,gN,bW,Nat.mul_assoc,xI 10,ld]
def qF(c:UInt8)(r:y'):gp (c::r)=(c.toNat-48)*10 ^ ζ r+gp r:=by have u:gp (c::r)=oQ (0*10+(c.toNat-48)) r:=qG 0 c r;rw[u,Zh];simp
def tT:∀l:y',l.all nk=P'->gp l<10 ^ ζ l
 |[],_=>by simp[gp,oQ]
 |c::r,h=>by simp only[qY,aS]at h;have T:=(nj c).1 h.1;have a:=tT r h.2;rw[qF,bR,vA];have:(c.toNat-48)*10 ^ ζ r<=9*10 ^ ζ r:=Rn _ I;omega
def CD:∀l P:y',ζ l=ζ P->l.all nk=P'->P.all nk=P'->gp l=gp P->l=P
 |[],[],_,_,_,_=>rfl
 |[],_::_,h,_,_,_=>by simp at h
 |_::_,[],h,_,_,_=>by simp at h
 |c::r,d::q,X,C,a,he=>by
  simp only[qY,aS]at C a;have T:=(nj c).1 C.1;have Q:=(nj d).1 a.1;simp only[bR,Nat.add_right_cancel_iff]at X;rw[qF,qF,X]at he;have N:=tT r C.2;have e:=tT q a.2;rw[X]at N;have b:(c.toNat-48)=(d.toNat-48):=by have V:=cQ (· / 10 ^ ζ q) he;rw[xI,Rm<|Br I,xI<|d.toNat-48,Rm<|Br I,Rl N,Rl e]at V;omega
  rw[b]at he;have b:=CD r q X C.2 a.2 I;have:c=d:=by apply Bq.1;omega
  rw[this,b]
def qE{c:UInt8}{r:y'}(T:48<c.toNat):10 ^ ζ r<=gp (c::r):=by rw[qF];have:1*10 ^ ζ r<=(c.toNat-48)*10 ^ ζ r:=Rn _ I;omega
def qn{a:Bool}{d:y'}(h:pG a d=P'):(d=[48]/\a=Q')\/∃c r,d=c::r/\48<c.toNat/\d.all nk=P':=by
 match d,h with
 |[],h=>simp[pG]at h
 |c::r,h=>
  simp only[pG,aS]at h;obtain⟨C,a⟩:=h;have T:=(nj c).1 (by simp only[qY,aS]at C;exact C.1);by_cases f:c.toNat=48
  .left;rw[aB<|by simp[f]]at a;simp only[aS,bw,jY]at a;refine⟨?_,a.2⟩;have:c=48:=by apply Bq.1;rw[f];rfl
   rw[this,fg.1 a.1]
  right;exact⟨c,r,rfl,I,C⟩
def XR{s x:Bool}{Y a:y'}(C:pG s Y=P')(b:pG x a=P')(l:gp Y=gp a):Y=a:=by
 have z:gp [48]=0:=aj;have f:∀(c:UInt8)(r:y'),48<c.toNat->0<gp (c::r):=λc r T=>ep (Br I)<|qE (r:=r) T;rcases qn C with⟨rfl,_⟩|⟨c,r,rfl,T,e⟩
 .rcases qn b with⟨rfl,_⟩|⟨d,q,rfl,Q,a⟩
  .rfl
  have:=f d q Q;omega
 rcases qn b with⟨rfl,_⟩|⟨d,q,rfl,Q,a⟩
 .have:=f c r T;omega
 have N:=tT _ e;have b:=tT _ a;have c:=qE (r:=r) T;have o:=qE (r:=q) Q;refine CD _ _ ?_ e a l;simp only[bR]at N b|-;rcases Nat.lt_trichotomy (ζ r) (ζ q) with X|X|X
 .have:=Fi (n:=10) I (show ζ r+1<=ζ q by omega);omega
 .omega
 have:=Fi (n:=10) I (show ζ q+1<=ζ r by omega);omega
def ũ{l:y'}:l=if ng l then 45::dg l else dg l:=by
 cases l with
 |nil=>rfl
 |cons c r=>
  by_cases h:c=45
  .subst h;rw[KK,LB];rfl
  rw[D9 c r h,EF c r h];rfl
def Zn{d P:y'}{x:Int}(C:np d=C' x)(f:np P=C' x):d=P:=by
 have b:∀l y,np l=C' y->r! l=P'/\((ng l=P'/\y=-(gp (dg l):Int)/\0<gp (dg l))\/(ng l=Q'/\y=(gp (dg l):Int))):=by
  intro l y h;unfold np at h;split at h;rotate_left
  .cases h
  rename_i K;refine⟨K,?_⟩;split at h;rotate_left
  .rename_i a;split at h
   .refine aH ⟨J' a,?_⟩;cases h;rfl
   cases h
  rename_i a;split at h;rotate_left
  .cases h
  refine aI ⟨a,?_,?_⟩
  .cases h;rfl
  unfold r! at K;rw[a]at K;rcases qn K with⟨_,e⟩|⟨c,r,e,T,_⟩
  .cases e
  rw[e];exact ep (Br I)<|qE (r:=r) T
 obtain⟨s,Q⟩:=b _ _ C;obtain⟨x,p⟩:=b _ _ f;have a:ng d=ng P/\gp (dg d)=gp (dg P):=by rcases Q with⟨N,V,F⟩|⟨N,V⟩<;>rcases p with⟨k,u,b⟩|⟨k,u⟩<;>rw[N,k]<;>constructor<;>first|rfl|omega
 rw[ũ (l:=d),ũ (l:=P),a.1,XR s x a.2]
end Wm
def uf(vs:List bD)(o:kE)(s:z'):Prop:=(Wm.nm s=P'/\s.1.1∈vs/\o=⟨P',(vs.idxOf s.1.1:Int),0⟩)\/(Wm.nm s=Q'/\∃c,Wm.np s.1.1=C' c/\o=⟨Q',0,c⟩)
def B?{f:kE}{d:z'}(h:uf E o s)(e:uf E f d):s=d↔jM o=jM f:=by
 rcases h with⟨a,b,rfl⟩|⟨a,c,b,rfl⟩<;>rcases e with⟨c,o,rfl⟩|⟨c,p,o,rfl⟩
 .simp only[jM,gM,oj,and_true];constructor
  .rintro rfl;rfl
  intro e;have L:E.idxOf s.1.1=E.idxOf d.1.1:=I;have:s.1.1=d.1.1:=by rw[<-(Bp<|qW b),<-(Bp<|qW o)];simp only[L]
  exact Â this
 .constructor
  .rintro rfl;rw[a]at c;cases c
  intro e;simp[jM]at e
 .constructor
  .rintro rfl;rw[a]at c;cases c
  intro e;simp[jM]at e
 simp only[jM,gM,oj];constructor
 .rintro rfl;rw[b]at o;cases o;rfl
 rintro rfl;exact Â<|Wm.Zn b o
def NJ{r:List bD}{v:bD}(h:v∈E):(E++r).idxOf v=E.idxOf v:=by rw[Bo,aB h]
def uf.mono(h:uf E o s)(U:E <+: f):uf f o s:=by
 obtain⟨r,rfl⟩:=U;rcases h with⟨a,b,c⟩|h
 .exact aI ⟨a,mem_append_left _ b,by rw[NJ b];exact c⟩
 exact aH h
def o6(E:List bD)(v:bD):E <+: cZ E v:=by
 unfold cZ;split
 .exact jZ
 exact Fj _ _
def Tr(E:List bD)(s:z'):E <+: dx E s:=by
 unfold dx;split
 .exact o6 _ _
 exact jZ
def wA{a b}:=@Tr a b
def B9(E:List bD)(s:z')(h:ej s=P'):uf (dx E s) (qP E s) s:=by
 unfold uf dx qP;cases K:Wm.nm s with
 |true=>
  simp only[b8];refine aI ⟨trivial,?_,?_⟩
  .unfold cZ;split
   .assumption
   simp
  unfold fY cZ;by_cases d:s.1.1∈E
  .simp[d]
  simp only[d,bB];rw[Bo,ax d];simp
 |false=>
  have T:wP s.1.1=P':=by unfold ej at h;rw[K]at h;simpa using h
  unfold wP at T;obtain⟨c,T⟩:=Option.isSome_iff_exists.1 T;refine aH ⟨rfl,c,T,?_⟩;simp[zZ,T]
structure VT(vs:List bD)(p:PN):Prop where
  wd:p.n.aO=1->∃w0 w1 w2 w3 w4,p.ws=[w0,w1,w2,w3,w4]/\uf vs p.n.a w2/\uf vs p.n.b w4/\p.n.op=Wm.Q5 w3.1.1/\Wm.Ts w3.1.1=P'
def VT.mono(h:VT E p)(U:E <+: f):VT f p:=
 ⟨λe=>let ⟨u,f,W,i,Y,a,b,c,d⟩:=h.wd e;⟨u,f,W,i,Y,a,b.mono U,c.mono U,d⟩⟩
def Sg(E:List bD)(R:List z')(a:z'):E <+: (kV E R).2.2/\((kV E R).2.1=P'->VT (kV E R).2.2 ⟨a,R,(kV E R).1⟩):=by
 match R with
 |[]=>exact⟨jZ,λh=>by cases h⟩
 |u::r=>
  unfold kV;simp only;split
  .unfold qO;split
   .exact⟨wA,λ_=>⟨λe=>by simp at e⟩⟩
   exact⟨jZ,λh=>by cases h⟩
  split
  .unfold Cm;split
   .split
    .exact⟨wA.trans wA,λ_=>⟨λe=>by simp at e⟩⟩
    exact⟨jZ,λh=>by cases h⟩
   exact⟨jZ,λh=>by cases h⟩
  split
  .unfold kP;split
   .exact⟨jZ,λ_=>⟨λe=>by simp at e⟩⟩
   exact⟨jZ,λh=>by cases h⟩
  split
  .exact⟨jZ,λ_=>⟨λe=>by simp at e⟩⟩
  unfold iG;split;rotate_left
  .exact⟨jZ,λh=>by cases h⟩
  rename_i u b W q l;cases l;split;rotate_left
  .exact⟨jZ,λh=>by cases h⟩
  split
  .split
   .exact⟨o6 _ _,λ_=>⟨λe=>by simp at e⟩⟩
   exact⟨(o6 _ _).trans wA,λ_=>⟨λe=>by simp at e⟩⟩
  .rename_i i Y;refine⟨((o6 _ _).trans wA).trans wA,λh=>⟨λ_=>⟨u,b,W,i,Y,rfl,?_,?_,rfl,?_⟩⟩⟩
   .simp only[aS]at h;exact(B9 _ _ h.1.1).mono wA
   .simp only[aS]at h;exact B9 _ _ h.2
   simp only[aS]at h;exact h.1.2
  exact⟨(o6 _ _).trans wA,λh=>by cases h⟩
def acP(E:List bD)(R:List z'):E <+: (gK E R).2.2.2.2/\((gK E R).2.2.2.1=P'->VT (gK E R).2.2.2.2 ⟨(gK E R).1,R.drop (gK E R).2.1,(gK E R).2.2.1⟩):=by
 unfold gK;split
 .exact⟨jZ,λh=>by cases h⟩
 split
 .split
  .split
   .exact⟨jZ,λh=>by cases h⟩
   exact Sg _ _ _
  exact⟨jZ,λh=>by cases h⟩
 exact Sg _ _ _
def abY:∀(L:List<|List z')(E:List bD)(V b:List PN)(a:List bD),(∀p∈V,VT E p)->rm E V L=C' (b,a)->∀p∈b,VT a p:=by
 intro L;induction L with
 |nil=>intro E V b a c h;simp[rm]at h;rw[<-h.1,<-h.2];exact c
 |cons R r B=>intro E V b a c h;rw[rm]at h;obtain⟨C,d⟩:=acP E R;exact Ĳ
def XM(c:Wm.Ts a.1.1=P')(d:Wm.Ts b.1.1=P'):a=b↔Wm.Q5 a.1.1=Wm.Q5 b.1.1:=by
 constructor
 .rintro rfl;rfl
 intro h;refine Â ?_;simp only[Wm.Ts,eS,eo]at c d;rcases c with((c|c)|c)|c<;>rcases d with((d|d)|d)|d<;>rw[c,d]at h|-<;>first|rfl|(exfalso;revert h;decide)
def aey{a:List PN}(h:jG s=Pr.ok a E):∀p∈a,VT E p:=by obtain⟨_,D,o,b,_⟩:=kt h;exact abY _ [] [] a E ak b
def Ox{q:PN}(U:VT E p)(e:VT E q)(d:p.n.aO=1)(k:q.n.aO=1){P F r R i c o:z'}(V:p.ws=[P,F,a,s,b])(u:q.ws=[r,R,i,c,o]):
  (a=i/\s=c/\b=o)↔(jM p.n.a,p.n.op,jM p.n.b)=(jM q.n.a,q.n.op,jM q.n.b):=by
 obtain⟨_,_,_,_,_,K,E,l,r,S⟩:=U.wd d;obtain⟨_,_,_,_,_,B,g,d,f,j⟩:=e.wd k;rw[V]at K;rw[u]at B;simp only[L5,and_true]at K B;obtain⟨-,-,t,y,k⟩:=K;obtain⟨-,-,e,h,X⟩:=B;rw[<-t]at E;rw[<-k]at l;rw[<-y]at r S;rw[<-e]at g;rw[<-X]at d;rw[<-h]at f j;have X:(a=i/\s=c/\b=o)↔(jM p.n.a=jM q.n.a/\p.n.op=q.n.op/\jM p.n.b=jM q.n.b):=by rw[B? E g,B? l d,XM S j,<-r,<-f]
 rw[X];constructor
 .rintro⟨C,a,N⟩;rw[C,a,N]
 intro h;exact⟨cQ Prod.fst h,cQ (λx=>x.2.1) h,cQ (λx=>x.2.2) h⟩
end
section
variable {E:List bD}
def qH:∀(l Y q:y'),(32:UInt8)∉l->oR Y (l++q)=oR (Y++l) q
 |[],Y,q,_=>ak
 |c::l,Y,q,h=>by have C:c≠32:=λe=>h (by simp[e]);rw[dA,oR,ax C,qH l (Y++[c]) q λd=>h<|by simp[d]];simp
def CF:∀(r:List z')(Y:y'),(∀y∈r,(32:UInt8)∉y.1.1)->oR Y (r.flatMap λy=>32::y.1.1)=Y::r.map (·.data.toList)
 |[],Y,_=>rfl
 |y::r,Y,h=>by rw[b9,dA,oR,aB rfl,qH _ _ _<|h y ak,c!,CF r _ λz f=>h z<|by simp[f]];rfl
def xx(x:z')(r:List z')(h:∀y∈x::r,(32:UInt8)∉y.1.1):oR [] (jw<|x::r)=(x::r).map (·.data.toList):=by rw[jw,qH _ _ _<|h x ak,c!,CF r _ λz f=>h z<|by simp[f]];rfl
def Ĉ(vs:List bD):List PN->List bD->Prop
 |[],rR=>vs=rR
 |p::r,rR=>(kV vs p.ws).2.1=P'/\p.n=(kV vs p.ws).1/\((p.bL.toList.isEmpty=P'/\∃w0 q,p.ws=w0::q/\pN w0=Q')\/(p.bL.toList.isEmpty=Q'/\p.ws≠[]))/\Ĉ (kV vs p.ws).2.2 r rR
def Yd{R:List z'}(h:(gK E R).2.2.2.1=P'):(kV E<|R.drop (gK E R).2.1).2.1=P'/\(gK E R).2.2.1=(kV E<|R.drop (gK E R).2.1).1/\(gK E R).2.2.2.2=(kV E<|R.drop (gK E R).2.1).2.2/\(((gK E R).1.toList.isEmpty=P'/\∃u q,R.drop (gK E R).2.1=u::q/\pN u=Q')\/((gK E R).1.toList.isEmpty=Q'/\R.drop (gK E R).2.1≠[])):=by
 cases R with
 |nil=>simp[gK,gn]at h
 |cons u r=>
  unfold gK at h|-;by_cases T:pN u=P';rotate_left
  .simp only[j0]at T;simp only[T,bV,bB]at h|-;exact⟨h,rfl,rfl,aI ⟨by rw[eT];rfl,u,r,rfl,T⟩⟩
  simp only[T,b8]at h|-;by_cases K:Wm.nm (jL u)=P'
  .simp only[K,b8]at h|-;cases r with
   |nil=>simp[gn]at h
   |cons a q=>exact⟨h,rfl,rfl,aH ⟨aa9 K,ak⟩⟩
  simp only[j0]at K;simp[K,gn]at h
def DN:∀(L:List<|List z')(E:List bD)(V m:List PN)(b:List bD),rm E V L=C' (m,b)->∃a,m=V++a/\Ĉ E a b
 |[],E,V,m,b,h=>by simp only[rm,dq,gM]at h;exact⟨[],by simp[h.1],h.2⟩
 |R::r,E,V,m,b,h=>by
  rw[rm]at h;split at h
  .exact DN r E V m b h
  split at h
  .rename_i o;obtain⟨c,k,f,w⟩:=Yd o;obtain⟨a,V,u⟩:=DN r _ _ m b h;refine⟨⟨(gK E R).1,R.drop (gK E R).2.1,(gK E R).2.2.1⟩::a,by rw[V];simp,c,k,w,?_⟩;rw[<-f];exact u
  cases h
def adQ{s:z'}{m:List PN}(h:jG s=Pr.ok m E):Ĉ [] m E:=by obtain⟨_,_,_,b,_⟩:=kt h;obtain⟨a,V,u⟩:=DN _ _ _ _ _ b;rw[c!]at V;subst V;exact u
end
def adL(h:wP s.1.1=P'):Q6 s=Q':=by
 unfold Q6;cases y:s.1.1 with
 |nil=>rfl
 |cons c r=>
  rw[y]at h;show Wm.mV c=Q';cases X:Wm.mV c with
  |false=>rfl
  |true=>
   exfalso;have T:c≠45:=λe=>by rw[e]at X;revert X;decide
   unfold wP Wm.np at h;split at h;rotate_left
   .cases h
   rename_i K;unfold Wm.r! at K;rw[Wm.EF c r T]at K;unfold Wm.pG at K;simp only[aS,qY]at K;have Q:=K.1.1;unfold Wm.nk at Q;unfold Wm.mV at X;simp at Q X;omega
def TE(h:Wm.nm s=P'):Q6 s=P':=by
 by_cases D:0<s.size
 .rw[uW s D];cases X:Wm.mV s[0]with
  |true=>rfl
  |false=>rw[Wm.Na s D X]at h;cases h
 rw[Wm.M! s I]at h;cases h
def qk(h:ej s=P')(E:List bD)(c:List Int):Gy (E,c) s=(dx E s,c++(if (qP E s).aN then[(qP E s).var] else[])):=by
 unfold Gy dx qP;cases K:Wm.nm s with
 |true=>rw[TE K];simp
 |false=>
  have T:wP s.1.1=P':=by unfold ej at h;rw[K]at h;simpa using h
  rw[adL T];simp
def sA(n:SN):List Int:=(if 0<dP n/\n.a.aN=P' then[n.a.var] else[])++(if 1<dP n/\n.b.aN=P' then[n.b.var] else[])
def Mp(n:SN)(v:Int):v∈sA n↔QV n v=P':=by
 rw[sA,QV,eC];simp only[eS,aS,bw,eo];constructor
 .rintro(h|h)
  .split at h
   .rename_i T;simp at h;exact aI ⟨⟨T.1,T.2⟩,h.symm⟩
   cases h
  split at h
  .rename_i T;simp at h;exact aH ⟨⟨T.1,T.2⟩,h.symm⟩
  cases h
 rintro(⟨⟨C,a⟩,N⟩|⟨⟨C,a⟩,N⟩)
 .left;rw[aB ⟨C,a⟩];simp[N]
 right;rw[aB ⟨C,a⟩];simp[N]
structure Ġ(vs:List bD)(ws:List z')(st:St)(lP:Bool)(os:List z'):Prop where
  shp:ă ws lP os
  hx:lP=P'->∀x r,ws=x::r->Q6 x=P'
  lM:(E? vs lP ws).2=if fL st.1 then st.1.var else -1
  ops:i7 ((E? vs lP ws).1,[]) os=(st.2.2,sA st.1)
  two:(lP&&decide (ζ os=2))=decide (st.1.aO=1)
def U8(h:ej s=P'):(s.toList==[61])=Q':=by
 cases l:(s.toList==[61])with
 |false=>rfl
 |true=>
  exfalso;rw[eT,eo]at l;unfold ej at h;cases K:Wm.nm s with
  |true=>have:=TE K;unfold Q6 at this;rw[l]at this;revert this;decide
  |false=>rw[K,l]at h;revert h;decide
def acz(h:Wm.nm s=P'):ej s=P':=by rw[ej,h];rfl
def pf(E:List bD)(R:List z'):E? E Q' R=(E,-1):=by unfold E?;cases R<;>rfl
def ac6(h:ej s=P'):(s.toList==[105,110,112,117,116])=Q':=by
 cases l:(s.toList==[105,110,112,117,116])with
 |false=>rfl
 |true=>
  exfalso
  rw[eT,eo]at l;unfold ej at h;rw[l]at h;have a:Wm.nm s=P':=by
   cases K:Wm.nm s with
   |true=>rfl
   |false=>rw[K]at h;revert h;decide
  unfold Wm.nm at a;rw[l]at a;revert a;decide
def W!(E:List bD)(R:List z')(h:(kV E R).2.1=P'):∃i m,Ġ E R (kV E R) i m:=by
 match R with
 |[]=>cases h
 |u::r=>
  unfold kV at h|-;simp only at h|-;by_cases D:(u.toList==[111,117,116,112,117,116])=P'
  .rw[aB D]at h|-;unfold qO at h|-
   match r with
   |[a]=>simp only at h|-;exact⟨Q',[a],aH<|aH<|aH<|aI ⟨u,a,rfl,rfl,U8 h,D,rfl⟩,(λe=>by cases e),by rw[pf];rfl,by rw[pf];show Gy (E,[]) a=_;rw[qk h];simp[sA,dP],rfl⟩
   |[]=>cases h
   |_::_::_=>cases h
  rw[ax D]at h|-;simp only[j0]at D;by_cases C:(u.toList==[105,102])=P'
  .rw[aB C]at h|-;unfold Cm at h|-
   match r with
   |[a,t,b,g,l]=>
    simp only at h|-;split at h;rotate_left
    .cases h
    rename_i f;rw[aB f];simp only[aS]at h;refine⟨Q',[a,b],aH<|aH<|aH<|aH<|aI ⟨u,a,t,b,g,l,rfl,rfl,U8 h.1.1.1,D,C,rfl⟩,(λe=>by cases e),by rw[pf];rfl,?_,rfl⟩;rw[pf];show Gy (Gy (E,[]) a) b=_;rw[qk h.1.1.1,qk h.1.2];simp[sA,dP]
   |[]=>cases h
   |[_]=>cases h
   |[_,_]=>cases h
   |[_,_,_]=>cases h
   |[_,_,_,_]=>cases h
   |_::_::_::_::_::_::_=>cases h
  rw[ax C]at h|-;simp only[j0]at C;by_cases d:(u.toList==[103,111,116,111])=P'
  .rw[aB d]at h|-;unfold kP at h|-
   match r with
   |[a]=>simp only at h|-;exact⟨Q',[],aH<|aH<|aH<|aH<|aH<|aI ⟨u,a,rfl,rfl,U8<|acz h,D,C,rfl⟩,(λe=>by cases e),by rw[pf];rfl,by rw[pf];simp[i7,sA,dP],rfl⟩
   |[]=>cases h
   |_::_::_=>cases h
  rw[ax d]at h|-;by_cases N:(u.toList==[114,101,116,117,114,110])=P'
  .rw[aB N]at h|-;simp only at h|-
   match r with
   |[]=>exact⟨Q',[],aH<|aH<|aH<|aH<|aH<|aH ⟨u,rfl,rfl,D,C,rfl⟩,(λe=>by cases e),by rw[pf];rfl,by rw[pf];simp[i7,sA,dP],rfl⟩
   |_::_=>simp at h;omega
  rw[ax N]at h|-;unfold iG at h|-
  match r with
  |c::W::q=>
   simp only at h|-;by_cases K:(Wm.nm u&&c.toList==[61])=P';rotate_left
   .rw[ax K]at h;cases h
   rw[aB K]at h|-;simp only[aS]at K;have F:∀(x:z')(r:List z'),u::c::W::q=x::r->Q6 x=P':=λx r e=>by cases e;exact TE K.1
   match q with
   | []=>
    simp only at h|-;by_cases S:(W.toList==[105,110,112,117,116])=P'
    .rw[aB S]at h|-;exact⟨P',[],aI ⟨u,c,W,rfl,rfl,K.2,S,rfl⟩,λ_=>F,rfl,by simp[i7,sA,dP,E?],rfl⟩
    rw[ax S]at h|-;simp only at h|-;refine⟨P',[W],aH<|aI ⟨u,c,W,rfl,rfl,K.2,J' S,rfl⟩,λ_=>F,rfl,?_,rfl⟩;show Gy (cZ E u.1.1,[]) W=_;rw[qk h];simp[sA,dP]
   |[i,Y]=>simp only at h|-;simp only[aS]at h;refine⟨P',[W,Y],aH<|aH<|aI ⟨u,c,W,i,Y,rfl,rfl,K.2,ac6 h.1.1,rfl⟩,λ_=>F,rfl,?_,rfl⟩;show Gy (Gy (cZ E u.1.1,[]) W) Y=_;rw[qk h.1.1,qk h.2];simp[sA,dP]
   |[_]=>cases h
   |_::_::_::_=>cases h
  |[]=>cases h
  |[_]=>cases h
def QW(n:SN):Int:=if fL n then n.var else -1
def sB(p:PN):Option bD:=if p.n.aO=1/\0<ζ (sA p.n) then C' (Ib p.ws) else D'
def Tk(es:List bD)(p:PN):Int:=match sB p with|none=>-1|some e=>((cg es<|C' e).idxOf e:Int)
def zc(s:QQ)(p:PN)(vs:List bD):QQ:=⟨s.hl++[⟨QW p.n,sA p.n,Tk s.es p⟩],match sB p with|none=>s.is|some e=>if e∈s.es then s.is else s.is++[sA p.n],vs,cg s.es<|sB p⟩
def Sm{s:QQ}{d:I7}{p:PN}(B:d.ws=p.ws)(K:p.n=(kV s.vs p.ws).1)(h:Ġ s.vs p.ws (kV s.vs p.ws) d.lP d.os):eL s d=zc s p (kV s.vs p.ws).2.2:=by
 unfold eL zc;rw[B];simp only;rw[h.lM,h.ops];simp only;rw[h.two,<-K];unfold Tk sB QW;by_cases a:p.n.aO=1/\0<ζ (sA p.n)
 .rw[aB a];have b:(decide (p.n.aO=1)&&decide (0<ζ (sA p.n)))=P':=by simp[a.1,a.2]
  rw[b];simp only[b8,eV,cg];by_cases l:Ib p.ws∈s.es
  .simp[l]
  simp[l,Bo]
 rw[ax a];have b:(decide (p.n.aO=1)&&decide (0<ζ (sA p.n)))=Q':=by
  cases C:decide (p.n.aO=1)with
  |false=>rfl
  |true=>simp at C;simp[C]at a|-;exact a
 rw[b];simp[cg]
def ac1:∀(R:List z')(s:z'),s∈R->ζ s.1.1<=ζ (jw R)
 |[],s,h=>by cases h
 |x::r,s,h=>by
  rw[jw,aW];rcases cO.1 h with rfl|h
  .omega
  have:∀r:List z',s∈r->ζ s.1.1<=ζ (r.flatMap λy=>32::y.1.1):=λr=>by
   induction r with
   |nil=>intro h;cases h
   |cons y q B=>
    intro h;rw[b9,aW,bR];rcases cO.1 h with rfl|h
    .omega
    have:=B h;omega
  have:=this r h;omega
def Iu(x:z'):tV x=pN x:=by
 rw[tV,pN,<-Lib.hasSuffix_of_drop];generalize x.1.1=l;rcases eq_nil_or_concat l with rfl|⟨q,c,rfl⟩
 .rfl
 rw[concat_eq_append];simp
def Zq(b:z'):tV ⟨θ<|b.1.1++[58]⟩=P':=by unfold tV;simp
def zr(p:PN)(lP:Bool)(os:List z'):I7:=if p.bL.toList.isEmpty then⟨Ê p.bL++jw p.ws,p.ws.headD emp,p.ws.tail,p.ws,os,lP⟩ else⟨Ê p.bL++jw p.ws,⟨θ<|p.bL.1.1++[58]⟩,p.ws,p.ws,os,lP⟩
def X9(p:PN)(i:Bool)(m:List z'):(zr p i m).ws=p.ws/\(zr p i m).os=m/\(zr p i m).lP=i/\(zr p i m).l=Ê p.bL++jw p.ws:=by unfold zr;split<;>exact⟨rfl,rfl,rfl,rfl⟩
def LK:Wm.fE 32=P':=aj
def X?{E:List bD}{p:PN}{i:Bool}{m:List z'}(k:∀y∈l4 p,GW y)(X:ζ (fU p)<=3001)(T:(p.bL.toList.isEmpty=P'/\∃u q,p.ws=u::q/\pN u=Q')\/(p.bL.toList.isEmpty=Q'/\p.ws≠[]))(h:Ġ E p.ws (kV E p.ws) i m):ė (zr p i m):=by
 obtain⟨g,j⟩:=zt k;have L:ζ (Ê p.bL++jw p.ws)<=3000:=by unfold fU at X;rw[aW]at X;simp at X|-;omega
 have B:∀y∈p.ws,(32:UInt8)∉y.1.1:=λy i m=>by have:=((g y i).2 32 m).1;rw[LK]at this;cases this
 have a:∀s∈p.ws,0<s.size/\s.size<=3000:=λs y=>by have C:=(g s y).1;have c:=L4.2 C;rw[Wm.bS]at c;refine⟨c,?_⟩;have N:=ac1 p.ws s y;rw[Wm.bS]at N;rw[aW]at L;omega
 have b:(10:UInt8)∉Ê p.bL++jw p.ws:=λe=>by
  rcases eC.1 e with C|C
  .exact T6 _ j C
  exact Ys _ g C
 rcases T with⟨l,u,q,zL,f⟩|⟨l,z⟩
 .have d:Ê p.bL=[]:=by rw[Ê,aB l]
  rw[zr,aB l,zL];rw[zL]at a B b L h;refine⟨b,L,?_,(a u ak).1,by have:=(a u ak).2;show u.size<=3001;omega,λV=>?_,?_,h.shp,a,h.hx⟩
  .rw[d,c!];exact xx u q B
  .have c:tV u=P':=V;rw[(Iu u).trans f]at c;cases c
  show u::q=if tV u then q else u::q
  rw[(Iu u).trans f];rfl
 have d:Ê p.bL=p.bL.1.1++[58,32]:=by rw[Ê,ax<|by rw[l];simp]
 rw[zr,ax<|by rw[l];simp];refine⟨b,L,?_,?_,?_,λ_=>z,?_,h.shp,a,h.hx⟩
 .obtain⟨u,q,zL⟩:=exists_cons_of_ne_nil z
  have o:(32:UInt8)∉p.bL.1.1++[58]:=λe=>by
   rcases eC.1 e with C|C
   .have:=(j 32 C).1;rw[LK]at this;cases this
   simp at C
  have e:Ê p.bL++jw p.ws=(p.bL.1.1++[58])++(32::jw p.ws):=by rw[d];simp
  show oR [] (Ê p.bL++jw p.ws)=_;rw[e,qH _ _ _ o,oR,aB rfl,zL,xx u q<|by rw[<-zL];exact B];simp
 .show 0<(θ<|p.bL.1.1++[58]).size;simp
 .show(θ<|p.bL.1.1++[58]).size<=3001;rw[aW,d]at L;simp at L|-;omega
 show p.ws=if tV _ then p.ws else _
 rw[Zq];rfl
def Qf(es:List bD):List PN->List HL
 |[]=>[]
 |p::r=>⟨QW p.n,sA p.n,Tk es p⟩::Qf (cg es<|sB p) r
def Hc(es:List bD):List PN->List (List Int)
 |[]=>[]
 |p::r=>(match sB p with|none=>[]|some e=>if e∈es then[] else[sA p.n])++Hc (cg es<|sB p) r
def xu(es:List bD)(pl:List PN):List bD:=(pl.map sB).foldl cg es
def G4:∀(m:List PN)(E a:List bD),Ĉ E m a->(∀p∈m,∀y∈l4 p,GW y)->(∀p∈m,ζ (fU p)<=3001)->∃b:List I7,kA b=mJ m/\(∀d∈b,ė d)/\ζ b=ζ m/\∀s:QQ,s.vs=E->b.foldl eL s=⟨s.hl++Qf s.es m,s.is++Hc s.es m,a,xu s.es m⟩
 |[],E,a,h,_,_=>⟨[],rfl,(λd Q=>by cases Q),rfl,λs c=>by have C:E=a:=h;subst C;subst c;simp[Qf,Hc,xu]⟩
 |p::r,E,a,h,j,hl=>by
  obtain⟨C,l,v,o⟩:=h;obtain⟨i,m,u⟩:=W! E p.ws C;obtain⟨b,V,t,x,z⟩:=G4 r _ a o (λq a=>j q<|by simp[a]) (λq a=>hl q<|by simp[a]);obtain⟨h,k,f,w⟩:=X9 p i m;refine⟨zr p i m::b,?_,λd Q=>?_,by simp[x],λs c=>?_⟩
  .have N:kA (zr p i m::b)=((zr p i m).l++[10])++kA b:=by simp[kA]
   have g:mJ (p::r)=fU p++mJ r:=by simp[mJ]
   rw[N,g,V,w];rfl
  .rcases cO.1 Q with rfl|Q
   .exact X? (j p ak) (hl p ak) v u
   exact t d Q
  subst c;rw[e8,Sm h l<|by rw[k,f];exact u,z _ rfl];have N:Qf s.es (p::r)=⟨QW p.n,sA p.n,Tk s.es p⟩::Qf (cg s.es<|sB p) r:=rfl;have g:Hc s.es (p::r)=(match sB p with|none=>[]|some e=>if e∈s.es then[] else[sA p.n])++Hc (cg s.es<|sB p) r:=rfl;have b:xu s.es (p::r)=xu (cg s.es<|sB p) r:=rfl;rw[N,g,b,QQ.mk.injEq];refine⟨by simp[zc],?_,rfl,rfl⟩;rw[<-df];show(zc s p _).is++Hc (cg s.es<|sB p) r=_;congr 1;unfold zc;simp only;cases sB p with
  |none=>simp
  |some e=>by_cases l:e∈s.es<;>simp[l]
def Y6(a:List bD)(m:List PN):a <+: xu a m:=n0 _ _
def Yz{a b:List bD}{e:bD}(h:a <+: b)(l:e∈a):b.idxOf e=a.idxOf e:=by obtain⟨t,rfl⟩:=h;exact NJ l
def X2(a:List bD)(e:bD):e∈cg a (C' e):=by
 unfold cg;simp only;split
 .assumption
 simp
def Us:∀(m:List PN)(a:List bD)(j:Nat)(x:HL),(Qf a m)[j]?=C' x->∃p,m[j]?=C' p/\x.lM=QW p.n/\x.us=sA p.n/\x.own=match sB p with|none=>-1|some e=>((xu a m).idxOf e:Int)
 |[],a,j,x,h=>by simp[Qf]at h
 |p::r,a,0,x,h=>by
  simp only[Qf,getElem?_cons_zero,dq]at h;subst h;refine⟨p,rfl,rfl,rfl,?_⟩;simp only[Tk];cases l:sB p with
  |none=>rfl
  |some e=>
   simp only;have C:cg a (C' e) <+: xu a (p::r):=by rw[xu,dX,e8,l];exact n0 _ _
   rw[Yz C<|X2 a e]
 |p::r,a,j+1,x,h=>by simp only[Qf,nz]at h;obtain⟨q,C,a,N,d⟩:=Us r _ j x h;exact⟨q,J' C,a,N,d⟩
def NR:∀(m:List PN)(es:List bD),ζ (Qf es m)=ζ m
 |[],_=>rfl
 |p::r,es=>by simp[Qf,NR r]
def zH:∀(m:List PN)(b:List bD)(f:Nat)(e:bD),(xu b m)[f]?=C' e->ζ b<=f->∃p∈m,sB p=C' e/\(Hc b m)[f-ζ b]?=C' (sA p.n)
 |[],b,f,e,h,hf=>by have:=(aV.1 h).1;simp[xu]at this;omega
 |p::r,b,f,e,h,hf=>by
  have V:xu b (p::r)=xu (cg b<|sB p) r:=rfl;rw[V]at h;cases g:sB p with
  |none=>rw[g]at h;obtain⟨q,C,i,N⟩:=zH r _ f e h (by simpa[cg]using hf);refine⟨q,by simp[C],i,?_⟩;rw[Hc,g];simpa[cg]using N
  |some o=>
   rw[g]at h;by_cases d:o∈b
   .have u:cg b (C' o)=b:=by simp[cg,d]
    rw[u]at h;obtain⟨q,C,i,N⟩:=zH r _ f e h hf;refine⟨q,by simp[C],i,?_⟩;rw[Hc,g];simp only[d,b8,c!];rw[u];exact N
   have u:cg b (C' o)=b++[o]:=by simp[cg,d]
   rw[u]at h;by_cases a:f=ζ b
   .subst a;have l:(b++[o])[ζ b]?=C' o:=ak;have c:(xu (b++[o]) r)[ζ b]?=C' o:=by obtain⟨t,U⟩:=Y6 (b++[o]) r;rw[<-U,iC ak];exact l
    rw[c]at h;cases h;refine⟨p,ak,g,?_⟩;rw[Hc,g];simp[d]
   obtain⟨q,C,i,N⟩:=zH r _ f e h I';refine⟨q,by simp[C],i,?_⟩;rw[Hc,g];simp only[d,bB];rw[u,show f-ζ b=(f-ζ (b++[o]))+1 by simp;omega];simpa using N
section
variable {nv:Nat}{e:PE}{v:EV}
def KC.cH(h:PR nv e v)(a:dZ 5 nv v):∀i,Aw (e.at i)/\dD (b6<|e.at i):=by
 have f:Aw VV.z/\dD (b6 VV.z):=⟨⟨rfl,λ_=>rfl⟩,aj,aj⟩;intro i;cases v with
 |none=>have D:e=PE.zero:=h;rw[D,KC.qPE.sJ];exact f
 |some E=>
  rw[h.2.2];by_cases S:i<ζ E;rotate_left
  .rw[getD,b? I];exact f
  have C:=aQ S;rw[getD,C];have R:=(a E rfl).2 _<|aK C;have Y:=R.form;rw[aB rfl]at Y;show Aw E[i]/\dD (b6 E[i]);refine⟨?_,f64.2 R.bd.lo,f64.2 R.bd.hi⟩;rcases Y with Y|Y
  .rw[Y];exact⟨rfl,λ_=>rfl⟩
  rw[Y];exact⟨rfl,λh=>by cases h⟩
def Gm{Q:Nat}(K:Q<=8):∀(l:List<|PE×EV)(e:PE)(v:EV),PR Q e v->dZ 5 Q v->(∀q∈l,PR Q q.1 q.2/\dZ 5 Q q.2)->PR Q ((l.map Prod.fst).foldl KC.j8 e) ((l.map Prod.snd).foldl (A7 5) v)/\dZ 5 Q ((l.map Prod.snd).foldl (A7 5) v)
 |[],e,v,h,a,_=>⟨h,a⟩
 |q::l,e,v,h,a,hl=>by have b:=hl q ak;exact Gm K l _ _ (S8 K h b.1 (λi=>(KC.cH h a i).1) λi=>(KC.cH b.1 b.2 i).1) (pK a b.2) (λx F=>hl x<|by simp[F])
def KB.cH(h:PR nv e v)(a:dZ 6 nv v):∀i,Az (e.at i)/\dD (b6<|e.at i):=by
 have f:Az VV.z/\dD (b6 VV.z):=⟨rfl,aj,aj⟩;intro i;cases v with
 |none=>have D:e=PE.zero:=h;rw[D,KC.qPE.sJ];exact f
 |some E=>
  rw[h.2.2];by_cases S:i<ζ E;rotate_left
  .rw[getD,b? I];exact f
  have C:=aQ S;rw[getD,C];have R:=(a E rfl).2 _<|aK C;have Y:=R.form;rw[ax aj]at Y;show Az E[i]/\dD (b6 E[i]);refine⟨?_,f64.2 R.bd.lo,f64.2 R.bd.hi⟩;exact Y.1
def Gn{Q:Nat}(K:Q<=8):∀(l:List<|PE×EV)(e:PE)(v:EV),PR Q e v->dZ 6 Q v->(∀q∈l,PR Q q.1 q.2/\dZ 6 Q q.2)->PR Q ((l.map Prod.fst).foldl KB.j8 e) ((l.map Prod.snd).foldl (A7 6) v)/\dZ 6 Q ((l.map Prod.snd).foldl (A7 6) v)
 |[],e,v,h,a,_=>⟨h,a⟩
 |q::l,e,v,h,a,hl=>by have b:=hl q ak;exact Gn K l _ _ (S9 K h b.1 (λi=>(KB.cH h a i).1) λi=>(KB.cH b.1 b.2 i).1) (pK a b.2) (λx F=>hl x<|by simp[F])
end
section
variable {P:Pm}{held:Nat->PE}{at_:Nat->EV}
def Sp(n i:Nat):(rj n).at i=VV.z:=L9 _ i
def aa5(P:Pm)(n:Nat):PR P.nv (rj n) (P.OO n):=by
 unfold Pm.OO;cases n with
 |zero=>rw[aB rfl];refine⟨rfl,ak,λi=>?_⟩;rw[Sp,getD,jy];split<;>rfl
 |succ n=>rw[ax I];exact FP n
def kF(P:Pm):Prop:=∀n∈P.nd,n.aO=1->0<=n.op/\n.op<=3
def KC.bU(P:Pm)(held:Nat->PE)(n:Nat):PE:=((P.ins n).map λx=>KC.e? (held x.1) (P.at x.1) (decide (x.2=0))).foldl KC.j8<|rj n
def KB.bU(P:Pm)(held:Nat->PE)(n:Nat):PE:=((P.ins n).map λx=>KB.e? (held x.1) (P.at x.1) (decide (x.2=0))).foldl KB.j8<|rj n
def kT{i:Nat}(h:i<ζ P.nd):P.at i∈P.nd:=by rw[Pm.at,getD,aQ h];exact e9 h
def Ë{v:VV}(h:okV 6 v):Wu v:=by have Y:=h.form;rw[ax aj]at Y;exact⟨Y.1,Y.2,h.bd.lo.1,h.bd.hi.2⟩
def K7(F:ζ P.nx=ζ P.nd){n:Nat}{x:Nat×Nat}(h:x∈P.ins n):P.at x.1∈P.nd:=kT<|L'<|mW n P.nx 0 x h
def KC.fZ(a:cF P)(T:mr P)(b:kF P)(F:ζ P.nx=ζ P.nd)(V:∀m,PR P.nv (held m) (at_ m)/\dZ 5 P.nv (at_ m))(n:Nat):
  PR P.nv (KC.bU P held n) (P.say 5 n at_)/\dZ 5 P.nv (P.say 5 n at_):=by
 have C:=Gm a.nv ((P.ins n).map λx=>(KC.e? (held x.1) (P.at x.1) (decide (x.2=0)),AE 5 (P.at x.1) x.2<|at_ x.1)) (rj n) (P.OO n) (aa5 P n) (pj 5 P n) (λq c=>by
  obtain⟨x,L,rfl⟩:=bp.1 c;have d:=K7 F L
  exact⟨S6 (V x.1).1 a.nv (P.at x.1) x.2 (a.var _ d) (a.aO _ d).1 (b _ d) (a.a _ d)<|a.b _ d,mF (aI rfl) (T x.1) (V x.1).2⟩)
 rw[fF,fF]at C;have u:P.say 5 n at_=((P.ins n).map<|Prod.snd∘λx=>(KC.e? (held x.1) (P.at x.1) (decide (x.2=0)),AE 5 (P.at x.1) x.2<|at_ x.1)).foldl (A7 5) (P.OO n):=by rw[foldl_map];rfl
 rw[u];exact C
def KB.fZ(a:cF P)(T:mr P)(F:ζ P.nx=ζ P.nd)(V:∀m,PR P.nv (held m) (at_ m)/\dZ 6 P.nv (at_ m))(n:Nat):
  PR P.nv (KB.bU P held n) (P.say 6 n at_)/\dZ 6 P.nv (P.say 6 n at_):=by
 have C:=Gn a.nv ((P.ins n).map λx=>(KB.e? (held x.1) (P.at x.1) (decide (x.2=0)),AE 6 (P.at x.1) x.2<|at_ x.1)) (rj n) (P.OO n) (aa5 P n) (pj 6 P n) (λq b=>by
  obtain⟨x,L,rfl⟩:=bp.1 b;have d:=K7 F L
  exact⟨S7 (V x.1).1 a.nv (P.at x.1) x.2 (λE R _=>Ë<|jI ((V x.1).2 E R).2 _ (T x.1).1) (λE R _=>Ë<|jI ((V x.1).2 E R).2 _ (T x.1).2) (a.var _ d) (a.aO _ d).1 (a.a _ d)<|a.b _ d,mF (aH rfl) (T x.1) (V x.1).2⟩)
 rw[fF,fF]at C;have u:P.say 6 n at_=((P.ins n).map<|Prod.snd∘λx=>(KB.e? (held x.1) (P.at x.1) (decide (x.2=0)),AE 6 (P.at x.1) x.2<|at_ x.1)).foldl (A7 6) (P.OO n):=by rw[foldl_map];rfl
 rw[u];exact C
end
section
variable {E:List bD}{S:List (bD×Nat)}
structure Au(P:Pm):Prop where
  ok:cF P
  cs:mr P
  op:kF P
  nx:ζ P.nx=ζ P.nd
  key:∀n∈P.nd,nw<|jm n
structure ü(n:SN):Prop where
  a:xy n.a
  b:xy n.b
  av:n.a.aN=P'->n.aO=0\/n.aO=1\/n.aO=3\/n.aO=4
  bv:n.b.aN=P'->n.aO=1\/n.aO=4
  az:n.a.aN=Q'->n.a.var=0
  bz:n.b.aN=Q'->n.b.var=0
  op:0<=n.op/\n.op<=3
def adM(l:y'):-9223372036854775808<=zZ l/\zZ l<=9223372036854775807:=by
 unfold zZ;cases h:Wm.np l with
 |none=>simp
 |some x=>
  unfold Wm.np at h;split at h;rotate_left
  .cases h
  split at h
  .split at h
   .cases h;simp only[Df];omega
   cases h
  split at h
  .cases h;simp only[Df];omega
  cases h
def acq(E:List bD)(s:z'):xy (qP E s)/\((qP E s).aN=Q'->(qP E s).var=0):=by
 unfold qP;split
 .exact⟨⟨ak,ak⟩,λh=>by cases h⟩
 exact⟨adM _,λ_=>rfl⟩
def rB{a b}:=@acq a b
def GG:xy o0:=⟨aj,aj⟩
def acs(l:y'):0<=Wm.Q5 l/\Wm.Q5 l<=3:=by
 unfold Wm.Q5;split
 .omega
 split
 .omega
 split
 .omega
 split<;>omega
def RQ(h:p:=by
 exact λ_=>⟨GG,GG,λh=>(by cases h),λh=>(by cases h),λ_=>rfl,λ_=>rfl,ak⟩):p:=h
def Ų(h:p:=by
 exact λ_=>⟨rB.1,GG,λ_=>ak,λh=>(by cases h),rB.2,λ_=>rfl,ak⟩):p:=h
def Sj(E:List bD)(R:List z'):(kV E R).2.1=P'->ü (kV E R).1:=by
 match R with
 |[]=>intro h;cases h
 |u::r=>
  unfold kV;simp only;split
  .unfold qO;split
   .rename_i b _;exact Ų
   intro h;cases h
  split
  .unfold Cm;split
   .split
    .exact λ_=>⟨rB.1,rB.1,λ_=>ak,λ_=>ak,rB.2,rB.2,ak⟩
    intro h;cases h
   intro h;cases h
  split
  .unfold kP;split
   .exact RQ
   intro h;cases h
  split
  .exact RQ
  unfold iG;split;rotate_left
  .intro h;cases h
  split;rotate_left
  .intro h;cases h
  split
  .split
   .exact RQ
   exact Ų
  .exact λ_=>⟨rB.1,rB.1,λ_=>ak,λ_=>ak,rB.2,rB.2,acs _⟩
  intro h;cases h
def acR(E:List bD)(R:List z'):(gK E R).2.2.2.1=P'->ü (gK E R).2.2.1:=by
 unfold gK;split
 .intro h;cases h
 split
 .split
  .split
   .intro h;cases h
   exact Sj _ _
  intro h;cases h
 exact Sj _ _
def ab1:∀(L:List<|List z')(E:List bD)(V b:List PN)(a:List bD),(∀p∈V,ü p.n)->rm E V L=C' (b,a)->∀p∈b,ü p.n:=by
 intro L;induction L with
 |nil=>intro E V b a c h;simp[rm]at h;rw[<-h.1];exact c
 |cons R r B=>
  intro E V b a c h;rw[rm]at h;split at h
  .exact B E V b a c h
  split at h;rotate_left
  .cases h
  rename_i o;refine B _ _ b a ?_ h;intro p U;rcases eC.1 U with U|U
  .exact c p U
  simp at U;subst U;exact acR _ _ o
def Ii{c:List PN}(h:jG s=Pr.ok c E)(U:kN 0 [] (c.map PN.bL)=C' S){j:Nat}{p:PN}(f:c[j]?=C' p):ζ (fK S p.nc j)<=2/\∀t∈fK S p.nc j,∃k:Nat,t=(k:Int)/\k<ζ c:=by
 obtain⟨_,D,o,a,_⟩:=kt h;simp only[i6,aS]at o;have b:=o.2;unfold ef at b;rw[D!,U]at b;simp only[aS]at b;have L:∀p∈S,p.2<ζ c:=by
  intro p B;rcases Ta _ _ _ _ U p B with C|C
  .cases C
  simpa using C
 have r:=(aV.1 f).1;obtain⟨t,U,k⟩:=Ml L D p.n.dz.1.1;have q:p.n.aO≠5->p.n.aO≠6->j+1<ζ c:=by intro g e;exact İ
 unfold fK I4;have V:p.nc.n.aO=p.n.aO:=rfl;have u:p.nc.n.dz=p.n.dz:=rfl;rw[V,u,U];by_cases d:p.n.aO=4
 .have:=q I I;simp only[d,beq_self_eq_true,b8];refine⟨ak,λx F=>?_⟩;simp only[cO,g!,gC]at F;rcases F with rfl|rfl
  .exact⟨t,rfl,k⟩
  exact⟨j+1,ak,this⟩
 by_cases l:p.n.aO=5
 .simp only[l];refine⟨ak,λx F=>?_⟩;simp at F;subst F;exact⟨t,rfl,k⟩
 by_cases c:p.n.aO=6
 .simp[c]
 have:=q l c;simp only[eo,d,l,c,bB];refine⟨ak,λx F=>?_⟩;simp at F;subst F;exact⟨j+1,ak,this⟩
def xl(S:List<|bD×Nat):∀(a:List PN)(i j:Nat),(A5 S i a)[j]?=a[j]?.map λp=>(fK S p.nc<|i+j).map Int.toNat
 |[],i,j=>by simp[A5]
 |p::r,i,0=>by simp[A5]
 |p::r,i,j+1=>by rw[A5,nz,nz,xl S r (i+1) j,show i+1+j=i+(j+1)by omega]
def zi(S:List<|bD×Nat):∀(a:List PN)(i:Nat),ζ (A5 S i a)=ζ a
 |[],_=>rfl
 |p::r,i=>by rw[A5,bR,bR,zi S r]
def GN:∀(l:List Int),(∀t∈l,∃k:Nat,t=(k:Int))->(l.map Int.toNat).map Int.ofNat=l
 |[],_=>rfl
 |x::l,h=>by obtain⟨k,rfl⟩:=h x ak;have:=GN l (λt U=>h t<|by simp[U]);rw[dX,dX,this];rfl
def RB{x:Int}(h:-9223372036854775808<=x/\x<=9223372036854775807):(Lit.int .i64 x).wf=P':=by obtain⟨C,a⟩:=h;have V:IntKind.i64.min=-2^63:=aj;have u:IntKind.i64.max=9223372036854775807:=aj;simp only[Lit.wf,V,u,bw,aS];exact⟨C,a⟩
def D2{r:List PN}(h:jG s=Pr.ok r E)(U:kN 0 [] (r.map PN.bL)=C' S):Au (e! r S<|ζ E):=by
 obtain⟨_,D,o,a,_⟩:=kt h;simp only[i6,aS,bw]at o;have v:=ab1 _ [] [] r E ak a;have K:∀n∈(e! r S<|ζ E).nd,wV (ζ E) n/\ü n:=λn K=>by obtain⟨p,g,rfl⟩:=bp.1 K;exact⟨(Ex h U).nin p g,v p g⟩
 have g:ζ (e! r S<|ζ E).nd=ζ r:=bA _;refine⟨⟨o.1.1.1,by rw[g];exact D,by rw[g];exact o.1.2,λl X=>?_,λn q=>(K n q).1.aO,λn q=>(K n q).1.var,λn q e=>?_,λn q e=>?_⟩,λi=>?_,λn q _=>(K n q).2.op,?_,λn q=>?_⟩
 .obtain⟨j,f⟩:=L6 X;have c:(A5 S 0 r)[j]?=C' l:=f;rw[xl,bW]at c;cases C:r[j]? with
  |none=>rw[C]at c;cases c
  |some p=>rw[C]at c;simp only[gD,dq]at c;obtain⟨a,b⟩:=Ii h U C;rw[<-c];refine⟨by rw[bA];exact a,λt U=>?_⟩;obtain⟨x,F,rfl⟩:=bp.1 U;obtain⟨k,rfl,a⟩:=b x F;rw[g];simpa using a
 .exact(K n q).1.a (by unfold dP at e;split at e<;>first|omega|(split at e<;>omega))
 .exact(K n q).1.b (by unfold dP at e;split at e<;>first|omega|(split at e<;>omega))
 .by_cases a:i<ζ (e! r S<|ζ E).nd
  .have d:=kT a;exact⟨(K _ d).2.a,(K _ d).2.b⟩
  have:(e! r S<|ζ E).at i=oT:=by rw[Pm.at,getD,b? I];rfl
  rw[this];exact⟨GG,GG⟩
 .rw[g];exact zi S r 0
 obtain⟨Q,p⟩:=K n q;have z:-2^63<=n.a.var/\n.a.var<=9223372036854775807:=by
  cases e:n.a.aN with
  |true=>have:=Q.a (p.av e) e;omega
  |false=>rw[p.az e];omega
 have a:-2^63<=n.b.var/\n.b.var<=9223372036854775807:=by
  cases e:n.b.aN with
  |true=>have:=Q.b (p.bv e) e;omega
  |false=>rw[p.bz e];omega
 exact⟨RB z,RB p.a,RB (by have:=p.op;show _<=n.op/\n.op<=_;omega),RB a,RB p.b⟩
def M3{a:List PN}{w:t'}{g b:Nat}{D:List NC}(h:jG s=Pr.ok a E)(d:kN 0 [] (a.map PN.bL)=C' S)(e:fN w g b D)(v:nu w D a)(f:∀(j:Nat)(c:NC)(p:PN),D[j]?=C' c->a[j]?=C' p->Er w c.ev (fK S p.nc j)):PM w g b D (e! a S<|ζ E):=by
 have b:ζ (e! a S<|ζ E).nd=ζ a:=bA _;refine⟨e,by rw[b];exact v.len,λj c n T K=>?_,by rw[b];exact zi S a 0,λj c l T X=>?_⟩
 .have r:(a.map PN.n)[j]?=C' n:=K;rw[bH]at r;cases C:a[j]? with
  |none=>rw[C]at r;cases r
  |some p=>rw[C]at r;simp only[gD,dq]at r;rw[<-r];exact(v.each j c p T C).n
 have i:(A5 S 0 a)[j]?=C' l:=X;rw[xl,bW]at i;cases C:a[j]? with
 |none=>rw[C]at i;cases i
 |some p=>rw[C]at i;simp only[gD,dq]at i;rw[<-i,GN _ λt U=>(let ⟨k,a,_⟩:=(Ii h d C).2 t U;⟨k,a⟩)];exact f j c p T C
end
section
variable {st:List (Nat×List Int)}{a:Nat×List Int}{m:List PN}
def ū(P:Pm)(a b:Nat×List Int):Prop:=∃(k:Nat)(ins outs:List Int),(P.mK a.1)[k]?=C' b.1/\(jA (P.at a.1) a.2 ins outs).1=0/\b.2=(jA (P.at a.1) a.2 ins outs).2.1/\(k:Int)=kD (P.at a.1) b.2/\∀x∈ins,dK x
structure Bm(P:Pm)(st:List<|Nat×List Int):Prop where
  node:∀a∈st,a.1<ζ P.nd/\ζ a.2=P.nv/\∀x∈a.2,dK x
  first:∀a,st[0]?=C' a->a=(0,replicate P.nv 0)
  step:∀i a b,st[i]?=C' a->st[i+1]?=C' b->ū P a b
structure VY(P:Pm)(en:Int)(st:List<|Nat×List Int):Prop where
  half:Bm P st
  last:en=1->∃a,st[ζ st-1]?=C' a/\(P.at a.1).aO=6
def Bm.less{P:Pm}(h:Bm P<|st++[a]):Bm P st:=
 ⟨λx F=>h.node x<|mem_append_left _ F,λx F=>h.first x<|by rw[iC (aV.1 F).1];exact F,λi x y F B=>h.step i x y (by rw[iC (aV.1 F).1];exact F)<|by rw[iC (aV.1 B).1];exact B⟩
def Bm.more{P:Pm}{b:Nat×List Int}(h:Bm P<|st++[a])(c:b.1<ζ P.nd/\ζ b.2=P.nv/\∀x∈b.2,dK x)(d:ū P a b):Bm P (st++[a]++[b]):=by
 refine⟨λx F=>?_,λx F=>h.first x (by rw[iC ak]at F;exact F),λi x y F B=>?_⟩
 .rcases eC.1 F with C|C
  .exact h.node x C
  simp at C;subst C;exact c
 have X:=(aV.1 B).1;by_cases b:i+1<ζ (st++[a])
 .rw[iC I]at F;rw[iC b]at B;exact h.step i x y F B
 have e:i=ζ st:=by simp at b X;omega
 subst e;simp at F B;subst F B;exact d
def Kv{nv:Nat}{o:kE}(T:xy o)(R:∀x∈P,dK x):dK (kh P o):=by
 unfold kh;split
 .rw[getD];cases e:P[o.var.toNat]? with
  |none=>exact⟨ak,ak⟩
  |some x=>exact R x<|aK e
 exact T
def zn{y:Int}(R:∀x∈P,dK x)(B:dK y):∀x∈P.set k y,dK x:=λx F=>by
 rcases hU F with h|rfl
 .exact R x h
 exact B
def abG{n:SN}{outs:List Int}(T:xy n.a/\xy n.b)(R:∀x∈P,dK x)(S:∀x∈F,dK x):(∀x∈(jA n P F outs).2.1,dK x)/\∀x∈(jA n P F outs).2.2.1,dK x:=by
 unfold jA;split
 .exact⟨zn R<|Kv (nv:=0) T.1 R,S⟩
 split
 .split
  .exact⟨zn R<|Gx _ _ _,S⟩
  exact⟨R,S⟩
 split
 .split
  .exact⟨R,S⟩
  exact⟨zn R<|S _ ak,λx F=>S x<|by simp[F]⟩
 split
 .exact⟨R,S⟩
 split<;>exact⟨R,S⟩
def S?{ps:List (bD×Nat)}{nv:Nat}{p:PN}(h:m[k]?=C' p):(e! m ps nv).at k=p.n/\(e! m ps nv).mK k=(fK ps p.nc k).map Int.toNat:=by
 constructor
 .unfold Pm.at e!;simp[getD,h]
 simp only[Pm.mK,e!,getD];rw[xl,h];simp
def abT{d:List (bD×Nat)}{c:Nat}(hF:Fit m d c)(q:mr<|e! m d c):∀(f k:Nat)(b F l:List Int)(st:List<|Nat×List Int),k<ζ m->(∀x∈F,dK x)->Bm (e! m d c) (st++[(k,b)])->VY (e! m d c) (h! m d f k b F l st).1 (h! m d f k b F l st).2.2:=by
 intro f;induction f with
 |zero=>intro k b F l st o j h;rw[h!];exact⟨h.less,λe=>by simp at e⟩
 |succ f r=>
  intro k b F l st o j h;obtain⟨p,U⟩:=La o;obtain⟨i,g⟩:=S? (ps:=d) (nv:=c) U;have R:=h.node (k,b) ak;have c:=q k;rw[i]at c;rw[h!];simp only[U];have B:=abG (outs:=l) c R.2.2 j;split
  .rename_i D;have c:=yg D;obtain⟨t,m,f⟩:=hF.edge k p (jA p.n b F l).2.1 U c;have c:((fK d p.nc k).getD (kD p.n (jA p.n b F l).2.1).toNat 0).toNat=t:=by rw[getD,m];simp
   rw[c];refine r t _ _ _ _ f B.2<|h.more ⟨by simpa[e!]using f,(Fz _ _ _ _).1.trans R.2.1,B.1⟩ ⟨(kD p.n (jA p.n b F l).2.1).toNat,F,l,?_,?_,?_,?_,j⟩
   .rw[g,bH,m];simp
   .rw[i];exact D
   .rw[i]
   rw[i];exact Da<|N9 _ _
  refine⟨h,λe=>⟨(k,b),ak,?_⟩⟩;simp only at e;rw[i];unfold jA at e
  repeat' split at e
  all_goals first|assumption|simp at e
def Xh{s:z'}{E:List bD}{S:List (bD×Nat)}(h:jG s=Pr.ok m E)(U:kN 0 [] (m.map PN.bL)=C' S)(a:∀x∈F,dK x)(f:Nat):VY (e! m S<|ζ E) (h! m S f 0 (replicate (ζ E) 0) F [] []).1 (h! m S f 0 (replicate (ζ E) 0) F [] []).2.2:=by
 obtain⟨_,D,_,_,_⟩:=kt h;refine abT (Ex h U) (D2 h U).cs f 0 _ F [] [] D a ⟨λa c=>?_,λa c=>?_,λi a b C d=>?_⟩
 .simp at c;subst c;refine⟨by simpa[e!]using D,by simp[e!],λx F=>?_⟩;have:=iM F;subst this;exact⟨aj,aj⟩
 .simp at c;exact c.symm
 simp at d
end
section
variable {n:SN}{l:List Int}{p a b:Int}
def Ã(aG:List Int):List VV:=aG.map VV.one
def M7(p:Int){n:Nat}(X:ζ P=n)(h:∀x∈P,dK x):dZ p n (C'<|Ã P):=λE e=>by cases e;refine⟨by simp[Ã,X],λv R=>?_⟩;obtain⟨x,F,rfl⟩:=bp.1 R;exact qm p<|h x F
def Gz(P:List Int)(o:kE):fO (Ã P) o=VV.one (kh P o):=by
 unfold fO kh Ã;split
 .simp only[getD,bH];cases P[o.var.toNat]?<;>rfl
 rfl
def mT(P:List Int)(k:Nat)(x:Int):Ã (P.set k x)=(Ã P).set k (VV.one x):=by simp[Ã,mx]
def qt{x:Int}{v:VV}(h:v.any=Q')(k:Ĕ x v):gL 6 (VV.one x) v:=u? ⟨h.symm,k.1,k.2⟩
def JR{E:List VV}{x y:VV}(h:gL p x y):jk p (C'<|E.set k x) (C'<|E.set k y):=jU (n:=0) k (c8 p<|C' E) h
def aaM {p:Prop} (h:p:=by
 cases U:o! n.test (kh P n.a) (kh P n.b)with
 | true => rw[ax<|by rw[U];simp]at c;have:k=0:=I
           simp[this]
 | false => rw[aB ⟨a,U⟩]at c;have:k=1:=I
            simp[this]):p:=h
def TL(D:(jA n P F l).1=0)(c:(k:Int)=kD n (jA n P F l).2.1):jk 5 (C'<|Ã (jA n P F l).2.1) (Wh n k<|Ã P):=by
  unfold Wh;unfold jA at *;simp only[Gz];by_cases o:n.aO=0
  · simp only[o,b8,show ¬((0:Int)=2)by decide,bB,mT];exact c8 _ _
  simp only[o,bB]at *;by_cases V:n.aO=1
  · simp only[V,b8,show ¬((1:Int)=2)by decide,show ¬((1:Int)=4)by decide,bB]at *
    split at D;rotate_left
    · simp at D
    rename_i o;rw[aB o];have K:¬(n.op=3/\(VV.one<|kh P n.b).any=Q'/\(VV.one<|kh P n.b).lo=0):=by rintro⟨a,_,b⟩;unfold qQ at o;simp[a]at o;exact o b
    rw[ax K];simp only[VV.one,Bool.or_self,bV,bB];rw[mT];exact c8 _ _
  simp only[V,bB]at *;by_cases u:n.aO=2
  · simp only[u,b8]at *
    cases F with
    |nil=>simp at D
    |cons x r=>simp only[mT];exact JR<|KW<|aH rfl
  simp only[u,bB]at *;by_cases a:n.aO=3
  · simp only[a,b8,show ¬((3:Int)=4)by decide,bB];exact c8 _ _
  simp only[a,bB]at *;by_cases b:n.aO=6
  · simp[b]at D
  simp only[b,bB]at *;by_cases a:n.aO=4;rotate_left
  · simp only[a,bB];exact c8 _ _
  simp only[a,b8];unfold kD at c;have:((VV.one<|kh P n.a).any||(VV.one<|kh P n.b).any||o! n.test (VV.one<|kh P n.a).lo (VV.one<|kh P n.b).lo==decide (k=0))=P':=by simp only[VV.one,Bool.or_self,km,eo];exact aaM
  rw[aB this];exact c8 _ _
def aaL{p:Prop}(h:p:=by
 refine⟨_,rfl,qt (Ak _ _ _ _ _) ?_⟩
 exact LV (Cu _ _).1 ⟨aI<|cV _,aI<|cV _⟩):p:=h
def Vg{o:Int}(e:0<=o/\o<=3)(d:dK a)(e:dK b)(c:qQ o b=P'):∃v,Oc o (VV.one a) (VV.one b)=C' v/\gL 6 (VV.one<|lA o a b) v:=by
 have T:o=0\/o=1\/o=2\/o=3:=I;rcases T with rfl|rfl|rfl|rfl
 .exact aaL
 .exact aaL
 .refine⟨_,rfl,qt (Ak _ _ _ _ _) ?_⟩;exact LV (N6 _ _ _ _).1 ⟨aI<|cV _,aI<|cV _⟩
 have D:b≠0:=by unfold qQ at c;simpa using c
 have e:lA 3 a b=wrap64 (a.tdiv b):=by simp[lA,D]
 have Q:∀r,(if (VV.one b).lo=-1 then C' (rS ⟨Q',0,0⟩<|VV.one a) else if 0<(VV.one b).lo then C' ⟨Q',(VV.one a).lo.tdiv (VV.one b).lo,(VV.one a).hi.tdiv (VV.one b).lo⟩ else C' ⟨Q',(VV.one a).hi.tdiv (VV.one b).lo,(VV.one a).lo.tdiv (VV.one b).lo⟩)=r->Oc 3 (VV.one a) (VV.one b)=r:=λr h=>by rw[Oc,jN,ax aj,ax aj,ax aj,ax λh=>h rfl,ax<|show ¬(VV.one b).lo=0 from D];exact h
 rw[e];by_cases C:b=-1
 .subst C;refine⟨_,Q _<|aB rfl,qt (Ak _ _ _ _ _) ?_⟩;rw[show a.tdiv (-1)=0-a by rw[C?,Int.tdiv_one];omega];exact LV (Cu _ _).1 ⟨aI<|cV _,aI<|cV _⟩
 have B:=ct<|xi ((l9 a).2 d) D C;rw[B];by_cases a:0<b
 .exact⟨_,Q _<|(ax<|show ¬(VV.one b).lo=-1 from C).trans<|aB a,qt rfl ⟨cV _,cV _⟩⟩
 exact⟨_,Q _<|(ax<|show ¬(VV.one b).lo=-1 from C).trans<|ax a,qt rfl ⟨cV _,cV _⟩⟩
def VP{t:Int}{Q:Bool}(d:dK a)(c:dK b)(y:o! t a b=Q):∃q,pQ t Q (VV.one a) (VV.one b)=C' q/\q.1=VV.one a/\q.2=VV.one b:=by
 obtain⟨N,e⟩:=d;obtain⟨e,o⟩:=c;have X:∀(l h P d:Int),l<=a->a<=h->P<=b->b<=d->(cx (VV.one a) l h,cx (VV.one b) P d)=(VV.one a,VV.one b):=by intro l h P d e k f w;simp only[cx,VV.one,gM,VV.mk.injEq,oj];exact⟨⟨ax I,ax I⟩,ax I,ax I⟩
 have i:wH (VV.one a,VV.one b)=C' (VV.one a,VV.one b):=by simp[wH,VV.one]
 unfold pQ;have U:xD t Q (VV.one a) (VV.one b)=C' (VV.one a,VV.one b):=by
  unfold o! at y;unfold xD;by_cases c:t=0
  .subst c;cases Q with
   |true=>simp at y;rw[aB ⟨rfl,rfl⟩,ax (show ¬((VV.one b).hi=-2^63\/(VV.one a).lo=9223372036854775807)from λh=>by simp only[VV.one]at h;omega)];exact cQ C'<|X _ (b-1) (a+1) _ I I I I
   |false=>simp at y;rw[ax ak,ax ak,aB rfl];exact cQ C'<|X b _ _ a I I I I
  by_cases S:t=1
  .subst S;cases Q with
   |true=>simp at y;rw[ax ak,aB ⟨rfl,rfl⟩];exact cQ C'<|X _ b a _ I I I I
   |false=>simp at y;rw[ax ak,ax ak,ax aj,aB rfl,ax (show ¬((VV.one a).hi=-2^63\/(VV.one b).lo=9223372036854775807)from λh=>by simp only[VV.one]at h;omega)];exact cQ C'<|X (b+1) _ _ (a-1) I I I I
  rw[ax<|by simp[c],ax<|by simp[S],ax c,ax S];rw[ax c,ax S]at y;by_cases m:a=b
  .subst m
   have B:(t=2/\Q=P')\/(t≠2/\Q=Q'):=by
    by_cases b:t=2
    .rw[aB b]at y;exact aI ⟨b,J' y.symm⟩
    rw[ax b]at y;exact aH ⟨b,J' y.symm⟩
   rw[aB B];exact cQ C'<|X a a a a I I I I
  have B:¬((t=2/\Q=P')\/(t≠2/\Q=Q')):=by
   by_cases b:t=2
   .rw[aB b,dO.2 m]at y;simp[b,<-y]
   rw[ax b,bne,dO.2 m]at y;simp[b,<-y]
  rw[ax B,ax];rintro⟨_,d⟩;have:=(VV.l? _ _).1 d;simp[VV.one]at this;exact m this
 rw[U];exact⟨_,i,rfl,rfl⟩
def FW{o:kE}(h:o.aN=P'):Ã P=(Ã P).set o.var.toNat (VV.one<|kh P o):=by
 rw[kh,h];simp only[b8,getD];refine dQ λj=>?_;rw[eQ];split;rotate_left
 .rfl
 rename_i e;subst e;split
 .rename_i X;simp only[Ã,bH,bA]at *;rw[aQ X];rfl
 rename_i X;rw[b? I]
def Vk(a:n.a.aN=P'->0<=n.a.var)(c:n.b.aN=P'->0<=n.b.var):ö n (Ã P) (VV.one<|kh P n.a) (VV.one<|kh P n.b)=C' (Ã P):=by
 unfold ö Û;have V:(if 0<=jH n.a then(Ã P).set (jH n.a).toNat (VV.one<|kh P n.a) else Ã P)=Ã P:=by
  unfold jH;cases h:n.a.aN with
  |true=>simp only[b8];rw[aB<|a h];exact(FW h).symm
  |false=>simp
 rw[V];cases h:n.b.aN with
 |false=>unfold jH;simp[h]
 |true=>
  have b:jH n.b=n.b.var:=by unfold jH;simp[h]
  rw[b,aB<|c h];have u:(if n.b.var=jH n.a then cx (VV.one<|kh P n.a) (VV.one<|kh P n.b).lo (VV.one<|kh P n.b).hi else VV.one (kh P n.b))=VV.one (kh P n.b):=by
   split;rotate_left
   .rfl
   rename_i e
   have:kh P n.a=kh P n.b:=by
    unfold jH at e;cases a:n.a.aN with
    |true=>rw[a]at e;simp at e;unfold kh;rw[h,a];simp[e]
    |false=>rw[a]at e;simp at e;have:=c h;omega
   rw[this];simp[cx,VV.one]
  rw[u,ax<|by simp[VV.one],<-FW h]
def TJ(K:wV Q n)(e:n.aO=1->0<=n.op/\n.op<=3)(a:xy n.a/\xy n.b)(R:∀x∈P,dK x)(S:∀x∈F,dK x)(D:(jA n P F l).1=0)(c:(k:Int)=kD n (jA n P F l).2.1):jk 6 (C'<|Ã (jA n P F l).2.1) (Wg n k<|Ã P):=by
  have y:=Kv (nv:=0) a.1 R;have b:=Kv (nv:=0) a.2 R;unfold Wg;unfold jA at *;simp only[Gz];by_cases o:n.aO=0
  · simp only[o,b8,show ¬((0:Int)=2)by decide,bB,mT];exact c8 _ _
  simp only[o,bB]at *;by_cases V:n.aO=1
  · simp only[V,b8,show ¬((1:Int)=2)by decide,show ¬((1:Int)=4)by decide,bB]at *
    split at D;rotate_left
    · simp at D
    rename_i o;rw[aB o];obtain⟨v,C,d⟩:=Vg (e V) y b o;rw[C];simp only[mT];exact JR d
  simp only[V,bB]at *;by_cases u:n.aO=2
  · simp only[u,b8]at *
    cases F with
    |nil=>simp at D
    |cons x r=>simp only[mT];exact JR<|qt rfl (S x ak)
  simp only[u,bB]at *;by_cases a:n.aO=3
  · simp only[a,b8,show ¬((3:Int)=4)by decide,bB];exact c8 _ _
  simp only[a,bB]at *;by_cases a:n.aO=6
  · simp[a]at D
  simp only[a,bB]at *;by_cases a:n.aO=4;rotate_left
  · simp only[a,bB];exact c8 _ _
  simp only[a,b8];unfold kD at c;have U:o! n.test (kh P n.a) (kh P n.b)=decide (k=0):=by exact aaM
  obtain⟨q,C,d,N⟩:=VP y b U;rw[C];simp only[d,N];rw[Vk (λh=>(K.a I h).1) λh=>(K.b I h).1];exact c8 _ _
def GV(n:Nat):∀(R:List Nat)(j k:Nat),R[k]?=C' n->j+k∈ij n j R
 |[],j,k,h=>by simp at h
 |t::r,j,0,h=>by simp at h;subst h;simp[ij]
 |t::r,j,k+1,h=>by have:=GV n r (j+1) k<|J' h;rw[show j+1+k=j+(k+1)by omega]at this;rw[ij];split<;>simp[this]
def Cc(n:Nat):∀(D:List<|List Nat)(i m k:Nat)(l:List Nat),D[m]?=C' l->l[k]?=C' n->(i+m,k)∈fJ n i D
 |[],i,m,k,l,h,_=>by simp at h
 |x::r,i,0,k,l,h,hk=>by simp at h;subst h;have:=GV n x 0 k hk;rw[bW]at this;simp[fJ,this]
 |x::r,i,m+1,k,l,h,hk=>by have:=Cc n r (i+1) m k l (J' h) hk;rw[show i+1+m=i+(m+1)by omega]at this;simp[fJ,this]
def Nq{P:Pm}{n m:Nat}(h:(P.mK m)[k]?=C' n):(m,k)∈P.ins n:=by
 unfold Pm.mK at h;rw[getD]at h;cases d:P.nx[m]? with
 |none=>rw[d]at h;simp at h
 |some l=>rw[d]at h;have:=Cc n P.nx 0 m k l d h;rwa[bW]at this
structure ę(P:Pm)(p:Int)(S:Nat->EV):Prop where
  ok:∀n,dZ p P.nv<|S n
  le:∀n,n<ζ P.nd->jk p (P.say p n S) (S n)
def Ux{P:Pm}(U:p=5\/p=6)(s:Au P)(v:∀n∈P.nd,wV P.nv n){S:Nat->EV}(hS:ę P p S){st:List (Nat×List Int)}(j:Bm P st):∀(i:Nat)(a:Nat×List Int),st[i]?=C' a->jk p (C'<|Ã a.2) (S a.1):=by
 intro i;induction i with
 |zero=>
  intro a c;have e:=j.first a c;have K:=j.node a<|aK c;subst e;have C:=OY U s.cs 0 hS.ok;have e:=dT (nH U s.cs 0 hS.ok) (pj p P 0) C<|hS.le 0 K.1;have u:P.OO 0=C' (Ã<|replicate P.nv 0):=by simp[Pm.OO,Ã,VV.one]
  rw[<-u];exact e
 |succ i B=>
  intro b e;have l:i<ζ st:=by have:=(aV.1 e).1;omega
  obtain⟨a,c⟩:=La l;have C:=B a c;have T:=j.node a<|aK c;have m:=j.node b<|aK e;obtain⟨k,F,l,t,f,l,d,x⟩:=j.step i a b c e;have hm:=kT T.1;have g:=M7 p T.2.1 T.2.2;have r:=M7 p m.2.1 m.2.2;have o:=mF U (k:=k) (s.cs a.1) g;have q:jk p (C'<|Ã b.2) (AE p (P.at a.1) k<|C'<|Ã a.2):=by
   rw[l]at d|-;rcases U with rfl|rfl
   .exact TL f d
   exact TJ (v _ hm) (s.op _ hm) (s.cs a.1) T.2.2 x f d
  have c:=TK U (k:=k) (s.cs a.1) g (hS.ok a.1) C;have f:=SC U s.cs hS.ok<|Nq t;have d:=mF U (k:=k) (s.cs a.1)<|hS.ok a.1;exact dT o r q<|dT d o c<|dT (nH U s.cs b.1 hS.ok) d f<|hS.le b.1 m.1
def Qg(U:p=5\/p=6){x:Nd}(X:ζ P=Q)(F:x.reached=P'->ζ x.aG=Q)(h:jk p (C'<|Ã P)<|oE x<|-1):x.reached=P'/\ζ x.aG=ζ P/\∀(j:Nat)(y:Int)(v:Vl),P[j]?=C' y->x.aG[j]?=C' v->(v.aO=1->y=v.lo)/\(v.aO=3->v.lo<=y/\y<=v.hi):=by
 unfold oE at h;by_cases a:x.reached=P';rotate_left
 .rw[aB<|aI<|J' a]at h;exact h.elim
 rw[ax<|by rw[a];simp]at h;refine⟨a,(F a).trans X.symm,λj y v B R=>?_⟩;have:=h j (VV.one y) (iD (-1) v) (by simp[Ã,B]) (by simp[R]);unfold iD at this;constructor
 .intro e;rw[ax I,aB e]at this;rcases U with rfl|rfl
  .rcases Yh this with e|e
   .simp[VV.one]at e;exact e
   simp[VV.one,VV.fM]at e
  have:=IY this;simp only[VV.one]at this;omega
 intro e;rw[aB e]at this;rcases U with rfl|rfl
 .rcases Yh this with e|e
  .simp[VV.one]at e;omega
  simp[VV.fM]at e
 have:=IY this;simp only[VV.one]at this;omega
end
section
variable {c:Nat}{a:u'}{es:List PE}{e:PE}{r:RR}{x:Nat×A'}{P:Pm}{b:Nat->PE}{o:kE}
def KC.aU(es:List PE):List A':=es.flatMap KC.aL
def KB.aU(es:List PE):List A':=es.flatMap KB.aL
def KC.kY:∀(l:List PE)(j:Nat)(e:PE)(i:Nat),l[j]?=C' e->i<17->(KC.aU l)[j*17+i]?=(KC.aL e)[i]?
 |[],j,e,i,h,_=>by simp at h
 |a::l,0,e,i,h,hi=>by simp at h;subst h;simp only[KC.aU,b9,gN,bW];exact iC hi
 |a::l,j+1,e,i,h,hi=>by have B:=KC.kY l j e i (J' h) hi;simp only[KC.aU,b9]at B|-;have o:ζ (KC.aL a)=17:=rfl;rw[fh I,<-B];congr 1;omega
def KB.kY:∀(l:List PE)(j:Nat)(e:PE)(i:Nat),l[j]?=C' e->i<17->(KB.aU l)[j*17+i]?=(KB.aL e)[i]?
 |[],j,e,i,h,_=>by simp at h
 |a::l,0,e,i,h,hi=>by simp at h;subst h;simp only[KB.aU,b9,gN,bW];exact iC hi
 |a::l,j+1,e,i,h,hi=>by have B:=KB.kY l j e i (J' h) hi;simp only[KB.aU,b9]at B|-;have o:ζ (KB.aL a)=17:=rfl;rw[fh I,<-B];congr 1;omega
def Ņ(h:p:=by
 intro j e f;rcases h.2 with⟨R,_⟩|⟨g,b,Y,R,_⟩
 .exfalso;have D:=kY es j e 0 f I;simp at R;have:=(aV.1<|D.trans<|aQ<|show 0<ζ (aL e) from Nat.succ_pos 16).1;rw[h.1,R.2.1]at this;omega
 simp at R;obtain⟨rfl,rfl⟩:=R;refine⟨g,0,rfl,λi v S=>?_⟩;have L:=(aV.1 S).1;have U:=h.cells (g:=g) rfl (j*17+i) v (by rw[kY es j e i f L];exact S);rw[fH,bW]at U;rw[bW]
 exact U):p:=h
open KC in
def KC.Gl(h:ρ W B 228 17 (h' a n c) n<|KC.aU es):KC.gF W a es:=Ņ
open KB in
def KB.Gl(h:ρ W B 250 17 (h' a n c) n<|KB.aU es):KB.gF W a es:=Ņ
def KC.Gg(h:W.1[q]?=C' (j' (θ<|KC.aL e) 228 (0,0)))(v:B<=q):ρ W B 228 17 (h' (C'<|O q 0) 1 1) 1 (KC.aU [e]):=by refine⟨rfl,aH ⟨q,1,θ<|KC.aL e,rfl,v,h,aD _,?_,rfl,rfl⟩⟩;unfold maxLen;decide
def KB.Gg(h:W.1[q]?=C' (j' (θ<|KB.aL e) 250 (0,0)))(v:B<=q):ρ W B 250 17 (h' (C'<|O q 0) 1 1) 1 (KB.aU [e]):=by refine⟨rfl,aH ⟨q,1,θ<|KB.aL e,rfl,v,h,aD _,?_,rfl,rfl⟩⟩;unfold maxLen;decide
def KC.pB:(Tryz.prog.info? 228).map (λi=>(i.zero,i.size,i.bytes))=C' (C'<|k'<|θ<|KC.aL PE.zero,17,136):=H
def KB.pB:(Tryz.prog.info? 250).map (λi=>(i.zero,i.size,i.bytes))=C' (C'<|k'<|θ<|KB.aL PE.zero,17,136):=H
def ņ(h:p:=by
 have o:=(aV.1 hk).1;have F:=tS r.es k x hk;rcases h.2 with⟨_,e⟩|⟨g,a,Y,R,_⟩
 .omega
 simp[RR.ev]at R;refine⟨g,R.1,?_,?_⟩
 .have:=h.cells (g:=g) (by simp[RR.ev,Value.ownBlock,R.1]) _ _ F.1;rwa[fH,bW]at this
 have:=h.cells (g:=g) (by simp[RR.ev,Value.ownBlock,R.1]) _ _ F.2
 rwa[fH,bW]at this):p:=h
open KC in
def KC.MV(h:ρ W B 378 2 r.ev (ζ r.es)<|iB r.es)(hk:r.es[k]?=C' x):∃g,r.ea=C' (O g 0)/\χ W (O g<|k*2)=C' (G x.1)/\χ W (O g<|k*2+1)=C' x.2:=ņ
open KB in
def KB.MV(h:ρ W B 340 2 r.ev (ζ r.es)<|iB r.es)(hk:r.es[k]?=C' x):∃g,r.ea=C' (O g 0)/\χ W (O g<|k*2)=C' (G x.1)/\χ W (O g<|k*2+1)=C' x.2:=ņ
def KC.SZ(P:Pm)(held:Nat->PE)(x:Nat×Nat):PE:=KC.e? (held x.1) (P.at x.1) (decide (x.2=0))
def KB.SZ(P:Pm)(held:Nat->PE)(x:Nat×Nat):PE:=KB.e? (held x.1) (P.at x.1) (decide (x.2=0))
def KC.nL(P:Pm)(held:Nat->PE):Prop:=∀m,∃v,PR P.nv (held m) v/\dZ 5 P.nv v
def KB.nL(P:Pm)(held:Nat->PE):Prop:=∀m,∃v,PR P.nv (held m) v/\dZ 6 P.nv v
def KC.nL.bin(h:KC.nL P b)(m i:Nat):dD (b6<|(b m).at i):=by obtain⟨v,C,a⟩:=h m;exact(KC.cH C a i).2
def KB.nL.bin(h:KB.nL P b)(m i:Nat):dD (b6<|(b m).at i):=by obtain⟨v,C,a⟩:=h m;exact(KB.cH C a i).2
def KC.nL.op(h:KC.nL P b)(m:Nat)(a:xy o):dD (b6<|jl (b m) o):=by
 unfold jl;split
 .exact h.bin m _
 exact⟨f64.2 a,f64.2 a⟩
def KB.nL.op(h:KB.nL P b)(m:Nat)(a:xy o):dD (b6<|jl (b m) o):=by
 unfold jl;split
 .exact h.bin m _
 exact⟨f64.2 a,f64.2 a⟩
def Ň(h:p:=by
 obtain⟨v,C,a⟩:=h x.1;have t:=K7 hx hm
 first|(have _:=DU;refine(cH (nv:=P.nv) (v:=AE 5 (P.at x.1) x.2 v) ?_ (mF aj (hc x.1) a) i).2)|(refine(cH (nv:=P.nv) (v:=AE 6 (P.at x.1) x.2 v) ?_ (mF aj (hc x.1) a) i).2)
 first|(have _:=DU;exact S6 C hO.nv (P.at x.1) x.2 (hO.var _ t) (hO.aO _ t).1 (ho _ t) (hO.a _ t)<|hO.b _ t)|(exact S7 C hO.nv (P.at x.1) x.2 (λE R _=>Ë<|jI (a E R).2 _ (hc x.1).1) (λE R _=>Ë<|jI (a E R).2 _ (hc x.1).2) (hO.var _ t) (hO.aO _ t).1 (hO.a _ t)<|hO.b _ t)):p:=h
open KC in
def KC.nL.made(h:KC.nL P b)(hO:cF P)(hc:mr P)(ho:kF P)(hx:ζ P.nx=ζ P.nd){x:Nat×Nat}(hm:x∈P.ins n)(i:Nat):dD (b6<|(KC.SZ P b x).at i):=Ň
open KB in
def KB.nL.made(h:KB.nL P b)(hO:cF P)(hc:mr P)(ho:kF P)(hx:ζ P.nx=ζ P.nd){x:Nat×Nat}(hm:x∈P.ins n)(i:Nat):dD (b6<|(KB.SZ P b x).at i):=Ň
def KC.Kf{a b:VV}(c:dD<|b6 a)(d:dD<|b6 b):dD (b6<|KC.wF a b):=by
 unfold KC.wF;split
 .exact c
 exact⟨aj,aj⟩
def KB.Kf{a b:VV}(c:dD<|b6 a)(d:dD<|b6 b):dD (b6<|KB.wF a b):=by
 unfold KB.wF;refine⟨?_,?_⟩
 .show aT (min a.lo b.lo)=P';rcases Int.le_total a.lo b.lo with h|h
  .rw[Int.min_eq_left h];exact c.lo
  rw[Int.min_eq_right h];exact d.lo
 show aT (max a.hi b.hi)=P';rcases Int.le_total a.hi b.hi with h|h
 .rw[Int.max_eq_right h];exact d.hi
 rw[Int.max_eq_left h];exact c.hi
def KC.DT(h:KC.nL P b)(c:cF P)(T:mr P)(a:kF P)(F:ζ P.nx=ζ P.nd)(n:Nat):∀i,dD (b6<|(KC.bU P b n).at i):=by obtain⟨f,Y⟩:=Classical.axiomOfChoice h;have C:=KC.fZ c T a F Y n;exact λi=>(KC.cH C.1 C.2 i).2
def KB.DT(h:KB.nL P b)(a:cF P)(T:mr P)(c:kF P)(F:ζ P.nx=ζ P.nd)(n:Nat):∀i,dD (b6<|(KB.bU P b n).at i):=by obtain⟨f,Y⟩:=Classical.axiomOfChoice h;have C:=KB.fZ a T F Y n;exact λi=>(KB.cH C.1 C.2 i).2
def ň(h:p:=by
 have hN:=hO.most;obtain⟨ql,hE⟩:=hE;obtain⟨r,hr⟩:=La (l:=ql) (i:=n) (by rw[hE.len];exact hn);have hst:=hE.st n r hr;have YK:=hE.es n r hr;have YF:=hE.sys.range hr;have gm:=hE.sys.row r<|aK hr;have mo:=lE n P.nx 0 λl hl=>(hO.nx l hl).1;have hL:ζ r.es=ζ (P.ins n):=YK.1;simp only[oU,hst,RR.ev]at YF;rw[hL]at YF;obtain⟨L,an⟩:=Ea<|ζ<|P.ins n;rw[<-an]at YF;have hL2:L<=120:=by rw[an];show(fJ n 0 P.nx).length<=120;omega
 have HH:=ſ<|M hE<|M hd<|M hO<|M hc<|M ho<|M hx<|M hH<|M hh<|M YK<|M gm an;clear hE hd hO hc ho hx hH hh YK gm an hst hr mo hL;obtain⟨i0,hi,Q8,Em,Cn⟩:=cG pB;have HI:J (_/\_/\_/\_):=⟨hi,Q8,Em,Cn⟩;clear hi Q8 Em Cn;obtain⟨N,hNN⟩:=Ea<|ζ P.nd;rw[<-hNN]at hN hn|-;have HN:=ſ hNN;have hni:(n:Int)<N:=I;have ahz:∀e,ζ (aL e)=17:=λ_=>rfl;clear hNN;simp only[KC.dw,KB.dw];go_enter afw,afg;go_upto_region 1 with fail
 refine Et (F:=Code.wp _ _ _ _) λW0 HB=>?_;have x1:=A HB.a.1;have fi:=fD YF HB.b;clear YF;go_upto_region 2 with(first|(refine wpList_load_mid rfl s4 (.tmp 14) rfl rb (n*18) rfl (aL (rj n)++[h' r.ea L r.ec]) _ fi ab7 rfl H ?_)|(refine wpList_store_mid rfl s4 (.tmp 7) (.tmp 15) rfl W0.1.size 0 (θ<|aL (rj n)++[h' r.ea L r.ec]) rfl rfl (b5 (n:=18) (bj _ _) rfl) H (all_oneCell_toArray (λv hv=>by rcases eC.1 hv with hv|hv;(· exact qe _ v hv);simp at hv;subst hv;rfl)) ?_))
 refine Ll (F:=Code.wp _ _ _ _) rfl λW1 H1=>?_;have mh:=À HB.a.2;have ar:J (Bl w W1/\_/\_):=⟨aq HB.b H1.A,aF H1.A HB.a.1,aF H1.A HB.a.2⟩;have HQ:=ſ<|M HB.B H1.a;clear H1 HB fi x1;generalize δ W0.1=qr at HQ mh|-;have ff:W1.rangeAt qr 0 (aL<|rj n):=λj v hv=>bf HQ.A j v (by rw[iC (aV.1 hv).1];exact hv);simp only[Act.put];go_upto_region 3 with(refine wpList_load_mid rfl bN (.tmp 16) rfl qr 0 rfl (aL<|rj n) _ ff fX rfl H ?_)
 refine wK (F:=Code.wp _ _ _ _) λW2 H2=>?_;have h2:=H2.a;rw[Hz (l:=aL<|rj n) (z:=qd) rfl]at h2;have mi:=À HQ.A;have Rj:J (Bl w W2/\_/\_/\_/\_):=⟨aq ar.a H2.b,aF H2.b ar.b,aF H2.b ar.B,aF H2.b HQ.A,h2⟩;have mv:=ſ HQ.a;clear h2 H2 ar HQ ff;generalize δ W1.1=b0 at Rj mi|-;have x1:=A Rj.d;have mm:χ W2 (O qr 17)=C' (bk r.ea L r.ec):=by rw[x1.1];rfl
 clear x1;go_wp2_with fail;clear mm;generalize k' #[h' (C'<|O rb 0) N N,.func (.func yV) #[]<|bM db,.func (.func yU) #[]<|bM db]=sv0;generalize k' (θ<|aL (rj n)++[h' r.ea L r.ec])=sv1;generalize k' (θ<|aL<|rj n)=sv2;go_loopw[8,22] (λlv iv wr=>∃(k:Nat)(a:u')(c:Nat),k<=L/\iv=G k/\lv=h' a (k+1) c/\J (ρ wr b0 bN 17 (h' a (k+1) c) (k+1) (aU<|rj n::((P.ins n).take k).map (SZ P held))/\Below b0 W2 wr)) (λ_ iv _=>L-(intOf iv).toNat)
 case atStart=>exact⟨0,_,_,bq _,rfl,rfl,Gg Rj.D<|aD _,aP _ _⟩
 obtain⟨k,a,c,hk,rfl,rfl,HK⟩:=hrel;have kv:δ w.1+1+1=qr:=mv.o.symm;have wD:J (Bl w wr):=Rj.a.trans<|HK.A.mono I;have hsr:=HK.A.size;clear kv;by_cases lG:k<L;rotate_left
 .have lF:¬(k:Int)<L:=I;obtain rfl:L=k:=I
  have ee:(P.ins n).take L=P.ins n:=b! (by rw[<-HH.J];exact aD _);rw[ee]at HK;have HJ:J (∀W,Below wr.1.size wr W->Cl yV #[h' a (L+1) c,n'<|C'<|O db 0] W (Rb W<|k'<|θ<|aL<|bU P held n)):=by
   intro W hW;have hl:ζ (rj n::(P.ins n).map (SZ P held))=L+1:=by rw[bR,bA,<-HH.J]
   have:=rX a c db (rj n::(P.ins n).map (SZ P held)) W (aF (aq wD.o hW) HH.b) (Gl<|bu HK.a hW) (by rw[hl];omega) (by
    intro e he i;rcases cO.1 he with rfl|he
    .rw[Sp];exact⟨aj,aj⟩
    .obtain⟨x,hx,rfl⟩:=bp.1 he
     exact HH.g.made HH.c HH.d HH.e HH.f hx i) λ_ _ ha hb=>Kf ha hb
   rw[hl]at this;exact this
  obtain⟨z,hz⟩:=Ea<|bU P held n;rw[<-hz]at HJ;have HZ:=ſ hz;clear hz ee;have fo:δ w.1+1<b0:=I;have x1:=A<|Bg HK.A Rj.b I;go_wp2_with (first|((first|go_at_call 270 | go_at_call 275);refine(HJ.o _<|aP _ _).mono ?_;rintro e Y ⟨rfl,hb⟩;have HY:=ſ hb;clear hb x1;have ht:=b5 (n:=17) (aF HY.o<|Bg HK.A Rj.c fo) rfl)|(refine wpList_store_mid rfl bN (.tmp 6) (.tmp 40) rfl (δ w.1+1) 0 (θ<|aL z) rfl rfl ht H (bn _) ?_));have hq:=cm (cs:=qd) (aF HY.o<|Bg HK.A Rj.c fo) (vs:=aL z) rfl;have hL:=run_loadVar_mid (P:=Tryz.prog) (ψ Y (δ w.1+1) 0<|aL z) (δ w.1+1) 0 bN (aL z) _ (bf hq) fX rfl H;refine aC (v:=k'<|θ<|aL z) (by simp[results,results210,results216,hL,Act.put,asAddr]) rfl ⟨by rw[HZ.o],cM I _ _ _<|aq wD.o HY.o⟩
 have lF:(k:Int)<L:=I;obtain⟨x,hx⟩:=La (l:=(P.ins n)) (i:=k) (by rw[<-HH.J];exact lG);obtain⟨y,hy⟩:=La (l:=r.es) (i:=k) (by rw[HH.i.1,<-HH.J];exact lG);obtain⟨gh,sb,he2,gk⟩:=HH.i.2 k y x hy hx;obtain⟨g,hg,e0,e1⟩:=MV (bu HH.j wD.o) hy;rw[gh]at e0;rw[he2]at e1;have hxm:=aK hx;have YD:x.1<ζ P.nd:=by have:=mW n P.nx 0 x hxm;have:=HH.f;omega
 have Ur:=kT YD;have HX:=ſ hx;have HC:J (∀W,Bl w W->Cl fk (#[G x.1]++caps) W (Rb W<|k'<|θ<|aL<|held x.1)):=HH.h x.1 YD;have HM:J (∀W,Bl w W->Cl Ke #[k'<|θ<|aL<|held x.1,n'<|C'<|O sb 0] W (Rb W<|k'<|θ<|aL<|SZ P held x)):=by intro W hW;have h8:=HH.c.nv;exact BZ (held x.1) (P.at x.1) (decide (x.2=0)) sb W (gk.below hW) (λh=>by have:=HH.c.var _ Ur h;omega) (HH.c.aO _ Ur).1 (λh1 h2=>by have:=HH.c.a _ Ur h1 h2;omega) (λh1 h2=>by have:=HH.c.b _ Ur h1 h2;omega) (λ_=>HH.g.op _ (HH.d x.1).1) λ_=>HH.g.op _ (HH.d x.1).2
 clear hx hy gh he2 gk hxm YD Ur;generalize held x.1=hd0 at HC HM;obtain⟨md,bo⟩:=Ea<|SZ P held x;rw[<-bo]at HM;have mw:=ſ bo;clear bo;generalize x.1=xf at HC e0;rw[hg];go_upto_region 6 with fail
 clear e0 e1;refine wK (F:=Code.wp _ _ _ _) λV HV=>?_;have V9:J (Below wr.1.size wr V/\Below b0 W2 V/\Bl w V):=⟨HV.b,HK.A.trans<|HV.b.mono (by have:=À Rj.D;omega),aq wD.o HV.b⟩;have ae:=ſ HV.a;clear HV;generalize ahC:δ wr.1=eb at ae|-;have heb:b0<eb:=by have:=À Rj.D;omega
 refine wp_region_held_drew (S:=λW'=>Below b0 W2 W'/\W'.1[eb]?=C' (j' #[G xf,yY sb] mP (0,0))) H ⟨V9.b.drew,ae.o⟩ λaE=>?_;refine tq 0 (h' a (k+1) c) ?_;refine tq 1 (n'<|C'<|O eb 1) ?_;refine tr 2 (yY sb) (λW' bm=>(A bm.2).1) ?_;refine tq 3 (.func (.func fk) #[] caps) ?_;refine tq 4 (lR eb) ?_;refine tr 5 (G xf) (λW' bm=>(A bm.2).1) ?_;refine r1 6 λK hK=>?_;go_simp;refine(HC.o _<|V9.B.drew).mono ?_;rintro e Y1 ⟨rfl,hb⟩;have H1:J (Bl V Y1):=aq (aP _ _).drew hb;clear hb;refine hK.out _ _ ⟨V9.b.trans<|H1.o.mono (by have:=V9.a.size;omega),aF H1.o ae.o⟩ λaE=>?_;clear hK K;refine pt ?_;refine r1 7 λK hK=>?_;go_simp;refine(HM.o _<|aq V9.B H1.o).mono ?_;rintro e Y2 ⟨rfl,hb⟩;have H2:J (Bl V Y2):=aq H1.o hb;clear hb;refine hK.out _ _ ⟨V9.b.trans<|H2.o.mono (by have:=V9.a.size;omega),aF H2.o ae.o⟩ λaE=>?_;clear hK K;refine pt ?_;refine r1 8 λK hK=>?_;go_simp;refine hK.out _ _ ⟨aE.1.trans<|aY.mono<|br (by have:=V9.a.size;omega) H2.o.size,aF aY aE.2⟩ λaE=>?_;clear hK K;refine pt ?_;clear aE;refine wK (F:=λV=>wpAnyH _ _ _ _ _ _ _ _ V) λX I8=>?_;have bl:=I8.a;rw[Hz (l:=aL md) (z:=qd) rfl]at bl;have QT:J (Bl V X/\X.1[δ Y2.1]?=C' (j' (θ<|aL md) bN (0,0))/\Below wr.1.size wr X/\Below b0 W2 X/\eb<δ X.1):=⟨aq H2.o I8.b,bl,aq V9.a<|aq H2.o I8.b,V9.b.trans<|(aq H2.o I8.b).mono (by have:=V9.a.size;omega),À<|aF (aq H2.o I8.b) ae.o⟩;clear bl I8;have aE:Below b0 W2 X/\X.1[eb]?=C' (j' #[G xf,yY sb] mP (0,0)):=⟨QT.d,aF QT.a ae.o⟩;refine r1 9 λK hK=>?_;refine dS rfl (.tmp 26) (.tmp 34) Kc rfl b0 bN i0 (k'<|θ<|aL PE.zero) 17 136 ab6 HI.a HI.b HI.c HI.C rfl aj (h' a (k+1) c) (k+1) (aU<|rj n::((P.ins n).take k).map (SZ P held)) (by simp[Act.eval,Act.put]) (bu HK.a QT.c) (O Y2.1.size 0) 1 1 (aL md) (by simp[Act.eval,Act.put]) rfl (GL QT.b) (qe md) (by unfold maxLen;omega) I (by have:=QT.D;omega) ?_;intro v4 W4 pL Uu mq;obtain⟨a4,c4,rfl⟩:=aX pL;have H4:=ſ<|M pL Uu;clear pL Uu mq;have Ho:=bu HK.a QT.c;refine hK.out _ _ ⟨aE.1.grown H4.A (by have:=QT.D;omega) λq e=>(Ho.lt q e).1,(H4.A.block eb QT.D λe=>lX Ho aE.2 aj e.symm).trans aE.2⟩ λaE=>?_;clear hK K;refine pt ?_;refine tq 10 (h' a4 (k+1+1) c4) ?_;refine wpAnyH_done H ?_ _;clear Ho;go_wp2_with fail;go_roundw
 case rel=>
  refine⟨k+1,a4,c4,lG,f',rfl,?_,aE.1⟩;have he:aU (rj n::((P.ins n).take<|k+1).map (SZ P held))=aU (rj n::((P.ins n).take k).map (SZ P held))++aL md:=by rw[cX (aV.1 HX.o).1,(aV.1 HX.o).2,eR,mw.o];simp[KC.aU,KB.aU]
  rw[he];exact H4.a
 simp[intOf];omega):p:=h
open KC in
theorem KC.mQ(rb db B n fk:Nat)(P:Pm)(caps:Array Value)(held:Nat->PE)(w:World)(hE:KC.mR w B rb P)(hd:w.heap[db]?=some (.cells #[.iface 328<|.agg #[]] 381 (0,0)))(hO:cF P)(hc:mr P)(ho:kF P)(hx:P.nx.length=P.nd.length)(hn:n<P.nd.length)(hH:KC.nL P held)(mj:∀xs w,(callFunc fk xs).run Tryz.prog w=.ok (.enter fk xs) w)
 (hh:∀m,m<P.nd.length->∀W,Bl w W->Cl fk (#[G m]++caps) W (Rb W<|.agg (KC.aL<|held m).toArray)):
 Cl 210 #[KC.dw rb db P.nd.length,G n,.func (.func fk) #[] caps] w (Rb w<|.agg (KC.aL<|KC.bU P held n).toArray):=by exact ň
open KB in
theorem KB.mQ(rb db B n fk:Nat)(P:Pm)(caps:Array Value)(held:Nat->PE)(w:World)(hE:KB.mR w B rb P)(hd:w.heap[db]?=some (.cells #[.iface 331<|.agg #[]] 386 (0,0)))(hO:cF P)(hc:mr P)(ho:kF P)(hx:P.nx.length=P.nd.length)(hn:n<P.nd.length)(hH:KB.nL P held)(mj:∀xs w,(callFunc fk xs).run Tryz.prog w=.ok (.enter fk xs) w)
 (hh:∀m,m<P.nd.length->∀W,Bl w W->Cl fk (#[G m]++caps) W (Rb W<|.agg (KB.aL<|held m).toArray)):
 Cl 216 #[KB.dw rb db P.nd.length,G n,.func (.func fk) #[] caps] w (Rb w<|.agg (KB.aL<|KB.bU P held n).toArray):=by exact ň
end
def ahk(e:PE)(w:t'):(Instr.field 228 (k'<|θ<|KC.aL e) 1).run Tryz.prog w=.ok (k'<|θ (KC.aL e).tail) w:=by simp[Instr.field,ur<|underlying228,go_sem,KC.aL,asAgg]
def ahj(q:Bool)(l:Int)(w:t'):(Instr.field 225 (k' #[i' q,G l]) 0).run Tryz.prog w=.ok (i' q) w:=by simp[Instr.field,ur<|underlying225,go_sem,asAgg]
def Ù(vs:List Vl)(said:Int->PE)(i:Nat):Bool:=match vs[i]? with|some v=>!v.bO||((said v.rank).at i).any|none=>P'
def Bd(z:u')(x u:Nat)(a:Array A')(E:List Vl)(c:Int->PE)(w:t')(h:jj w z E)(K:ζ E<=8)(b:∀D w,(callFunc u D).run Tryz.prog w=.ok (.enter u D) w)
  (V:∀v∈E,v.bO=P'->∀W,Bl w W->Cl u (#[G v.rank]++a) W (Rb W<|k'<|θ<|KC.aL<|c v.rank)):
  Cl 238 #[h' z (ζ E) x,.func (.func u) #[] a] w (Rb w<|i'<|(range<|ζ E).all<|Ù E c):=by
 have s:=ſ<|M h V;clear h V;go_enter func238,ntmps238;go_wp2_with fail;go_loopw[9] (λy wr=>∃i:Nat,i<=ζ E/\y=G i/\J ((range i).all (Ù E c)=P'/\Bl w wr)) (λy _=>ζ E-(intOf y).toNat)
 case atStart=>exact⟨0,bq _,rfl,rfl,aP _ _⟩
 obtain⟨i,S,rfl,a⟩:=hrel;by_cases L:i<ζ E;rotate_left
 .have b:¬(i:Int)<(ζ E:Int):=I;have d:i=ζ E:=I;go_wp2_with fail;go_ret;exact⟨by have C:=a.a;rw[d]at C;rw[C];rfl,a.A⟩
 have b:(i:Int)<(ζ E:Int):=I;have d:i<8:=I;obtain⟨v,R⟩:=La L;obtain⟨b,o,rfl,T,Q,p,b,P,e⟩:=s.a i v R;have t:=aA T a.A;have h:=aA Q a.A;have f:=aA p a.A;have g:=aA b a.A;have F:=aA P a.A;have B:=aA e a.A;have U:J (Ù E c i=(!v.bO||((c v.rank).at i).any)):=by show _=_;rw[Ù,R]
 have Y:=ſ<|s.A v<|aK R;clear T Q p b P e R;obtain⟨x,j,l,bO,first,b⟩:=v;simp only at t h f g F B U Y;generalize c b=e at U Y;cases bO
 .go_wp2_with fail;go_roundw
  case rel=>exact⟨i+1,L,f',by rw[lq,a.a,U.o];rfl,a.A.alloc a.A.size _⟩
  exact H'
 have b:=λW=>ahk e W;have c:=λW=>KC.S0 e d W;have k:=λq W=>ahj q (e.at i).lo W;have g:=ſ<|Y.o rfl;obtain⟨q,b⟩:=Ea<|(e.at i).any;rw[<-b]at U;simp only[<-b]at c;clear b;cases q
 .go_wp2_with (refine(g.o _<|a.A.alloc a.A.size _).mono ?_;rintro r f ⟨rfl,b⟩;have D:=ſ<|aq (a.A.alloc a.A.size _) b;clear b;simp only[Act.put,cj,dp,da]);go_ret;exact⟨by rw[uK U.o L];rfl,D.o⟩
 go_wp2_with (refine(g.o _<|a.A.alloc a.A.size _).mono ?_;rintro r f ⟨rfl,b⟩;have D:=ſ<|aq (a.A.alloc a.A.size _) b;clear b;simp only[Act.put,cj,dp,da]);go_roundw
 case rel=>exact⟨i+1,L,f',by rw[lq,a.a,U.o];rfl,D.o⟩
 exact H'
section
variable {c:Ct}{P:Pm}
def bK(hs:List PE)(n:Nat):PE:=hs.getD n PE.zero
def KC.oy(P:Pm)(hs:List PE)(k:Nat):Bool:=(range k).all λn=>KC.fq (KC.bU P (bK hs) n)<|bK hs n
def KB.oy(P:Pm)(hs:List PE)(k:Nat):Bool:=(range k).all λn=>KB.fq (KB.bU P (bK hs) n)<|bK hs n
def lD(r:Int)(x:Nd):PE:=Wi x.reached x.rank x.aG r
def E!(x:Nd):PE:=Dz x.reached x.aG<|ζ x.aG
def xo{f:Nd->PE}(D:f tB=PE.zero)(c:Ct)(n:Nat):bK (c.nodes.map f) n=f (c.at n):=by
 rw[bK,Ct.at,getD,getD,bH];cases c.nodes[n]? with
 |none=>exact D.symm
 |some x=>rfl
structure V5(c:Ct)(nv:Nat):Prop where
  env:ZN c nv
  rank:∀x∈c.nodes,0<=x.rank/\x.rank<=100000
  aG:∀x∈c.nodes,∀v∈x.aG,v.aO≠3/\0<=v.rank/\v.rank<=100000
def Ũ(o:ku c=P')(U:c.aM=5)(B:∀x∈c.nodes,jR x)(R:c.nodes.all (A! (Q:Int))=P'):V5 c Q:=by
 have K:∀x∈c.nodes,cB 5 c.cu x=P':=by have:=o;unfold ku at this;rw[aS,bZ,U]at this;exact this.2
 have d:∀x∈c.nodes,x.reached=Q'->x.aG=[]/\x.facts=[]/\x.rank=0:=by intro x F b;have:=K x F;unfold cB ky at this;simp[b]at this;exact⟨this.2,this.1.1.2,this.1.1.1⟩
 have l:∀x∈c.nodes,x.reached=P'->x.facts=[]/\(0<=x.rank/\x.rank<=100000)/\∀v∈x.aG,eE 5 c.cu x.rank v=P':=by intro x F b;have:=K x F;unfold cB eM rk at this;simp[b]at this;exact⟨this.1.1.1.1.1,this.1.1.2,this.2⟩
 have u:∀x∈c.nodes,x.reached=P'->∀v∈x.aG,((v.aO=1/\v.bO=Q'/\v.rank=0)\/(v.aO=2/\v.bO=P'/\x.rank<v.rank/\v.lo=0/\v.rank<=100000)\/(v.aO=2/\v.bO=Q'/\v.lo=0/\v.rank=0))/\v.hi=0:=by
  intro x F b v R;have C:=(l x F b).2.2 v R;unfold eE nR at C;cases a:v.bO
  .simp[a]at C;rcases C with C|C
   .exact⟨aI ⟨C.1.1.1,rfl,C.2⟩,C.1.1.2⟩
   exact⟨aH<|aH ⟨C.1.1.1.1,rfl,C.1.1.1.2,C.2⟩,C.1.1.2⟩
  simp[a]at C;exact⟨aH<|aI ⟨C.1.1.2,rfl,C.1.1.1.1.2,C.1.2,C.1.1.1.2⟩,C.2⟩
 have a:∀x∈c.nodes,∀v∈x.aG,x.reached=P':=by
  intro x F v R;cases b:x.reached
  .rw[(d x F b).1]at R;simp at R
  rfl
 refine⟨⟨U,λx F b=>⟨?_,(l x F b).2.1.1,λv R=>?_⟩,λx F v R=>?_,λx F v R=>(u x F (a x F v R) v R).2,λx F=>⟨?_,λb=>(d x F b).1⟩⟩,λx F=>?_,λx F v R=>?_⟩
 .rw[bZ]at R;have:=R x F;unfold A! at this;simp[b]at this;omega
 .rcases(u x F b v R).1 with h|h|h
  .exact aI ⟨h.1,h.2.1⟩
  .exact aH<|aI ⟨h.1,h.2.1,h.2.2.1,h.2.2.2.1⟩
  exact aH<|aH ⟨h.1,h.2.1,h.2.2.1⟩
 .exact⟨((B x F).aG v R).lo,((B x F).aG v R).first⟩
 .cases b:x.reached
  .exact(d x F b).2.1
  exact(l x F b).1
 .cases b:x.reached
  .rw[(d x F b).2.2];omega
  exact(l x F b).2.1
 have D:=(l x F<|a x F v R).2.1;rcases(u x F (a x F v R) v R).1 with h|h|h<;>omega
def Aj(c:Ct)(n:Nat):c.at n∈c.nodes\/c.at n=tB:=by
 rw[Ct.at,getD];cases e:c.nodes[n]? with
 |none=>exact aH rfl
 |some x=>exact aI<|aK e
def V5.at{c:Ct}{Q:Nat}(h:V5 c Q)(n:Nat):((c.at n).reached=P'->ζ (c.at n).aG=Q)/\(∀v∈(c.at n).aG,v.aO≠3/\0<=v.rank/\v.rank<=100000)/\0<=(c.at n).rank/\(c.at n).rank<=100000/\((c.at n).reached=Q'->(c.at n).aG=[]):=by
 rcases Aj c n with C|C
 .exact⟨λa=>(h.env.ok _ C a).1,h.aG _ C,(h.rank _ C).1,(h.rank _ C).2,(h.env.bare _ C).2⟩
 rw[C];exact⟨λa=>by simp[tB]at a,λv R=>by simp[tB]at R,by simp[tB],by simp[tB],λ_=>rfl⟩
def V5.last(h:V5 c Q)(K:Q<=8)(n:Nat):PR Q (lD 100001<|c.at n) (gq c (-1) n):=
 Pq K (h.at n).1 (λv R=>⟨((h.at n).2.1 v R).1,((h.at n).2.1 v R).2.2⟩) (h.at n).2.2.2.1
def V5.rk(h:V5 c Q)(K:Q<=8){r:Int}(a:0<=r)(n:Nat):PR Q (lD r<|c.at n) (gq c r n):=
 ach K (h.at n).1 (λv R=>((h.at n).2.1 v R).1) a
def OS(a:cF P)(T:mr P)(b:kF P)(F:ζ P.nx=ζ P.nd)(h:V5 c P.nv):KC.oy P (c.nodes.map<|lD 100001) (ζ P.nd)=mB P c:=by unfold KC.oy mB;congr 1;funext n;have e:bK (c.nodes.map<|lD 100001)=λm=>lD 100001 (c.at m):=funext λm=>xo rfl c m;rw[e,h.env.p];have C:=KC.fZ a T b F (held:=λm=>lD 100001<|c.at m) (at_:=gq c<|-1) (λm=>⟨h.last a.nv m,gI h.env _ _⟩) n;exact DZ a.nv C.1 (h.last a.nv n) (λi=>(KC.cH C.1 C.2 i).1) λi=>(KC.cH (h.last a.nv n) (gI h.env _ _) i).1
def aci{e:PE}{v:EV}(h:PR Q e v)(j:Nat):(e.at j).any=Y9 v j:=by
 cases v with
 |none=>have D:e=PE.zero:=h;rw[D,KC.qPE.sJ];rfl
 |some E=>rw[h.2.2 j];rfl
def J0(P:Pm)(c:Ct)(n:Nat):Bool:=KC.fq (lD ((c.at n).rank+1)<|c.at n) (KC.bU P (λm=>lD (c.at n).rank<|c.at m) n)&&(range<|ζ (c.at n).aG).all (Ù (c.at n).aG λr=>KC.bU P (λm=>lD r<|c.at m) n)
def SQ(a:cF P)(T:mr P)(e:kF P)(F:ζ P.nx=ζ P.nd)(h:V5 c P.nv):(range<|ζ P.nd).all (J0 P c)=zq P c:=by
 unfold zq;congr 1;funext n;obtain⟨N,f,b,C,t⟩:=h.at n;have y:∀r:Int,0<=r->PR P.nv (KC.bU P (λm=>lD r<|c.at m) n) (P.say 5 n<|gq c r)/\dZ 5 P.nv (P.say 5 n<|gq c r):=λr d=>KC.fZ a T e F (held:=λm=>lD r<|c.at m) (at_:=gq c r) (λm=>⟨h.rk a.nv d m,gI h.env _ _⟩) n;rw[J0,TT,h.env.p];cases d:(c.at n).reached
 .have V:lD ((c.at n).rank+1) (c.at n)=PE.zero:=by rw[lD,Wi,d];rfl
  rw[V,t d];rfl
 have u:=h.rk a.nv (r:=(c.at n).rank+1) I n;have C:=y (c.at n).rank b;have b:=DZ a.nv u C.1 (λi=>(KC.cH u (gI h.env _ _) i).1) λi=>(KC.cH C.1 C.2 i).1;rw[b];show(_&&_)=(Q'||(_&&_));rw[km];congr 1
 rw[cK,bZ,bZ];have a:∀j,Ù (c.at n).aG (λr=>KC.bU P (λm=>lD r<|c.at m) n) j=(match (c.at n).aG[j]? with|some v=>!v.bO||Y9 (P.say 5 n<|gq c v.rank) j|none=>P'):=by
  intro j;unfold Ù;cases R:(c.at n).aG[j]? with
  |none=>rfl
  |some v=>show(!v.bO||_)=(!v.bO||_);rw[aci (y v.rank (f v<|aK R).2.1).1]
 constructor
 .intro k j f;exact(a j).symm.trans<|k j f
 intro k j f;exact(a j).trans<|k j f
structure RgC(c:Ct)(nv:Nat):Prop where
  p:c.aM=6
  len:∀x∈c.nodes,x.reached=P'->ζ x.aG=nv
  bare:∀x∈c.nodes,x.reached=Q'->x.aG=[]
  aG:∀x∈c.nodes,∀v∈x.aG,v.aO=3/\v.lo<=v.hi/\dK v.lo/\dK v.hi
def F6(o:ku c=P')(U:c.aM=6)(B:∀x∈c.nodes,jR x)(R:c.nodes.all (A! (Q:Int))=P'):RgC c Q:=by
 have K:∀x∈c.nodes,cB 6 c.cu x=P':=by have:=o;unfold ku at this;rw[aS,bZ,U]at this;exact this.2
 have b:∀x∈c.nodes,x.reached=Q'->x.aG=[]:=by intro x F a;have:=K x F;unfold cB ky at this;simp[a]at this;exact this.2
 refine⟨U,λx F a=>?_,b,λx F v R=>?_⟩
 .rw[bZ]at R;have:=R x F;unfold A! at this;simp[a]at this;omega
 have a:x.reached=P':=by
  cases a:x.reached
  .rw[b x F a]at R;simp at R
  rfl
 have:=K x F;unfold cB eM at this;simp[a]at this;have C:=this.2 v R;unfold eE at C;simp at C;exact⟨C.1.1.1.1,C.2,((B x F).aG v R).lo,((B x F).aG v R).hi⟩
def RgC.at{c:Ct}{Q:Nat}(h:RgC c Q)(n:Nat):((c.at n).reached=P'->ζ (c.at n).aG=Q)/\((c.at n).reached=Q'->(c.at n).aG=[])/\∀v∈(c.at n).aG,v.aO=3/\v.lo<=v.hi/\dK v.lo/\dK v.hi:=by
 rcases Aj c n with C|C
 .exact⟨h.len _ C,h.bare _ C,h.aG _ C⟩
 rw[C];exact⟨λa=>by simp[tB]at a,λ_=>rfl,λv R=>by simp[tB]at R⟩
def RgC.pr(h:RgC c Q)(K:Q<=8)(n:Nat):PR Q (E!<|c.at n) (gq c (-1) n):=
 acg K (h.at n).1 (h.at n).2.1 (λv R=>((h.at n).2.2 v R).1)
def RgC.ok(h:RgC c Q)(n:Nat):dZ 6 Q (gq c (-1) n):=by
 unfold gq oE;split
 .exact fT _ _
 rename_i K;intro E e;cases e;have a:(c.at n).reached=P':=by cases V:(c.at n).reached;(· exact absurd (aI V) K);rfl
 refine⟨by simp[(h.at n).1 a],λv R=>?_⟩;obtain⟨u,C,rfl⟩:=bp.1 R;obtain⟨a,k,f,w⟩:=(h.at n).2.2 u C;rw[iD,aB a];exact⟨⟨f,w⟩,by rw[ax aj];exact⟨rfl,k⟩⟩
def OT(a:cF P)(T:mr P)(F:ζ P.nx=ζ P.nd)(h:RgC c P.nv):KB.oy P (c.nodes.map E!) (ζ P.nd)=mB P c:=by unfold KB.oy mB;congr 1;funext n;have e:bK (c.nodes.map E!)=λm=>E! (c.at m):=funext λm=>xo rfl c m;rw[e,h.p];have C:=KB.fZ a T F (held:=λm=>E!<|c.at m) (at_:=gq c<|-1) (λm=>⟨h.pr a.nv m,h.ok m⟩) n;exact D0 a.nv C.1 (h.pr a.nv n) (λi=>(KB.cH C.1 C.2 i).1) λi=>(KB.cH (h.pr a.nv n) (h.ok n) i).1
def YZ(o:ku c=P')(U:5<=c.aM)(X:ζ c.nodes=ζ P.nd):nZ P c=c.nodes.all (A! (P.nv:Int)):=by
 have K:∀x∈c.nodes,x.facts=[]:=by
  intro x F;have C:=o;unfold ku at C;rw[aS,bZ]at C;have a:=C.2 x F;unfold cB eM ky at a;rw[ax I]at a;cases b:x.reached
  .simp[b]at a;exact a.1.1.2
  simp[b]at a;exact a.1.1.1.1.1
 rw[nZ,dM X,eV,cK,bZ,bZ];constructor
 .intro h x F;have:=h x F;rw[aS]at this;have a:=this.2;unfold A!;simp at a|-;rcases a with a|a
  .exact aI a
  exact aH I
 intro h x F;have:=h x F;rw[K x F];unfold A! at this;simp at this|-;rcases this with a|a
 .exact aI a
 exact aH I
end
section
def Ŗ{p:Prop}(h:p:=by
 obtain⟨b,o,rfl,f⟩:=h m e he;have g:(m:Int)<N:=I;clear h he;go_enter afy,afi;go_upto_region 1 with fail
 generalize u:w.alloc (j' iZ bN)=V;have B:J (V.1[δ w.1]?=C' (j' iZ bN (0,0))/\Bl w V/\V.1[hb]?=C' (j' #[h' (C'<|O b o) N c] Kc (0,0))/\V.rangeAt b (o+m*17) (aL e)):=by subst u;exact⟨bj _ _,aY,aF aY hh,fD f aY⟩
 clear u;clear hh f;have W:=A B.c;have U:=b5 (n:=17) B.a rfl;go_wp2_with (first|(refine wpList_load_mid rfl bN (.tmp 6) rfl b (o+m*17) rfl (aL e) _ B.C fX rfl H ?_)|(refine wpList_store_mid rfl bN (.tmp 3) (.tmp 7) rfl w.1.size 0 (θ<|aL e) rfl rfl U H (bn _) ?_));have b:=cm (cs:=qd) B.a (vs:=aL e) rfl;have C:=run_loadVar_mid (P:=Tryz.prog) (ψ V w.1.size 0<|aL e) w.1.size 0 bN (aL e) _ (bf b) fX rfl H
 refine aC (v:=k'<|θ<|aL e) (by simp[results,results235,results239,C,Act.put,asAddr]) rfl ⟨rfl,cM (aD _) _ _ _ B.b⟩):p:=h
open KC in
def KC.B5(m hb N c:Nat)(q:Option Addr)(a:List PE)(e:PE)(w:World)(hh:w.heap[hb]?=some (.cells #[.slice q N c] 222 (0,0)))(h:KC.gF w q a)(he:a[m]?=some e)(d:m<N):
 Cl 235 (ya m hb) w (Rb w<|.agg<|θ<|KC.aL e):=by exact Ŗ
open KB in
def KB.B5(m hb N c:Nat)(q:Option Addr)(a:List PE)(e:PE)(w:World)(hh:w.heap[hb]?=some (.cells #[.slice q N c] 244 (0,0)))(h:KB.gF w q a)(he:a[m]?=some e)(d:m<N):
 Cl 239 (ya m hb) w (Rb w<|.agg<|θ<|KB.aL e):=by exact Ŗ
end
section
def ŉ{p:Prop}(h:p:=by
 have e:=hO.most;have s:=ſ<|M hE<|M hd<|M hO<|M hc<|M ho<|M hx<|M hl<|M hS hH;clear hE hd hO hc ho hx hl hS hH;obtain⟨N,b⟩:=Ea<|ζ P.nd;rw[<-b]at e|-;have Y:=ſ b;clear b;simp only[KC.dw,KB.dw];go_enter afv,aff;go_upto_region 2 with fail
 refine Et (F:=Code.wp _ _ _ _) λe U=>?_;have E:=A U.a.2;go_upto_region 3 with fail
 clear E;go_loopw[11] (λb wr=>∃k:Nat,k<=N/\b=G k/\J (oy P hs k=P'/\Bl e wr)) (λb _=>N-(intOf b).toNat)
 case atStart=>exact⟨0,bq _,rfl,rfl,aP _ _⟩
 obtain⟨k,hk,rfl,E⟩:=hrel;have b:=E.A.size;have T:J (Bl w wr):=aq U.b E.A;by_cases L:k<N;rotate_left
 .have b:¬(k:Int)<N:=I;obtain rfl:N=k:=I;go_wp2_with fail;go_ret;exact⟨by rw[E.a];rfl,T.o⟩
 have b:(k:Int)<N:=I;have hx:hs[k]?=C' (bK hs k):=by rw[bK,getD,aQ<|by rw[s.g,<-Y.o];exact L];rfl
 obtain⟨b,o,rfl,u⟩:=s.h k _ hx;have hr:=fD u T.o;obtain⟨t,f⟩:=Ea<|fq (bU P (bK hs) k)<|bK hs k;have HF:J (t=Q'->oy P hs N=Q'):=λh=>uK (k:=k) (f.symm.trans h) L
 have X:J (t=P'->oy P hs (k+1)=P'):=λh=>by
  have C:=E.a
  (first|unfold KC.oy at C|- | unfold KB.oy at C|-)
  rw[lq,C,<-f,h];rfl
 have HP:J (∀W,Bl wr W->Cl yU #[k'<|θ<|aL<|bU P (bK hs) k,k'<|θ<|aL<|bK hs k,n'<|C'<|O db 0] W (Rb W<|i' t)):=by rw[f];exact λW j=>lW _ _ db W (aF (aq T.o j) s.b) (DT s.H s.c s.d s.e s.f k)<|s.H.bin k
 have HS:J (∀W,Bl wr W->Cl aca #[dw rb db N,G k,.func (.func ab9) #[] #[n'<|C'<|O (δ w.1+1) 0]] W (Rb W<|k'<|θ<|aL<|bU P (bK hs) k)):=by
  intro W j;have C:=aq T.o j;rw[Y.o];refine mQ rb db B k _ P _ (bK hs) W (s.a.below C) (aF C s.b) s.c s.d s.e s.f (by rw[<-Y.o];exact L) s.H (λD w=>afK D w) λm D F r=>?_;have g:hs[m]?=C' (bK hs m):=by rw[bK,getD,aQ<|by rw[s.g];exact D];rfl
  exact B5 m (δ w.1+1) N c _ hs _ F (aF r<|aF j<|aF E.A U.a.2) (λj e l=>by obtain⟨b,o,q,hr⟩:=s.h j e l;exact⟨b,o,q,fD (fD hr C) r⟩) g (by rw[Y.o];exact D)
 simp only[KC.dw,KB.dw]at HS;generalize bK hs k=z at *;generalize bU P (bK hs) k=g at *;clear hx u f;go_upto_region 5 with(first|(refine wpList_load_mid rfl bN (.tmp 14) rfl b (o+k*17) rfl (aL z) _ hr fX rfl H ?_)|(refine wpList_store_mid rfl bN (.tmp 7) (.tmp 15) rfl wr.1.size 0 (θ<|aL z) rfl rfl (b5 (n:=17) (bj _ _) rfl) H (bn _) ?_))
 refine Ll (F:=Code.wp _ _ _ _) rfl λV f=>?_;have b:J (Bl wr V/\_/\_):=⟨f.A,f.a,aF f.A<|aF E.A U.a.1⟩;clear hr;simp only[Act.put];refine wp_region_held_drew (S:=λW'=>Bl V W') H (aP _ _).drew λaE=>?_;refine tq 0 (n'<|C'<|O w.1.size 2) ?_;refine tr 1 (.func (.func yU) #[]<|bM db) (λW' bm=>(A<|aF bm b.B).1) ?_;refine tr 2 (k' #[h' (C'<|O rb 0) N N,.func (.func yV) #[]<|bM db,.func (.func yU) #[]<|bM db]) (λW' bm=>(A<|aF bm b.B).1) ?_;refine tq 3 (G k) ?_;refine tq 4 (.func (.func ab9) #[] #[n'<|C'<|O (δ w.1+1) 0]) ?_;refine tz 6 (k'<|θ<|aL z) ?_ (y:=yieldsIf_load_mid H _ _ rfl _ _ rfl _ _ (λW' bm=>bf<|aF bm b.b) fX rfl H);refine r1 5 λK j=>?_;go_simp;refine(HS.o _ b.a.drew).mono ?_;rintro e f ⟨rfl,g⟩;have l:J (Bl V f):=aq (aP _ _).drew g;clear g;refine j.out _ _ l.o λaE=>?_;clear j K;refine pt ?_;refine r1 7 λK j=>?_;go_simp;refine(HP.o _<|aq b.a l.o).mono ?_;rintro e f ⟨rfl,g⟩;have u:J (Bl V f):=aq l.o g;clear g;refine j.out _ _ u.o λaE=>?_;clear j K;refine pt ?_;refine tq 8 (i'<|!t) ?_;refine wpAnyH_done H ?_ _;clear aE;cases t
 .go_wp2_with fail;go_ret;exact⟨by rw[HF.o<|by trivial];rfl,aq T.o<|aq b.a u.o⟩
 go_wp2_with fail;go_roundw
 case rel=>exact⟨k+1,L,f',X.o<|by trivial,aq E.A<|aq b.a u.o⟩
 exact H'):p:=h
open KC in
def KC.rW(rb db B c:Nat)(a:u')(P:Pm)(hs:List PE)(w:t')(hE:KC.mR w B rb P)(hd:w.1[db]?=C' (j' #[.iface 328<|k' #[]] 381 (0,0)))(hO:cF P)(hc:mr P)(ho:kF P)(hx:ζ P.nx=ζ P.nd)(hl:ζ hs=ζ P.nd)(hS:KC.gF w a hs)(hH:KC.nL P<|bK hs):
 Cl 163 #[KC.dw rb db<|ζ P.nd,h' a (ζ P.nd) c] w (Rb w<|i'<|KC.oy P hs<|ζ P.nd):=by exact ŉ
open KB in
def KB.rW(rb db B c:Nat)(a:u')(P:Pm)(hs:List PE)(w:t')(hE:KB.mR w B rb P)(hd:w.1[db]?=C' (j' #[.iface 331<|k' #[]] 386 (0,0)))(hO:cF P)(hc:mr P)(ho:kF P)(hx:ζ P.nx=ζ P.nd)(hl:ζ hs=ζ P.nd)(hS:KB.gF w a hs)(hH:KB.nL P<|bK hs):
 Cl 166 #[KB.dw rb db<|ζ P.nd,h' a (ζ P.nd) c] w (Rb w<|i'<|KB.oy P hs<|ζ P.nd):=by exact ŉ
end
section
variable {m:Nat}{D:List A'}{es l:List PE}
def ł(h:p:=by
 first|(have _:=G?;have Y:=ſ λW (j:Bl w W)=>KB.iY g cap nv nl P W (hP.below j) hO)|(have Y:=ſ λW (j:Bl w W)=>KC.iY g cap nv nl P W (hP.below j) hO)
 clear hP hO;generalize ζ P.nd=N at Y|-;simp only[gi]at Y|-
 first|(have _:=G?;go_enter func143,ntmps143)|(go_enter func139,ntmps139)
 go_upto_region 1 with fail
 refine Et (F:=Code.wp _ _ _ _) λb U=>?_;have E:=A U.a.1
 first|(have _:=G?;go_wp2_with (go_at_call 213;refine(Y.o _ U.b).mono ?_;rintro e t ⟨rb,db,rfl,i,Q,b⟩;have c:=ſ<|M i<|M Q b;clear i Q b E;have E:=A<|aF c.B U.a.2))|(go_wp2_with (go_at_call 212;refine(Y.o _ U.b).mono ?_;rintro e t ⟨rb,db,rfl,i,Q,b⟩;have c:=ſ<|M i<|M Q b;clear i Q b E;have E:=A<|aF c.B U.a.2))
 have f:=aF c.B U.a.2
 first|(have _:=G?;have d:=ſ<|M (aw (o:=0) f<|cw rb N)<|M (aw (o:=1) (aw (o:=0) f<|cw rb N)<|.func (.func 275) #[]<|bM db)<|aw (o:=2) (aw (o:=1) (aw (o:=0) f<|cw rb N)<|.func (.func 275) #[]<|bM db)<|.func (.func 277) #[]<|bM db)|(have d:=ſ<|M (aw (o:=0) f<|cw rb N)<|M (aw (o:=1) (aw (o:=0) f<|cw rb N)<|.func (.func 270) #[]<|bM db)<|aw (o:=2) (aw (o:=1) (aw (o:=0) f<|cw rb N)<|.func (.func 270) #[]<|bM db)<|.func (.func 272) #[]<|bM db)
 have r:=(A d.a).1;have R:=(A d.b).1;have F:=(A d.B).1;have v:db≠δ w.1+1:=by rintro rfl;have C:=c.b;rw[f]at C;simp at C
 first|(have _:=G?;refine aC (v:=KB.dw rb db N) (by simp[results143,go_sem,r,R,F]) rfl ⟨rb,db,rfl,?_,?_,?_⟩)|(refine aC (v:=KC.dw rb db N) (by simp[results139,go_sem,r,R,F]) rfl ⟨rb,db,rfl,?_,?_,?_⟩)
 .obtain⟨b,i⟩:=c.a;exact⟨b,(i.zD f λk b=>by rw[bh _ _ _ _ b,bh _ _ _ _ b,bh _ _ _ _ b]).low U.b.size⟩
 .rw[bh _ _ _ _ v,bh _ _ _ _ v,bh _ _ _ _ v];exact c.b
 exact(((aq U.b c.B).setCell I' _).setCell I' _).setCell I' _):p:=h
def rD(g cap nv:Nat)(nl:List NC)(P:Pm)(w:t')(hP:PM w g cap nl P)(hO:cF P):
  Cl 139 #[gi g (ζ P.nd) cap nv] w λe a=>∃rb db,e=o' (KC.dw rb db<|ζ P.nd)/\KC.mR a w.1.size rb P/\a.1[db]?=C' (j' #[.iface 328<|k' #[]] 381 (0,0))/\Bl w a:=by
 exact ł
def As(g cap nv:Nat)(nl:List NC)(P:Pm)(w:t')(hP:PM w g cap nl P)(hO:cF P):
  Cl 143 #[gi g (ζ P.nd) cap nv] w λe a=>∃rb db,e=o' (KB.dw rb db<|ζ P.nd)/\KB.mR a w.1.size rb P/\a.1[db]?=C' (j' #[.iface 331<|k' #[]] 386 (0,0))/\Bl w a:=by
 have G?:=True.intro;exact ł
def ű(h:p:=by
 induction n with
 |zero=>rfl
 |succ n B=>rw[eW,oY,B,eW];rfl):p:=h
def KC.nK(n:Nat):(replicate n<|KC.aL PE.zero).flatten=KC.aU (replicate n PE.zero):=by exact ű
def KB.nK(n:Nat):(replicate n<|KB.aL PE.zero).flatten=KB.aU (replicate n PE.zero):=by exact ű
def KC.fS(a b:List PE):KC.aU (a++b)=KC.aU a++KC.aU b:=I?
def KB.fS(a b:List PE):KB.aU (a++b)=KB.aU a++KB.aU b:=I?
def KC.jE(l:List PE):ζ (KC.aU l)=ζ l*17:=by
 induction l with
 |nil=>rfl
 |cons e l B=>have h:ζ (KC.aL e)=17:=rfl;simp only[KC.aU,b9,aW,bR]at B|-;omega
def KB.jE(l:List PE):ζ (KB.aU l)=ζ l*17:=by
 induction l with
 |nil=>rfl
 |cons e l B=>have h:ζ (KB.aL e)=17:=rfl;simp only[KB.aU,b9,aW,bR]at B|-;omega
def Ŋ(h:p:=by
 rcases h.2 with⟨e,_⟩|⟨g,b,Y,e,C,b,N,_,l,c⟩
 .simp at e
 simp at e;obtain⟨rfl,rfl⟩:=e;refine⟨?_,C⟩;rw[b];rw[b!<|by simp[l]]at c
 rw[<-c]):p:=h
open KC in
def KC.yS(h:ρ W B 228 17 (cw a n) n D):W.1[a]?=C' (j' (θ D) 228 (0,0))/\B<=a:=Ŋ
open KB in
def KB.yS(h:ρ W B 250 17 (cw a n) n D):W.1[a]?=C' (j' (θ D) 250 (0,0))/\B<=a:=Ŋ
def ŋ(h:p:=by
 intro j e f;refine⟨hb,0,rfl,λi v S=>?_⟩;have L:=(aV.1 S).1;rw[(A h).1,cz,bW,kY es j e i f L]
 exact S):p:=h
open KC in
def KC.j9(h:W.1[hb]?=C' (j' (θ<|KC.aU es) 228 (0,0))):KC.gF W (C'<|O hb 0) es:=ŋ
open KB in
def KB.j9(h:W.1[hb]?=C' (j' (θ<|KB.aU es) 250 (0,0))):KB.gF W (C'<|O hb 0) es:=ŋ
def Ō(h:p:=by
 have V:aU (l++replicate (m+1) PE.zero)=aU l++aL PE.zero++aU (replicate m PE.zero):=by rw[fS,eW,df];rfl
 have u:aU ((l++[e])++replicate m PE.zero)=aU l++aL e++aU (replicate m PE.zero):=by rw[fS,fS];congr 1
 rw[V]at h;rw[u]
 exact Du hb _ (aL e) _ _ _ W (k*17) (by rw[jE,hk]) h rfl):p:=h
open KC in
def KC.yZ(e:PE)(h:W.1[hb]?=C' (j' (θ<|KC.aU<|l++replicate (m+1) PE.zero) 228 (0,0)))(hk:ζ l=k):(ψ W hb (k*17)<|KC.aL e).1[hb]?=C' (j' (θ<|KC.aU<|(l++[e])++replicate m PE.zero) 228 (0,0)):=Ō
open KB in
def KB.yZ(e:PE)(h:W.1[hb]?=C' (j' (θ<|KB.aU<|l++replicate (m+1) PE.zero) 250 (0,0)))(hk:ζ l=k):(ψ W hb (k*17)<|KB.aL e).1[hb]?=C' (j' (θ<|KB.aU<|(l++[e])++replicate m PE.zero) 250 (0,0)):=Ō
def KC.lu(h:W.1[a]?=C' (j' (θ<|KC.aU l) 228 (0,0)))(b:k<ζ l):W.there a (k*17) 17:=λj f=>by refine⟨?_,(A h).2 _⟩;rw[(A h).1,rE<|by rw[kH,KC.jE];omega];rfl
def KB.lu(h:W.1[a]?=C' (j' (θ<|KB.aU l) 250 (0,0)))(b:k<ζ l):W.there a (k*17) 17:=λj f=>by refine⟨?_,(A h).2 _⟩;rw[(A h).1,rE<|by rw[kH,KB.jE];omega];rfl
end
section
abbrev KC.zn0:Nat:=206
abbrev KC.zF1:=@func206
abbrev KC.zN2:=@ntmps206
abbrev KC.zC3:=@Tryz.call206
abbrev KC.zn4:Nat:=207
abbrev KC.zF5:=@func207
abbrev KC.zN6:=@ntmps207
abbrev KC.zF8:=@func138
abbrev KC.zN9:=@ntmps138
abbrev KC.aer:Nat:=237
abbrev KC.aeq:Nat:=319
abbrev KB.zn0:Nat:=214
abbrev KB.zF1:=@func214
abbrev KB.zN2:=@ntmps214
abbrev KB.zC3:=@Tryz.call214
abbrev KB.zn4:Nat:=215
abbrev KB.zF5:=@func215
abbrev KB.zN6:=@ntmps215
abbrev KB.zF8:=@func144
abbrev KB.zN9:=@ntmps144
abbrev KB.aer:Nat:=253
abbrev KB.aeq:Nat:=332
def ō(h:p:=by
 obtain⟨b,o,rfl,f⟩:=h m e he;have g:(m:Int)<N:=I;clear h he;go_enter zF1,zN2;go_upto_region 1 with fail
 have B:J ((w.alloc<|j' iZ bN).1[δ w.1]?=C' (j' iZ bN (0,0))/\Bl w (w.alloc<|j' iZ bN)/\(w.alloc<|j' iZ bN).1[hb]?=C' (j' #[h' (C'<|O b o) N c] Kc (0,0))/\(w.alloc<|j' iZ bN).rangeAt b (o+m*17) (aL e)):=⟨bj _ _,aY,aF aY hh,fD f aY⟩;clear hh f;generalize w.alloc (j' iZ bN)=V at B|-;obtain⟨W,k⟩:=A B.c;have f:=B.C;have U:=b5 (n:=17) B.a rfl;go_wp2_with (first|(refine wpList_load_mid rfl bN (.tmp 6) rfl b (o+m*17) rfl (aL e) _ f fX rfl H ?_)|(refine wpList_store_mid rfl bN (.tmp 3) (.tmp 7) rfl w.1.size 0 (θ<|aL e) rfl rfl U H (bn _) ?_));have b:=cm (cs:=qd) B.a (vs:=aL e) rfl;have C:=run_loadVar_mid (P:=Tryz.prog) (ψ V w.1.size 0<|aL e) w.1.size 0 bN (aL e) _ (bf b) fX rfl H
 refine aC (v:=k'<|θ<|aL e) (by simp[results,results206,results214,C,Act.put,asAddr]) rfl ⟨rfl,cM (aD _) _ _ _ B.b⟩):p:=h
open KC in
def KC.Bs(m hb N c:Nat)(q:Option Addr)(a:List PE)(e:PE)(w:World)(hh:w.heap[hb]?=some (.cells #[.slice q N c] 222 (0,0)))(h:KC.gF w q a)(he:a[m]?=some e)(d:m<N):
 Cl 206 (ya m hb) w (Rb w<|.agg<|θ<|KC.aL e):=by exact ō
open KB in
def KB.Bs(m hb N c:Nat)(q:Option Addr)(a:List PE)(e:PE)(w:World)(hh:w.heap[hb]?=some (.cells #[.slice q N c] 244 (0,0)))(h:KB.gF w q a)(he:a[m]?=some e)(d:m<N):
 Cl 214 (ya m hb) w (Rb w<|.agg<|θ<|KB.aL e):=by exact ō
def Ŏ(h:p:=by
 have hN:=hO.most;obtain⟨b,hE⟩:=hE;have m:Ev b=(range<|ζ P.nd).map λn=>(P.ins n).map (·.1):=by
  refine dQ λk=>?_;rw[Ev,bH,bH];cases hr:b[k]? with
  |none=>have:=rN.1 hr;rw[b? (by simp;have:=hE.len;omega)];rfl
  |some r=>
   have hk:=(aV.1 hr).1;rw[jv<|by rw[<-hE.len];exact hk];simp only[gD,dq];have f:=hE.es k r hr;refine dQ λj=>?_;rw[bH,bH];cases h1:r.es[j]? with
   |none=>rw[b?<|by rw[<-f.1];exact rN.1 h1];rfl
   |some e=>
    have hj:=(aV.1 h1).1;cases h2:(P.ins k)[j]? with
    |none=>have:=rN.1 h2;rw[f.1]at hj;omega
    |some x=>simp only[gD,dq];exact(f.2 j e x h1 h2).1
 rw[<-m];obtain⟨X,hi,D,o,l⟩:=cG qy;have HI:J (_/\_/\_/\_):=⟨hi,D,o,l⟩;clear hi D o l m;have HH:=ſ<|M hE<|M hO hx;obtain⟨N,m⟩:=Ea<|ζ P.nd;rw[<-m]at hN|-;have HN:=ſ m;have L:=hE.len;rw[<-m]at L;have HL:=ſ L;clear hE hO hx m L;simp only[KC.dw,KB.dw];go_enter zF5,zN6;go_upto_region 1 with(fail)
 refine wK (F:=Code.wp _ _ _ _) λF U=>?_;obtain⟨E,o⟩:=A U.a;go_upto_region 2 with(at_make;refine eK _ rfl (.tmp 10) (.tmp 10) 264 rfl F.1.size 267 X _ 2 underlying264 HI.a HI.b HI.c .i64 .i64 N N N rfl rfl rfl rfl (by rw[HI.C];omega) (by unfold maxLen;omega) ak ?_;intro t m l;have Y:=ſ<|M m l;clear m l)
 have l:J (t.1[δ F.1]?=C' (j' (θ<|cI<|ug (Ev b) N 0) 267 (0,0))/\Below F.1.size F t):=by have h1:=Y.a;rw[d! _ 2 (by simp[Value.cells]) N]at h1;refine⟨?_,(aP _ _).grown Y.A (aD _) (λq e=>by cases e)⟩;rw[(fB h1).1];congr 2;rw[show ug (Ev b) N 0=replicate N (0,0)by simp[ug],<-xr];rfl
 have R:δ F.1<δ t.1:=À l.a;have hw:δ w.1<δ F.1:=À U.a;obtain⟨u,z⟩:=A<|aF l.A U.a;clear Y E o;have W:=ſ<|M U.a U.b;clear U;go_wp2_with fail;generalize m:δ F.1=g at *;clear m;go_loopw[15] (λm wr=>∃k:Nat,k<=N/\m=G k/\J (wr.1[g]?=C' (j' (θ<|cI<|ug (Ev b) N k) 267 (0,0))/\Below g F wr)) (λm _=>N-(intOf m).toNat)
 case atStart=>exact⟨0,bq _,rfl,l.o⟩
 clear l R u z;obtain⟨k,hk,rfl,T⟩:=hrel;have X:Bl w wr:=W.A.trans<|T.A.mono I;by_cases L:k<N;rotate_left
 .have m:¬(k:Int)<N:=I;have hkN:k=N:=I;go_wp2_with fail;go_ret;refine⟨g,rfl,I,?_,X⟩;have:=T.a;rwa[hkN]at this
 have m:(k:Int)<N:=I
 obtain⟨r,hr⟩:=La (l:=b) (i:=k) (by rw[HL.o];exact L);have m:=HH.a.below X;have R:=m.st k r hr;have f:=m.es k r hr;have u:=m.sys.range hr;have o:=lE k P.nx 0 λl hl=>(HH.b.nx l hl).1;have X:ζ r.es<=200:=by
  have h1:ζ (P.ins k)<=120:=by show(fJ k 0 P.nx).length<=120;have h2:=HH.B;have:=HN.o;omega
  rw[f.1];omega
 simp only[oU,R,RR.ev]at u;have HR:=ſ<|M (m.sys.row r<|aK hr)<|M f hr;clear m R f hr o;go_upto_region 5 with(first|(refine wpList_load_mid rfl s4 (.tmp 18) rfl rb (k*18) rfl (aL (rj k)++[h' r.ea (ζ r.es) r.ec]) _ u ab7 rfl H ?_)|(refine wpList_store_mid rfl s4 (.tmp 5) (.tmp 19) rfl wr.1.size 0 (θ<|aL (rj k)++[h' r.ea (ζ r.es) r.ec]) rfl rfl (b5 (n:=18) (bj _ _) rfl) H (all_oneCell_toArray (λv R=>by rcases eC.1 R with R|R;(· exact qe _ v R);simp at R;subst R;rfl)) ?_))
 refine Ll (F:=Code.wp _ _ _ _) rfl λV X=>?_;have f:χ V (O wr.1.size 17)=C' (bk r.ea (ζ r.es) r.ec):=by rw[(A X.a).1];rfl
 simp only[Act.put];clear u;go_wp2_with fail;have m:=À T.a;go_loopw[23] (λm V=>∃j:Nat,j<=ζ r.es/\m=G j/\J (V.1[g]?=C' (j' (θ<|cI<|IK k (ug (Ev b) N k)<|(r.es.take j).map (·.1)) 267 (0,0))/\Below g F V)) (λm _=>ζ r.es-(intOf m).toNat)
 case atStart=>exact⟨0,bq _,rfl,aF X.A T.a,T.A.trans<|X.A.mono I⟩
 clear f;obtain⟨j,hj,rfl,HJ⟩:=hrel;by_cases D:j<ζ r.es;rotate_left
 .have m:¬(j:Int)<(ζ r.es:Int):=I;go_wp2_with fail;go_roundw
  case rel=>
   refine⟨k+1,L,f',?_,HJ.A⟩;have:=HJ.a;rwa[b! I,<-US HR.B,<-px]at this
  exact H'
 have m:(j:Int)<(ζ r.es:Int):=I;obtain⟨⟨f,m⟩,hx⟩:∃x,r.es[j]?=C' x:=⟨_,aQ D⟩;have u:Bl w wr:=W.A.trans<|HJ.A.mono I;obtain⟨X,heg,o,R⟩:=EE ((HH.a.sys.below u).row r<|aK HR.B) hx;obtain⟨y,E⟩:=La (l:=(P.ins k)) (i:=j) (by rw[<-HR.b.1];exact D);obtain⟨C,sb,z,_⟩:=HR.b.2 j _ y hx E;have hfN:f<N:=by rw[show f=y.1 from C,HN.o];have:=mW k P.nx 0 y<|aK E;rw[HH.B]at this;omega
 simp only at z o R;subst z;clear C E;rw[heg];have HX:=ſ<|M hx u;clear hx u;go_upto_region 8 with(fail)
 obtain⟨U,u⟩:=Ea<|wr.alloc<|j' #[G f,yY sb] mP;have HU:J (Bl wr U/\U.1[δ wr.1]?=C' (j' #[G f,yY sb] mP (0,0))):=by rw[u];exact⟨aY,bj _ _⟩
 rw[<-u];clear u o R;obtain⟨l,hl⟩:=Ea<|IK k (ug (Ev b) N k)<|(r.es.take j).map (·.1);have R:ζ l=N:=by rw[hl,xg,p!]
 have hgb:U.1[g]?=C' (j' (θ<|cI l) 267 (0,0)):=by rw[hl];exact aF HU.a HJ.a
 have YE:bQ (l.getD f (0,0)):=by rw[hl];exact DQ I _ _ (yN _ _ k I) f
 have HN:J (IK k (ug (Ev b) N k) ((r.es.take<|j+1).map (·.1))=l.set f (e7 (l.getD f (0,0))<|cJ [k])):=by show _=_;rw[cX D,(aV.1 HX.a).2,eR,Jv,Gb,<-hl];rfl
 obtain⟨u,C⟩:=Ea<|l.getD f (0,0);have Y:J (∀X b,χ X (O b 0)=C' (G k)->Cl 241 (mL b) X (Rb X<|cn<|cJ [k])):=λX b T=>kz X b k I T;have o:J (∀(X:t') b,χ X (O b 0)=C' (Z u.1)->χ X (O b 1)=C' (Z u.2)->χ X (O b 2)=C' (Z ((cJ [k]).1:Int))->χ X (O b 3)=C' (Z ((cJ [k]).2:Int))->Cl 267 (rf b) X (Rb X<|cn<|e7 u<|cJ [k])):=λX b h0 h1 h2 h3=>by have:=fA X b u (cJ [k]) (by rw[C];exact YE) (ie _ λg b=>by rw[eX.1 b];omega) h0 h1 h2 h3;exact this
 have E:J (∀W,Bl U W->χ W (O g<|f*2)=C' (Z u.1)/\χ W (O g<|f*2+1)=C' (Z u.2)/\W.frozen? (O g<|f*2)=Q'/\W.frozen? (O g<|f*2+1)=Q'):=λW hW=>by rw[C];exact iq (aF hW hgb) (by rw[R];exact hfN)
 rw[<-C]at HN;obtain⟨b,uj⟩:=Ea<|cJ [k];obtain⟨z,hz⟩:=Ea<|e7 u<|cJ [k];rw[<-hz]at HN o;rw[<-uj]at Y o;have HL:=ſ<|M R hgb;clear uj hz YE C hl R hgb;have m:(f:Int)<N:=I;simp only[cn]at Y o;refine st (λW'=>Bl U W') 13 (hS:=(aP _ _).drew) (h:=λaE=>?_);refine tt 0 (cw g N) (h:=?_);refine tt 1 (n'<|cA wr.1.size) (h:=?_);refine tt 2 (G f) (y:=λW' bm=>by have m:=(A<|aF bm HU.A).1;clear aE bm;go_simp) (h:=?_);refine tt 3 (cw g N) (h:=?_);refine tt 4 (n'<|cA wr.1.size) (h:=?_);refine tt 5 (G f) (y:=λW' bm=>by have m:=(A<|aF bm HU.A).1;clear aE bm;go_simp) (h:=?_);refine tt 6 (n'<|C'<|O g<|f*2) (h:=?_);refine tt 7 (lj u.1 u.2) (y:=λW' bm=>by have m:=(E.o _ bm).1;have u:=(E.o _ bm).2.1;clear aE bm;go_simp) (h:=?_);refine tt 8 (G k) (h:=?_);refine rt 9 (h:=λK hK=>?_);go_simp;refine hK.out _ _ (λ_=>aq aE aY) ?_;clear hK K;refine pt ?_;refine rt 10 (h:=λK hK=>?_);go_simp;refine bE (Y.o _ _ ak) ?_;rintro e t ⟨rfl,l⟩;have r:J (Bl U t):=aq (aq aE aY) l;clear l;refine hK.out _ _ (λ_=>r.o) ?_;clear hK K;refine pt ?_;refine rt 11 (h:=λK hK=>?_);go_simp;refine hK.out _ _ (λ_=>aq r.o aY) ?_;clear hK K;refine pt ?_;refine rt 12 (h:=λK hK=>?_);go_simp;refine bE (o.o _ _ ak ak ak ak) ?_;rintro e F ⟨rfl,X⟩;have b:J (Bl U F):=aq (aq r.o aY) X;clear X;refine hK.out _ _ (λ_=>b.o) ?_;clear hK K aE;refine pt ?_;refine rt 13 (h:=λK hK=>?_);go_simp;refine hK.out _ _ (λh=>absurd h aj) ?_;clear hK K;refine pt ?_;refine rt 14 (h:=λK hK=>?_);obtain⟨U,m,u,l⟩:=E.o _ b.o;go_simp;refine hK.out _ _ (λh=>absurd h aj) ?_;clear hK K U m u l;refine pt ?_;refine dt (h:=?_);go_wp2_with fail;go_roundw
 case rel=>
  refine⟨j+1,D,f',?_,?_⟩
  .rw[HN.o];exact xC (s:=z) (aF b.o HL.A) (k:=f) (by rw[HL.a];exact hfN)
  exact((HJ.A.trans<|(aq HU.a b.o).mono<|L'<|À HJ.a).setCell (aD _) _).setCell (aD _) _
 exact H'):p:=h
open KC in
def KC.sI(rb s B:Nat)(P:Pm)(w:World)(hE:KC.mR w B rb P)(hO:cF P)(hx:ζ P.nx=ζ P.nd):
 Cl 207 #[KC.dw rb s<|ζ P.nd] w λe w'=>∃g,e=.returned (cw g<|ζ P.nd)/\δ w.heap<=g/\w'.heap[g]?=some (.cells (θ<|cI<|ug ((range<|ζ P.nd).map λn=>(P.ins n).map (·.1)) (ζ P.nd)<|ζ P.nd) 267 (0,0))/\Bl w w':=by exact Ŏ
open KB in
def KB.sI(rb s B:Nat)(P:Pm)(w:World)(hE:KB.mR w B rb P)(hO:cF P)(hx:ζ P.nx=ζ P.nd):
 Cl 215 #[KB.dw rb s<|ζ P.nd] w λe w'=>∃g,e=.returned (cw g<|ζ P.nd)/\δ w.heap<=g/\w'.heap[g]?=some (.cells (θ<|cI<|ug ((range<|ζ P.nd).map λn=>(P.ins n).map (·.1)) (ζ P.nd)<|ζ P.nd) 267 (0,0))/\Bl w w':=by exact Ŏ
end
section
variable {S:Nat->Obj->Prop}{a:t'}{P:Pm}{y l d:List PE}{z:PE}{c r:BS}{σ:Type}
attribute [local go_sem] Oper.semAt_some
structure Ky(S:Nat->Obj->Prop)(w w':t'):Prop where
  os:w'.os=w.os
  tape:w'.tape=w.tape
  output:w'.output=w.output
  size:δ w.1<=δ w'.1
  keep:∀k o,w.1[k]?=C' o->¬S k o->w'.1[k]?=C' o
def Ky.of(h:Bl w a):Ky S w a:=⟨h.os,h.tape,h.output,h.size,λk _ e _=>(h.block k<|À e).trans e⟩
def Ky.ofx{S:Nat->Prop}(h:Kx S w a):Ky (λk _=>S k) w a:=⟨h.os,h.tape,h.output,h.size,λ_ _ e K=>h.box e K⟩
def Ky.refl(S:Nat->Obj->Prop)(w:t'):Ky S w w:=Ky.of<|aP _ _
def Ky.trans{u v:t'}(h:Ky S u v)(k:Ky S v w):Ky S u w:=
 ⟨k.os.trans h.os,k.tape.trans h.tape,k.output.trans h.output,br h.size k.size,λi o e y=>k.keep i o (h.keep i o e y) y⟩
def Ky.mono{a:Nat->Obj->Prop}{b:t'}(h:Ky S w b)(y:∀k o,S k o->a k o):Ky a w b:=⟨h.os,h.tape,h.output,h.size,λk o e K=>h.keep k o e λh=>K<|y k o h⟩
def Ky.box(h:Ky S w a){o:Obj}(e:w.1[q]?=C' o)(b:¬S q o):a.1[q]?=C' o:=h.keep q o e b
def Ky.cell(h:Ky S w a){o:Nat}{v:A'}(e:χ w (O q o)=C' v)(b:∀c,¬S q c):χ a (O q o)=C' v:=by obtain⟨c,t,f,T⟩:=ft e;exact(bF<|(h.box T<|b _).trans T.symm).trans e
def Ky.drewN(h:Ky S w a)(n:Nat):Ky S w (a.drewN n):=⟨h.os,h.tape,h.output,h.size,h.keep⟩
def Ky.tab(h:Ky S w a)(b:kU w)(y:∀o,¬S 0 o):kU a:=λj f=>h.cell (b j f) y
def Ky.others(h:Ky S w a)(y:∀k o,S k o->w.1[k]?=C' o->o.isCells=P'):KeepsOthers w a:=
 ⟨h.size,λk o a T=>h.box a λe=>by rw[y k o e a]at T;cases T⟩
def Ky.set(h:Ky S w a)(hb:(∀o,w.1[b]?=C' o->S b o))(o:Nat)(v:A'):Ky S w (κ a (O b o) v):=
 ⟨h.os,h.tape,h.output,by simpa[World.setCell]using h.size,λk x e K=>(bh _ _ _ _ (by rintro rfl;exact K<|hb x e)).trans<|h.keep k x e K⟩
def tC{S:Nat->Obj->Prop}{w:t'}{b:Nat}:∀{a:t'},Ky S w a->(∀o,w.1[b]?=C' o->S b o)->∀(o:Nat)(E:List A'),Ky S w (ψ a b o E)
 |_,h,_,_,[]=>h
 |_,h,hb,o,v::r=>tC (h.set hb o v) hb (o+1) r
abbrev NF(o:Obj):Prop:=∃c f,o=j' c 73 f
structure E6{σ:Type}(S:Nat->Obj->Prop)(C:σ->t'->Prop)(w:t')(fx:List<|Nat×Obj)(hb:Nat)(s:σ)(ho:Obj)(W:t'):Prop where
  k:Ky S w W
  c:C s W
  tab:kU W
  held:W.1[hb]?=C' ho
  fix:∀q o,(q,o)∈fx->W.1[q]?=C' o
section
variable {σ:Type}{S:Nat->Obj->Prop}{C:σ->t'->Prop}{w:t'}{fx:List (Nat×Obj)}{hb qb ab:Nat}{s s':σ}{ho fw:Obj}{W W':t'}
def E6.keep(h:E6 S C w fx hb s ho W)(c:∀q o,(q,o)∈fx->δ w.1<=q/\q≠hb/\q≠ab/\q<=qb/\¬NF o)(a:δ w.1<=hb/\hb<ab/\ab<qb)(u:∀k o,S k o->k<δ w.1\/NF o)(m:∀s W W',C s W->(∀k o,W.1[k]?=C' o->S k o->W'.1[k]?=C' o)->C s W')(U:0<δ w.1){X:Nat->Prop}(a:Kx X W W')(b:∀k,X k->k=ab\/qb<k)(g:∀k o,X k->W.1[k]?=C' o->¬NF o):E6 S C w fx hb s ho W':=by
 have f:=br h.k.size a.size;have v:∀k,k<qb+1->k≠ab->¬X k:=λk a K F=>by rcases b k F with e|e<;>omega
 refine⟨⟨a.os.trans h.k.os,a.tape.trans h.k.tape,a.output.trans h.k.output,f,λk o e K=>a.box (h.k.keep k o e K)<|v k (L'<|À e)<|L'<|À e⟩,m s W W' h.c λk o e y=>a.box e λF=>?_,a.tab h.tab<|v _ I I,a.box h.held<|v _ I I,λq o b=>?_⟩
 .rcases u k o y with d|d
  .exact v k I I F
  exact g k o F e d
 have:=c q o b;exact a.box (h.fix q o b)<|v _ I I
def E6.OE(h:E6 S C w fx hb s ho W)(c:∀q o,(q,o)∈fx->δ w.1<=q/\q≠hb/\q≠ab/\q<=qb/\¬NF o)(a:δ w.1<=hb/\hb<ab/\ab<qb)(u:∀k o,S k o->k<δ w.1\/NF o)(U:∀o,¬S 0 o)(a:Ky (λk o=>S k o\/k=hb\/k=ab) W W')(T:C s' W')(b:0<δ w.1)(V:W'.1[hb]?=C' fw):E6 S C w fx hb s' fw W':=by have f:=br h.k.size a.size;refine⟨⟨a.os.trans h.k.os,a.tape.trans h.k.tape,a.output.trans h.k.output,f,λk o e K=>a.box (h.k.keep k o e K) (by have:=À e;rintro(h|h|h);(· exact K h);all_goals omega)⟩,T,a.tab h.tab (λo=>by rintro(h|h|h);(· exact U o h);all_goals omega),V,λq o b=>?_⟩;have d:=c q o b;exact a.box (h.fix q o b) (by rintro(h|h|h);(· rcases u q o h with a|a;(· omega);exact d.2.2.2.2 a);all_goals omega)
end
def abP{P:Program}{b:Array Oper}{o:Oper}{a:Act}{w':t'}{K:Act->t'->Prop}{Q:Exit->Act->t'->Prop}{E:Prop}(v:A')(B:Region.wanted o (yielded b a.tmps)=P')(h:(execOp a.eval o).run P w=.ok (.value v) w')(c:K (a.put o.dst v) w'):if Region.wanted o (yielded b a.tmps)=P' then Oper.wp P o a w K Q else E:=by rw[aB B];rw[Oper.wp,h];exact c
def wY{t:Nat}{p a:List A'}:∀{E L:List A'},W.1[b]?=C' (j' (θ<|p++(L++a)) t (0,0))->ζ L=ζ E->(ψ W b (ζ p) E).1[b]?=C' (j' (θ<|p++(E++a)) t (0,0)):=by
 intro E;induction E generalizing W p with
 |nil=>intro L h hl;have:=fg.1 hl;subst this;exact h
 |cons v r B=>
  intro L h hl
  match L,hl with
  |c::L,hl=>
   have c:(κ W (O b<|ζ p) v).1[b]?=C' (j' (θ<|(p++[v])++(L++a)) t (0,0)):=by rw[aw h,cj,oX _ _<|aD _,jx];simp
   have:=B (p:=p++[v]) c (by simpa using hl);show(ψ (κ W (O b<|ζ p) v) b (ζ p+1) r).1[b]?=_;simpa using this
def qA{x:Nat}(F:x<ζ y)(i:Nat):bK (y.set x z) i=if x=i then z else bK y i:=m? y x i z PE.zero F
abbrev QY(P:Pm):List BS:=ug ((range<|ζ P.nd).map λn=>(P.ins n).map (·.1)) (ζ P.nd)<|ζ P.nd
def J7(h:ζ P.nd<=60)(x:Nat):bQ ((QY P).getD x (0,0)):=yN _ _ _ I x
def J8(h:ζ P.nd<=60)(F:ζ P.nx=ζ P.nd)(x y:Nat)(B:y<128):bt ((QY P).getD x (0,0)) y=(decide (y<ζ P.nd)&&decide (x∈(P.ins y).map (·.1))):=by
 have a:∀m f,f∈((range<|ζ P.nd).map λn=>(P.ins n).map (·.1)).getD m []->f<ζ P.nd:=λm f Y=>by
  rw[cy,bH]at Y;cases b:(range<|ζ P.nd)[m]? with
  |none=>rw[b]at Y;simp at Y
  |some r=>rw[b]at Y;obtain⟨q,c,rfl⟩:=bp.1 Y;have:=mW r P.nx 0 q c;omega
 rw[ER _ _ _ _ B a _ I];by_cases a:y<ζ P.nd
 .rw[cy,bH,jv a];rfl
 simp[a]
def Xt(h:ζ P.nd<=60)(F:ζ P.nx=ζ P.nd)(x:Nat):∀y∈dj ((QY P).getD x (0,0)),y<ζ P.nd:=λy B=>by obtain⟨b,a⟩:=(fz (J7 h x) y).1 B;rw[J8 h F x y b,aS]at a;simpa using a.1
structure KC.um(P:Pm)(hs:List PE)(wt:BS):Prop where
  len:ζ hs=ζ P.nd
  hd:KC.nL P (bK hs)
  wi:bQ wt
  low:∀x∈dj wt,x<ζ P.nd
structure KC.SnE{σ:Type}(P:Pm)(nx:σ->Nat->PE->PE->σ)(rz:σ->Nat->PE->PE->PE)(mu:List PE->Nat)(Inv:σ->List PE->BS->Prop)(s0:σ):Prop where
  start:Inv s0 (replicate (ζ P.nd) PE.zero) (j5<|ζ P.nd)
  skip:∀s hs wt x,Inv s hs wt->KC.um P hs wt->x∈dj wt->KC.fq (KC.bU P (bK hs) x) (bK hs x)=P'->Inv s hs (eP wt<|cJ [x])
  step:∀s hs wt x,Inv s hs wt->KC.um P hs wt->x∈dj wt->KC.fq (KC.bU P (bK hs) x) (bK hs x)=Q'->Inv (nx s x (bK hs x)<|KC.j8 (bK hs x)<|KC.bU P (bK hs) x) (hs.set x<|rz s x (bK hs x)<|KC.j8 (bK hs x)<|KC.bU P (bK hs) x) (e7 (eP wt<|cJ [x])<|(QY P).getD x (0,0))
  good:∀s hs wt x,Inv s hs wt->KC.um P hs wt->x∈dj wt->KC.fq (KC.bU P (bK hs) x) (bK hs x)=Q'->∃v,PR P.nv (rz s x (bK hs x)<|KC.j8 (bK hs x)<|KC.bU P (bK hs) x) v/\dZ 5 P.nv v
  less:∀s hs wt x,Inv s hs wt->KC.um P hs wt->x∈dj wt->KC.fq (KC.bU P (bK hs) x) (bK hs x)=Q'->mu (hs.set x<|rz s x (bK hs x)<|KC.j8 (bK hs x)<|KC.bU P (bK hs) x)<mu hs
structure KC.ChE{σ:Type}(S:Nat->Obj->Prop)(C:σ->t'->Prop)(w:t')(P:Pm)(fk pb:Nat)(caps:Array A')(nx:σ->Nat->PE->PE->σ)(rz:σ->Nat->PE->PE->PE)(Inv:σ->List PE->BS->Prop):Prop where
  low:∀k o,S k o->k<δ w.1\/NF o
  cel:∀s W k o,C s W->S k o->W.1[k]?=C' o->o.isCells=P'
  Oq:∀s W W',C s W->(∀k o,W.1[k]?=C' o->S k o->W'.1[k]?=C' o)->C s W'
  tab:∀o,¬S 0 o
  pk:∀o,¬S pb o
  pbl:pb<δ w.1
  fn:∀xs w,(callFunc fk xs).run Tryz.prog w=.ok (.enter fk xs) w
  call:∀s hs wt W x,Inv s hs wt->KC.um P hs wt->x∈dj wt->KC.fq (KC.bU P (bK hs) x) (bK hs x)=Q'->C s W->kU W->Ky S w W->Cl fk (#[G x,k'<|θ<|KC.aL<|bK hs x,k'<|θ<|KC.aL<|KC.j8 (bK hs x)<|KC.bU P (bK hs) x]++caps) W λe w'=>e=o' (k'<|θ<|KC.aL<|rz s x (bK hs x)<|KC.j8 (bK hs x)<|KC.bU P (bK hs) x)/\C (nx s x (bK hs x)<|KC.j8 (bK hs x)<|KC.bU P (bK hs) x) w'/\Ky S W w'
def KC.x8(e:PE)(h:W.1[hb]?=C' (j' (θ<|KC.aU l) 228 (0,0)))(a:k<ζ l):(ψ W hb (k*17)<|KC.aL e).1[hb]?=C' (j' (θ<|KC.aU<|l.set k e) 228 (0,0)):=by
 have V:l=l.take k++l[k]::l.drop (k+1):=ak
 have u:KC.aU l=KC.aU (l.take k)++(KC.aL l[k]++KC.aU (l.drop<|k+1)):=by
  conv=>lhs;rw[V]
  rw[KC.fS];rfl
 have b:KC.aU (l.set k e)=KC.aU (l.take k)++(KC.aL e++KC.aU (l.drop<|k+1)):=by rw[xZ,aB a,KC.fS];rfl
 rw[u]at h;rw[b];have X:ζ (KC.aU<|l.take k)=k*17:=by rw[KC.jE,dG,kj I]
 rw[<-X];exact wY (L:=KC.aL l[k]) (E:=KC.aL e) h rfl
def ž(h:p:=by
 refine⟨h.len,h.hd,pS,λy B=>h.low y ?_⟩;obtain⟨b,a⟩:=(fz pS y).1 B;rw[oM (lZ F) b,aS]at a
 exact(qq c h.wi y).2 ⟨b,a.1⟩):p:=h
def KC.um.skip(h:KC.um P y c)(x:Nat)(F:x<128):KC.um P y (eP c<|cJ [x]):=by exact ž
def aa0(h:p:=by
 have b:=h.skip x F;refine⟨by rw[jn];exact h.len,λm=>?_,gG b.wi e,λy B=>?_⟩
 .rw[qA a];split
  .exact f
  exact h.hd m
 obtain⟨N,d⟩:=(fz (gG b.wi e) y).1 B;rw[gT,eS]at d;rcases d with d|d
 .exact b.low y<|(fz b.wi y).2 ⟨N,d⟩
 exact X y<|(fz e y).2 ⟨N,d⟩):p:=h
def KC.um.step(h:KC.um P d c)(x:Nat)(F:x<128)(a:x<ζ d)(f:∃v,PR P.nv z v/\dZ 5 P.nv v)(e:bQ r)(X:∀y∈dj r,y<ζ P.nd):KC.um P (d.set x z) (e7 (eP c<|cJ [x]) r):=by exact aa0
structure KB.um(P:Pm)(hs:List PE)(wt:BS):Prop where
  len:ζ hs=ζ P.nd
  hd:KB.nL P (bK hs)
  wi:bQ wt
  low:∀x∈dj wt,x<ζ P.nd
structure KB.SnE{σ:Type}(P:Pm)(nx:σ->Nat->PE->PE->σ)(rz:σ->Nat->PE->PE->PE)(mu:List PE->Nat)(Inv:σ->List PE->BS->Prop)(s0:σ):Prop where
  start:Inv s0 (replicate (ζ P.nd) PE.zero) (j5<|ζ P.nd)
  skip:∀s hs wt x,Inv s hs wt->KB.um P hs wt->x∈dj wt->KB.fq (KB.bU P (bK hs) x) (bK hs x)=P'->Inv s hs (eP wt<|cJ [x])
  step:∀s hs wt x,Inv s hs wt->KB.um P hs wt->x∈dj wt->KB.fq (KB.bU P (bK hs) x) (bK hs x)=Q'->Inv (nx s x (bK hs x)<|KB.j8 (bK hs x)<|KB.bU P (bK hs) x) (hs.set x<|rz s x (bK hs x)<|KB.j8 (bK hs x)<|KB.bU P (bK hs) x) (e7 (eP wt<|cJ [x])<|(QY P).getD x (0,0))
  good:∀s hs wt x,Inv s hs wt->KB.um P hs wt->x∈dj wt->KB.fq (KB.bU P (bK hs) x) (bK hs x)=Q'->∃v,PR P.nv (rz s x (bK hs x)<|KB.j8 (bK hs x)<|KB.bU P (bK hs) x) v/\dZ 6 P.nv v
  less:∀s hs wt x,Inv s hs wt->KB.um P hs wt->x∈dj wt->KB.fq (KB.bU P (bK hs) x) (bK hs x)=Q'->mu (hs.set x<|rz s x (bK hs x)<|KB.j8 (bK hs x)<|KB.bU P (bK hs) x)<mu hs
structure KB.ChE{σ:Type}(S:Nat->Obj->Prop)(C:σ->t'->Prop)(w:t')(P:Pm)(fk pb:Nat)(caps:Array A')(nx:σ->Nat->PE->PE->σ)(rz:σ->Nat->PE->PE->PE)(Inv:σ->List PE->BS->Prop):Prop where
  low:∀k o,S k o->k<δ w.1\/NF o
  cel:∀s W k o,C s W->S k o->W.1[k]?=C' o->o.isCells=P'
  Oq:∀s W W',C s W->(∀k o,W.1[k]?=C' o->S k o->W'.1[k]?=C' o)->C s W'
  tab:∀o,¬S 0 o
  pk:∀o,¬S pb o
  pbl:pb<δ w.1
  fn:∀xs w,(callFunc fk xs).run Tryz.prog w=.ok (.enter fk xs) w
  call:∀s hs wt W x,Inv s hs wt->KB.um P hs wt->x∈dj wt->KB.fq (KB.bU P (bK hs) x) (bK hs x)=Q'->C s W->kU W->Ky S w W->Cl fk (#[G x,k'<|θ<|KB.aL<|bK hs x,k'<|θ<|KB.aL<|KB.j8 (bK hs x)<|KB.bU P (bK hs) x]++caps) W λe w'=>e=o' (k'<|θ<|KB.aL<|rz s x (bK hs x)<|KB.j8 (bK hs x)<|KB.bU P (bK hs) x)/\C (nx s x (bK hs x)<|KB.j8 (bK hs x)<|KB.bU P (bK hs) x) w'/\Ky S W w'
def KB.x8(e:PE)(h:W.1[hb]?=C' (j' (θ<|KB.aU l) 250 (0,0)))(a:k<ζ l):(ψ W hb (k*17)<|KB.aL e).1[hb]?=C' (j' (θ<|KB.aU<|l.set k e) 250 (0,0)):=by
 have V:l=l.take k++l[k]::l.drop (k+1):=ak
 have u:KB.aU l=KB.aU (l.take k)++(KB.aL l[k]++KB.aU (l.drop<|k+1)):=by
  conv=>lhs;rw[V]
  rw[KB.fS];rfl
 have b:KB.aU (l.set k e)=KB.aU (l.take k)++(KB.aL e++KB.aU (l.drop<|k+1)):=by rw[xZ,aB a,KB.fS];rfl
 rw[u]at h;rw[b];have X:ζ (KB.aU<|l.take k)=k*17:=by rw[KB.jE,dG,kj I]
 rw[<-X];exact wY (L:=KB.aL l[k]) (E:=KB.aL e) h rfl
def KB.um.skip(h:KB.um P y c)(x:Nat)(F:x<128):KB.um P y (eP c<|cJ [x]):=by exact ž
def KB.um.step(h:KB.um P d c)(x:Nat)(F:x<128)(a:x<ζ d)(f:∃v,PR P.nv z v/\dZ 6 P.nv v)(e:bQ r)(X:∀y∈dj r,y<ζ P.nd):KB.um P (d.set x z) (e7 (eP c<|cJ [x]) r):=by exact aa0
def ŏ(h:p:=by
 have hm:=hO.most;have hN1:=hO.pos;refine(gw (n:=6)).1 ?_;refine callsIn_of_wp_marks zF8 rfl trivial ?_ rfl;simp only[zN9,kH,bR,de,Nat.reduceAdd,Nat.reduceSub,sF,sE,sD,sC,c!,dA];have HU:J (∀W,Cl 208 #[G<|ζ P.nd] W<|Rb W<|cn<|j5<|ζ P.nd):=λW=>o8 (ζ P.nd) W I;have HR:J (∀W,Ky S w W->Cl zn4 #[dw rb db<|ζ P.nd] W λe w'=>∃g,e=o' (cw g<|ζ P.nd)/\δ W.1<=g/\w'.1[g]?=C' (j' (θ<|cI<|QY P) 267 (0,0))/\Bl W w'):=λW hW=>sI rb db B P W (ah W hW) hO hx;obtain⟨X,hi,f,u,b⟩:=cG pB;have HJ:J (_/\_/\_/\_):=⟨hi,f,u,b⟩;have H0:=ſ<|M ah<|M (M hO<|M hc<|M ho hx)<|M hP<|M hH<|M hT<|M hpk<|M cc<|M hd<|M cd Q8;obtain⟨N,m⟩:=Ea<|ζ P.nd;rw[<-m]at HU HR hm hN1|-;have HN:=ſ m;clear hi f u b ah hO hc ho hx hP hH hT hpk cc hd cd Q8 m;simp only[cn,KC.dw,KB.dw]at HU HR|-;refine nE.2 ?_;go_upto_region 1 with(fail)
 refine å (F:=Code.wp _ _ _ _) λW0 U=>?_;obtain⟨E,x2⟩:=A U.b;have Q8:=U.C;go_upto_region 2 with(at_make;refine eK _ rfl (.tmp 15) (.tmp 15) Kc rfl W0.1.size bN X _ 17 ab6 HJ.a HJ.b HJ.c .i64 .i64 N N N rfl rfl rfl rfl (by rw[HJ.C];omega) (by unfold maxLen;omega) ak ?_;intro W1 f b;have m:=ſ<|M f b;clear f b)
 have r:J (W1.1[δ w.1+1+1]?=C' (j' (θ<|aU<|replicate N PE.zero) bN (0,0))/\Bl W0 W1):=by have h1:=m.a;rw[d! _ 17 (by simp[Value.cells];rfl) N]at h1;refine⟨?_,(aP _ _).grown m.A (aD _) (λq e=>by cases e)⟩;rw[<-Q8,(fB h1).1,<-nK];rfl
 clear m E x2;refine oP (F:=Code.wp _ _ _ _) λF Ff=>?_;go_upto_region 3 with(fail)
 refine oP (F:=Code.wp _ _ _ _) λW3 D=>?_;have f:=Ff.B;have X:δ w.1+1+1<δ W1.1:=À r.a;have m:=aq Ff.a D.a;have b:=aq r.A m;have t:=D.b;have o:=D.B;rw[f]at t o;have z:=ſ<|M (aq U.a b)<|M (aF b U.b)<|M (aF b U.c)<|M (aF m r.a)<|M (aF D.a Ff.b)<|M t o;rw[f];clear U r Ff D Q8 f m b t o;generalize δ W1.1=bx at *;obtain⟨E,x2⟩:=A z.b;go_upto_region 4 with((first|go_at_call 207 | go_at_call 215);refine(HR.o _<|Ky.of z.a).mono ?_;rintro e W4 ⟨g,rfl,h1,h2,h3⟩;have H4:=ſ<|M h1<|M h2 h3;clear h1 h2 h3 E x2)
 refine oP (F:=Code.wp _ _ _ _) λW5 t=>?_;have R:=aq H4.B t.a;obtain⟨E,x2⟩:=A<|aF R z.b;go_upto_region 5 with(go_at_call 208;refine(HU.o _).mono ?_;rintro e W6 ⟨rfl,h1⟩;have H6:=ſ h1;clear h1 E x2)
 refine oP (F:=Code.wp _ _ _ _) λY r=>?_;have U:J (∀W,Cl 209 (bM W6.1.size) W λe w'=>e=o' (.func (.func 268) #[]<|bM W.1.size)/\w'=W.alloc (j' (bM W6.1.size) 379)):=λW=>wy _ W;go_wp2_with (go_at_call 209;refine(U.o _).mono ?_;rintro e W8 ⟨rfl,rfl⟩);refine oP (F:=Code.wp _ _ _ _) λW8 m=>?_;have X:δ W6.1<δ Y.1:=by rw[r.B];omega
 have f:=aq R<|aq H6.o<|aq r.a m.a;have hab:δ W5.1<=δ W6.1:=H6.o.size;have hrx:=t.B;have X:=À H4.b;have hg2:=H4.a;have hg3:=z.F;have f8:=m.b;have L:=aq H6.o<|aq r.a m.a;have T:=aq t.a L;obtain⟨fx,b⟩:=Ea ([(δ w.1,j' #[h' (C'<|O rb 0) N N,.func (.func yV) #[]<|bM db,.func (.func yU) #[]<|bM db] ab8 (0,0)),(δ w.1+1,j' #[.func (.func fk) #[] caps] aer (0,0)),(bx,j' #[h' (C'<|O (δ w.1+1+1) 0) N N] Kc (0,0)),(bx+1,j' #[.func (.func zn0) #[]<|bM bx] aeq (0,0)),(g,j' (θ<|cI<|QY P) 267 (0,0)),(δ W4.1,j' (kL g N) 264 (0,0)),(δ Y.1,j' (bM W6.1.size) 379 (0,0))]:List<|Nat×Obj);have H8:J (E6 S C w fx (δ w.1+1+1) s0 (j' (θ<|aU<|replicate N PE.zero) bN (0,0)) W8/\W8.1[δ W6.1]?=C' (Bi (j5 N)<|h' pa pl pc)/\δ W8.1=δ Y.1+1):=by
  refine⟨⟨Ky.of<|aq z.a f,H0.d.Oq _ _ _ H0.g λk o e _=>aF (aq z.a f) e,H0.e.below<|aq z.a f,aF f z.d,?_⟩,aF m.a r.b,m.B⟩;intro q o hq;rw[b]at hq;simp only[cO,gM,g!,gC]at hq;rcases hq with⟨rfl,rfl⟩|⟨rfl,rfl⟩|⟨rfl,rfl⟩|⟨rfl,rfl⟩|⟨rfl,rfl⟩|⟨rfl,rfl⟩|⟨rfl,rfl⟩
  .exact aF f z.b
  .exact aF f z.c
  .exact aF f z.e
  .exact aF f z.f
  .exact aF T H4.b
  .exact aF L t.b
  exact f8
 have X:=H0.d.pbl;have X:=z.a.size;have hP8:J (jQ W8 pb<|h' pa pl pc):=H0.f.keep λo u h=>aA h<|aq z.a f;have X:bx+1<g:=I;have X:δ W4.1<δ W6.1:=I;clear t r m H6 H4 z R f T L U HR HU f8 hrx hg3 hg2 hab;generalize δ W4.1=J? at *;generalize δ W6.1=ab at *;generalize δ Y.1=qb at *;have ed:J (∀q o,(q,o)∈fx->δ w.1<=q/\q≠δ w.1+1+1/\q≠ab/\q<=qb/\¬NF o):=by intro q o hq;rw[b]at hq;simp only[cO,gM,g!,gC]at hq;rcases hq with⟨rfl,rfl⟩|⟨rfl,rfl⟩|⟨rfl,rfl⟩|⟨rfl,rfl⟩|⟨rfl,rfl⟩|⟨rfl,rfl⟩|⟨rfl,rfl⟩<;>exact⟨I,I,I,I,by rintro⟨c,f,e⟩;exact absurd (eU e).2.1 aj⟩
 have HF:=ſ λ(W:t')(h:∀q o,(q,o)∈fx->W.1[q]?=C' o)=>M (h _ _<|by rw[b];exact rM)<|M (h _ _<|by rw[b];exact eI _ rM)<|M (h _ _<|by rw[b];exact eI _<|eI _ rM)<|M (h _ _<|by rw[b];exact eI _<|eI _<|eI _ rM)<|M (h _ _<|by rw[b];exact eI _<|eI _<|eI _<|eI _ rM)<|M (h _ _<|by rw[b];exact eI _<|eI _<|eI _<|eI _<|eI _ rM) (h _ _<|by rw[b];exact eI _<|eI _<|eI _<|eI _<|eI _<|eI _ rM);clear b;have m:δ w.1<=δ w.1+1+1/\δ w.1+1+1<ab/\ab<qb:=I;have dd:=ſ m;have Qc:=dh<|H0.e 0 aj;obtain⟨Rs,b⟩:=Ea (λs hs W=>E6 S C w fx (δ w.1+1+1) s (j' (θ<|aU hs) bN (0,0)) W:σ->List PE->t'->Prop);have HK:J (í Rs ab qb):=by rw[b];exact⟨λs hs W W' X h hk X hV=>E6.keep h ed.o dd.o H0.d.low H0.d.Oq Qc hk X (λk o hx e R=>by obtain⟨c,f,rfl⟩:=R;rcases hV k _ hx e with h2|⟨X,X,h2⟩;(· cases h2);exact absurd (eU h2).2.1 aj),λs hs W h=>E6.tab h,λs hs W h=>(HF.o W<|E6.fix h).2.2.2.2.2.2⟩
 have X:J (Rs s0 (replicate N PE.zero) W8):=by rw[b];exact H8.a
 have ZK:=ſ b;have Y:qb<δ W8.1:=by rw[H8.B];omega
 clear b m;refine(nE (n:=6)).1 ?_
 refine MQ (σ:=σ×List PE×BS) (α:=Nat) rfl I (gf:=268) (lb:=(bM qb)) rfl trivial (λxs w=>Tryz.call268 xs w) (Qy:=λx=>#[G x]) (λ_=>rfl)
  (Rh Rs ab pb Inv<|um P) (IfS Rs Inv<|um P) (IyS Rs ab pb Inv<|um P) (Đ λh wt=>mu h*200+ζ (dj wt)) (Rh.own HK.o I I I) (IfS.own HK.o I) (IyS.own HK.o I I I) (s0:=(s0,replicate N PE.zero,j5 N)) ⟨_,X.o,H8.b,hP8.o,by rw[HN.o];exact H0.c.start,⟨by rw[<-HN.o];simp,λm=>by rw[show bK (replicate N PE.zero) m=PE.zero by unfold bK;rw[cy,jy];split<;>rfl];exact H0.I,o? N I,by rw[<-HN.o];exact Ms I⟩⟩
  (Rh.it HK.o (λ_ _ h=>h.wi) 5 I I I _)
  (λx=>{tmps:=#[k' #[h' (C'<|O rb 0) N N,.func (.func yV) #[]<|bM db,.func (.func yU) #[]<|bM db],h' pa pl pc,.func (.func fk) #[] caps,n'<|cA w.1.size,undef,n'<|C'<|O (δ w.1+1) 0,h' D' 0 0,n'<|C'<|O bx 0,n'<|C'<|O (bx+1) 0,n'<|C'<|O J? 0,n'<|C'<|O ab 0,G x,undef,n'<|cA w.1.size,h' (C'<|O rb 0) N N,G N,h' (C'<|O (δ w.1+1+1) 0) N N,.func (.func zn0) #[]<|bM bx,k' #[h' (C'<|O rb 0) N N,.func (.func yV) #[]<|bM db,.func (.func yU) #[]<|bM db],h' (C'<|O g 0) N N,n'<|cA w.1.size,h' (C'<|O rb 0) N N,G N,k' #[Z ((j5 N).1:Int),Z ((j5 N).2:Int)],h' pa pl pc,k' #[Z ((j5 N).1:Int),Z ((j5 N).2:Int),h' pa pl pc],.func (.func 268) #[]<|bM qb,G x,undef,undef,undef,undef,undef,undef,undef,undef,undef,undef,undef,undef,undef,undef,undef,undef,undef,undef,undef,undef,undef,undef,undef,undef,undef,undef,undef,undef,undef,undef,undef,undef,undef,undef,undef,undef,undef],defers:=[]}) ?assign ?body ?done
 case assign=>
  intro l x W K hK
  gi_wp2
  exact hK
 case body=>
  rintro l ⟨s,hs,wt⟩ x W ⟨pv,h1,h2,h3,h4,h5,L⟩;simp only at h1 h2 h3 h4 h5 L;rw[ZK.o]at h1;have X:=h5.low x L;have Uo:x<N:=by rw[HN.o];exact X
  have Y:(x:Int)<N:=I;have hxl:x<ζ hs:=by rw[h5.len];exact X
  have U:hs[x]?=C' (bK hs x):=by unfold bK;rw[getD,aQ hxl];rfl
  obtain⟨hO,hc,ho,z⟩:=H0.b;have r:W.1[db]?=_:=(E6.k h1).box H0.h H0.i;have t:=h5.hd.bin x;have T:=DT h5.hd hO hc ho z x;have ck:J (∀W',Bl W W'->Cl aca #[dw rb db N,G x,.func (.func zn0) #[]<|bM bx] W' (Rb W'<|k'<|θ<|aL<|bU P (bK hs) x)):=by intro W' hW;rw[HN.o];refine mQ rb db B x _ P _ (bK hs) W' (H0.a W'<|(E6.k h1).trans<|Ky.of hW) (aF hW r) hO hc ho z X h5.hd (λxs w=>zC3 xs w) λm X F Y=>?_;exact Bs m bx N N _ hs (bK hs m) F (aF Y<|aF hW (HF.o W<|E6.fix h1).2.2.1) (j9<|aF Y<|aF hW<|E6.held h1) (by unfold bK;rw[getD,aQ<|by rw[h5.len];exact X];rfl) (by rw[HN.o];exact X)
  have gz:J (∀W',Bl W W'->Cl yU #[k'<|θ<|aL<|bU P (bK hs) x,k'<|θ<|aL<|bK hs x,n'<|C'<|O db 0] W' (Rb W'<|i'<|fq (bU P (bK hs) x)<|bK hs x)):=λW' hW=>lW _ _ db W' (aF hW r) T t;have ir:J (∀(W':t') b,Bl W W'->W'.1[b]?=C' (j' (θ<|aU [bK hs x,bU P (bK hs) x]) bN (0,0))->Cl yV #[h' (C'<|O b 0) 2 2,n'<|C'<|O db 0] W' (Rb W'<|k'<|θ<|aL<|j8 (bK hs x)<|bU P (bK hs) x)):=by intro W' b hW hb;have:=rX (C'<|O b 0) 2 db [bK hs x,bU P (bK hs) x] W' (aF hW r) (j9 hb) ak (λe m=>by simp at m;rcases m with rfl|rfl;(· exact t);exact T) λa b=>Kf;exact this
  have js:=ſ λ(hb:fq (bU P (bK hs) x) (bK hs x)=Q') W' (hc:C s W') (hT:kU W') (hk:Ky S w W')=>H0.d.call s hs wt W' x h4 h5 L hb hc hT hk;have HAd:J (∀W' m,W'.1[ab]?=C' (Bi (eP wt<|cJ [x]) m)->Cl 211 #[n'<|C'<|O ab 0,cn<|(QY P).getD x (0,0)] W' λe w'=>(∃v,e=o' v)/\w'.1[ab]?=C' (Bi (e7 (eP wt<|cJ [x])<|(QY P).getD x (0,0)) m)/\Kx (·=ab) W' w'):=λW' m h=>Om ab _ _ m W' h pS<|J7 hO.most x;have HSk:=ſ<|H0.c.skip s hs wt x h4 h5 L;have HSt:=ſ<|H0.c.step s hs wt x h4 h5 L;have hA:=ſ<|H0.c.less s hs wt x h4 h5 L;have iS:=ſ<|H0.c.good s hs wt x h4 h5 L;have HRd:=ſ<|M (J7 hO.most x)<|Xt hO.most z x;have HX:=ſ<|M h1<|M h2<|M h3<|M h5<|M L U;have Fe:=ſ<|HF.o W<|E6.fix h1;obtain⟨E,x2⟩:=A Fe.a;obtain⟨y1,y2⟩:=A Fe.d;clear h1 h2 h3 h4 h5 L t T hO hc ho z r U;simp only[cn,KC.dw,KB.dw]at ck HAd
  gi_upto_region 7 with(fail)
  refine agS (l:=l) (h:=?_);go_wp2_with (first|((first|go_at_call 210 | go_at_call 216);refine(ck.o _<|aP _ _).mono ?_;rintro e W1 ⟨rfl,m⟩;have r:=ſ m;clear m E x2 y1 y2)|(refine wpList_store_mid rfl bN (.tmp 12) (.tmp 31) rfl W1.1.size 0 (θ<|aL<|bU P (bK hs) x) rfl rfl (b5 (n:=17) (bj _ _) rfl) H (bn _) ?_));refine Ll (F:=λV=>Code.wpIn _ _ _ _ _ _ V) rfl λU HU=>?_;simp only[Act.put];have z:=ſ λW' (Q! : Bl U W')=>M (aF Q!<|aF HU.A<|aF r.o Fe.a)<|M (aF Q!<|aF HU.A<|aF r.o Fe.c)<|M (aF Q!<|aF HU.A<|aF r.o HX.a.held)<|aF Q! HU.a;have au:J (∀W':t',W'.1[δ w.1+1+1]?=C' (j' (θ<|aU hs) bN (0,0))->W'.rangeAt (δ w.1+1+1) (x*17) (aL<|bK hs x)):=λW' h=>by obtain⟨b,o,e,hr⟩:=j9 h x _ HX.E;cases e;rwa[bW]at hr
  gi_wp2
  refine á (l:=l) (λW'=>Bl U W') 8 (hS:=(aP _ _).drew) (h:=λaE=>?_);refine tt 0 (n'<|C'<|O w.1.size 2) (h:=?_);refine tt 1 (.func (.func yU) #[]<|bM db) (y:=λW' bm=>by have k1:=(A (z.o _ bm).1).1;clear aE bm;go_simp) (h:=?_);refine tu 2 (k'<|θ<|aL<|bU P (bK hs) x) (y:=yieldsIf_load_mid H _ _ rfl _ _ rfl _ _ (λW' bm=>bf (z.o _ bm).2.2.2) fX rfl H) (h:=?_);refine tt 3 (h' (C'<|O (δ w.1+1+1) 0) N N) (y:=λW' bm=>by have k1:=(A (z.o _ bm).2.1).1;clear aE bm;go_simp) (h:=?_);refine tt 4 (G x) (h:=?_);refine tt 5 (n'<|C'<|O (δ w.1+1+1)<|x*17) (h:=?_);refine tu 6 (k'<|θ<|aL<|bK hs x) (y:=yieldsIf_load_mid H _ _ rfl _ _ rfl _ _ (λW' bm=>au.o _ (z.o _ bm).2.2.1) fX rfl H) (h:=?_);refine rt 7 (h:=λK hK=>?_);go_simp;refine bE (gz.o _<|aq r.o<|aq HU.A aE) ?_;rintro e F ⟨rfl,X⟩;have Ff:J (Bl U F):=aq aE X;clear X aE;refine hK.out _ _ (λ_=>Ff.o) ?_;clear hK K;refine pt ?_;refine dt (h:=?_);have T:=ſ<|aq r.o<|aq HU.A Ff.o;cases b:fq (bU P (bK hs) x) (bK hs x)with
  |true=>
   gi_wp2
   refine⟨dJ T.o,s,hs,(eP wt<|cJ [x]).1,(eP wt<|cJ [x]).2,?_,pv,HK.o.keep _ _ _ _ (λ_=>False) (by rw[ZK.o];exact HX.a) (Kx.of T.o) (λ_ h=>h.elim) λ_ _ h=>h.elim,aF T.o HX.b,HX.c.keep λo u h=>aA h T.o,HSk.o b,HX.d.skip x I⟩;have:=ZR HX.d.wi HX.e;show mu hs*200+ζ (dj<|eP wt<|cJ [x])<mu hs*200+ζ (dj wt);omega
  |false=>
   have E7:J (∀k o,δ w.1<=k->¬NF o->¬S k o):=λk o h R e=>by rcases H0.d.low k o e with h1|h1;(· omega);exact R h1
   have my:=ſ (HF.o W λq o hq=>HX.a.fix q o hq);have NQ:∀{L:Array A'} {t:Nat} {f:Nat×Nat},t≠73->¬NF (j' L t f):=λU=>by rintro⟨c,f,e⟩;exact U (eU e).2.1
   have m:=HX.a.k.size;have xE:=ſ λW' (Q! : Ky S F W')=>M (Q!.box (aF T.o Fe.a)<|E7.o _ _ I<|NQ aj)<|M (Q!.box (aF T.o Fe.b)<|E7.o _ _ I<|NQ aj)<|M (Q!.box (aF T.o HX.a.held)<|E7.o _ _ I<|NQ aj)<|M (Q!.box (aF T.o Fe.c)<|E7.o _ _ I<|NQ aj)<|Q!.box (aF Ff.o HU.a)<|E7.o _ _ (L' r.o.size)<|NQ aj;have m:J (∀W',Bl W W'->C s W'/\kU W'/\Ky S w W'):=λW' h=>⟨H0.d.Oq _ _ _ HX.a.c λk o e _=>aF h e,HX.a.tab.below h,HX.a.k.trans<|Ky.of h⟩;have HC3:=ſ λW' (h:Bl W W')=>js.o b W' (m.o W' h).1 (m.o W' h).2.1 (m.o W' h).2.2;have aem:=ſ<|HSt.o b;have aen:=ſ<|hA.o b;have mn:=ſ<|iS.o b;have t:=H0.d.fn;clear js HSt hA iS HSk z gz ck b m;generalize bU P (bK hs) x=sa at *;generalize bK hs x=old at *;generalize j8 old sa=mK at *;generalize rz s x old mK=z at *
   gi_wp2
   refine á (l:=l) (λW'=>Ky S F W') 18 (hS:=(Ky.refl _ _).drewN 1) (h:=λaE=>?_);refine tt 0 (h' (C'<|O (δ w.1+1+1) 0) N N) (y:=λW' bm=>by have k1:=(A (xE.o _ bm).2.2.2.1).1;clear aE bm;go_simp) (h:=?_);refine tt 1 (G x) (h:=?_);refine tt 2 (.func (.func fk) #[] caps) (y:=λW' bm=>by have k1:=(A (xE.o _ bm).2.1).1;clear aE bm;go_simp) (h:=?_);refine tt 3 (G x) (h:=?_);refine tt 4 (h' (C'<|O (δ w.1+1+1) 0) N N) (y:=λW' bm=>by have k1:=(A (xE.o _ bm).2.2.2.1).1;clear aE bm;go_simp) (h:=?_);refine tt 5 (G x) (h:=?_);refine tt 6 (n'<|C'<|O (δ w.1+1+1)<|x*17) (h:=?_);refine tu 7 (k'<|θ<|aL old) (y:=yieldsIf_load_mid H _ _ rfl _ _ rfl _ _ (λW' bm=>au.o _ (xE.o _ bm).2.2.1) fX rfl H) (h:=?_);refine tt 8 (n'<|C'<|O w.1.size 1) (h:=?_);refine tt 9 (.func (.func yV) #[]<|bM db) (y:=λW' bm=>by have k1:=(A (xE.o _ bm).1).1;clear aE bm;go_simp) (h:=?_);refine tt 10 (h' (C'<|O (δ w.1+1+1) 0) N N) (y:=λW' bm=>by have k1:=(A (xE.o _ bm).2.2.2.1).1;clear aE bm;go_simp) (h:=?_);refine tt 11 (G x) (h:=?_);refine tt 12 (n'<|C'<|O (δ w.1+1+1)<|x*17) (h:=?_);refine tu 13 (k'<|θ<|aL old) (y:=yieldsIf_load_mid H _ _ rfl _ _ rfl _ _ (λW' bm=>au.o _ (xE.o _ bm).2.2.1) fX rfl H) (h:=?_);refine tu 14 (k'<|θ<|aL sa) (y:=yieldsIf_load_mid H _ _ rfl _ _ rfl _ _ (λW' bm=>bf (xE.o _ bm).2.2.2.2) fX rfl H) (h:=?_);refine rt 15 (h:=λK hK=>?_);refine abP (w':=F.drew.alloc<|j' (θ<|aU [old,sa]) bN) (h' (cA F.1.size) 2 2) H H ?_;refine hK.out _ _ (λ_=>aE.trans<|Ky.of aY) ?_;clear hK K;refine pt ?_;have HQ:J ((F.drew.alloc<|j' (θ<|aU [old,sa]) bN).1[δ F.1]?=C' (j' (θ<|aU [old,sa]) bN (0,0))/\Bl F (F.drew.alloc<|j' (θ<|aU [old,sa]) bN)):=⟨bj F.drew _,aq (aP _ _).drew<|cE F.drew _⟩;generalize F.drew.alloc (j' (θ<|aU [old,sa]) bN)=b at *;refine rt 16 (h:=λK hK=>?_);go_simp;refine bE (ir.o _ _ (aq T.o HQ.A) HQ.a) ?_;rintro e W3 ⟨rfl,Y⟩;have D:J (Bl F W3):=aq HQ.A Y;clear Y aE;refine hK.out _ _ (λ_=>Ky.of D.o) ?_;clear hK K;refine pt ?_;refine rt 17 (h:=λK hK=>?_);go_simp;refine bE (HC3.o _<|aq T.o D.o) ?_;rintro e W4 ⟨rfl,b,m⟩;have H4:=ſ<|M b<|(Ky.of (S:=S) D.o).trans m;clear b m;refine hK.out _ _ (λ_=>H4.A) ?_;clear hK K;refine pt ?_;refine rt 18 (h:=λK hK=>?_);go_simp;refine hK.out _ _ (λh=>absurd h aj) ?_;clear hK K;refine pt ?_;refine rt 19 (h:=λK hK=>?_);have b:=(xE.o _ H4.A).2.2.1;rw[aB H];refine wp_store_mid bN (.tmp 58) (.tmp 57) rfl (δ w.1+1+1) (x*17) (θ<|aL z) rfl rfl (lu b hxl) H (bn _) ?_;refine hK.out _ _ (λh=>absurd h aj) ?_;clear hK K;refine pt ?_;refine dt (h:=?_);have YH:Ky S W W4:=(Ky.of T.o).trans H4.A;generalize Qo:ψ W4 (δ w.1+1+1) (x*17) (aL z)=W5;have hk5:Ky (λk o=>S k o\/k=δ w.1+1+1\/k=ab) W W5:=by rw[<-Qo];refine tC (YH.mono λk _ h=>aI h) ?_ _ _;exact λ_ _=>aH<|aI rfl
   have YG:∀q,δ w.1<=q->q≠δ w.1+1+1->∀o,¬NF o->W.1[q]?=C' o->W5.1[q]?=C' o:=λq h1 h2 o R h=>by rw[<-Qo,dC _ _ _ _ _ h2];exact YH.box h<|E7.o q o h1 R
   have H5:=ſ<|M (show W5.1[δ w.1+1+1]?=C' (j' (θ<|aU<|hs.set x z) bN (0,0))by rw[<-Qo];exact x8 z (xE.o _ H4.A).2.2.1 hxl)<|M hk5<|M (H0.d.Oq _ _ W5 H4.a λk o e hk=>by rw[<-Qo,dC _ _ _ _ _ (λek=>by subst ek;have h2:=(xE.o _ H4.A).2.2.1;rw[e]at h2;cases h2;exact E7.o _ _ I (NQ aj) hk)];exact e)<|M (YG ab I I _ (NQ aj) HX.b)<|M (YG J? I I _ (NQ aj) Fe.f)<|M (YG g I I _ (NQ aj) Fe.e) (HX.c.keep (w':=W5) λo u h=>by rw[<-Qo];exact(bF<|dC _ _ _ _ _ I).trans<|YH.cell h H0.d.pk);have hrl:ζ (QY P)=N:=by rw[HN.o];exact p! _ _ _
   obtain⟨U,k1,_,_⟩:=iq H5.f (k:=x) (by rw[hrl];exact Uo);obtain⟨y1,y2⟩:=A H5.e;generalize(QY P).getD x (0,0)=rx at *;clear Qo hk5 YG YH hrl HC3 ir xE au r Ff D HU HQ my
   gi_wp2_with (refine⟨trivial,?_⟩;gi_at_call 211;refine(CallsIn.inRound l<|gw.2<|HAd.o _ _ H5.d).mono ?_;rintro e W6 ⟨⟨v,rfl⟩,b,r⟩;have H6:=ſ<|M b r;clear b r)
   have r:Ky (λk o=>S k o\/k=δ w.1+1+1\/k=ab) W W6:=H5.b.trans ((Ky.ofx H6.A).mono λk _ h=>aH<|aH h);refine⟨r.others ?_,nx s x old mK,hs.set x z,(e7 (eP wt<|cJ [x]) rx).1,(e7 (eP wt<|cJ [x]) rx).2,?_,pv,?_,H6.a,?_,aem.o,HX.d.step x I hxl mn.o HRd.a HRd.A⟩
   .rintro k o (h|h|h) hk
    .exact H0.d.cel s W k o HX.a.c h hk
    .subst h;rw[HX.a.held]at hk;cases hk;rfl
    subst h;rw[HX.b]at hk;cases hk;rfl
   .have:=nY<|e7 (eP wt<|cJ [x]) rx;have V:=aen.o;show mu (hs.set x z)*200+ζ (dj<|e7 (eP wt<|cJ [x]) rx)<mu hs*200+ζ (dj wt);omega
   .rw[ZK.o];refine E6.OE HX.a ed.o dd.o H0.d.low H0.d.tab r (H0.d.Oq _ _ _ H5.c λk o e hk=>?_) Qc<|H6.A.box H5.a I;exact H6.A.box e (λek=>by subst ek;have h2:=H5.d;rw[e]at h2;cases h2;exact E7.o _ _ I (NQ aj) hk)
   exact H5.F.keep λo u h=>H6.A.cell h I
 rintro D ⟨s,hs,wt⟩ W t ⟨h1,h2,h3⟩ hK;simp only at h1 h2 h3;rw[ZK.o]at h1;obtain⟨E,x2⟩:=A (HF.o W<|E6.fix h1).2.2.1;go_wp2_with fail;refine⟨ak,.inl ⟨_,_,rfl,run_takeDeferred hK,?_⟩⟩;have b:=grownBy_putObj' W D<|.deferred D';have hx:Kx (λk=>k=D) W (W.putObj D<|.deferred D'):=⟨b.os,b.tape,b.output,b.size,λk hk m=>b.block k hk λe=>m (by cases e;rfl)⟩;have h1':=E6.keep h1 ed.o dd.o H0.d.low H0.d.Oq Qc hx (λk e=>by subst e;right;omega) (λk o e ho=>by subst e;rw[hK]at ho;cases ho;rintro⟨c,f,h⟩;cases h)
 exact⟨h' (C'<|O (δ w.1+1+1) 0) N N,by simp[results138,results144,go_sem],s,hs,rfl,h1'.held,h1'.c,h1'.k,h2,h3⟩):p:=h
open KC in
def KC.uB(S:Nat->Obj->Prop)(C:σ->World->Prop)(rb db B fk pb:Nat)(P:Pm)(caps:Array Value)(pa:Option Addr)(pl pc:Nat)(w:World)(nx:σ->Nat->PE->PE->σ)(rz:σ->Nat->PE->PE->PE)(mu:List PE->Nat)(Inv:σ->List PE->BS->Prop)(s0:σ)
 (ah:∀W,Ky S w W->KC.mR W B rb P) (hd:w.heap[db]?=some (.cells #[.iface 328<|.agg #[]] 381 (0,0))) (cd:¬S db (.cells #[.iface 328<|.agg #[]] 381 (0,0))) (hO:cF P) (hc:mr P) (ho:kF P) (hx:ζ P.nx=ζ P.nd) (hP:KC.SnE P nx rz mu Inv s0) (hH:KC.ChE S C w P fk pb caps nx rz Inv) (Q8:∃v,PR P.nv PE.zero v/\dZ 5 P.nv v) (hT:kU w) (hpk:jQ w pb<|.slice pa pl pc) (cc:C s0 w):
 Cl 138 #[KC.dw rb db<|ζ P.nd,.slice pa pl pc,.func (.func fk) #[] caps] w λe w'=>∃s hs,e=.returned (.slice (some<|O (δ w.heap+1+1) 0) (ζ P.nd)<|ζ P.nd)/\w'.heap[δ w.heap+1+1]?=some (.cells (θ<|KC.aU hs) 228 (0,0))/\C s w'/\Ky S w w'/\Inv s hs (0,0)/\KC.um P hs (0,0):=by exact ŏ
open KB in
def KB.uB(S:Nat->Obj->Prop)(C:σ->World->Prop)(rb db B fk pb:Nat)(P:Pm)(caps:Array Value)(pa:Option Addr)(pl pc:Nat)(w:World)(nx:σ->Nat->PE->PE->σ)(rz:σ->Nat->PE->PE->PE)(mu:List PE->Nat)(Inv:σ->List PE->BS->Prop)(s0:σ)
 (ah:∀W,Ky S w W->KB.mR W B rb P) (hd:w.heap[db]?=some (.cells #[.iface 331<|.agg #[]] 386 (0,0))) (cd:¬S db (.cells #[.iface 331<|.agg #[]] 386 (0,0))) (hO:cF P) (hc:mr P) (ho:kF P) (hx:ζ P.nx=ζ P.nd) (hP:KB.SnE P nx rz mu Inv s0) (hH:KB.ChE S C w P fk pb caps nx rz Inv) (Q8:∃v,PR P.nv PE.zero v/\dZ 6 P.nv v) (hT:kU w) (hpk:jQ w pb<|.slice pa pl pc) (cc:C s0 w):
 Cl 144 #[KB.dw rb db<|ζ P.nd,.slice pa pl pc,.func (.func fk) #[] caps] w λe w'=>∃s hs,e=.returned (.slice (some<|O (δ w.heap+1+1) 0) (ζ P.nd)<|ζ P.nd)/\w'.heap[δ w.heap+1+1]?=some (.cells (θ<|KB.aU hs) 250 (0,0))/\C s w'/\Ky S w w'/\Inv s hs (0,0)/\KB.um P hs (0,0):=by exact ŏ
end
