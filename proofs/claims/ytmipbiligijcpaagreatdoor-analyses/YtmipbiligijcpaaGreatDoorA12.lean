import Derived.Test.YtmipbiligijcpaaGreatDoorA06
import Derived.Test.YtmipbiligijcpaaGreatDoorA10
namespace Go.Proofs.YtmipbiligijcpaaGreatDoor
set_option linter.all false
set_option maxHeartbeats 0
set_option maxRecDepth 99999
open Go.RowKit Go.Shelf Go.Proofs Go.Maps Tryz List open List renaming length->ζ,toArray->θ open _root_.Array renaming size->δ open World renaming ownsRow->ρ,cell?->χ open Value renaming slice->g',bool->h',agg->j',string->k',pointer->m',tuple->o' open Obj renaming cells->i' open Ending renaming returned->n' open Option renaming some->z',none->A' open Bool renaming true->N',false->O'
variable {i n:Nat}{p:Prop}{w:p'}
section
variable {W a:p'}{X:Nat->Prop}{B e size m f:Nat}{v:y'}{D:List y'}{L:Array y'}
structure NE where
  fa:t'
  fc:Nat
  fs:List Nat
  ra:t'
  rc:Nat
  rs:List Int
abbrev NE.fv(e:NE):y':=g' e.fa (ζ e.fs) e.fc
abbrev NE.rv(e:NE):y':=g' e.ra (ζ e.rs) e.rc
def MF:NE:=⟨A',0,[],A',0,[]⟩
def ME(e:NE):List y':=[e.fv,e.rv,h' O',G 0,g' A' 0 0]
def jm(l:List NE):List y':=l.flatMap ME
def sV:∀(l:List NE)(k:Nat)(e:NE)(j:Nat),l[k]?=z' e->j<5->(jm l)[k*5+j]?=(ME e)[j]?
 |[],k,e,j,h,_=>by simp at h
 |a::q,0,e,j,h,hj=>by simp at h;subst h;simp only[jm,bW,e6,bH];rw[gI<|by simp[ME];omega]
 |a::q,k+1,e,j,h,hj=>by have B:=sV q k e j (H' h) hj;simp only[jm,bW]at B|-;rw[eB<|by simp[ME];omega,<-B];congr 1;simp[ME];omega
def uI:∀(l:List NE)(k:Nat)(e L:NE)(j:Nat)(v:y'),l[k]?=z' e->j<5->ME L=(ME e).set j v->(jm l).set (k*5+j) v=jm (l.set k L)
 |[],k,e,L,j,v,h,_,_=>by simp at h
 |a::q,0,e,L,j,v,h,f,he=>by simp at h;subst h;simp only[jm,dm,bW,e6,bH];rw[xI _ _<|by simp[ME];omega,he]
 |a::q,k+1,e,L,j,v,h,f,he=>by have B:=uI q k e L j v (H' h) f he;simp only[jm,cO,bW]at B|-;rw[lY _ _<|by simp[ME];omega,<-B];congr 2;simp[ME];omega
def tg:(Tryz.prog.info? 96).map (λi=>(i.zero,i.size,i.bytes))=z' (z'<|j' r?,5,88):=M
def Xr:(Tryz.prog.info? 272).map (λi=>(i.zero,i.size,i.bytes))=z' (z'<|j'<|Array.replicate 68<|G 0,68,544):=M
def XU(n:Nat):(replicate n [g' A' 0 0,g' A' 0 0,h' O',G 0,g' A' 0 0]).flatten=jm (replicate n MF):=by exact TU
def Ua(n:Nat):(replicate n (Array.replicate 68<|G 0).toList).flatten=sF (replicate n<|replicate 68 0):=by
 induction n with
 |zero=>rfl
 |succ n B=>rw[gM,oj,B,gM];simp only[sF,bW];congr 1
structure zU(W:p')(B:Nat)(e:NE):Prop where
  f:ρ W B 3 1 e.fv (ζ e.fs) (e.fs.map GG)
  r:ρ W B 3 1 e.rv (ζ e.rs) (e.rs.map G)
def Sw{t:Nat}(h:ρ W B e size v n D)(i:Kx X W a)(f:∀k,X k->k=m\/δ W.1<=k)(b:W.1[m]?=z' (cU L t))(l:e≠t):ρ a B e size v n D:=by
 refine⟨h.1,?_⟩;rcases h.2 with a|⟨g,c,Y,C,e,N,d⟩
 .exact aP a
 refine aR ⟨g,c,Y,C,e,i.box N λF=>?_,d⟩;rcases f g F with V|V
 .subst V;rw[N]at b;simp at b;exact l b.2
 have:=blt N;omega
def zU.kx{d:p'}{e:NE}(h:zU W B e)(a:Kx X W d)(c:∀k,X k->k=m\/δ W.1<=k)(b:W.1[m]?=z' (i' L 96 (0,0))):zU d B e:=
 ⟨Sw h.f a c b aj,Sw h.r a c b aj⟩
def uJ(e:NE):Nd:=⟨e.fs.map Int.ofNat,e.rs,O',0,[]⟩
def uL{c:Nat}{a:t'}{D:List Int}(h:ρ W B 3 1 (g' a n c) n<|D.map G):bK W a D/\(a=A'->c=0):=by
 rcases h.2 with⟨R,D⟩|⟨g,a,Y,R,_⟩
 .simp at R;have C:=h.1;refine⟨λj x f=>?_,λ_=>R.2.2⟩;rw[D]at C;simp at C;subst C;simp at f
 simp at R;obtain⟨rfl,rfl⟩:=R;refine⟨λj x f=>⟨g,0,rfl,?_⟩,λe=>by cases e⟩;have:=h.cells (g:=g) rfl j (G x) (by rw[a!,f];rfl);rwa[dY]at this
def O9{l:List NE}(b:W.1[m]?=z' (i' (θ<|jm l) 96 (0,0)))(c:∀e∈l,zU W B e):cw W (z'<|O m 0) (l.map uJ):=by
 intro j n f;rw[a!]at f;cases a:l[j]? with
 |none=>rw[a]at f;cases f
 |some e=>
  rw[a]at f;simp at f;subst f;have C:=c e<|aO a;have T:∀k,k<5->χ W (O m<|0+j*5+k)=(ME e)[k]?:=λk c=>by rw[(A b).1,cL,bH,sV l j e k a c]
  have Y:e.fs.map GG=(e.fs.map Int.ofNat).map G:=by rw[fS];rfl
  have a:=uL (by have:=C.f;rwa[Y]at this);have N:=uL C.r;refine⟨m,0,e.fa,e.ra,A',e.fc,e.rc,0,rfl,?_,T 1 I,T 2 I,T 3 I,T 4 I,⟨a.1,N.1,λj v h=>by simp[uJ]at h,a.2,N.2,λ_=>rfl⟩⟩;have:=T 0 I;simpa[ME,uJ]using this
def jG(B:Nat)(w:p')(nb:Nat)(ns:List Nd):Prop:=∀W:p',(∀k,B<=k->k<δ w.1->W.1[k]?=w.1[k]?)->cw W (z'<|O nb 0) ns
def Sy(h:ρ W B e size v n D)(b:f<=B)(b:∀k,f<=k->k<δ W.1->a.1[k]?=W.1[k]?):ρ a B e size v n D:=
 ⟨h.1,h.2.imp id λ⟨g,a,Y,C,c,N,d⟩=>⟨g,a,Y,C,c,(b g I<|blt N).trans N,d⟩⟩
def O?{l:List NE}(c:W.1[m]?=z' (i' (θ<|jm l) 96 (0,0)))(b:∀e∈l,zU W B e)(v:f<=B)(K:f<=m):jG f W m (l.map uJ):=λ_ a=>
 O9 ((a m K<|blt c).trans c) λe l=>⟨Sy (b e l).f v a,Sy (b e l).r v a⟩
def jG.at{w:p'}{v:List Nd}(h:jG B w m v):cw w (z'<|O m 0) v:=h w λ_ _ _=>rfl
end
abbrev DK:=x'×x'×x'×Int×Int
def mr(m:RN):Option DK:=if (m.does.toList==[61])&&(m.ops==2)&&!(decide (m.a.var<0)&&decide (m.b.var<0)) then z' (m.a.word,m.sign,m.b.word,m.a.var,m.b.var) else A'
def eX(d:DK):List y':=[k' d.1,k' d.2.1,k' d.2.2.1,G d.2.2.2.1,G d.2.2.2.2]
def dk0:DK:=(emp,emp,emp,0,0)
def dkV(d:Option DK):y':=j'<|θ<|eX<|d.getD dk0
def Rm(h:p:=by
 subst e;go_enter func183,ntmps183;go_wp2_with fail
 refine aE (v:=o' #[dkV A',h' O']) (by simp[results183,go_sem,dkV,eX,dk0,emp]) rfl ⟨rfl,dH⟩):p:=h
def ZX(h:p:=by
 subst e;go_enter func183,ntmps183;go_wp2_with fail
 refine aE (v:=o' #[dkV<|z' (y,i,c,f,D),h' N']) (by simp[results183,go_sem,dkV,eX]) rfl ⟨rfl,dH⟩):p:=h
def OC(P:y')(m:RN)(w:p'):
  Cl 183 #[j'<|aI P m] w (Rb w<|o' #[dkV<|mr m,h' (mr m).isSome]):=by
 obtain⟨d,Q⟩:=Ea<|mr m;rw[<-Q];have B:=hid Q;clear Q;obtain⟨a,S,a,h,x,j,i,g⟩:=m;obtain⟨f,b,y⟩:=h;obtain⟨D,X,c⟩:=x;simp only[aI];cases C:(S.toList==[61])
 .have e:d=A':=by rw[B.o];simp[mr,C]
  exact Rm
 cases b:(j !=2);rotate_left
 .have a:(j==2)=O':=by simpa[bne]using b
  have e:d=A':=by rw[B.o];simp only[mr,C,a];rfl
  exact Rm
 have a:(j==2)=N':=by simpa[bne]using b
 cases N:decide (f<0)
 .have e:d=z' (y,i,c,f,D):=by rw[B.o];simp only[mr,C,a,N];rfl
  exact ZX
 cases b:decide (D<0)
 .have e:d=z' (y,i,c,f,D):=by rw[B.o];simp only[mr,C,a,N,b];rfl
  exact ZX
 have e:d=A':=by rw[B.o];simp only[mr,C,a,N,b];rfl
 exact Rm
section
variable {s:x'}
def sL(h:nN [] [] (BJ s)=A'):iD s=.Qj:=by rw[iD,h];split<;>rfl
def PS.Xe{w W b:p'}{k:Nat}{Q:y'}{E:List bI}{a:Option Nat}{V:List PN}{D:List RC}(h:PS w s k Q E a V D W)(Y:RF w.1.size a W b):Bl w b:=by exact afT
def Q5 {p:Prop} (h:p:=by
 go_wp2_with fail;refine(Jt (s.extract fr k) _ tx).mono ?_;rintro e F ⟨v,rfl,rI,hb2⟩;have p:J (PS w s k (g' T nl nc) E vb V D F):=Q.o.below hb2;have u2:∀q,vb=z' q->q<δ wr.1:=λq hq=>(Q.o.rp.Ex q hq).2;have hwz:δ w.1<δ wr.1:=Q.o.rp.lt;have Qb:J (∀q,vb=z' q->q<δ wr.1):=u2;clear u2;obtain⟨R,EC⟩:∃R,Ia (s.extract fr k)=R:=⟨_,rfl⟩;have K:wb R:=EC▸Ja _ tx;have uR:∀y∈R,0<y.size:=by rw[<-EC];exact λy B=>(xY _ y B).2
 rw[EC]at rI l;clear EC
 match R,K,uR,l,rI with
 |[],K,uR,l,rI=>obtain⟨a,c,rfl⟩:=aV rI;go_wp2_with fail;exact⟨⟨k+1,k+1,T,nl,nc,E,vb,V,D,Bn,I,I,e',e',⟨l.a,l.A⟩,p.o.next⟩,by simp[intOf];omega⟩
 |w0::r,K,uR,l,rI=>
  obtain⟨h,cap,hv,hA,i,wg,TS⟩:=G6 rI;subst hv;have b:J (Ws F h 0<|w0::r):=TS;have hw0:=uR w0 ak;have hw3:=K.word w0 ak;have hc0:=TS.cell 0 w0 rfl;rw[e!]at hc0;have Vy:=Jq w0 r hw0;clear uR TS;have hl0:(((ζ r+1:Nat):Int)==0)=false:=by rw[dB];omega
  have XE:(0:Int)<((ζ r+1:Nat):Int):=I;cases u6:((w0[0].toNat:Int)==35)with
  |true=>rw[u6]at Vy;have C:J (kZ (w0::r)=true):=Vy;clear Vy;go_wp2_with fail;exact⟨⟨k+1,k+1,T,nl,nc,E,vb,V,D,Bn,I,I,e',e',⟨l.a,by rw[l.A,nN,C.o];rfl⟩,p.o.next⟩,by simp[intOf];omega⟩
  |false=>
   rw[u6]at Vy;have C:J (kZ (w0::r)=false):=Vy;clear Vy;have sq:=UH w0 hw0;cases u4:((w0[w0.size-1].toNat:Int)==58)with
   |true=>
    rw[u4]at sq;have Y:J (rO w0=true):=sq;clear sq;have u3:(w0.extract 0<|w0.size-1).size<=3000:=by rw[IC];omega
    have s8:J (jw w0=w0.extract 0 (w0.size-1)):=Ta w0 hw0 Y.o;have AM:=wg;unfold maxLen at AM
    match r,K,l,rI,i,b,C,hl0,XE with
    | [],K,l,rI,i,b,C,hl0,XE=>
     clear rI;go_wp2_with fail;refine(ku u3).mono ?_;rintro e F ⟨rfl,rfl⟩;cases j:Wm.nm (w0.extract 0<|w0.size-1)with
     |false=>have YM:J (iD s=Pr.Qj):=sL (by rw[l.A];exact yr C.o (Gp Y.o<|by rw[s8.o];exact j));go_wp2_with fail;go_ret2;refine⟨p.o.low,?_⟩;rw[YM.o];exact rfl
     |true=>
      have YM:J (iD s=Pr.Qj):=sL (by rw[l.A];exact yr C.o ((Gn Y.o<|by rw[s8.o];exact j).no rfl));go_wp2_with fail
      all_goals
       refine(Z8 w.1.size (δ w.1+1) _ _ (g' T nl nc) (g' A' 0 0) E vb _ p.o.rp).mono ?_;rintro e o ⟨m,X,S,t,rfl,d,XO,u,TG⟩;cases t with
       |true=>exact absurd d.o (by simp[gq])
       |false=>have pd:J (Bl w o):=p.o.Xe u;simp only[aI];clear XO u TG;go_wp2_with fail;go_ret2;refine⟨pd.o.alloc pd.o.size _,?_⟩;rw[YM.o];exact rfl
    |x::g,K,l,rI,i,b,C,hl0,XE=>
     clear rI;have i4:¬cap=1:=by simp at i;omega
     go_wp2_with fail;refine(ku u3).mono ?_;rintro e F ⟨rfl,rfl⟩;cases j:Wm.nm (w0.extract 0<|w0.size-1)with
     |false=>have YM:J (iD s=Pr.Qj):=sL (by rw[l.A];exact yr C.o (Gp Y.o<|by rw[s8.o];exact j));go_wp2_with fail;go_ret2;refine⟨p.o.low,?_⟩;rw[YM.o];exact rfl
     |true=>
      have f:J (py E (w0::x::g) (x::g) (w0.extract 0<|w0.size-1) 1):=s8.o▸Gn Y.o (by rw[s8.o];exact j);go_wp2_with fail;have sf:some h≠vb:=λe=>by have:=Qb.o h e.symm;omega
      have ue:δ w.1+1<=δ F.1:=by have:=p.o.rp.lt;omega
      refine(L9 w.1.size (δ w.1+1) h 1 (cap-1) (g' T nl nc) (g' A' 0 0) E vb (x::g) F K.tail (by have:=p.o.Je;omega) ue I p.o.rp b.o.tail sf).mono ?_;rintro e o ⟨m,X,S,t,rfl,d,XO,u,TG⟩;cases t with
      |false=>have YM:J (iD s=Pr.Qj):=sL (by rw[l.A];exact yr C.o<|f.o.no<|by simpa using d.o);have pd:J (Bl w o):=p.o.Xe u;simp only[aI];clear XO u TG;go_wp2_with fail;go_ret2;refine⟨pd.o.alloc pd.o.size _,?_⟩;rw[YM.o];exact rfl
      |true=>
       have P:J (gq E (x::g)=z' (m,S)):=by show _=_;simpa using d.o
       have HY:J (ζ S<=3*(k+1)):=by have h1:=Dx E<|w0::x::g;rw[(f.o.yes m S P.o).2.2.2.1]at h1;have:=p.o.Je;show _<=_;omega
       have Vo:J (PS w s (k+1) (g' T nl nc) S X V D o):=p.o.call XO u TG HY.o;have lW:J (Ws o h 1<|x::g):=(b.o.tail).rf p.o.rp sf u;have u0:J (some h≠X):=TG.ne b.o.lt sf;have xz:ζ D<=k:=p.o.UJ;obtain⟨vv,uS,Vx,z⟩:=Vo.o.rp.box;have hx1:=A uS;have hBz:δ w.1<δ o.1:=Vo.o.rp.lt;have At:δ w.1≠δ o.1:=I;have AD:δ o.1≠δ w.1:=I;have HH:=hid<|Cf (g' (z'<|O h 1) (ζ g+1)<|cap-1) {m with bB:=w0.extract 0 (w0.size-1)} rfl Vo.o;have TJ:ζ D+1<=maxLen:=by unfold maxLen;omega
       have GU:(ζ D+1)*168<=140737488355328:=I;clear XO u TG uS Vx z;simp only[aI]at HH|-;go_wp2_with fail
       go_region_law (refine E7 rfl (.tmp 86) (.tmp 88) 105 rfl (δ w.1+1) 111 i0 _ 13 168 underlying105 HI.a HI.b HI.c HI.C rfl aj (g' T nl nc) (ζ D) (sA D) (by simp[Act.eval,Act.put]) HH.a (O (δ o.1+1) 0) 1 1 _ (by simp[Act.eval,Act.put]) rfl HH.b HH.c TJ GU HH.C ?_;intro v4 W4 U W;have sr:=o8 W;clear W;obtain⟨a4,c4,rfl⟩:=aV U;obtain⟨we,Iq⟩:=Vo.o.kept sr;have x41:=A Iq)
       all_goals
        go_wp2_with fail;have N:=Md (wa:=z'<|O h 1) (wl:=(ζ g+1)) (wc:=(cap-1)) f.o P.o;refine⟨⟨k+1,k+1,a4,ζ D+1,c4,S,X,V++[Sm E<|w0::x::g],D++[⟨{m with bB:=w0.extract 0 (w0.size-1)},z'<|O h 1,(ζ g+1),(cap-1)⟩],Bn,I,I,e',e',⟨l.a,by rw[l.A,Me C.o f.o P.o]⟩,?_⟩,by simp[intOf];omega⟩;exact PS.add (Vo.o.below ((aQ.alloc aK _).alloc ak _)) sr (by rw[bg,Bc];exact U) ⟨N.1,⟨h,1,rfl,by rw[N.2];exact(lW.o.alloc _).alloc _⟩,by rw[N.2];rfl⟩ (λa ha=>by cases ha;exact u0.o) I
   |false=>
    rw[u4]at sq;have Y:J (rO w0=false):=sq;clear sq;have f:J (py E (w0::r) (w0::r) emp 0):=Ke Y.o;go_wp2_with fail;have sf:some h≠vb:=λe=>by have:=Qb.o h e.symm;omega
    have ue:δ w.1+1<=δ F.1:=by have:=p.o.rp.lt;omega
    refine(L9 w.1.size (δ w.1+1) h 0 cap (g' T nl nc) (g' A' 0 0) E vb (w0::r) F K (by have:=p.o.Je;omega) ue I p.o.rp b.o sf).mono ?_;rintro e o ⟨m,X,S,t,rfl,d,XO,u,TG⟩;cases t with
    |false=>have YM:J (iD s=Pr.Qj):=sL (by rw[l.A];exact yr C.o<|f.o.no<|by simpa using d.o);have pd:J (Bl w o):=p.o.Xe u;simp only[aI];clear XO u TG;go_wp2_with fail;go_ret2;refine⟨pd.o.alloc pd.o.size _,?_⟩;rw[YM.o];exact rfl
    |true=>
     have P:J (gq E (w0::r)=z' (m,S)):=by show _=_;simpa using d.o
     have HY:J (ζ S<=3*(k+1)):=by have h1:=Dx E<|w0::r;rw[(f.o.yes m S P.o).2.2.2.1]at h1;have:=p.o.Je;show _<=_;omega
     have Vo:J (PS w s (k+1) (g' T nl nc) S X V D o):=p.o.call XO u TG HY.o;have lW:J (Ws o h 0<|w0::r):=(b.o).rf p.o.rp sf u;have u0:J (some h≠X):=TG.ne b.o.lt sf;have xz:ζ D<=k:=p.o.UJ;obtain⟨vv,uS,Vx,z⟩:=Vo.o.rp.box;have hx1:=A uS;have hBz:δ w.1<δ o.1:=Vo.o.rp.lt;have At:δ w.1≠δ o.1:=I;have AD:δ o.1≠δ w.1:=I;have HH:=hid<|Cf (g' (z'<|O h 0) (ζ r+1) cap) {m with bB:=emp} rfl Vo.o;have TJ:ζ D+1<=maxLen:=by unfold maxLen;omega
     have GU:(ζ D+1)*168<=140737488355328:=I;clear XO u TG uS Vx z;simp only[aI]at HH|-;go_wp2_with fail
     go_region_law (refine E7 rfl (.tmp 86) (.tmp 88) 105 rfl (δ w.1+1) 111 i0 _ 13 168 underlying105 HI.a HI.b HI.c HI.C rfl aj (g' T nl nc) (ζ D) (sA D) (by simp[Act.eval,Act.put]) HH.a (O (δ o.1+1) 0) 1 1 _ (by simp[Act.eval,Act.put]) rfl HH.b HH.c TJ GU HH.C ?_;intro v4 W4 U W;have sr:=o8 W;clear W;obtain⟨a4,c4,rfl⟩:=aV U;obtain⟨we,Iq⟩:=Vo.o.kept sr;have x41:=A Iq)
     all_goals
      go_wp2_with fail;have N:=Md (wa:=z'<|O h 0) (wl:=(ζ r+1)) (wc:=cap) f.o P.o;refine⟨⟨k+1,k+1,a4,ζ D+1,c4,S,X,V++[Sm E<|w0::r],D++[⟨{m with bB:=emp},z'<|O h 0,(ζ r+1),cap⟩],Bn,I,I,e',e',⟨l.a,by rw[l.A,Me C.o f.o P.o]⟩,?_⟩,by simp[intOf];omega⟩
      exact PS.add (Vo.o.below ((aQ.alloc aK _).alloc ak _)) sr (by rw[bg,Bc];exact U) ⟨N.1,⟨h,0,rfl,by rw[N.2];exact(lW.o.alloc _).alloc _⟩,by rw[N.2];rfl⟩ (λa ha=>by cases ha;exact u0.o) I):p:=h
def JB(s:x')(w:p')(y:s.size<=3000):
  Cl 38 #[k' s] w (Vi w<|iD s):=by
 have N:decide (3000<(s.size:Int))=O':=by rw[e9];omega
 obtain⟨i0,S,D,P,a⟩:=cI acr;have HI:J (Tryz.prog.info? 111=z' i0/\i0.zero=z' (j' #[g' A' 0 0,k' ⟨#[]⟩,k' ⟨#[]⟩,G 0,G 0,G 0,k' ⟨#[]⟩,G 0,G 0,k' ⟨#[]⟩,G 0,k' ⟨#[]⟩,k' ⟨#[]⟩])/\i0.size=13/\i0.bytes=168):=⟨S,D,P,a⟩;clear S D P a;go_enter func38,ntmps38;go_wp2_with fail;go_loopw[5,6] (λf i wr=>∃(k fr:Nat)(T:t')(nl nc:Nat)(E:List bI)(vb:Option Nat)(V:List PN)(D:List RC)(q:List x'),k<=s.size+1/\fr<=k/\i=G k/\f=G fr/\J (tQ s k fr q/\nN [] [] (BJ s)=nN E V (q.map Ia))/\J (PS w s k (g' T nl nc) E vb V D wr)) (λ_ i _=>s.size+1-(intOf i).toNat)
 case atStart=>
  refine⟨0,0,A',0,0,[],A',[],[],MQ s,I,I,rfl,rfl,⟨Kt s,rfl⟩,?_⟩;refine⟨⟨⟨g' A' 0 0,cv,dj,rfl⟩,Ll⟩,dj,⟨rfl,λj c p h=>by simp at h⟩,ak,aQ.alloc aK _,ak,ak⟩
 obtain⟨k,fr,T,nl,nc,E,vb,V,D,q,a,r,rfl,rfl,a,Q⟩:=hrel;by_cases R:k<=s.size;rotate_left
 .obtain rfl:k=s.size+1:=I;have j:¬((s.size+1:Nat):Int)<=(s.size:Int):=I;have b:decide (((s.size+1:Nat):Int)<=(s.size:Int))=O':=dp j;have b:q=[]:=by have:=a.a;unfold tQ at this;rw[aA I]at this;exact this
  subst b;have t:J (nN [] [] (BJ s)=z' (V,E)):=by show _=_;rw[a.A];rfl
  obtain⟨vv,uS,Vx,z⟩:=Q.o.rp.box;obtain⟨f,x,rfl⟩:=aV Vx;have l:=Q.o.row;have L:=Q.o.Ah.len;by_cases v:ζ D=0\/60<ζ D\/8<ζ E
  .have K:J (iD s=Pr.prg):=Ms y t.o (by unfold ia;rw[<-L];rcases v with h|h|h<;>simp<;>omega);obtain⟨b,b,b⟩:=aV l;simp only[Value.slice.injEq]at b;obtain⟨rfl,rfl,rfl⟩:=b;have d:=hid<|Pe w.1.size T f A' (ζ D) nc (ζ E) x 0 0 wr uS v;clear uS Vx z l v;go_wp2_with fail;refine bP d.o ?_;rintro e C ⟨rfl,rfl⟩;go_wp2_with fail;go_ret2;refine⟨Q.o.low,?_⟩;rw[K.o];exact rfl
  obtain⟨g,u,b,d,p⟩:=Fh l I;simp only[Value.slice.injEq]at b;obtain⟨rfl,rfl,rfl⟩:=b;have b:=hid<|Kc w.1.size g nc (ζ E) x f D wr uS p I I I;have o:J (ia V E=Qk D):=by show _=_;unfold ia;rw[Gl Q.o.Ah.rel I,<-L];have h1:decide (ζ E<=8)=N':=eC I;have f:decide (0<ζ D)=N':=eC I;have N:decide (ζ D<=60)=N':=eC I;rw[h1,f,N];rfl
  have U:J (0<ζ D):=by show 0<ζ D;omega
  clear uS Vx z l v p;go_wp2_with fail;refine bP b.o ?_;rintro e C ⟨rfl,f,b⟩;have i:J (Bl w C):=Q.o.Xe b.MA;cases g:Qk D with
  |false=>have K:J (iD s=Pr.prg):=Ms y t.o (by rw[o.o,g]);clear f;go_wp2_with fail;go_ret2;refine⟨i.o,?_⟩;rw[K.o];exact rfl
  |true=>have K:J (iD s=Pr.ok V E):=WH y t.o (by rw[o.o,g]);obtain⟨y,l,C⟩:=f g;have l:=hid<|Sr Q.o d U.o g C b i.o;clear f C b;go_wp2_with fail;go_ret2;rw[K.o];exact l.o
 have j:(k:Int)<=(s.size:Int):=I;by_cases b:∃h:k<s.size,((s[k].toNat:Int)==10)=O'
 .obtain⟨L,d⟩:=b;have jy:(k:Int)<(s.size:Int):=I;have Ad:((s[k].toNat:Int) !=10)=N':=by simp only[bne,d];rfl
  have B:J (tQ s (k+1) fr q):=Tn s k fr q L r d a.a;go_wp2_with fail;exact⟨⟨k+1,fr,T,nl,nc,E,vb,V,D,q,I,I,e',rfl,⟨B.o,a.A⟩,Q.o.next⟩,by simp[intOf];omega⟩
 have u7:∀h:k<s.size,((s[k].toNat:Int)==10)=N':=by
  intro h;cases e:((s[k].toNat:Int)==10)with
  |true=>rfl
  |false=>exact absurd ⟨h,e⟩ b
 obtain⟨Bn,d,b⟩:=Tm s k fr q R r u7 a.a;have l:J (tQ s (k+1) (k+1) Bn/\nN [] [] (BJ s)=nN E V (Ia (s.extract fr k)::Bn.map Ia)):=⟨b,by rw[a.A,d];rfl⟩;have a:(fr:Int)<=k:=I;clear d b;by_cases a:k=s.size
 .have jy:¬(k:Int)<(s.size:Int):=I;have b:decide ((k:Int)<(s.size:Int))=O':=dp jy;have tx:(s.extract fr k).size<=3000:=by rw[IC];omega
  clear a;exact Q5
 have L:k<s.size:=I;have jy:(k:Int)<(s.size:Int):=I;have Ad:((s[k].toNat:Int) !=10)=O':=by simp only[bne,u7 L];rfl
 have tx:(s.extract fr k).size<=3000:=by rw[IC];omega
 exact Q5
def q!(s:x')(w:p'):Cl 38 #[k' s] w (Vi w<|iD s):=by
 by_cases h:3000<s.size
 .have e:iD s=Pr.Qj:=by rw[iD,aD h]
  rw[e];refine(Fj s w<|by rw[bM];omega).mono ?_;rintro L a ⟨rfl,rfl⟩;exact⟨aQ,rfl⟩
 exact JB s w I
end
section
variable {b:p'}{D:List RC}
def QY(m:RN)(v:Int):Bool:=(decide (0<m.ops)&&m.a.var==v)||(decide (1<m.ops)&&m.b.var==v)
def E2{p:Prop}(h:p:=by
 subst e;go_enter func185,ntmps185;go_wp2_with fail;go_ret
 exact⟨rfl,bA⟩):p:=h
def Oq(P:y')(m:RN)(v:Int)(w:p'):
  Cl 185 #[j'<|aI P m,G v] w (Rb w<|h'<|QY m v):=by
 obtain⟨d,Q⟩:=Ea<|QY m v;rw[<-Q];have B:=hid Q;clear Q;obtain⟨a,S,a,⟨f,b,y⟩,⟨D,X,c⟩,a,b,g⟩:=m;simp only[aI];cases C:decide (0<a)
 .cases b:decide (1<a)
  .have e:d=O':=by rw[B.o];simp only[QY,C,b];rfl
   exact E2
  have e:d=(D==v):=by rw[B.o];simp only[QY,C,b,vi,eN,ko]
  exact E2
 cases N:(f==v);rotate_left
 .have e:d=N':=by rw[B.o];simp only[QY,C,N,eN,Bool.true_or]
  exact E2
 cases b:decide (1<a)
 .have e:d=O':=by rw[B.o];simp only[QY,C,b,N];rfl
  exact E2
 have e:d=(D==v):=by rw[B.o];simp only[QY,C,b,N,AL,eN,ko]
 exact E2
structure DP(w:p')(pb:Nat)(cl:List RC)(nx:List<|List Nat)(nv:Nat):Prop where
  box:∃g cap va vc xb xc,w.1[pb]?=z' (i' #[g' (z'<|O g 0) (ζ cl) cap,g' va nv vc,g' (z'<|O xb 0) (ζ cl) xc] 107 (0,0))/\mW w g cap cl/\∀(j:Nat)(l:List Nat),nx[j]?=z' l->∃ea ec,χ w (O xb j)=z' (bk ea (ζ l) ec)/\bK w ea (l.map Int.ofNat)
  len:ζ nx=ζ cl
def mW.below{g a:Nat}(h:mW w g a D)(c:Bl w b):mW b g a D:=by obtain⟨Y,C,a⟩:=h;exact⟨Y,(c.block _ (bq.1 C).1).trans C,a⟩
def DP.below{N Q:Nat}{v:List (List Nat)}(h:DP w N D v Q)(a:Bl w b):DP b N D v Q:=by obtain⟨g,b,z,x,u,q,C,c,N⟩:=h.box;refine⟨⟨g,b,z,x,u,q,(a.block _ (bq.1 C).1).trans C,c.below a,λj l f=>?_⟩,h.len⟩;obtain⟨b,B,c,i⟩:=N j l f;exact⟨b,B,aB c a,i.below a⟩
end
section
variable {v:List (List Nat)}{l:List Nat}
def aat{p:Prop}(h:p:=by
 split
 .rw[B,bU,fW,show j+1+ζ r=j+(ζ r+1)by omega]
 rw[B,bU,show j+1+ζ r=j+(ζ r+1)by omega]):p:=h
def BQ(n t:Nat):∀(D:List Nat)(j:Nat),fm n j (D++[t])=fm n j D++(if t=n then[j+ζ D] else[])
 |[],j=>by simp[fm]
 |x::r,j=>by have B:=BQ n t r<|j+1;simp only[fW,fm];exact aat
def zj(n:Nat)(l:List Nat):∀(D:List<|List Nat)(j:Nat),dD n j (D++[l])=dD n j D++(fm n 0 l).map (λk=>(j+ζ D,k))
 |[],j=>by simp[dD]
 |x::r,j=>by simp only[fW,dD];rw[zj n l r<|j+1,fK,bU,show j+1+ζ r=j+(ζ r+1)by omega]
def uO(n:Nat):∀(D:List Nat)(j:Nat),ζ (fm n j D)<=ζ D
 |[],j=>by simp[fm]
 |x::r,j=>by have:=uO n r<|j+1;simp only[fm];split<;>simp<;>omega
def uP(n:Nat):∀(D:List<|List Nat)(j:Nat),(∀l∈D,ζ l<=2)->ζ (dD n j D)<=2*ζ D
 |[],j,_=>by simp[dD]
 |x::r,j,h=>by have C:=uP n r (j+1) (λl X=>h l<|by simp[X]);have a:=uO n x 0;have N:=h x ak;simp only[dD,bg,b9,bU];omega
def BP{w:p'}{B:Nat}{a:t'}{c:Nat}{D:List Int}(h:ρ w B 3 1 (g' a n c) (ζ D)<|D.map G):bK w a D:=by
 intro j x f;have r:=(aX.1 f).1;rcases h.2 with⟨_,e⟩|⟨g,a,Y,R,_⟩
 .omega
 simp at R;obtain⟨rfl,rfl,rfl⟩:=R;have:=h.cells (g:=g) rfl j (G x) (by simp[f]);rw[dY]at this;exact⟨g,0,rfl,this⟩
def k9(n:Nat)(nx:List<|List Nat)(i k:Nat):List Nat:=(dD n 0<|nx.take i).map Prod.fst++(fm n 0 ((nx.getD i []).take k)).map (λ_=>i)
def sQ{k t:Nat}(S:v[i]?=z' l)(a:l[k]?=z' t):k9 n v i (k+1)=k9 n v i k++(if t=n then[i] else[]):=by
 have X:=(aX.1 a).1;have e:v.getD i []=l:=by rw[getD,S];rfl
 unfold k9;rw[e,ep X,(aX.1 a).2,BQ,fq,fK];congr 2;split<;>simp
def abM(S:v[i]?=z' l):k9 n v i (ζ l)=k9 n v (i+1) 0:=by
 have X:=(aX.1 S).1;have e:v.getD i []=l:=by rw[getD,S];rfl
 unfold k9;rw[e,jj,ep X,(aX.1 S).2,zj,fq,Lj];simp[fm,jk,n?<|mE X]
def vx(N:Nat)(p:Int)(n:Nat)(D:List RC)(v:List<|List Nat)(Q:Nat)(w:p')(h:DP w N D v Q)(T:ζ D<=60)(d:∀l∈v,ζ l<=2)(W:(p==2)=O')(a:(p==4)=O')(K:n<100):
  Cl 118 #[m'<|z'<|O N 0,G p,G n] w λe b=>∃a c,e=n' (g' a (ζ ((dD n 0 v).map Prod.fst)) c)/\bK b a (((dD n 0 v).map Prod.fst).map Int.ofNat)/\Bl w b:=by
 obtain⟨N,S,a,P,b⟩:=cI lJ;have p:J (_/\_/\_/\_):=⟨S,a,P,b⟩;clear S a P b;obtain⟨g,a,z,x,u,q,a,b,F⟩:=h.box;have L:=h.len;have s:=hid<|Aa a<|Aa F<|Aa d h;clear a b F h d;go_enter func118,ntmps118;go_wp2_with fail;go_loopw[7,8] (λb y wr=>∃(i:Nat)(j:t')(r:Nat),i<=ζ D/\y=G i/\b=g' j (ζ<|k9 n v i 0) r/\J (ρ wr w.1.size 3 1 (g' j (ζ<|k9 n v i 0) r) (ζ<|k9 n v i 0) ((k9 n v i 0).map λ(x:Nat)=>G x)/\Bl w wr)) (λ_ y _=>ζ D-(intOf y).toNat)
 case atStart=>exact⟨0,A',0,bm,rfl,rfl,by simp[k9,dD,fm];exact dj,aQ⟩
 obtain⟨i,j,r,S,rfl,rfl,g⟩:=hrel;have E:=A ((g.A.block _ (bq.1 s.a).1).trans s.a);by_cases L:i<ζ D;rotate_left
 .have d:i=ζ D:=I;have a:¬((i:Int)<(ζ D:Int)):=I;go_wp2_with fail;have U:k9 n v i 0=(dD n 0 v).map Prod.fst:=by rw[k9,c! I,Lj];simp[fm]
  subst d;rw[U]at g;refine aE (v:=g' j (ζ<|k9 n v (ζ D) 0) r) (by simp[results118,go_sem]) rfl ?_;rw[U];simp only[b9];exact⟨j,⟨r,rfl⟩,BP (by have Y:=g.a;simp at Y|-;exact Y),g.A⟩
 have a:(i:Int)<(ζ D:Int):=I;obtain⟨l,X⟩:=La (l:=v) (i:=i) I;have a:=s.c l<|aO X;have f:=hid X;clear X;go_wp2_with fail;go_loopw[7,9] (λb a wr=>∃(k:Nat)(j:t')(r:Nat),k<=ζ l/\a=G k/\b=g' j (ζ<|k9 n v i k) r/\J (ρ wr w.1.size 3 1 (g' j (ζ<|k9 n v i k) r) (ζ<|k9 n v i k) ((k9 n v i k).map λ(x:Nat)=>G x)/\Bl w wr)) (λ_ a _=>ζ l-(intOf a).toNat)
 case atStart=>exact⟨0,j,r,bm,rfl,rfl,g⟩
 clear E;obtain⟨k,j,r,a,rfl,rfl,g⟩:=hrel;have E:=A ((g.A.block _ (bq.1 s.a).1).trans s.a);obtain⟨a,B,V,u⟩:=s.b i l f.o;have a:=aB V g.A;have a:=hid u;clear V u;by_cases d:k<ζ l;rotate_left
 .have q:k=ζ l:=I;have R:¬((k:Int)<(ζ l:Int)):=I;go_wp2_with fail;go_roundw
  case rel=>
   subst q;rw[abM f.o]at g|-;exact⟨i+1,j,r,L,e',rfl,g⟩
  exact F'
 have R:(k:Int)<(ζ l:Int):=I;obtain⟨t,U⟩:=La d;obtain⟨b,o,rfl,c⟩:=bK.below a.o g.A k (t:Int) (by simp[U]);have b:=hid U;clear U;have a:ζ (k9 n v i k)<=200:=by have:=uP n (v.take i) 0 λl X=>s.c l<|xi X;have:=uO n ((v.getD i []).take k) 0;simp only[k9,bg,b9,jk]at *;omega
 cases a:((t:Int)==(n:Int))
 .go_wp2_with fail;go_roundw
  case rel=>exact⟨k+1,j,r,d,e',by rw[sQ f.o b.o,aA (by simp at a;omega),iE],by rw[sQ f.o b.o,aA (by simp at a;omega),iE];exact g.o⟩
  exact F'
 have c:=g.a;have V:=hid g.a;go_wp2_with (at_builtin;(refine fz rfl _ _ 36 rfl w.1.size 3 N (G 0) 1 8 underlying36 p.a p.b p.c p.C rfl aj (g' j (ζ<|k9 n v i k) r) (ζ<|k9 n v i k) ((k9 n v i k).map λ(x:Nat)=>G x) rfl (World.ownsRow.alloc V.o _) (O wr.1.size 0) 1 1 [G i] rfl rfl lT (by intro u C;simp at C;subst C;rfl) (by simp only[maxLen];omega) I (by have:=g.A.size;simp;omega) ?_);intro U l c F _;obtain⟨i,h,rfl⟩:=aV c;have W:=hid<|Aa c F;clear c F E);go_roundw
 case rel=>
  refine⟨k+1,i,h,d,e',?_,?_,?_⟩
  .rw[sQ f.o b.o,aD (by simp at a;omega),bg,e4]
  .rw[sQ f.o b.o,aD (by simp at a;omega),bg,e4,fq];exact W.a
  exact(g.A.alloc g.A.size _).grown W.A (by have:=g.A.size;simp;omega) λq e=>(World.ownsRow.lt V.o q e).1
 exact F'
end
section
variable {l:List DK}{a:t'}
def Pa(d:DK)(l:List DK):Bool:=l.all λx=>decide (x≠d)
def MB(d:DK)(l:List DK):Pa d l=N'↔d∉l:=by simp only[Pa,bV,bM];exact⟨λh Q=>h d Q rfl,λh x F e=>h<|e▸F⟩
def Gc{d x:DK}{k:Nat}(h:l[k]?=z' x):Pa d (l.take<|k+1)=(Pa d (l.take k)&&decide (x≠d)):=by have X:=(aX.1 h).1;rw[ep X,(aX.1 h).2];simp[Pa]
def lM(l:List DK):List y':=l.flatMap eX
def KS(l:List DK)(x:DK):lM (l++[x])=lM l++eX x:=by simp[lM]
def Hc:∀(l:List DK)(k:Nat)(x:DK),l[k]?=z' x->∀j u,(eX x)[j]?=z' u->(lM l)[k*5+j]?=z' u
 |[],k,x,h,j,u,hu=>by simp at h
 |y::r,0,x,h,j,u,hu=>by simp at h;subst h;have f:=(aX.1 hu).1;rw[show lM (y::r)=eX y++lM r by simp[lM],e6,bH,gI<|by simpa[eX]using f];exact hu
 |y::r,k+1,x,h,j,u,hu=>by rw[show lM (y::r)=eX y++lM r by simp[lM],show(k+1)*5+j=5+(k*5+j)by omega,eB<|by simp[eX]];simp only[eX,bU,eY,bH];rw[show 5+(k*5+j)-(1+1+1+1+1)=k*5+j by omega];exact Hc r k x (H' h) j u hu
def qz(a b:x'):a=b↔a.toList=b.toList:=⟨λh=>by rw[h],λh=>data_inj (by rw[eM,eM]at h;exact h)⟩
def AH(w:p')(a:t')(l:List DK):Prop:=∀(j:Nat)(x:DK),l[j]?=z' x->∃b o,a=z' (O b o)/\∀i u,(eX x)[i]?=z' u->χ w (O b<|o+j*5+i)=z' u
def AH.below{b:p'}(h:AH w a l)(c:Bl w b):AH b a l:=by intro j x f;obtain⟨b,o,e,T⟩:=h j x f;exact⟨b,o,e,λi u C=>aB (T i u C) c⟩
def AH.own{B n c:Nat}(h:ρ w B 301 5 (g' a n c) n<|lM l)(K:ζ l=n):AH w a l:=by
 intro j x f;have r:=(aX.1 f).1;rcases h.2 with⟨_,e⟩|⟨g,a,Y,R,_⟩
 .omega
 simp at R;obtain⟨rfl,rfl⟩:=R;refine⟨g,0,rfl,λi u C=>?_⟩;have:=h.cells (g:=g) rfl (j*5+i) u (Hc l j x f i u C);rw[dY]at this;rw[iH];exact this
def nR(cl:List RC)(i:Nat):List DK:=zv ((cl.take i).map λc=>mr c.n)
def Ul{D:List RC}{i:Nat}{c:RC}(h:D[i]?=z' c):nR D (i+1)=eH (nR D i) (mr c.n):=by have X:=(aX.1 h).1;rw[nR,zv,ep X,(aX.1 h).2,fq,xh];rfl
def DY(D:List RC)(i:Nat):ζ (nR D i)<=ζ D:=by have:=Ng ((D.take i).map λc=>mr c.n);simp only[b9,jk]at this;unfold nR;omega
def acv:(Tryz.prog.info? 301).map (λi=>(i.zero,i.size,i.bytes))=z' (z'<|j' #[k' emp,k' emp,k' emp,G 0,G 0],5,64):=M
def Mc(P:y')(m:RN)(w:p'):
  Cl 183 #[j'<|aI P m] w λe a=>∃(U b S:x')(c R:Int)(t:Bool),e=n' (o' #[j'<|xU U b S c R,h' t])/\J (mr m=if t then z' (U,b,S,c,R) else A')/\Bl w a:=by
 refine(OC P m w).mono ?_;rintro e a ⟨rfl,a⟩;cases Q:mr m with
 |none=>exact⟨_,_,_,_,_,O',rfl,rfl,a⟩
 |some d=>exact⟨_,_,_,_,_,N',rfl,rfl,a⟩
def yn(N:Nat)(D:List RC)(v:List<|List Nat)(Q:Nat)(w:p')(h:DP w N D v Q)(T:ζ D<=60):
  Cl 116 (cB N) w λe b=>∃a c,e=n' (g' a (ζ<|nR D<|ζ D) c)/\AH b a (nR D<|ζ D)/\Bl w b:=by
 obtain⟨i0,S,a,P,b⟩:=cI acv;have HI:J (_/\_/\_/\_):=⟨S,a,P,b⟩;clear S a P b;obtain⟨g,a,z,x,u,q,a,b,F⟩:=h.box;have s:=hid<|Aa a<|Aa b h;clear a b F h;go_enter func116,ntmps116;go_wp2_with fail;go_loopw[3,4] (λa y wr=>∃(i n:Nat)(oa:t')(r:Nat),i<=ζ D/\y=G i/\a=g' oa n r/\n<=60/\J (n=ζ (nR D i))/\J (ρ wr w.1.size 301 5 (g' oa n r) n (lM<|nR D i)/\Bl w wr)) (λ_ y _=>ζ D-(intOf y).toNat)
 case atStart=>exact⟨0,0,A',0,bm,rfl,rfl,I,rfl,dj,aQ⟩
 obtain⟨i,n,oa,r,S,rfl,rfl,PA,K,x⟩:=hrel;have E:=A ((x.A.block _ (bq.1 s.a).1).trans s.a);by_cases L:i<ζ D;rotate_left
 .have d:i=ζ D:=I;have a:¬((i:Int)<(ζ D:Int)):=I;go_wp2_with fail;subst d;refine aE (v:=g' oa n r) (by simp[results116,go_sem]) rfl ?_;exact⟨oa,⟨r,by rw[K.o]⟩,AH.own x.a K.o.symm,x.A⟩
 have a:(i:Int)<(ζ D:Int):=I;obtain⟨X,b⟩:=La (l:=D) (i:=i) I;have Y:=(s.b.below x.A).cells i X b;have v:=Y 0 I;have z:=Y 1 I;have F:=Y 2 I;have j:=Y 3 I;have L:=Y 4 I;have y:=Y 5 I;have q:=Y 6 I;have o:=Y 7 I;have k:=Y 8 I;have a:=Y 9 I;have C:=Y 10 I;have p:=Y 11 I;have u:=Y 12 I;simp only[aI,cL,getElem?_cons_zero,q?,e!]at v z F j L y q o k a C p u;have f:=hid b;clear b Y;go_wp2_with (go_at_call 183;refine(Mc X.wv X.n _).mono ?_;rintro e d ⟨U,c,S,s,R,t,rfl,X,(b:J _)⟩);generalize g:(d.alloc<|i' (xU U c S s R) 301)=V;have B:J (Bl wr V/\b' V d.1.size (xU U c S s R) 301/\δ w.1<=δ d.1):=by subst g;exact⟨b.o.alloc b.o.size _,cv,by have:=b.o.size;have:=x.A.size;omega⟩
 clear g E v z F j L y q o k a C p u;generalize δ d.1=a at B;go_loopw[6,7] (λb j q=>∃(k:Nat),k<=n/\j=G k/\b=h' (t&&Pa (U,c,S,s,R) ((nR D i).take k))/\J (Bl V q)) (λ_ j _=>n-(intOf j).toNat)
 case atStart=>exact⟨0,bm,rfl,by simp[Pa],aQ⟩
 obtain⟨k,b,rfl,rfl,E⟩:=hrel
 rename p'=>q
 have y:J (b' q a (xU U c S s R) 301):=(E.o.block _ (bq.1 B.b).1).trans B.b;by_cases a:k<n
 .have j:(k:Int)<n:=I;obtain⟨⟨g,l,u,W,v⟩,Q⟩:∃d,(nR D i)[k]?=z' d:=⟨_,bj<|I' K.o⟩;obtain⟨b,o,rfl,Y⟩:=((AH.own x.a K.o.symm).below<|aq B.a E.o) k _ Q;have T:=Y 0 _ rfl;have a:=Y 1 _ rfl;have p:=Y 2 _ rfl;have a:=Y 3 _ rfl;have P:=Y 4 _ rfl;simp only[e!]at T;have a:=hid Q;clear Y Q;have p:=A y.o;cases o:(t&&Pa (U,c,S,s,R) ((nR D i).take k))
  .go_wp2_with fail
   go_region
   go_wp2_with fail;go_roundw
   case rel=>exact⟨k+1,I,e',by rw[Gc a.o,<-uj,o];rfl,E.o.drew⟩
   exact F'
  have d:g.toList≠U.toList\/(g.toList=U.toList/\l.toList≠c.toList)\/(g.toList=U.toList/\l.toList=c.toList/\u.toList≠S.toList)\/(g.toList=U.toList/\l.toList=c.toList/\u.toList=S.toList/\W≠s)\/(g.toList=U.toList/\l.toList=c.toList/\u.toList=S.toList/\W=s/\v≠R)\/(g.toList=U.toList/\l.toList=c.toList/\u.toList=S.toList/\W=s/\v=R):=by by_cases N:g.toList=U.toList<;>by_cases F:l.toList=c.toList<;>by_cases b:u.toList=S.toList<;>by_cases C:W=s<;>by_cases z:v=R<;>simp[N,F,b,C,z]
  have z:(t&&Pa (U,c,S,s,R) ((nR D i).take<|k+1))=decide ((g,l,u,W,v)≠(U,c,S,s,R)):=by rw[Gc a.o,<-uj,o,eN]
  rcases d with C|⟨C,a⟩|⟨C,a,N⟩|⟨C,a,N,d⟩|⟨C,a,N,d,l⟩|⟨C,a,N,d,l⟩
  all_goals
   go_wp2_with fail
   go_region
   go_wp2_with fail;go_roundw
   case rel=>
    refine⟨k+1,I,e',?_,E.o.drew⟩;rw[z];congr 1;simp[qz, *]
   exact F'
 have a:k=n:=I;have j:¬((k:Int)<n):=I
 subst a;have a:(nR D i).take k=nR D i:=c!<|I' K.o;rw[a];have v:J (nR D (i+1)=if t&&Pa (U,c,S,s,R) (nR D i) then nR D i++[(U,c,S,s,R)] else nR D i):=by
  show _=_;rw[Ul f.o,X.o];cases t with
  |false=>rfl
  |true=>
   simp only[dQ,eH,eN];by_cases d:(U,c,S,s,R)∈nR D i
   .rw[aD d,aA<|by rw[MB];exact λh=>h d]
   rw[aA d,aD ((MB _ _).2 d)]
 have gW:J (Bl wr q):=aq B.a E.o;have a:J (ρ q w.1.size 301 5 (g' oa k r) k<|lM<|nR D i):=aZ x.a gW.o;have p:=A y.o;cases o:(t&&Pa (U,c,S,s,R) (nR D i))
 .go_wp2_with fail;go_roundw
  case rel=>exact⟨i+1,k,oa,r,I,e',rfl,PA,by rw[v.o,o];exact K,by rw[v.o,o];exact⟨a.o,aq x.A gW.o⟩⟩
  exact F'
 have b:=gW.o.size;have b:=x.A.size;have b:=DY D<|i+1;rw[v.o,o,aD rfl,bg,e4,<-K.o]at b;have b:J (∀(j:Nat)(u:y'),(eX (U,c,S,s,R))[j]?=z' u->χ (q.alloc<|i' (xU U c S s R) 301) (((O q.1.size 0):Addr).add j)=z' u):=by intro j u f;rw[dY,bH,Lq];simpa[eX]using f
 go_wp2_with (at_builtin;refine fz rfl _ _ 203 rfl w.1.size 301 i0 _ 5 64 underlying203 HI.a HI.b HI.c HI.C rfl aj (g' oa k r) k (lM<|nR D i) rfl (a.o.alloc _) (O q.1.size 0) 1 1 (eX (U,c,S,s,R)) rfl rfl b.o (by intro u C;simp[eX]at C;rcases C with rfl|rfl|rfl|rfl|rfl<;>rfl) (by simp only[maxLen];omega) I G' ?_;intro U l b F _;obtain⟨d,c,rfl⟩:=aV b;have W:=hid<|Aa b F;clear b F p);go_roundw
 case rel=>
  refine⟨i+1,k+1,d,c,I,e',rfl,I,?_,?_,?_⟩
  .show k+1=_;rw[v.o,o,aD rfl,bg,e4,<-K.o]
  .rw[v.o,o,aD rfl,KS];exact W.a
  exact((aq x.A gW.o).alloc I _).grown W.A G' λq e=>(World.ownsRow.lt a.o q e).1
 exact F'
end
section
variable {D:List RC}{k:Nat}{c:RC}
def mW.zR{w:p'}{g a:Nat}(h:mW w g a D)(a:D[k]?=z' c):
  χ w (O g<|k*13)=z' c.wv/\χ w (O g<|k*13+1)=z' (k' c.n.bB)/\χ w (O g<|k*13+2)=z' (k' c.n.does)/\χ w (O g<|k*13+3)=z' (G c.n.target) /\
  χ w (O g<|k*13+4)=z' (G c.n.a.var)/\χ w (O g<|k*13+5)=z' (G c.n.a.c)/\χ w (O g<|k*13+6)=z' (k' c.n.a.word)/\χ w (O g<|k*13+7)=z' (G c.n.b.var) /\
  χ w (O g<|k*13+8)=z' (G c.n.b.c)/\χ w (O g<|k*13+9)=z' (k' c.n.b.word)/\χ w (O g<|k*13+10)=z' (G c.n.ops)/\χ w (O g<|k*13+11)=z' (k' c.n.sign)/\χ w (O g<|k*13+12)=z' (k' c.n.bD):=by
 have T:=h.cells k c a;exact⟨T 0 I,T 1 I,T 2 I,T 3 I,T 4 I,T 5 I,T 6 I,T 7 I,T 8 I,T 9 I,T 10 I,T 11 I,T 12 I⟩
def kI:Nat->List RC->List Nat
 |_,[]=>[]
 |j,c::r=>if 0<=c.n.target then j::kI (j+1) r else kI (j+1) r
def B7(c:RC):∀(D:List RC)(j:Nat),kI j (D++[c])=kI j D++(if 0<=c.n.target then[j+ζ D] else[])
 |[],j=>by simp[kI]
 |x::r,j=>by have B:=B7 c r<|j+1;simp only[fW,kI];exact aat
def jz(h:D[i]?=z' c):kI 0 (D.take<|i+1)=kI 0 (D.take i)++(if 0<=c.n.target then[i] else[]):=by have X:=(aX.1 h).1;rw[ep X,(aX.1 h).2,B7,jk,n?<|mE X,bH]
def He(D:List RC):∀(d i:Nat),kI 0 (D.take i) <+: kI 0 (D.take<|i+d)
 |0,i=>iG
 |d+1,i=>by
  refine(He D d i).trans ?_;by_cases h:i+d<ζ D
  .rw[<-iH,jz<|bj h];exact Qz _ _
  rw[<-iH,c! I,c! I];exact iG
def Hf(D:List RC):∀(i:Nat),ζ (kI 0<|D.take i)<=i
 |0=>by simp[kI]
 |i+1=>by
  have B:=Hf D i;by_cases h:i<ζ D
  .rw[jz<|bj h];split<;>simp<;>omega
  rw[c! I];rw[c! I]at B;omega
def Yb(h:D[i]?=z' c)(U:0<=c.n.target)(a:k=ζ (kI 0<|D.take i)):(kI 0 D)[k]?=z' i:=by have X:=(aX.1 h).1;have C:=He D (ζ D-(i+1))<|i+1;rw[show i+1+(ζ D-(i+1))=ζ D by omega,jj,jz h,aD U]at C;obtain⟨r,b⟩:=C;rw[<-b,a,fK,eB aK];simp
def Ir(cl:List RC)(nv f:Nat):Int×Int:=if f<nv then((f:Int),-1) else match (kI 0 cl)[f-nv]? with|some i=>(match cl[i]? with|some c=>(c.n.target,(i:Int))|none=>(-1,-1))|none=>(-1,-1)
def nn(N f:Nat)(D:List RC)(v:List<|List Nat)(Q:Nat)(w:p')(h:DP w N D v Q)(T:ζ D<=60)(R:Q<=8)(Y:f<=1000):
  Cl 184 (mF N f) w (Rb w<|o' #[G (Ir D Q f).1,G (Ir D Q f).2]):=by
 obtain⟨g,a,z,x,u,q,a,b,F⟩:=h.box;have s:=hid<|Aa a<|Aa b h;clear b F h;have E:=A a;clear a;by_cases a:f<Q
 .have b:(f:Int)<Q:=I;have e:Ir D Q f=((f:Int),-1):=by rw[Ir,aD a]
  rw[e];go_enter func184,ntmps184;go_wp2_with fail;go_ret2;exact⟨rfl,aQ⟩
 have b:¬((f:Int)<Q):=I;go_enter func184,ntmps184;go_wp2_with fail;clear E;go_loopw[6,7] (λj y wr=>∃(i k:Nat),i<=ζ D/\y=G i/\k=Q+ζ (kI 0<|D.take i)/\k<=f/\j=G k/\J (Bl w wr)) (λ_ y _=>ζ D-(intOf y).toNat)
 case atStart=>exact⟨0,Q,bm,rfl,by simp[kI],I,rfl,aQ⟩
 obtain⟨i,k,S,rfl,h,c,rfl,g⟩:=hrel;have E:=A ((g.o.block _ (bq.1 s.a).1).trans s.a);by_cases L:i<ζ D;rotate_left
 .have d:i=ζ D:=I;have b:¬((i:Int)<(ζ D:Int)):=I;have e:Ir D Q f=(-1,-1):=by subst d;rw[jj]at h;rw[Ir,aA a,cq I]
  go_wp2_with fail;go_ret2;exact⟨by first|rfl|(rw[e];rfl)|simp[e],g.o⟩
 have b:(i:Int)<(ζ D:Int):=I;obtain⟨X,b⟩:=La (l:=D) (i:=i) I;obtain⟨-,-,-,d,-⟩:=(s.b.below g.o).zR b;have d:=hid b;clear b;by_cases U:X.n.target<0
 .go_wp2_with fail;go_roundw
  case rel=>exact⟨i+1,k,I,e',by rw[jz d.o,aA I,iE];exact h,c,rfl,g⟩
  exact F'
 have c:¬(X.n.target<0):=U;cases o:((k:Int)==(f:Int))
 .go_wp2_with fail;go_roundw
  case rel=>exact⟨i+1,k+1,I,e',by rw[jz d.o,aD I,bg,e4];omega,by simp at o;omega,e',g⟩
  exact F'
 have e:Ir D Q f=(X.n.target,(i:Int)):=by simp at o;rw[Ir,aA a,Yb d.o I (k:=f-Q) I];simp only[d.o]
 go_wp2_with fail;go_ret2;exact⟨by first|rfl|(rw[e];rfl)|simp[e],g.o⟩
def fcD(cl:List RC)(nv:Nat)(p:Int):Nat:=if p=1 then nv+ζ (kI 0 cl) else if p=2 then nv else(nR cl<|ζ cl).length
def ri(N:Nat)(p:Int)(D:List RC)(v:List<|List Nat)(Q:Nat)(w:p')(h:DP w N D v Q)(T:ζ D<=60)(R:Q<=8):
  Cl 74 (mF N p) w (Rb w<|G (fcD D Q p:Nat)):=by
 obtain⟨g,a,z,x,u,q,a,b,F⟩:=h.box;have s:=hid<|Aa a<|Aa b h;clear b F h;have E:=A a;clear a;by_cases Y:p=1;rotate_left
 .by_cases W:p=2
  .subst W;have e:fcD D Q 2=Q:=rfl;rw[e];go_enter func74,ntmps74;go_wp2_with fail;go_ret;exact⟨rfl,aQ⟩
  have e:fcD D Q p=ζ (nR D<|ζ D):=by rw[fcD,aA Y,aA W]
  rw[e];have a:(p==1)=O':=by simp[Y]
  have o:(p==2)=O':=by simp[W]
  have K:=DY D<|ζ D;go_enter func74,ntmps74;go_wp2_with (go_at_call 116;refine(yn N D v Q _ s.B T).mono ?_;rintro e t ⟨a,c,rfl,a,l⟩);go_ret;exact⟨rfl,l⟩
 subst Y;have e:fcD D Q 1=Q+ζ (kI 0 D):=rfl;rw[e];go_enter func74,ntmps74;go_wp2_with fail;clear E;go_loopw[5,6] (λj y wr=>∃(i k:Nat),i<=ζ D/\y=G i/\k=Q+ζ (kI 0<|D.take i)/\k<=100/\j=G k/\J (Bl w wr)) (λ_ y _=>ζ D-(intOf y).toNat)
 case atStart=>exact⟨0,Q,bm,rfl,by simp[kI],I,rfl,aQ⟩
 obtain⟨i,k,S,rfl,e,c,rfl,a⟩:=hrel;have E:=A ((a.o.block _ (bq.1 s.a).1).trans s.a);have b:=Hf D i;by_cases L:i<ζ D;rotate_left
 .have d:i=ζ D:=I;have b:¬((i:Int)<(ζ D:Int)):=I;subst d;rw[jj]at e;go_wp2_with fail;go_ret;exact⟨by show n' (G _)=_;simp,a.o⟩
 have b:(i:Int)<(ζ D:Int):=I;obtain⟨X,b⟩:=La (l:=D) (i:=i) I;obtain⟨-,-,-,d,-⟩:=(s.b.below a.o).zR b;have f:=hid b;clear b;by_cases U:0<=X.n.target
 .go_wp2_with fail;go_roundw
  case rel=>exact⟨i+1,k+1,I,e',by rw[jz f.o,aD U,bg,e4];omega,I,e',a⟩
  exact F'
 go_wp2_with fail;go_roundw
 case rel=>exact⟨i+1,k,I,e',by rw[jz f.o,aA U,iE];exact e,c,rfl,a⟩
 exact F'
end
def VC(m:RN)(y:DK):Bool:=match mr m with|some x=>decide (x=y)|none=>O'
def klD(m:RN)(y:DK):Bool:=decide (0<=m.target)&&(y.2.2.2.1==m.target||y.2.2.2.2==m.target)
theorem LW{p:Prop}(h:p:=by
 go_wp2_with fail
 go_region
 go_wp2_with fail;go_ret2
 exact⟨rfl,(aq B.o.1<|aq g.o.1 gW.o).drew⟩):p:=h
def uB(N i f:Nat)(D:List RC)(v:List<|List Nat)(Q:Nat)(w:p')(h:DP w N D v Q)(T:ζ D<=60)(X:RC)(y:DK)(S:D[i]?=z' X)(Y:(nR D<|ζ D)[f]?=z' y):
  Cl 186 #[m'<|z'<|O N 0,G i,G f] w (Rb w<|o' #[h'<|VC X.n y,h'<|klD X.n y]):=by
 obtain⟨g,a,z,x,u,q,b,c,F⟩:=h.box;have d:=(aX.1 S).1;have j:=(aX.1 Y).1;have K:=DY D<|ζ D;have a:(i:Int)<(ζ D:Int):=I;have a:(f:Int)<(ζ (nR D<|ζ D):Int):=I;have s:=hid<|Aa b<|Aa c<|Aa h<|Aa S Y;clear c F h b S Y;obtain⟨u,o⟩:=Ea<|klD X.n y;obtain⟨C,L⟩:=Ea<|VC X.n y;rw[<-o,<-L];have z:=hid<|Aa o L;clear o L;go_enter func186,ntmps186;go_upto_region 2 with(go_at_call 116;refine(yn N D v Q _ s.c T).mono ?_;rintro e t ⟨a,c,rfl,x,l⟩;have r:=hid<|Aa x l;clear l)
 have E:=A ((r.A.block _ (bq.1 s.a).1).trans s.a);have b:=(s.b.below r.A).zR s.d;go_upto_region 3 with(fail)
 generalize g:(t.alloc<|CK X.wa X.wl X.wc X.n.bB X.n.does X.n.target X.n.a.var X.n.a.c X.n.a.word X.n.b.var X.n.b.c X.n.b.word X.n.ops X.n.sign X.n.bD)=V;have B:J (Bl w V/\AH V a (nR D<|ζ D)/\b' V t.1.size #[g' X.wa X.wl X.wc,k' X.n.bB,k' X.n.does,G X.n.target,G X.n.a.var,G X.n.a.c,k' X.n.a.word,G X.n.b.var,G X.n.b.c,k' X.n.b.word,G X.n.ops,k' X.n.sign,k' X.n.bD] 111):=by subst g;exact⟨r.A.alloc r.A.size _,AH.below r.a<|aQ.alloc aK _,cv⟩
 clear g E b;generalize δ t.1=a at B;have E:=A B.B;go_upto_region 4 with(go_at_call 183;refine(Mc X.wv X.n _).mono ?_;rintro e F ⟨c,d,h,i,R,t,rfl,w,l⟩;have j:=hid l;clear l E)
 generalize a:(F.alloc<|i' (xU c d h i R) 301)=U;have g:J (Bl V U/\b' U F.1.size (xU c d h i R) 301):=by subst a;exact⟨j.o.alloc j.o.size _,cv⟩
 clear a;generalize δ F.1=a at g;obtain⟨S,j,l,W,k⟩:=y;obtain⟨b,o,rfl,Y⟩:=(B.b.below g.a) f _ s.D;have T:=Y 0 _ rfl;have Q:=Y 1 _ rfl;have p:=Y 2 _ rfl;have f:=Y 3 _ rfl;have P:=Y 4 _ rfl;simp only[e!]at T;have s:=A g.A;have r:=hid<|Aa f P;clear Y
 go_cut [12] from 23 to 37 (λv q=>v=h' C/\J (q=U\/q=U.drew))
 case first=>
  have a:C=if t then decide ((c,d,h,i,R)=(S,j,l,W,k)) else O':=by rw[z.A,VC,w.o];cases t<;>rfl
  cases t
  .subst a;go_wp2_with fail
   go_region
   go_wp2_with fail
   go_meet
   exact⟨rfl,aR rfl⟩
  have o:c.toList≠S.toList\/(c.toList=S.toList/\d.toList≠j.toList)\/(c.toList=S.toList/\d.toList=j.toList/\h.toList≠l.toList)\/(c.toList=S.toList/\d.toList=j.toList/\h.toList=l.toList/\i≠W)\/(c.toList=S.toList/\d.toList=j.toList/\h.toList=l.toList/\i=W/\R≠k)\/(c.toList=S.toList/\d.toList=j.toList/\h.toList=l.toList/\i=W/\R=k):=by by_cases N:c.toList=S.toList<;>by_cases c:d.toList=j.toList<;>by_cases b:h.toList=l.toList<;>by_cases C:i=W<;>by_cases t:R=k<;>simp[N,c,b,C,t]
  have b:=hid a;clear a;rcases o with C|⟨C,a⟩|⟨C,a,N⟩|⟨C,a,N,d⟩|⟨C,a,N,d,l⟩|⟨C,a,N,d,l⟩
  all_goals
   go_wp2_with fail
   go_region
   go_wp2_with fail
   go_meet
   refine⟨?_,aR rfl⟩;rw[b.o];congr 1;simp[qz, *]
 obtain⟨rfl,b⟩:=hcut;clear s T Q p f P
 rename p'=>q
 have p:Bl U q:=by
  rcases b.o with e|e
  .rw[e];exact aQ
  rw[e];exact aQ.drew
 have f:=aB r.a p;have P:=aB r.A p;have E:=A ((p.block _ (by have:=(bq.1 B.B).1;have:=g.a.size;omega)).trans ((g.a.block _ (bq.1 B.B).1).trans B.B));have gW:=hid p;have x:J (u=(decide (0<=X.n.target)&&(W==X.n.target||k==X.n.target))):=z.a;clear p;by_cases U:0<=X.n.target;rotate_left
 .obtain rfl:u=O':=by rw[x.o];simp[U]
  have hF:(0<=X.n.target)=False:=H' U;have R:decide (0<=X.n.target)=O':=H' U;exact LW
 cases C:(W==X.n.target);rotate_left
 .obtain rfl:u=N':=by rw[x.o,C];simp[U]
  exact LW
 cases a:(k==X.n.target)
 .obtain rfl:u=O':=by rw[x.o,C,a];simp
  exact LW
 obtain rfl:u=N':=by rw[x.o,C,a];simp[U]
 exact LW
def vy(N:Nat)(p:Int)(n:Nat)(D:List RC)(v:List<|List Nat)(Q:Nat)(w:p')(h:DP w N D v Q)(l:List Nat)(X:v[n]?=z' l)(T:ζ D<=60)(U:p=2\/p=4):
  Cl 118 #[m'<|z'<|O N 0,G p,G n] w λe b=>∃a c,e=n' (bk a (ζ l) c)/\bK b a (l.map Int.ofNat)/\Bl w b:=by
 obtain⟨g,a,z,x,u,q,a,d,F⟩:=h.box;have L:=h.len;obtain⟨b,B,V,u⟩:=F n l X;have k:=(aX.1 X).1;have c:(n:Int)<(ζ D:Int):=I;have E:=A a;have s:=hid u;clear d F h a X u;rcases U with rfl|rfl
 all_goals
  go_enter func118,ntmps118;go_wp2_with fail;refine aE (v:=g' b (ζ l) B) (by simp[results118,go_sem]) rfl ?_;exact⟨b,B,rfl,s.o,aQ⟩
def OD(m:RN):Bool:=m.does.toList==[114,101,116,117,114,110]
theorem Rl(h:p:=by
 rw[V];go_enter func117,ntmps117;go_wp2_with (go_at_call 184;refine(B.o _ s.o.2.2).mono ?_;rintro e t ⟨rfl,l⟩;have r:=hid l;clear l);go_ret
 exact⟨rfl,r.o⟩):p:=h
def aef(f n:Nat)(N:Nat)(D:List RC)(v:List<|List Nat)(Q:Nat)(w:p')(h:DP w N D v Q)(T:ζ D<=60)(R:Q<=8)(Y:f<=1000):
  Cl 117 #[m'<|z'<|O N 0,G 1,G f,G n,G (-1)] w (Rb w<|h' (decide (n=0)&&decide ((Ir D Q f).2<0))):=by
 obtain⟨g,a,z,x,u,q,a,c,F⟩:=h.box;have s:=hid<|Aa a<|Aa c h;have E:=A a;clear c F h a;obtain⟨d,a⟩:=Ea<|Ir D Q f;rw[<-a];have B:J (∀W,DP W N D v Q->Cl 184 (mF N f) W (Rb W<|o' #[G d.1,G d.2])):=by rw[a];exact λW j=>nn N f D v Q W j T R Y
 clear a;by_cases K:n=0;rotate_left
 .have V:(decide (n=0)&&decide (d.2<0))=O':=by simp[K]
  have u:((n:Int)==0)=O':=by simp;omega
  exact Rl
 subst K;by_cases P:d.2<0
 .have V:(decide ((0:Nat)=0)&&decide (d.2<0))=N':=by simp[P]
  exact Rl
 have V:(decide ((0:Nat)=0)&&decide (d.2<0))=O':=by simp[P]
 have hF:(d.2<0)=False:=H' P;exact Rl
def abb(f n m:Nat)(N:Nat)(D:List RC)(v:List<|List Nat)(Q:Nat)(w:p')(h:DP w N D v Q)(T:ζ D<=60)(R:Q<=8)(Y:f<=1000):
  Cl 117 #[m'<|z'<|O N 0,G 1,G f,G n,G m] w (Rb w<|h' ((Ir D Q f).2==(m:Int))):=by
 obtain⟨g,a,z,x,u,q,a,b,F⟩:=h.box;have s:=hid<|Aa a<|Aa b h;have E:=A a;clear b F h a;have hF:((m:Int)<0)=False:=ak;go_enter func117,ntmps117;go_wp2_with (go_at_call 184;refine(nn N f D v Q _ s.B T R Y).mono ?_;rintro e t ⟨rfl,l⟩;clear E;have E:=A ((l.block _ (bq.1 s.a).1).trans s.a);have r:=hid l;clear l);go_ret;exact⟨rfl,r.o⟩
def aee(f n:Nat)(b:Int)(N:Nat)(D:List RC)(v:List<|List Nat)(Q:Nat)(w:p')(h:DP w N D v Q)(T:ζ D<=60)(R:Q<=8)(X:RC)(K:D[n]?=z' X):
  Cl 117 #[m'<|z'<|O N 0,G 2,G f,G n,G b] w (Rb w<|h'<|QY X.n (f:Int)):=by
 obtain⟨g,a,z,x,u,q,a,b,F⟩:=h.box;have s:=hid<|Aa a<|Aa b h;have E:=A a;clear b F h a;have r:=s.b.zR K;have k:=(aX.1 K).1;have a:(n:Int)<(ζ D:Int):=I;clear K;go_enter func117,ntmps117;go_wp2_with (go_at_call 185;refine(Oq X.wv X.n (f:Int) _).mono ?_;rintro e t ⟨rfl,(r:J _)⟩);go_ret;exact⟨rfl,r.o⟩
def Rk(h:p:=by
 go_enter func117,ntmps117;go_wp2_with fail;go_ret
 exact⟨rfl,aQ⟩):p:=h
def aed(f n:Nat)(N:Nat)(D:List RC)(v:List<|List Nat)(Q:Nat)(w:p')(h:DP w N D v Q)(T:ζ D<=60)(R:Q<=8):
  Cl 117 #[m'<|z'<|O N 0,G 3,G f,G n,G (-1)] w (Rb w<|h' (decide (n=0))):=by
 obtain⟨g,a,z,x,u,q,a,b,F⟩:=h.box;have s:=hid<|Aa a<|Aa b h;have E:=A a;clear b F h a;by_cases K:n=0
 .subst K;exact Rk
 have V:decide (n=0)=O':=by simp[K]
 have u:((n:Int)==0)=O':=by simp;omega
 rw[V];exact Rk
def ZW(h:p:=by
 go_wp2_with (go_at_call 186;refine(uB N m f D v Q _ s.B T X y d B).mono ?_;rintro e t ⟨rfl,(r:J _)⟩);go_ret
 exact⟨rfl,r.o⟩):p:=h
def aa9(f n m:Nat)(N:Nat)(D:List RC)(v:List<|List Nat)(Q:Nat)(w:p')(h:DP w N D v Q)(T:ζ D<=60)(R:Q<=8)(X:RC)(y:DK)(d:D[m]?=z' X)(B:(nR D<|ζ D)[f]?=z' y):
  Cl 117 #[m'<|z'<|O N 0,G 3,G f,G n,G m] w (Rb w<|h'<|klD X.n y):=by
 obtain⟨g,a,z,x,u,q,a,b,F⟩:=h.box;have s:=hid<|Aa a<|Aa b h;have E:=A a;clear b F h a;have hF:((m:Int)<0)=False:=ak;go_enter func117,ntmps117;exact ZW
def aec(f n:Nat)(b:Int)(N:Nat)(D:List RC)(v:List<|List Nat)(l:Nat)(w:p')(h:DP w N D v l)(T:ζ D<=60)(R:l<=8)(X:RC)(y:DK)(c:D[n]?=z' X)(B:(nR D<|ζ D)[f]?=z' y):
  Cl 117 #[m'<|z'<|O N 0,G 4,G f,G n,G b] w (Rb w<|h'<|OD X.n||(klD X.n y&&!VC X.n y)):=by
 obtain⟨g,g,z,x,u,q,g,hr,F⟩:=h.box;have s:=hid<|Aa g<|Aa hr h;have E:=A g;clear hr F h g;have q:=hid c;have r:=s.b.zR c;have g:=(aX.1 c).1;have g:(n:Int)<(ζ D:Int):=I;clear c;obtain⟨c,o⟩:=Ea<|klD X.n y;obtain⟨g,L⟩:=Ea<|VC X.n y;obtain⟨rt,C⟩:=Ea<|OD X.n;have p:J (∀W,DP W N D v l->Cl 186 #[m'<|z'<|O N 0,G n,G f] W (Rb W<|o' #[h' g,h' c])):=by rw[o,L];exact λW hW=>uB N n f D v l W hW T X y q.o B
 rw[<-o,<-L,<-C];unfold OD at C;clear o L B;cases rt
 .have q:=C.symm;clear C;cases c
  all_goals
   go_enter func117,ntmps117;go_wp2_with (go_at_call 186;refine(p.o _ s.B).mono ?_;rintro e t ⟨rfl,(r:J _)⟩);go_ret;exact⟨rfl,r.o⟩
 have q:=C.symm;clear C;exact Rk
def abh(f n m:Nat)(N:Nat)(D:List RC)(v:List<|List Nat)(Q:Nat)(w:p')(h:DP w N D v Q)(T:ζ D<=60)(R:Q<=8)(Y:f<=1000)(X:RC)(K:D[m]?=z' X):
  Cl 119 #[m'<|z'<|O N 0,G 1,G f,G n,G m] w (Rb w<|h'<|X.n.target !=(Ir D Q f).1):=by
 obtain⟨g,a,z,x,u,q,a,b,F⟩:=h.box;have s:=hid<|Aa a<|Aa b h;have E:=A a;clear b F h a;have b:=hid K;have k:=(aX.1 K).1;have a:(m:Int)<(ζ D:Int):=I;clear K;go_enter func119,ntmps119;go_wp2_with (go_at_call 184;refine(nn N f D v Q _ s.B T R Y).mono ?_;rintro e t ⟨rfl,l⟩;clear E;have E:=A ((l.block _ (bq.1 s.a).1).trans s.a);obtain⟨-,-,-,i,-⟩:=(s.b.below l).zR b.o;have r:=hid l;clear l);go_ret;exact⟨rfl,r.o⟩
def abg(f n:Nat)(b:Int)(N:Nat)(D:List RC)(v:List<|List Nat)(Q:Nat)(w:p')(h:DP w N D v Q)(T:ζ D<=60)(R:Q<=8)(X:RC)(K:D[n]?=z' X):
  Cl 119 #[m'<|z'<|O N 0,G 2,G f,G n,G b] w (Rb w<|h'<|X.n.target !=(f:Int)):=by
 obtain⟨g,a,z,x,u,q,a,b,F⟩:=h.box;have s:=hid<|Aa a<|Aa b h;have E:=A a;clear b F h a;have r:=s.b.zR K;have k:=(aX.1 K).1;have a:(n:Int)<(ζ D:Int):=I;clear K;go_enter func119,ntmps119;go_wp2_with fail;go_ret;exact⟨rfl,aQ⟩
def abf(f n m:Nat)(N:Nat)(D:List RC)(v:List<|List Nat)(Q:Nat)(w:p')(h:DP w N D v Q)(T:ζ D<=60)(R:Q<=8)(X:RC)(y:DK)(d:D[m]?=z' X)(B:(nR D<|ζ D)[f]?=z' y):
  Cl 119 #[m'<|z'<|O N 0,G 3,G f,G n,G m] w (Rb w<|h' (!VC X.n y)):=by
 obtain⟨g,a,z,x,u,q,a,b,F⟩:=h.box;have s:=hid<|Aa a<|Aa b h;have E:=A a;clear b F h a;go_enter func119,ntmps119;exact ZW
def abe(f n:Nat)(b:Int)(N:Nat)(D:List RC)(v:List<|List Nat)(Q:Nat)(w:p')(h:DP w N D v Q)(T:ζ D<=60)(R:Q<=8)(X:RC)(y:DK)(d:D[n]?=z' X)(B:(nR D<|ζ D)[f]?=z' y):
  Cl 119 #[m'<|z'<|O N 0,G 4,G f,G n,G b] w (Rb w<|h' (!VC X.n y)):=by
 obtain⟨g,a,z,x,u,q,a,b,F⟩:=h.box;have s:=hid<|Aa a<|Aa b h;have E:=A a;clear b F h a;go_enter func119,ntmps119;go_wp2_with (go_at_call 186;refine(uB N n f D v Q _ s.B T X y d B).mono ?_;rintro e t ⟨rfl,(r:J _)⟩);go_ret;exact⟨rfl,r.o⟩
def UT(so:Bool)(k:Int)(vs:List VV)(a b:VV):EV:=if a.any||b.any||(so==(k==0)) then z' vs else A'
def adP {p:Prop} (h:p:=by
 have o:=hid<|KB.start w wv m va (ζ vs) vc;have B:=hid<|Aa hv qn;clear hv qn;obtain⟨b,b,b,⟨f,b,y⟩,⟨D,X,c⟩,ops,j,g⟩:=m
 first|(have _:=oX;simp only at hd ho BW ED hs ht|-)|(simp only at hd ho BW ED hs|-)
 subst hd;subst ho
 first|(have _:=oX;subst ht)|skip
 simp only[aI,b?]at o|-
 first|(have _:=oX;obtain⟨r,L⟩:∃r,r=P4 (j.toList==[47]) (jQ (Wm.tV j.1.1) (fR vs f b).lo (fR vs D X).lo) t vs (fR vs f b) (fR vs D X):=⟨_,rfl⟩)|(obtain⟨r,L⟩:∃r,r=UT (oC (Wm.uu j.1.1) (fR vs f b).lo (fR vs D X).lo) k vs (fR vs f b) (fR vs D X):=⟨_,rfl⟩)
 rw[<-L];have HE:=hid L;clear L;go_enter func181,ntmps181;go_upto_region 3 with(fail)
 generalize((w.alloc _).alloc _).alloc _=e at o|-;obtain⟨L,x⟩:=A o.o.b0;obtain⟨V,u⟩:=A o.o.b1;simp only[aI]at L;go_upto_region 4 with(go_at_call 248;refine(sD va vc (ζ vs) vs f b y _ (B.a.below o.o.low) rfl hl BW).mono ?_;clear L x V u;rintro e b ⟨za,rfl,f,l⟩;have R:=hid<|o.o.below l;clear l)
 have T:=hid<|R.o.box za;clear o R;generalize δ b.1=C at T|-;generalize b.alloc _=F at T|-;obtain⟨L,x⟩:=A T.o.kb.b0;obtain⟨V,u⟩:=A T.o.kb.b1;simp only[aI]at L;go_upto_region 7 with(go_at_call 248;refine(sD va vc (ζ vs) vs D X c _ (B.a.below T.o.kb.low) rfl hl ED).mono ?_;clear L x V u;rintro e o ⟨E,rfl,l,Y⟩;have b:=hid<|T.o.below Y;clear Y)
 have U:=hid<|Aa (b.o.kb.box E)<|b.o.below<|cf _<|i' (cD E.any E.lo E.hi) 138;clear T b;generalize δ o.1=b at U|-;generalize o.alloc _=b at U|-;obtain⟨L,x⟩:=A U.a.kb.b0;obtain⟨V,u⟩:=A U.a.kb.b1;obtain⟨r1,q⟩:=A U.a.kb.b2;obtain⟨N,Y⟩:=A U.A.bx;obtain⟨X,o⟩:=A U.a.bx;simp only[aI]at L;obtain⟨q0,R⟩:=U.a.kb.q (h' N')<|g' A' 0 0;obtain⟨F,q3⟩:=U.a.kb.q (h' O')<|bk va (ζ vs) vc
 first
  | (
    have _:=oX;obtain⟨c,T⟩:=Ea<|jQ (Wm.tV j.1.1) za.lo E.lo;have u9:J (∀W,Cl 56 #[k' j,G za.lo,G E.lo] W λe s=>e=n' (o' #[G c,h'<|wo (Wm.tV j.1.1) E.lo])/\s=W):=by rw[T];exact λW=>I? j za.lo E.lo W hs
    have v:J (r=P4 (j.toList==[47]) c t vs za E):=by show _=_;rw[HE.o,T,f.o,l.o]
    clear T HE)
  | (
    obtain⟨g,b⟩:=Ea<|oC (Wm.uu j.1.1) za.lo E.lo;have y:J (∀W,Cl 55 #[k' j,G za.lo,G E.lo] W λe s=>e=n' (h' g)/\s=W):=by rw[b];exact λW=>aaX j za.lo E.lo W hs
    have v:J (r=UT g k vs za E):=by show _=_;rw[HE.o,b,f.o,l.o]
    clear b;go_upto_region 9 with(go_at_call 55;refine(y.o _).mono ?_;rintro e C ⟨rfl,rfl⟩)
    clear HE)
 have HE:=v;clear v
 first|(have _:=oX;cases T:(j.toList==[47]))|(cases s:za.any)
 .first |(have _:=oX;cases s:za.any)|(cases f:E.any)
  rotate_left
  .first|(have _:=oX;go_wp2_with (go_at_call 247;refine(eT (ζ vs) va vc vs t N' 0 0 _ (B.a.below U.a.kb.low) B.A rfl hl uQ).mono ?_;clear L x V u r1 q N Y X o;rintro e C ⟨j,r,rfl,b,v,z⟩;have y:=hid<|Aa (U.a.kb.below z)<|Aa b v;obtain⟨r1,q⟩:=A y.a.b2;clear b v z);obtain⟨D,l⟩:=y.a.q (h' O')<|bk j (ζ vs) r;refine aE (v:=b? O' j (ζ vs) r) (by simp[results181,go_sem,D,l]) rfl (y.a.done y.b y.B (by rw[dh])<|by rw[HE.o];simp[P4,s,T,VV.dT]))|(go_wp2_with fail;refine aE (v:=b? O' va (ζ vs) vc) (by simp[results181,go_sem,F,q3]) rfl (U.a.kb.done (B.a.below U.a.kb.low) B.A rfl (by rw[HE.o];simp[UT,s,f])))
  first|(have _:=oX;cases f:E.any)|(cases W:(k==0))
  .first
     | (
       have _:=oX;go_upto_region 17 with(go_at_call 56;refine(u9.o _).mono ?_;rintro e W6 ⟨rfl,rfl⟩)
       go_wp2_with (go_at_call 247;refine(eT (ζ vs) va vc vs t O' c c _ (B.a.below U.a.kb.low) B.A rfl hl uQ).mono ?_;clear L x V u r1 q N Y X o;rintro e C ⟨j,r,rfl,b,v,z⟩;have y:=hid<|Aa (U.a.kb.below z)<|Aa b v;obtain⟨r1,q⟩:=A y.a.b2;clear b v z);obtain⟨D,l⟩:=y.a.q (h' O')<|bk j (ζ vs) r
       refine aE (v:=b? O' j (ζ vs) r) (by simp[results181,go_sem,D,l]) rfl (y.a.done y.b y.B (by rw[dh])<|by rw[HE.o];simp[P4,s,f,T,VV.one]))
     | (
       cases g
       .go_wp2_with fail;refine aE (v:=b? O' va (ζ vs) vc) (by simp[results181,go_sem,F,q3]) rfl (U.a.kb.done (B.a.below U.a.kb.low) B.A rfl (by rw[HE.o];simp[UT,s,f,W]))
       .go_wp2_with fail
        refine aE (v:=b? N' A' 0 0) (by simp[results181,go_sem,q0,R]) rfl (U.a.kb.no<|by rw[HE.o];simp[UT,s,f,W]))
  first
   |(
      have _:=oX;go_wp2_with (go_at_call 247;refine(eT (ζ vs) va vc vs t N' 0 0 _ (B.a.below U.a.kb.low) B.A rfl hl uQ).mono ?_;clear L x V u r1 q N Y X o;rintro e C ⟨j,r,rfl,b,v,z⟩;have y:=hid<|Aa (U.a.kb.below z)<|Aa b v;obtain⟨r1,q⟩:=A y.a.b2;clear b v z);obtain⟨D,l⟩:=y.a.q (h' O')<|bk j (ζ vs) r
      refine aE (v:=b? O' j (ζ vs) r) (by simp[results181,go_sem,D,l]) rfl (y.a.done y.b y.B (by rw[dh])<|by rw[HE.o];simp[P4,s,f,T,VV.dT]))
   |(
      cases g
      .go_wp2_with fail;refine aE (v:=b? N' A' 0 0) (by simp[results181,go_sem,q0,R]) rfl (U.a.kb.no<|by rw[HE.o];simp[UT,s,f,W])
      .go_wp2_with fail
       refine aE (v:=b? O' va (ζ vs) vc) (by simp[results181,go_sem,F,q3]) rfl (U.a.kb.done (B.a.below U.a.kb.low) B.A rfl (by rw[HE.o];simp[UT,s,f,W])))
 first
  | (
    have _:=oX;cases f:E.any
    · cases g:(E.lo==0)
      .cases s:za.any
       .go_upto_region 17 with(go_at_call 56;refine(u9.o _).mono ?_;rintro e W6 ⟨rfl,rfl⟩)
        go_wp2_with (go_at_call 247;refine(eT (ζ vs) va vc vs t O' c c _ (B.a.below U.a.kb.low) B.A rfl hl uQ).mono ?_;clear L x V u r1 q N Y X o;rintro e C ⟨j,r,rfl,b,v,z⟩;have y:=hid<|Aa (U.a.kb.below z)<|Aa b v;obtain⟨r1,q⟩:=A y.a.b2;clear b v z);obtain⟨D,l⟩:=y.a.q (h' O')<|bk j (ζ vs) r;refine aE (v:=b? O' j (ζ vs) r) (by simp[results181,go_sem,D,l]) rfl (y.a.done y.b y.B (by rw[dh])<|by rw[HE.o];simp[P4,s,f,T,g,VV.one])
       .go_wp2_with (go_at_call 247;refine(eT (ζ vs) va vc vs t N' 0 0 _ (B.a.below U.a.kb.low) B.A rfl hl uQ).mono ?_;clear L x V u r1 q N Y X o;rintro e C ⟨j,r,rfl,b,v,z⟩;have y:=hid<|Aa (U.a.kb.below z)<|Aa b v;obtain⟨r1,q⟩:=A y.a.b2;clear b v z);obtain⟨D,l⟩:=y.a.q (h' O')<|bk j (ζ vs) r;refine aE (v:=b? O' j (ζ vs) r) (by simp[results181,go_sem,D,l]) rfl (y.a.done y.b y.B (by rw[dh])<|by rw[HE.o];simp[P4,s,f,T,g,VV.dT])
      .go_wp2_with fail;refine aE (v:=b? N' A' 0 0) (by simp[results181,go_sem,q0,R]) rfl (U.a.kb.no<|by rw[HE.o];simp[P4,f,T,g])
    · cases s:za.any
      .go_wp2_with (go_at_call 247;refine(eT (ζ vs) va vc vs t N' 0 0 _ (B.a.below U.a.kb.low) B.A rfl hl uQ).mono ?_;clear L x V u r1 q N Y X o;rintro e C ⟨j,r,rfl,b,v,z⟩;have y:=hid<|Aa (U.a.kb.below z)<|Aa b v;obtain⟨r1,q⟩:=A y.a.b2;clear b v z);obtain⟨D,l⟩:=y.a.q (h' O')<|bk j (ζ vs) r;refine aE (v:=b? O' j (ζ vs) r) (by simp[results181,go_sem,D,l]) rfl (y.a.done y.b y.B (by rw[dh])<|by rw[HE.o];simp[P4,s,f,T,VV.dT])
      .go_wp2_with (go_at_call 247;refine(eT (ζ vs) va vc vs t N' 0 0 _ (B.a.below U.a.kb.low) B.A rfl hl uQ).mono ?_;clear L x V u r1 q N Y X o;rintro e C ⟨j,r,rfl,b,v,z⟩;have y:=hid<|Aa (U.a.kb.below z)<|Aa b v;obtain⟨r1,q⟩:=A y.a.b2;clear b v z);obtain⟨D,l⟩:=y.a.q (h' O') (bk j (ζ vs) r)
       refine aE (v:=b? O' j (ζ vs) r) (by simp[results181,go_sem,D,l]) rfl (y.a.done y.b y.B (by rw[dh])<|by rw[HE.o];simp[P4,s,f,T,VV.dT]))
  | (
    go_wp2_with fail
    refine aE (v:=b? O' va (ζ vs) vc) (by simp[results181,go_sem,F,q3]) rfl (U.a.kb.done (B.a.below U.a.kb.low) B.A rfl (by rw[HE.o];simp[UT,s])))):p:=h
def OI(wv:y')(m:RN)(k:Int)(va:t')(vc:Nat)(vs:List VV)(w:p')(hv:dq w va vs)(qn:va=A'->vc=0)(hl:ζ vs<=8)(hd:m.does=⟨#[105,102]⟩)(ho:m.ops=2)(hs:Wm.x! m.sign.1.1=N')(BW:m.a.var<ζ vs)(ED:m.b.var<ζ vs):
  Cl 181 #[j'<|aI wv m,G k,b? O' va (ζ vs) vc] w (kJ w<|UT (oC (Wm.uu m.sign.1.1) (fR vs m.a.var m.a.c).lo (fR vs m.b.var m.b.c).lo) k vs (fR vs m.a.var m.a.c)<|fR vs m.b.var m.b.c):=by
 exact adP
def P4(dv:Bool)(c:Int)(t:Nat)(vs:List VV)(a b:VV):EV:=if dv&&!b.any&&(b.lo==0) then A' else if a.any||b.any then z' (vs.set t VV.dT) else z' (vs.set t<|VV.one c)
def OH(wv:y')(m:RN)(k:Int)(t:Nat)(va:t')(vc:Nat)(vs:List VV)(w:p')(hv:dq w va vs)(qn:va=A'->vc=0)(hl:ζ vs<=8)(hd:m.does=⟨#[61]⟩)(ho:m.ops=2)(ht:m.target=t)(uQ:t<ζ vs)(hs:Wm.wX m.sign.1.1=N')(BW:m.a.var<ζ vs)(ED:m.b.var<ζ vs):
  Cl 181 #[j'<|aI wv m,G k,b? O' va (ζ vs) vc] w (kJ w<|P4 (m.sign.toList==[47]) (jQ (Wm.tV m.sign.1.1) (fR vs m.a.var m.a.c).lo (fR vs m.b.var m.b.c).lo) t vs (fR vs m.a.var m.a.c)<|fR vs m.b.var m.b.c):=by
 have oX:=True.intro;exact adP
end Go.Proofs.YtmipbiligijcpaaGreatDoor
