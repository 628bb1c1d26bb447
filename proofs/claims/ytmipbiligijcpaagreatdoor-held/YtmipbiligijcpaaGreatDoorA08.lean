import Derived.Test.YtmipbiligijcpaaGreatDoorA06
import Derived.Test.YtmipbiligijcpaaGreatDoorA04
namespace Go.Proofs.YtmipbiligijcpaaGreatDoor
set_option linter.all false
set_option maxHeartbeats 0
set_option maxRecDepth 99999
open Go.RowKit Go.Proofs Go.Maps Tryz List open List renaming length->ζ,toArray->θ open _root_.Array renaming size->δ open World renaming setCell->κ,ownsRow->ρ,cell?->χ open Value renaming slice->h',bool->i',agg->k',string->m' open Obj renaming cells->j' open Ending renaming returned->o' open Option renaming some->C',none->D' open Bool renaming true->P',false->Q'
section
variable {E:List bD}{α:Type}
def RZ{p:Prop}(h:p:=by
 refine⟨C,λc h=>⟨(a c h).1,?_⟩⟩;rcases(a c h).2 with N|N
 .cases N
 exact aH<|by simp[N]):p:=h
def Zj:∀(l Y:y'),(∀c∈Y,Wm.fE c=Q')->∀x∈Wm.ik Y l,x≠[]/\∀c∈x,Wm.fE c=Q'/\(c∈Y\/c∈l):=by
 intro l;induction l with
 |nil=>
  intro Y T x F;rw[Wm.ik]at F;split at F
  .cases F
  simp at F;subst F;rename_i z;exact⟨z,λc h=>⟨T c h,aI h⟩⟩
 |cons d r B=>
  intro Y T x F;rw[Wm.ik]at F;split at F
  .split at F
   .obtain⟨C,a⟩:=B [] ak x F;exact RZ
   rename_i z;rcases cO.1 F with h|h
   .subst h;exact⟨z,λc h=>⟨T c h,aI h⟩⟩
   obtain⟨C,a⟩:=B [] ak x h;exact RZ
  rename_i b
  obtain⟨C,a⟩:=B (Y++[d]) (by
   intro c h;rcases eC.1 h with h|h
   .exact T c h
   .simp at h;subst h;simpa using b) x F
  refine⟨C,λc h=>⟨(a c h).1,?_⟩⟩;rcases(a c h).2 with N|N
  .rcases eC.1 N with N|N
   .exact aI N
   simp at N;subst N;exact aH ak
  exact aH (by simp[N])
def TU:∀(l Y:y'),(10:UInt8)∉Y->∀x∈Wm.uZ Y l,(10:UInt8)∉x:=by
 intro l;induction l with
 |nil=>intro Y T x F;simp[Wm.uZ]at F;subst F;exact T
 |cons d r B=>
  intro Y T x F;rw[Wm.uZ]at F;split at F
  .rcases cO.1 F with h|h
   .subst h;exact T
   exact B [] ak x h
  rename_i Q;refine B (Y++[d]) ?_ x F;intro h;rcases eC.1 h with h|h
  .exact T h
  simp at h;exact Q h.symm
def GW(x:z'):Prop:=x.1.1≠[]/\∀c∈x.1.1,Wm.fE c=Q'/\c≠10
def TV(s:z'):∀R∈A6 s,∀x∈R,GW x:=by
 intro R zL x F;obtain⟨l,X,rfl⟩:=bp.1 zL;have C:l.1.1∈Wm.uZ [] s.1.1:=by rw[<-Wm.pI s];exact uw X
 have b:x.1.1∈Wm.ik [] l.1.1:=by rw[<-yd l];exact uw F
 obtain⟨N,d⟩:=Zj _ [] ak _ b;refine⟨N,λc T=>⟨(d c T).1,?_⟩⟩;rintro rfl;rcases(d _ T).2 with a|a
 .cases a
 exact TU _ [] ak _ C a
def l4(p:PN):List z':=(if p.bL.toList.isEmpty then[] else[⟨θ<|p.bL.1.1++[58]⟩])++p.ws
def zt{p:PN}(h:∀y∈l4 p,GW y):(∀y∈p.ws,GW y)/\∀c∈p.bL.1.1,Wm.fE c=Q'/\c≠10:=by
 refine⟨λy B=>h y<|by simp[l4,B],λc T=>?_⟩;cases l:p.bL.toList.isEmpty with
 |true=>rw[eT]at l;simp at l;have:p.bL.1.1=[]:=J' l;rw[this]at T;cases T
 |false=>have:=(h ⟨θ<|p.bL.1.1++[58]⟩<|by simp[l4,l]).2 c (by simp[T]);exact this
def Ys(R:List z')(h:∀y∈R,GW y):(10:UInt8)∉jw R:=by
 cases R with
 |nil=>simp[jw]
 |cons x r=>
  intro d;rw[jw]at d;rcases eC.1 d with C|C
  .exact((h x ak).2 _ C).2 rfl
  obtain⟨y,B,a⟩:=mem_flatMap.1 C;rcases cO.1 a with N|N
  .cases N
  exact((h y<|by simp[B]).2 _ N).2 rfl
def T6(b:z')(h:∀c∈b.1.1,Wm.fE c=Q'/\c≠10):(10:UInt8)∉Ê b:=by
 unfold Ê;split
 .simp
 intro d;rcases eC.1 d with C|C
 .exact(h _ C).2 rfl
 simp at C
def TM{a b:List z'}(h:a.map (·.data.toList)=b.map (·.data.toList)):a=b:=by
 induction a generalizing b with
 |nil=>cases b with
  |nil=>rfl
  |cons y r=>simp at h
 |cons x a B=>
  cases b with
  |nil=>simp at h
  |cons y r=>simp only[dX,L5]at h;rw[Â h.1,B h.2]
def PT:∀{a b:List (List z')},a.map (λl=>l.map (·.data.toList))=b.map (λl=>l.map (·.data.toList))->a=b:=by
 intro a;induction a with
 |nil=>intro b h;cases b with
  |nil=>rfl
  |cons y r=>simp at h
 |cons x a B=>
  intro b h;cases b with
  |nil=>simp at h
  |cons y r=>simp only[dX,L5]at h;rw[TM h.1,B h.2]
def TW(t:z'):(A6 t).map (λl=>l.map (·.data.toList))=(Wm.uZ [] t.1.1).map (Wm.ik []):=by have h:=Wm.pI t;rw[A6,IX,<-h,fF,fF];apply eJ;intro x _;exact yd x
def OG{l:y'}(h:Lib.hasSuffix l [58]=P'):l=Lib.trimSuffix l [58]++[58]:=by rw[Lib.trimSuffix,aB h];unfold Lib.hasSuffix at h;rw[isSuffixOf_iff_suffix]at h;obtain⟨t,rfl⟩:=h;simp
def aa9{b:z'}(h:Wm.nm b=P'):b.toList.isEmpty=Q':=by
 rw[eT];cases l:b.1.1 with
 |nil=>unfold Wm.nm at h;rw[l]at h;simp[Wm.TG]at h
 |cons _ _=>rfl
def P0{R:List z'}{n:SN}(h:(gK E R).2.2.2.1=P'):l4 ⟨(gK E R).1,R.drop (gK E R).2.1,n⟩=R/\R.drop (gK E R).2.1≠[]:=by
 match R,h with
 |[],h=>simp[gK,gn]at h
 |u::r,h=>
  cases T:pN u with
  |false=>
   have X:gK E (u::r)=(emp,0,kV E<|u::r):=by simp[gK,T]
   rw[X];have:emp.toList.isEmpty=P':=by rw[eT];rfl
   simp[l4,this]
  |true=>
   cases K:Wm.nm (jL u)with
   |false=>simp[gK,T,K,gn]at h
   |true=>
    match r,h with
    |[],h=>simp[gK,T,K,gn]at h
    |x::r,h=>
     have X:gK E (u::x::r)=(jL u,1,kV E<|x::r):=by simp[gK,T,K]
     rw[X];have l:=aa9 K;have B:(⟨θ<|(jL u).1.1++[58]⟩:z')=u:=by apply Â;show((jL u).1.1++[58])=u.1.1;exact(OG T).symm
     simp[l4,l,B]
def BP:∀(L:List<|List z')(E:List bD)(V m:List PN)(b:List bD),rm E V L=C' (m,b)->∃a,m=V++a/\a.map l4=L.filter (λR=>!po R)/\∀p∈a,p.ws≠[]:=by
 intro L;induction L with
 |nil=>intro E V m b h;simp[rm]at h;exact⟨[],by simp[h.1],rfl,ak⟩
 |cons R r B=>
  intro E V m b h;rw[rm]at h;split at h
  .rename_i y;obtain⟨a,C,c,N⟩:=B E V m b h;exact⟨a,C,by rw[nD];simp[y,c],N⟩
  rename_i y;split at h;rotate_left
  .cases h
  rename_i o;obtain⟨a,C,c,N⟩:=B _ _ m b h;obtain⟨l,X⟩:=P0 (n:=(gK E R).2.2.1) o;refine⟨⟨(gK E R).1,R.drop (gK E R).2.1,(gK E R).2.2.1⟩::a,by rw[C];simp,?_,?_⟩
  .rw[nD];simp only[dX,l,c];simp[y]
  intro p U;rcases cO.1 U with d|d
  .subst d;exact X
  exact N p d
def wl(ws:List z'):Nat:=(ws.map λx=>x.size+1).sum
def Zi:∀(l Y:y'),((Wm.ik Y l).map λx=>ζ x+1).sum<=ζ Y+ζ l+1:=by
 intro l;induction l with
 |nil=>intro Y;rw[Wm.ik];split<;>simp
 |cons d r B=>
  intro Y;rw[Wm.ik];split
  .split
   .have:=B [];simp at this|-;omega
   have:=B [];simp at this|-;omega
  have:=B<|Y++[d];simp at this|-;omega
def WJ(x:z'):wl (kf x)<=x.size+1:=by
 have h:=Zi x.1.1 [];rw[<-yd x,fF]at h;simp only[de,Wm.bS]at h;unfold wl;have:(kf x).map ((λx:y'=>ζ x+1)∘(·.data.toList))=(kf x).map (λx=>x.size+1):=by apply eJ;intro y _;rfl
 rw[this]at h;omega
def X6:∀(l Y:y'),((Wm.uZ Y l).map λx=>ζ x+1).sum=ζ Y+ζ l+1:=by
 intro l;induction l with
 |nil=>intro Y;simp[Wm.uZ]
 |cons d r B=>
  intro Y;rw[Wm.uZ];split
  .have:=B [];simp at this|-;omega
  have:=B<|Y++[d];simp at this|-;omega
def JK(l:List α)(f g:α->Nat)(h:∀x∈l,f x<=g x):(l.map f).sum<=(l.map g).sum:=by
 induction l with
 |nil=>simp
 |cons a r B=>have C:=h a ak;have a:=B (λx F=>h x<|by simp[F]);simp only[dX,lh];omega
def JL(l:List α)(f:α->Nat)(p:α->Bool):((l.filter p).map f).sum<=(l.map f).sum:=by
 induction l with
 |nil=>simp
 |cons a r B=>
  rw[nD];split
  .simp only[dX,lh];omega
  simp only[dX,lh];omega
def X8(s:z'):((A6 s).map wl).sum<=s.size+1:=by
 rw[A6,fF];refine br (JK _ _ (λx=>x.size+1) λx _=>WJ x) ?_;have h:=X6 s.1.1 [];have a:(IX s).map (·.data.toList)=Wm.uZ [] s.1.1:=Wm.pI s;rw[<-a,fF]at h;simp only[de,Wm.bS]at h;have:(IX s).map ((λx:y'=>ζ x+1)∘(·.data.toList))=(IX s).map (λx=>x.size+1):=by apply eJ;intro y _;rfl
 rw[this]at h;omega
def ac2(x:z')(r:List z'):ζ (jw<|x::r)+1=wl (x::r):=by
 rw[jw,wl,aW,dX,lh,Wm.bS];have:ζ (r.flatMap λy=>32::y.1.1)=(r.map λx=>x.size+1).sum:=by
  induction r with
  |nil=>rfl
  |cons y r B=>rw[b9,aW,B,dX,lh,bR,Wm.bS]
 omega
def KT(p:PN)(h:p.ws≠[]):ζ (fU p)=wl (l4 p):=by
 match zL:p.ws,h with
 |x::r,_=>
  have:=ac2 x r;unfold fU l4 Ê;rw[zL];cases l:p.bL.toList.isEmpty with
  |true=>simp only[b8,c!,aW,fP];omega
  |false=>
   simp only[bV,bB,aW,bR,de];have a:wl ([(⟨θ<|p.bL.1.1++[58]⟩:z')]++x::r)=(ζ p.bL.1.1+1+1)+wl (x::r):=by
    unfold wl;rw[eR,sum_append];have:(⟨θ<|p.bL.1.1++[58]⟩:z').size=ζ p.bL.1.1+1:=by show(p.bL.1.1++[58]).length=_;simp
    simp[this]
   omega
def XG:∀(m:List PN),(∀p∈m,p.ws≠[])->ζ (mJ m)=((m.map l4).map wl).sum:=by
 intro m;induction m with
 |nil=>intro _;rfl
 |cons p r B=>intro h;rw[mJ,b9,aW,KT p<|h p ak];have:=B (λq a=>h q<|by simp[a]);rw[mJ]at this;rw[this];simp
def DV{s:z'}{m:List PN}(h:jG s=Pr.ok m E):ζ (mJ m)<=s.size+1:=by obtain⟨_,_,_,c,_⟩:=kt h;obtain⟨a,C,b,N⟩:=BP _ _ _ _ _ c;rw[c!]at C;subst C;rw[XG m N,b];exact br (JL _ _ _)<|X8 s
end
def ē:Å:=((Q',0,0),0,(Q',0,0))
def IZ(ks:List Å)(v:Int)(m:Nat):BS:=(range m).foldl (λs i=>if oG (ks.getD i ē) v then e7 s (cJ [i]) else s) (0,0)
def Fb(ks:List Å)(n:SN):BS:=if fL n then IZ ks n.var (ζ ks) else(0,0)
def zC(R:List Å)(v:Int)(m:Nat):IZ R v (m+1)=if oG (R.getD m ē) v then e7 (IZ R v m) (cJ [m]) else IZ R v m:=by simp[IZ,kI]
def KZ(R:List Å)(v:Int):∀m,m<=128->bQ (IZ R v m)
 |0,_=>(show bQ (0,0)from⟨aj,aj⟩)
 |m+1,h=>by
  have B:=KZ R v m I;rw[zC];split
  .exact gG B<|pF I
  exact B
def Cg(N:z')(wa:u')(wl wc:Nat)(ea:u')(V B:Nat)(n:SN)(a:u')(c:Nat)(R:List Å)(w:t')(h:IH w a R)(hl:ζ R<=60)(b:0<=n.aO):
  Cl 288 #[k'<|aJ N (h' wa wl wc) n<|h' ea V B,h' a (ζ R) c] w (Rb w<|cn<|Fb R n):=by
 have E8:J (∀W,Cl 282 #[k'<|aJ N (h' wa wl wc) n<|h' ea V B] W<|Rb W<|i'<|fL n):=λW=>(l! N _ _ n W b).mono λe w' c=>⟨c.1,by rw[c.2];exact aY⟩;obtain⟨t,o⟩:=Ea<|fL n;have HE:J (Fb R n=if t then IZ R n.var (ζ R) else(0,0)):=by show _=_;rw[o];rfl
 rw[<-o]at E8;have HH:=ſ h;clear o h b;obtain⟨x,q,op,Y,⟨ai,f,ac⟩,⟨bi,D,bc⟩,g⟩:=n;simp only[aJ]at E8 HE|-;generalize Fb R _=z at HE|-;go_enter func288,ntmps288;go_upto_region 2 with(fail)
 generalize j:((w.alloc<|j' #[m' N,h' wa wl wc,G x,G q,G op,G Y,i' ai,G f,G ac,i' bi,G D,G bc,h' ea V B,m' g] 152).alloc fj).alloc fj=c;have U:J (Bl w c/\d' c w.1.size #[m' N,h' wa wl wc,G x,G q,G op,G Y,i' ai,G f,G ac,i' bi,G D,G bc,h' ea V B,m' g] 152/\c.1[δ w.1+1]?=C' jo/\c.1[δ w.1+1+1]?=C' jo):=by subst j;obtain⟨c,e1,e2,_⟩:=qL w (j' #[m' N,h' wa wl wc,G x,G q,G op,G Y,i' ai,G f,G ac,i' bi,G D,G bc,h' ea V B,m' g] 152) fj fj<|j' #[] 0;rw[ch _ _ _<|by simp;try omega]at c e1 e2;exact⟨gU,c,e1,e2⟩
 clear j;have E:=A U.b;have c:=À U.C;cases t
 .rw[ax ak]at HE;go_wp2_with (go_at_call 282;refine(E8.o _).mono ?_;rintro e t ⟨rfl,l⟩;have r:=ſ l;clear l E;have E:=A<|aF r.o U.C;have y1:=A<|aF r.o U.c);have v:=aF r.o U.c;have r0:χ (κ t (O (δ w.1+1) 0)<|Z 0) (O (δ w.1+1) 0)=C' (Z 0):=by rw[(A<|aw v _).1];rfl
  have r1:χ (κ (κ t (O (δ w.1+1) 0)<|Z 0) (O (δ w.1+1) 1)<|Z 0) (O (δ w.1+1) 1)=C' (Z 0):=by rw[(A<|aw (aw v _) _).1];rfl
  refine aC (v:=cn (0,0)) (by simp[results288,go_sem,cn,r0,r1]) rfl ⟨by rw[HE.o],?_⟩;exact((aq U.a r.o).setCell I' _).setCell I' _
 rw[aB rfl]at HE;go_wp2_with (go_at_call 282;refine(E8.o _).mono ?_;rintro e t ⟨rfl,l⟩;have r:=ſ l;clear l E);generalize k' #[m' N,h' wa wl wc,G x,G q,G op,G Y,i' ai,G f,G ac,i' bi,G D,G bc,h' ea V B,m' g]=c;go_loopw[14] (λc wr=>∃j:Nat,j<=ζ R/\c=G j/\J (Bl w wr/\wr.1[δ w.1]?=C' (j' #[m' N,h' wa wl wc,G x,G q,G op,G Y,i' ai,G f,G ac,i' bi,G D,G bc,h' ea V B,m' g] 152 (0,0))/\wr.1[δ w.1+1]?=C' jo/\wr.1[δ w.1+1+1]?=C' (j' #[Z ((IZ R q j).1:Int),Z ((IZ R q j).2:Int)] 267 (0,0)))) (λc _=>ζ R-(intOf c).toNat)
 case atStart=>exact⟨0,bq _,rfl,aq U.a r.o,aF r.o U.b,aF r.o U.c,aF r.o U.C⟩
 clear r;obtain⟨j,f,rfl,r⟩:=hrel;have D:=À r.C;by_cases L:j<ζ R;rotate_left
 .have c:¬(j:Int)<(ζ R:Int):=I;have f:j=ζ R:=I;have x:=r.C;rw[f,<-HE.o]at x;have E:=A x;have y1:=A r.c;have n1:δ w.1+1≠δ w.1+1+1:=I;go_wp2_with fail;have v:=r.c;have r0:χ (κ wr (O (δ w.1+1) 0)<|Z z.1) (O (δ w.1+1) 0)=C' (Z z.1):=by rw[(A<|aw v _).1];rfl
  have r1:χ (κ (κ wr (O (δ w.1+1) 0)<|Z z.1) (O (δ w.1+1) 1)<|Z z.2) (O (δ w.1+1) 1)=C' (Z z.2):=by rw[(A<|aw (aw v _) _).1];rfl
  refine aC (v:=cn z) (by simp[results288,go_sem,cn,r0,r1]) rfl ⟨rfl,?_⟩;exact(r.a.setCell I' _).setCell I' _
 have c:(j:Int)<(ζ R:Int):=I;obtain⟨k,F⟩:=La L;obtain⟨b,o,rfl,X⟩:=(HH.o.below r.a) j k F;have T:χ wr (O b<|o+j*7)=C' (i' k.1.1):=X 0 _ rfl;have c1:χ wr (O b<|o+j*7+1)=C' (G k.1.2.1):=X 1 _ rfl;have p:χ wr (O b<|o+j*7+2)=C' (G k.1.2.2):=X 2 _ rfl;have c3:χ wr (O b<|o+j*7+3)=C' (G k.2.1):=X 3 _ rfl;have c4:χ wr (O b<|o+j*7+4)=C' (i' k.2.2.1):=X 4 _ rfl;have c5:χ wr (O b<|o+j*7+5)=C' (G k.2.2.2.1):=X 5 _ rfl;have c6:χ wr (O b<|o+j*7+6)=C' (G k.2.2.2.2):=X 6 _ rfl;have l:IZ R q (j+1)=if oG k q then e7 (IZ R q j) (cJ [j]) else IZ R q j:=by rw[zC,getD,F];rfl
 have YE:=KZ R q j I;obtain⟨u,C⟩:=Ea<|IZ R q j;rw[<-C]at l YE;have HX:=ſ<|M l (show wr.1[δ w.1+1+1]?=C' (q! u.1 u.2)by rw[C];exact r.C);have HHS:J (∀W,Cl 333 #[k'<|ui k,G q] W<|Rb W<|i'<|oG k q):=λW=>Qu k q W;obtain⟨yes,s⟩:=Ea<|oG k q;rw[<-s]at HHS HX;simp only[ui]at HHS;clear C l F X s;go_upto_region 7 with(fail)
 generalize l:wr.alloc (j' (sK k.1.1 k.1.2.1 k.1.2.2 k.2.1 k.2.2.1 k.2.2.2.1 k.2.2.2.2) 430)=V;have HV:J (Bl wr V/\d' V wr.1.size (sK k.1.1 k.1.2.1 k.1.2.2 k.2.1 k.2.2.1 k.2.2.2.1 k.2.2.2.2) 430):=by subst l;exact⟨aY,bj _ _⟩
 clear l T c1 p c3 c4 c5 c6;have E:=A HV.A;have y1:=A<|aF HV.a r.b;cases yes
 .go_wp2_with (go_at_call 333;refine(HHS.o _).mono ?_;rintro e F ⟨rfl,p⟩;have l:=ſ<|aq HV.a p;clear p E y1);go_roundw
  case rel=>
   refine⟨j+1,L,f',aq r.a l.o,aF l.o r.b,aF l.o r.c,?_⟩;rw[HX.a];exact aF l.o HX.A
  exact H'
 have s:J (∀X b,χ X (O b 0)=C' (G j)->Cl 241 (mL b) X (Rb X<|cn<|cJ [j])):=λX b T=>kz X b j I T;have HU:J (∀(X:t') b,χ X (O b 0)=C' (Z u.1)->χ X (O b 1)=C' (Z u.2)->χ X (O b 2)=C' (Z ((cJ [j]).1:Int))->χ X (O b 3)=C' (Z ((cJ [j]).2:Int))->Cl 267 (rf b) X (Rb X<|cn<|e7 u<|cJ [j])):=λX b D C c N=>by have:=fA X b u (cJ [j]) YE (pF I) D C c N;exact this
 have HN:J (IZ R q (j+1)=e7 u (cJ [j])):=by rw[HX.a];rfl
 obtain⟨b,uj⟩:=Ea<|cJ [j];obtain⟨y,hy⟩:=Ea<|e7 u<|cJ [j];rw[<-hy]at HN HU;rw[<-uj]at s HU;clear uj hy YE;simp only[cn]at s HU;go_upto_region 8 with(go_at_call 333;refine(HHS.o _).mono ?_;rintro e F ⟨rfl,p⟩;have l:=ſ<|aq HV.a p;clear p E y1)
 have E:=A<|aF l.o HX.A;have b:=l.o.size;have n1:δ w.1+1+1≠δ F.1:=I;have c:=n1.symm;have c:∀(o:Obj)(i:Nat),χ (F.alloc o) (O (δ w.1+1+1) i)=(#[Z u.1,Z u.2]:Array A')[i]?:=λo i=>(bF<|ch F o _ I).trans<|E.1 i
 go_region_law (first|(go_simp;refine bE (s.o _ _ ak) ?_;rintro e o ⟨rfl,Y⟩;have D:J (Bl F o):=aq ay Y;clear E Y;have E:=A<|aF D.o<|aF l.o HX.A)|(go_simp;refine bE (HU.o _ _ ak ak ak ak) ?_;rintro e b ⟨rfl,v⟩;have k:J (Bl F b):=aq (aq D.o ay) v;clear E v;have E:=A<|aF k.o<|aF l.o HX.A))
 all_goals
  go_wp2_with fail;go_roundw
  case rel=>
   have p:=aq l.o k.o;refine⟨j+1,L,f',((aq r.a p).setCell I' _).setCell I' _,?_,?_,?_⟩
   .rw[bh _ _ _ _ I',bh _ _ _ _ I'];exact aF p r.b
   .rw[bh _ _ _ _ I',bh _ _ _ _ I'];exact aF p r.c
   rw[HN.o];exact Bh (aF p HX.A) y
  exact H'
def tY(g cap nv rb B k:Nat)(D:List NC)(P:Pm)(rl:List RR)(e:Ef)(w:t')(hP:PM w g cap D P)(hO:cF P)(hk:k<ζ P.nd)(hS:Sys w B rb 2 393 404 rl)(hl:ζ rl=ζ P.nd)(hB:B<=δ w.1)(YK:∀r∈rl,ζ r.es<=200):
  Cl 285 #[cP rb<|ζ P.nd,gi g (ζ P.nd) cap nv,G k,Fc e] w λr b=>(∃v,r=o' v)/\∃a,Sys b B rb 2 393 404 a/\a.map RR.pr=(P.mK k).foldl (λl t=>wT l k (t,vS e)) (rl.map RR.pr)/\TF B 393 404 w b:=by
 have Cf:=True.intro;exact ŀ
def zK:(Tryz.prog.info? 73).map (λi=>(i.zero,i.size,i.bytes))=C' (C'<|k' nF,6,48):=H
def ÿ(v:Vl):List A':=[G v.aO,G v.lo,G v.hi,i' Q',G 0,G 0]
def rr(vs:List Vl):List A':=vs.flatMap ÿ
def Ki{E:List Vl}{k:Nat}{v:Vl}(h:E[k]?=C' v):rr (E.take<|k+1)=rr (E.take k)++ÿ v:=by have X:=(aV.1 h).1;rw[cX X,(aV.1 h).2];simp[rr]
def GL{X:t'}{q:Nat}{L:List A'}{t:TypeId}(h:X.1[q]?=C' (cL (θ L) t)):∀(j:Nat)(u:A'),L[j]?=C' u->χ X (((O q 0):Addr).add j)=C' u:=by intro j u f;rw[fH,bW,(A h).1];simpa using f
def A3(z:u')(x:Nat)(E:List Vl)(w:t')(h:jj w z E)(K:ζ E<=1000):
  Cl 96 #[h' z (ζ E) x] w λe b=>∃a c,e=o' (bk a (ζ E) c)/\ρ b w.1.size 73 6 (bk a (ζ E) c) (ζ E) (rr E)/\Bl w b:=by
 obtain⟨N,S,D,P,b⟩:=cG zK;have g:J (_/\_/\_/\_):=⟨S,D,P,b⟩;clear S D P b;have s:=ſ h;clear h;obtain⟨n,d⟩:=Ea<|ζ E;rw[<-d]at K|-;have K:=ſ d;clear d;go_enter func96,ntmps96;go_wp2_with fail;go_loopw[3,8] (λr y wr=>∃(j:Nat)(a:u')(c:Nat),j<=n/\y=G j/\r=h' a j c/\J (ρ wr w.1.size 73 6 (h' a j c) j (rr<|E.take j)/\Bl w wr)) (λ_ y _=>n-(intOf y).toNat)
 case atStart=>exact⟨0,D',0,bq _,rfl,rfl,cY _ _ _ _,aP _ _⟩
 obtain⟨j,a,c,f,rfl,rfl,d⟩:=hrel;by_cases L:j<n;rotate_left
 .have b:¬(j:Int)<n:=I;obtain rfl:j=n:=I;go_wp2_with fail;refine aC (v:=h' a j c) (by simp[results96,go_sem]) rfl ⟨a,c,rfl,?_,d.A⟩;have C:=d.a;rw[b!<|by rw[K.o];exact aD _]at C;exact C
 have b:(j:Int)<n:=I;obtain⟨v,R⟩:=La (l:=E) (i:=j) (by rw[<-K.o];exact L);obtain⟨b,o,rfl,T,Q,p,f,P,h⟩:=s.o j v R;have t:=aA T d.A;have Y:=aA Q d.A;have i:=aA p d.A;have k:=aA f d.A;have F:=aA P d.A;have B:=aA h d.A;have b:=ſ<|Ki R;clear T Q p f P h R;go_upto_region 5 with fail
 generalize u:wr.alloc (j' #[G v.aO,G v.lo,G v.hi,i' v.bO,G v.first,G v.rank] 73)=T;have X:J (Bl wr T/\d' T wr.1.size #[G v.aO,G v.lo,G v.hi,i' v.bO,G v.first,G v.rank] 73):=by subst u;exact⟨aY,bj _ _⟩
 clear u;clear t Y i k F B;have f:=A X.A;go_wp2_with (at_builtin;refine iK _ rfl _ _ 71 rfl w.1.size 73 N (k' nF) 6 48 underlying71 g.a g.b g.c g.C rfl aj (h' a j c) j (rr<|E.take j) rfl ((bu d.a X.a).alloc _) (O T.1.size 0) 1 1 (ÿ v) rfl rfl (GL<|bj T _) (by intro u C;simp[ÿ]at C;rcases C with rfl|rfl|rfl|rfl|rfl<;>rfl) (by simp only[maxLen];omega) I (by have:=(aq d.A X.a).size;simp;omega) ?_;intro U l k F _;obtain⟨c,a,rfl⟩:=aX k;have W:=ſ<|M k F;clear k F);go_roundw
 case rel=>
  refine⟨j+1,c,a,L,f',rfl,?_,?_⟩
  .rw[b.o];exact W.a
  exact((aq d.A X.a).alloc (aq d.A X.a).size _).grown W.A (by have:=(aq d.A X.a).size;simp;omega) λq e=>((bu d.a X.a).lt q e).1
 exact H'
section
variable {σ α:Type}
def bT{σ α:Type}(step:σ->y'->Option ((α×σ)×y')):Nat->σ->y'->Option ((List α×σ)×y')
 |0,st,l=>C' (([],st),l)
 | n+1,st,l=>match step st l with
  |some ((x,OP),r)=>match bT step n OP r with
   |some ((xs,OM),q)=>C' ((x::xs,OM),q)
   |none=>D'
  |none=>D'
def jC{σ α:Type}(step:σ->y'->Option ((α×σ)×y')):∀(n:Nat)(st:σ)(l:y'),bT step (n+1) st l=match bT step n st l with
  |some ((D,o),r)=>(match step o r with|some ((x,d),q)=>C' ((D++[x],d),q)|none=>D')
  |none=>D'
 |0,st,l=>by
  simp only[bT];cases step st l with
  |none=>rfl
  |some p=>obtain⟨⟨x,o⟩,r⟩:=p;rfl
 |n+1,st,l=>by
  rw[bT];cases y:step st l with
  |none=>simp[bT,y]
  |some p=>
   obtain⟨⟨x,o⟩,r⟩:=p;simp only;rw[jC step n o r];simp only[bT,y];cases bT step n o r with
   |none=>rfl
   |some b=>
    obtain⟨⟨D,d⟩,q⟩:=b;simp only;cases step d q with
    |none=>rfl
    |some s=>have y:=s;rfl
def eA{σ α:Type}(step:σ->y'->Option ((α×σ)×y')):∀(n:Nat)(st:σ)(l:y')(D:List α)(o:σ)(r:y'),bT step n st l=C' ((D,o),r)->ζ D=n
 |0,st,l,D,o,r,h=>by simp[bT]at h;rw[h.1.1];rfl
 |n+1,st,l,D,o,r,h=>by
  rw[bT]at h;cases y:step st l with
  |none=>rw[y]at h;simp at h
  |some p=>
   obtain⟨⟨x,f⟩,q⟩:=p;rw[y]at h;simp only at h;cases b:bT step n f q with
   |none=>rw[b]at h;simp at h
   |some c=>obtain⟨⟨z,d⟩,F⟩:=c;rw[b]at h;simp at h;rw[<-h.1.1];have:=eA step n f q z d F b;simp[this]
def yD (step:σ->y'->Option ((α×σ)×y')) {n k:Nat}{st:σ}{l:y'} (h:bT step k st l=D') (b:k<=n):bT step n st l=D':=by
  induction n with
  | zero => obtain rfl:k=0:=I
            exact h
  |succ n B=>
    by_cases l:k=n+1
    · subst l;exact h
    rw[jC,B I]
def UY(D:List Int)(n k:Nat)(x:Int)(a:ζ D=k)(K:k<n):(((D++replicate (n-k) 0).map G).set k<|G x)=((D++[x])++replicate (n-(k+1)) 0).map G:=by rw[<-mx];congr 1;rw[oX _ _ I,a,jx,show n-k=(n-(k+1))+1 by omega,eW,dp];simp
def QR(W':t')(rb:Nat)(s:z')(res:Option<|(α×σ)×y')(val:α->A')(z:A'->Prop)(Inv:t'->σ->Prop)(gu:t'->Prop)(e:Ending):Prop:=
 (∃x st s',res=C' ((x,st),s'.1.1)/\s'.size<=s.size/\e=o' (val x)/\dc W' rb s' Q'/\Inv W' st)\/(res=D'/\∃v s',z v/\e=o' v/\s'.size<=s.size/\dc W' rb s' P'/\gu W')
def Ov(w W':t')(rb n:Nat)(s:z')(bad:Bool)(step:σ->y'->Option ((Int×σ)×y'))(st:σ)(Inv:t'->σ->Prop)(gu:t'->Prop)(e:Ending):Prop:=
  ((∃xs OP s' la lc,dU bad (bT step n st) s=C' ((xs,OP),s'.1.1)/\s'.size<=s.size/\e=o' (h' la n lc)/\(la=D'->lc=0)/\ρ W' w.1.size 3 1 (h' la n lc) n (xs.map G)/\dc W' rb s' Q'/\Inv W' OP)\/
   ((bad=P'\/dU bad (bT step n st) s=D')/\e=o' (h' D' 0 0)/\∃s',s'.size<=s.size/\dc W' rb s' P'/\gu W'))
def abD{p:Prop}(h:p:=by
 have L:=(bG.1 h).1;have HH:=ſ<|M Qm<|M hinv<|M Ho<|M h hi;have HB:=ſ<|M NS hIB;clear Qm hinv Ho h hi NS hIB;by_cases h0:n=0
 .subst h0
  first|(have _:=vV;go_enter func292,ntmps292)|(go_enter func289,ntmps289)
  go_wp2_with fail;go_ret;refine⟨?_,Fr.refl _ _⟩;cases bad with
  |false=>exact aI ⟨[],st,s,D',0,rfl,aD _,rfl,λ_=>rfl,cY _ _ _ _,HH.d,HH.D⟩
  |true=>exact aH ⟨aI rfl,rfl,s,aD _,HH.d,HB.A _ _ HH.D⟩
 first|(have _:=vV;obtain⟨i1,hi,D,d,f⟩:=cG ac7)|(obtain⟨i1,hi,D,d,f⟩:=cG nW)
 have HI:=ſ<|M hi<|M D<|M d f;clear hi D d f;have V:((n:Int)==0)=Q':=by rw[dO];omega
 first
  | (
    have _:=vV;go_enter func292,ntmps292;go_wp2_with (at_make;refine eK _ rfl (.tmp 11) (.tmp 11) 71 rfl w.1.size 73 i1 (k' nF) 6 underlying71 HI.a HI.b HI.c .i64 .i64 n n n rfl rfl rfl rfl (by rw[HI.C];omega) (by unfold maxLen;omega) ak ?_;intro t V d;have g:=ſ<|M V d;clear V d)
    have r:J (ρ t w.1.size 73 6 (cw w.1.size n) n (iE<|([]:List Vl)++replicate (n-0) Fx)/\dc t rb s bad/\Inv t st/\Fr (λj=>j≠rb/\¬Own j) w t):=by
      obtain⟨C,N⟩:=g.o;rw[PU]at C
      refine⟨J' C,HH.d.grown N ak,HH.b w t st HH.D λj f=>N.block j (HH.c j f) ak,Fr.dI N λk _ _=>ak⟩)
  | (
    go_enter func289,ntmps289;go_wp2_with (at_make;refine eK _ rfl (.tmp 11) (.tmp 11) 36 rfl w.1.size 3 i1 (G 0) 1 underlying36 HI.a HI.b HI.c .i64 .i64 n n n rfl rfl rfl rfl (by rw[HI.C];omega) (by unfold maxLen;omega) ak ?_;intro t V d;have g:=ſ<|M V d;clear V d)
    have r:J (ρ t w.1.size 3 1 (cw w.1.size n) n ((([]:List Int)++replicate (n-0) 0).map G)/\dc t rb s bad/\Inv t st/\Fr (λj=>j≠rb/\¬Own j) w t):=by
      obtain⟨C,N⟩:=g.o;rw[show(Value.int IntKind.i64 0).cells=#[G 0] from rfl,toList_madeCells_one,rJ]at C
      refine⟨J' C,HH.d.grown N ak,HH.b w t st HH.D λj f=>N.block j (HH.c j f) ak,Fr.dI N λk _ _=>ak⟩)
 clear g
 first|(have _:=vV;go_loopw[15] (λd wr=>∃(k:Nat)(D:List Vl)(OM:σ)(s2:z'),k<=n/\d=G k/\s2.size<=s.size/\J (ζ D=k)/\J (bT step k st s.1.1=C' ((D,OM),s2.1.1)/\(0<k->bad=Q'))/\J (ρ wr w.1.size 73 6 (cw w.1.size n) n (iE<|D++replicate (n-k) Fx)/\dc wr rb s2 (if k=0 then bad else Q')/\Inv wr OM/\Fr (λj=>j≠rb/\¬Own j) w wr)) (λd _=>n-(intOf d).toNat))|(go_loopw[15] (λd wr=>∃(k:Nat)(D:List Int)(OM:σ)(s2:z'),k<=n/\d=G k/\s2.size<=s.size/\J (ζ D=k)/\J (bT step k st s.1.1=C' ((D,OM),s2.1.1)/\(0<k->bad=Q'))/\J (ρ wr w.1.size 3 1 (cw w.1.size n) n ((D++replicate (n-k) 0).map G)/\dc wr rb s2 (if k=0 then bad else Q')/\Inv wr OM/\Fr (λj=>j≠rb/\¬Own j) w wr)) (λd _=>n-(intOf d).toNat))
 case atStart=>exact⟨0,[],st,s,bq _,rfl,aD _,rfl,⟨rfl,(λh=>I)⟩,r.a,r.b,r.c,r.C⟩
 clear r;obtain⟨k,D,OM,s2,d,rfl,Wj,HX,HL,HW⟩:=hrel;by_cases L:k<n;rotate_left
 .obtain rfl:k=n:=I;have lF:¬(k:Int)<k:=I;have d:J (dU bad (bT step k st) s=C' ((D,OM),s2.1.1)):=by show _=_;rw[HL.A I];exact HL.a
  go_wp2_with fail;go_ret;refine⟨aI ⟨D,OM,s2,C'<|O w.1.size 0,k,d.o,Wj,rfl,(λh=>by cases h),?_,?_,HW.c⟩,HW.C⟩
  .have:=HW.a;simpa using this
  have:=HW.b;rwa[ax h0]at this
 have lF:(k:Int)<n:=I;have T:=HH.a wr OM s2 (if k=0 then bad else Q') HW.c HW.b I;have d:=ſ T;clear T;go_wp2_with fail;refine bE d.o ?_;rintro e F ⟨g,B⟩;have l:=B.own HW.a (λq hq=>by simp[Value.ownBlock]at hq;subst hq;exact⟨I,λd=>L'<|HH.c _ d⟩);have Y:=HW.C.trans B λq _ hq=>hq;rcases g with⟨x,ae,s3,i,Ba,rfl,hr,r⟩|⟨i,v,s3,⟨x,rfl⟩,rfl,Ba,hr,r⟩
 .first
   |(
      have _:=vV;simp only[jz];have vg:=l.stored (k*6)<|G x.aO;have Lf:=vg.1.stored (k*6+1)<|G x.lo;have Le:=Lf.1.stored (k*6+2)<|G x.hi;have Ld:=Le.1.stored (k*6+3)<|i' x.bO;have T:=Ld.1.stored (k*6+4)<|G x.first;have Lc:=T.1.stored (k*6+5)<|G x.rank;have R:=M Lc.1<|((((vg.2.trans Lf.2).trans Le.2).trans Ld.2).trans T.2).trans Lc.2;clear vg Lf Le Ld T Lc;rw[adu D n k x HX.o L]at R;have Q9:χ F (O w.1.size<|k*6)=C' (G 0):=(l.cellAt (k*6+0) I).trans<|kn D n k 0 HX.o L I;have ah:χ F (O w.1.size<|k*6+1)=C' (G 0):=(l.cellAt (k*6+1) I).trans<|kn D n k 1 HX.o L I;have U:χ F (O w.1.size<|k*6+2)=C' (G 0):=(l.cellAt (k*6+2) I).trans<|kn D n k 2 HX.o L I;have o:χ F (O w.1.size<|k*6+3)=C' (i' Q'):=(l.cellAt (k*6+3) I).trans<|kn D n k 3 HX.o L I;have g:χ F (O w.1.size<|k*6+4)=C' (G 0):=(l.cellAt (k*6+4) I).trans<|kn D n k 4 HX.o L I;have hk6:χ F (O w.1.size<|k*6+5)=C' (G 0):=(l.cellAt (k*6+5) I).trans<|kn D n k 5 HX.o L I
      have E:=l.frozenAt)
   |(
      have R:=l.stored k<|G x;rw[UY D n k x HX.o L]at R;have Q9:=l.cellAt k I;have aa:((D++replicate (n-k) 0).map G)[k]?=C' (G 0):=by rw[bH,fh<|by rw[HX.o];exact aD _,HX.o,jx,jy,aB I];rfl
      rw[aa]at Q9
      have E:=l.frozenAt k)
  have X:=hr.grown R.2 I';have YI:=HH.b F _ ae r λj f=>R.2.block j (by have:=HH.c j f;have:=HW.C.size;have:=B.size;omega) (by have:=HH.c j f;simp;omega);have YJ:=Y.grown R.2 (λq hq _=>by simp;omega);have x1:=A X;have Hm:(if k=0 then bad else Q')=Q'/\step OM s2.1.1=C' ((x,ae),s3.1.1):=by
   generalize(if k=0 then bad else Q')=bb at i;cases bb with
   |true=>cases i
   |false=>exact⟨rfl,i⟩
  have t:=ſ<|M Hm<|M R.1<|M X<|M YI YJ
  first|(have _:=vV;clear Hm R X YI YJ i hr r l Y B)|(clear Hm R X YI YJ i hr r l Y B aa)
  go_wp2_with fail;refine⟨⟨k+1,D++[x],ae,s3,I,f',I,by show _=_;rw[aW,HX.o];rfl,⟨?_,λ_=>?_⟩,t.b,?_,t.d,t.D⟩,by simp[intOf];omega⟩
  .rw[jC,HL.a];simp only;rw[t.a.2]
  .by_cases d:k=0
   · have:=t.a.1
     rwa[aB d]at this
   exact HL.A I
  rw[ax I];exact t.c
 first
  | (
    have _:=vV;simp only[jz];have vg:=l.stored (k*6)<|G x.aO;have Lf:=vg.1.stored (k*6+1)<|G x.lo;have Le:=Lf.1.stored (k*6+2)<|G x.hi;have Ld:=Le.1.stored (k*6+3)<|i' x.bO;have T:=Ld.1.stored (k*6+4)<|G x.first;have Lc:=T.1.stored (k*6+5)<|G x.rank;have R:=M Lc.1<|((((vg.2.trans Lf.2).trans Le.2).trans Ld.2).trans T.2).trans Lc.2;clear vg Lf Le Ld T Lc;have Q9:χ F (O w.1.size<|k*6)=C' (G 0):=(l.cellAt (k*6+0) I).trans<|kn D n k 0 HX.o L I;have ah:χ F (O w.1.size<|k*6+1)=C' (G 0):=(l.cellAt (k*6+1) I).trans<|kn D n k 1 HX.o L I;have U:χ F (O w.1.size<|k*6+2)=C' (G 0):=(l.cellAt (k*6+2) I).trans<|kn D n k 2 HX.o L I;have o:χ F (O w.1.size<|k*6+3)=C' (i' Q'):=(l.cellAt (k*6+3) I).trans<|kn D n k 3 HX.o L I;have g:χ F (O w.1.size<|k*6+4)=C' (G 0):=(l.cellAt (k*6+4) I).trans<|kn D n k 4 HX.o L I;have hk6:χ F (O w.1.size<|k*6+5)=C' (G 0):=(l.cellAt (k*6+5) I).trans<|kn D n k 5 HX.o L I
    have E:=l.frozenAt)
  | (
    have R:=l.stored k<|G x;have Q9:=l.cellAt k I;have aa:((D++replicate (n-k) 0).map G)[k]?=C' (G 0):=by rw[bH,fh<|by rw[HX.o];exact aD _,HX.o,jx,jy,aB I];rfl
    rw[aa]at Q9
    have E:=l.frozenAt k)
 have X:=hr.grown R.2 I';have YI:=HB.a F _ r λj f=>R.2.block j (by have:=HH.c j f;have:=HW.C.size;have:=B.size;omega) (by have:=HH.c j f;simp;omega);have YJ:=Y.grown R.2 (λq hq _=>by simp;omega);have x1:=A X;have d:dU bad (bT step n st) s=D':=by
  unfold dU;cases v:bad with
  |true=>rfl
  |false=>
   simp only[bV,bB];have Hm:step OM s2.1.1=D':=by rw[v]at i;simpa[dU]using i
   refine yD step (k:=k+1) ?_ I;rw[jC,HL.a];simp only;rw[Hm]
 have t:=ſ<|M d<|M X<|M YI YJ
 first|(have _:=vV;clear d R X YI YJ i hr r l Y B)|(clear d R X YI YJ i hr r l Y B aa)
 go_wp2_with fail;go_ret
 exact⟨aH ⟨aH t.a,rfl,s3,I,t.b,t.c⟩,t.C⟩):p:=h
def Ko(step:σ->List UInt8->Option ((Int×σ)×List UInt8))(Inv:World->σ->Prop)(gu:World->Prop)(Own:Nat->Prop)(rb n:Nat)(s:ByteArray)(bad:Bool)(st:σ)(w:World)
  (Qm:∀(W:World)(st:σ)(s:ByteArray)(bad:Bool),Inv W st->dc W rb s bad->s.size<=60000->Cl 291 (bM rb) W λe b=>QR b rb s (dU bad (step st) s) (λx:Int=>G x) (λz=>∃x,z=G x) Inv gu e/\Fr (λj=>j≠rb/\¬Own j) W b)
  (hinv:∀(W b:World)(st:σ),Inv W st->(∀j,Own j->b.heap[j]?=W.heap[j]?)->Inv b st) (NS:∀(W b:World),gu W->(∀j,Own j->b.heap[j]?=W.heap[j]?)->gu b) (hIB:∀W st,Inv W st->gu W) (Ho:∀j,Own j->j<δ w.heap) (h:dc w rb s bad) (hi:Inv w st) (y:s.size<=60000) (K:n<=100000000):
  Cl 289 #[.pointer<|some<|O rb 0,G n,.func (.func 291) (bM rb) #[]] w λe b=>
   Ov w b rb n s bad step st Inv gu e/\Fr (λj=>j≠rb/\¬Own j) w b:=by
 exact abD
def Kn(step:σ->List UInt8->Option ((Int×σ)×List UInt8))(Inv:World->σ->Prop)(gu:World->Prop)(Own:Nat->Prop)(c u rb n:Nat)(s:ByteArray)(bad:Bool)(st:σ)(w:World)
  (Qm:∀(W:World)(st:σ)(s:ByteArray)(bad:Bool),Inv W st->dc W rb s bad->s.size<=60000->Cl 290 (rQ c u) W λe b=>QR b rb s (dU bad (step st) s) (λx:Int=>G x) (λz=>∃x,z=G x) Inv gu e/\Fr (λj=>j≠rb/\¬Own j) W b)
  (hinv:∀(W b:World)(st:σ),Inv W st->(∀j,Own j->b.heap[j]?=W.heap[j]?)->Inv b st) (NS:∀(W b:World),gu W->(∀j,Own j->b.heap[j]?=W.heap[j]?)->gu b) (hIB:∀W st,Inv W st->gu W) (Ho:∀j,Own j->j<δ w.heap) (h:dc w rb s bad) (hi:Inv w st) (y:s.size<=60000) (K:n<=100000000):
  Cl 289 #[.pointer<|some<|O rb 0,G n,.func (.func 290) #[]<|rQ c u] w λe b=>
   Ov w b rb n s bad step st Inv gu e/\Fr (λj=>j≠rb/\¬Own j) w b:=by
 exact abD
end
