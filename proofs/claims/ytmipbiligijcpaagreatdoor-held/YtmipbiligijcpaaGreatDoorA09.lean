import Derived.Test.YtmipbiligijcpaaGreatDoorA08
import Derived.Test.YtmipbiligijcpaaGreatDoorA05
namespace Go.Proofs.YtmipbiligijcpaaGreatDoor
set_option linter.all false
set_option maxHeartbeats 0
set_option maxRecDepth 99999
open Go.RowKit Go.Proofs Go.Maps Tryz List open List renaming length->ζ open _root_.Array renaming size->δ open World renaming setCell->κ,ownsRow->ρ,cell?->χ open Value renaming ownBlock->φ open Value renaming slice->h',bool->i',agg->k',string->m',tuple->p' open Obj renaming cells->j' open Ending renaming returned->o' open Option renaming some->C',none->D' open Bool renaming true->P',false->Q'
variable {B N T a c f i k m n q t:Nat}{W:t'}{p:Prop}
section
variable {p:Nat}{c:List RR}{r:RR}{F:Nat->RA}
abbrev kR(N:Nat)(F:Nat->RA):List RA:=(range N).map F
def Cb(N k:Nat)(F:Nat->RA)(g:RA->RA):(kR N F).modify k g=kR N λn=>if n=k then g (F n) else F n:=by
 refine dQ λj=>?_;rw[Je,bH,bH];by_cases f:j<N
 .rw[jv f];by_cases e:k=j
  .subst e;simp
  simp[e,oh e]
 rw[b?<|J' f];simp
def Oo(N t:Nat)(F:Nat->RA)(x:Nat×A'):wT (kR N F) t x=kR N λn=>if n=t then((F n).1,(F n).2++[x]) else F n:=Cb N t F _
def Vw(N k:Nat)(e:A'):∀(R:List Nat)(F:Nat->RA),R.foldl (λl t=>wT l k (t,e)) (kR N F)=kR N λn=>if n=k then((F n).1,(F n).2++R.map λt=>(t,e)) else F n
 |[],F=>by rw[rP];refine eJ λn _=>?_;split<;>simp
 |t::R,F=>by
  rw[e8,Oo,Vw N k e R];congr 1;funext n;split
  .rename_i h;simp[h]
  rename_i h;simp[h]
def UH(N:Nat)(x:Nat×A'):∀(R:List Nat)(j:Nat)(F:Nat->RA),R.foldl (λl t=>wT l t x) (kR N F)=kR N λn=>((F n).1,(F n).2++(ij n j R).map λ_=>x)
 |[],j,F=>by rw[rP];refine eJ λn _=>?_;simp[ij]
 |t::R,j,F=>by
  rw[e8,Oo,UH N x R<|j+1];congr 1;funext n;simp only[ij];by_cases h:n=t
  .subst h;simp
  have s:¬t=n:=λe=>h e.symm;simp[h,s]
def Sys.start{s z:BS}(h:Sys W B a 2 T p c)(U:p≠T)(v:c[k]?=C' r)(y:r.st=eN s):
  Sys (κ (κ W (O a<|k*3)<|Z z.1) (O a<|k*3+1)<|Z z.2) B a 2 T p (c.set k ⟨eN z,r.ea,r.ec,r.es⟩):=by
 have o:=(aV.1 v).1;have b:∀q,q≠a->(κ (κ W (O a<|k*3)<|Z z.1) (O a<|k*3+1)<|Z z.2).1[q]?=W.1[q]?:=λq a=>(bh _ _ _ _ a).trans<|bh _ _ _ _ a;refine⟨?_,h.low,?_,?_,?_⟩
 .rw[aw (aw h.fE _) _];congr 2;rw[cj,cj];congr 1;have V:=p9 c k r ⟨[Z z.1,Z s.2],r.ea,r.ec,r.es⟩ 0 (Z z.1) h.len v I (by simp[oU,y,eN,RR.ev]);rw[k!]at V;rw[V];have u:=p9 (c.set k ⟨[Z z.1,Z s.2],r.ea,r.ec,r.es⟩) k ⟨[Z z.1,Z s.2],r.ea,r.ec,r.es⟩ ⟨eN z,r.ea,r.ec,r.es⟩ 1 (Z z.2) (by intro x F;rcases hU F with F|rfl;(· exact h.len x F);rfl) (by rw[eQ,aB rfl,aB o]) I (by simp[oU,eN,RR.ev]);rw[u,x7]
 .intro x F;rcases hU F with F|rfl
  .exact h.len x F
  rfl
 .intro x F
  have l:ρ W B p 2 x.ev (ζ x.es) (iB x.es):=by
   rcases hU F with F|rfl
   .exact h.row x F
   exact h.row r<|aK v
  refine⟨l.1,?_⟩;rcases l.2 with a|⟨g,e,Y,C,f,N,d⟩
  .exact aI a
  refine aH ⟨g,e,Y,C,f,(b g ?_).trans N,d⟩;rintro rfl;rw[h.fE]at N;simp at N;exact U N.2.symm
 intro i j a b S f t;have d:∀{i:Nat} {a:RR},(c.set k ⟨eN z,r.ea,r.ec,r.es⟩)[i]?=C' a->∃g,c[i]?=C' g/\g.ev=a.ev:=by
  intro i a S;rw[eQ]at S;by_cases e:k=i
  .subst e;rw[aB rfl,aB o]at S;cases S;exact⟨r,v,rfl⟩
  rw[ax e]at S;exact⟨a,S,rfl⟩
 obtain⟨g,c,e⟩:=d S;obtain⟨X,a,b⟩:=d f;rw[<-e,<-b];exact h.wN i j g X c a t
def Sys.sQ{v v':A'}(h:Sys W B a 2 T p c):TF B T p W (κ (κ W (O a<|k*3) v) (O a<|k*3+1) v'):=by
 refine⟨((aP _ _).setCell h.low _).setCell h.low _,λq L t f e C b=>?_⟩;have s:q≠a:=by rintro rfl;rw[h.fE]at e;simp at e;exact C e.2.1.symm
 rw[bh _ _ _ _ s,bh _ _ _ _ s]
def Kl{st:List A'}(U:c.map RR.pr=kR N F)(b:c[k]?=C' r):(c.set k ⟨st,r.ea,r.ec,r.es⟩).map RR.pr=kR N λn=>if n=k then(st,(F n).2) else F n:=by
 have e:(c.set k ⟨st,r.ea,r.ec,r.es⟩).map RR.pr=(c.map RR.pr).modify k λx=>(st,x.2):=by
  refine dQ λj=>?_;rw[bH,eQ,Je,bH];by_cases s:k=j
  .subst s;rw[aB rfl,aB (aV.1 b).1,b];simp[RR.pr]
  rw[ax s];cases c[j]?<;>simp[s]
 rw[e,U,Cb]
def Gp(U:c.map RR.pr=kR N F)(b:k<N):∃r,c[k]?=C' r/\r.st=(F k).1/\r.es=(F k).2:=by
 have X:ζ c=N:=by have:=cQ length U;simpa using this
 have h:=cQ (λl=>l[k]?) U;obtain⟨r,a⟩:=La (l:=c) (i:=k) I;simp only[bH,a,gD,jv b,dq,RR.pr]at h;exact⟨r,a,by rw[<-h],by rw[<-h]⟩
def zb(U:c.map RR.pr=kR N F):ζ c=N:=by have:=cQ length U;simpa using this
def DY{m:Nat}(U:c.map RR.pr=kR N F)(hF:∀n,n<N->ζ (F n).2<=m):∀r∈c,ζ r.es<=m:=by intro r a;obtain⟨j,f⟩:=dN.1 a;have X:=(aV.1 f).1;rw[zb U]at X;obtain⟨g,C,_,N⟩:=Gp U X;rw[f]at C;cases C;rw[N];exact hF j X
end
section
variable {F:Nat->RA}{c:List RR}{r:RR}
def Ú:Ef:=⟨(0,0),(0,0)⟩
def Q0:RA:=([Z 0,Z 0],[])
def TQ(n:SN):Ef:=if fL n then⟨cJ [n.var.toNat],(0,0)⟩ else Ú
def TP(P:Pm)(n:Nat):RA:=(eN<|RV<|P.at n,(P.mK n).map λt=>(t,vS<|TQ<|P.at n))
def Ä(F:Nat->RA)(k:Nat)(n:Nat):RA:=if n<k then F n else Q0
def OC(F:Nat->RA)(N:Nat):kR N (Ä F 0)=replicate N Q0:=by refine Dd.2 ⟨ak,λb a=>?_⟩;obtain⟨n,_,rfl⟩:=bp.1 a;simp[Ä]
def FG(F:Nat->RA)(N:Nat):kR N (Ä F N)=kR N F:=eJ λn K=>by simp[Ä,cq.1 K]
def FF(hF:∀n,n<N->ζ (F n).2<=m):∀n,n<N->ζ (Ä F k n).2<=m:=by
 intro n K;unfold Ä;split
 .exact hF n K
 simp[Q0]
def Ku{P:Pm}(h:cF P){n:SN}(K:n∈P.nd):∀o∈nQ n,o.aN=P'->0<=o.var/\o.var<128:=by
 have R:=h.nv;intro o a i;have b:=h.a n K;have c:=h.b n K;unfold nQ at a;unfold dP at b c;split at a
 .rename_i d;simp at a;subst a;have:=b (by split<;>simp_all) i;omega
 split at a
 .rename_i d;simp at a;rcases a with rfl|rfl
  .have:=b (by split<;>simp_all) i;omega
  have:=c (by simp_all) i;omega
 simp at a
def Ŧ(h:p:=by
 refine⟨D.1,?_⟩;rcases D.2 with a|⟨g,b,Y,C,c,N⟩
 .exact aI a
 exact aH ⟨g,b,Y,C,br d c,N⟩):p:=h
def Sys.deep{f p:Nat}(h:Sys W B a m T p c)(d:f<=B):Sys W f a m T p c:=by refine⟨h.fE,br d h.low,h.len,λr a=>?_,h.wN⟩;have D:=h.row r a;exact Ŧ
def Sys.two{p:Nat}{s:BS}(h:Sys W B a 2 T p c)(b:c[k]?=C' r)(y:r.st=eN s):(χ W (O a<|k*3)=C' (Z s.1)/\W.frozen? (O a<|k*3)=Q')/\χ W (O a<|k*3+1)=C' (Z s.2)/\W.frozen? (O a<|k*3+1)=Q':=
 ⟨h.cell (j:=0) b<|by simp[oU,y,eN],h.cell (j:=1) b<|by simp[oU,y,eN]⟩
def z!{b:List RR}{st:List A'}{R:List Nat}{e:A'}(U:b.map RR.pr=kR N (Ä F k))(c:b[k]?=C' r)(hF:F k=(st,R.map λt=>(t,e))):R.foldl (λl t=>wT l k (t,e)) ((b.set k ⟨st,r.ea,r.ec,r.es⟩).map RR.pr)=kR N (Ä F<|k+1):=by
 rw[Kl U c,Vw];refine eJ λn _=>?_;by_cases h:n=k
 .subst h;simp[Ä,Q0,hF]
 have:n<k+1↔n<k:=I;simp[h,Ä,this]
theorem į(h:p:=by
 subst u;have l:=aq c.o.2.2<|cE t<|.cells (dB rb N) 260;have hs:=c.o.1.below<|cE t<|.cells (dB rb N) 260
 exact⟨aq U.o.1 l,aF l U.o.2.1,aF l U.o.2.2,bj _ _,hs.deep U.o.1.size,by rw[c.o.2.1,OC]⟩):p:=h
def T0(g cap:Nat)(nl:List NC)(P:Pm)(w:t')(hP:PM w g cap nl P)(h:cF P):
  Cl 221 #[gi g (ζ P.nd) cap P.nv] w λe w'=>∃rb d,e=o' (p' #[cP rb<|ζ P.nd,G P.nv])/\Sys w' w.1.size rb 2 393 404 d/\d.map RR.pr=kR (ζ P.nd) (TP P)/\Bl w w':=by
 have p:=h.most;have i:=h.nv;have s:=ſ<|M hP h;have f:J (∀W,Cl 280 #[gi g (ζ P.nd) cap P.nv] W λe w'=>∃rb d,e=o' (cP rb<|ζ P.nd)/\Sys w' W.1.size rb 2 393 404 d/\d.map RR.pr=replicate (ζ P.nd) Q0/\Bl W w'):=λW=>l0 g (ζ P.nd) cap P.nv W p;have a:∀n,n<ζ P.nd->ζ (TP P n).2<=200:=by intro n K;obtain⟨c,R,_,_,_,q,B,_⟩:=hP.nodes K;have:=(h.nx R<|aK q).1;simp[TP,B];omega
 obtain⟨N,b⟩:=Ea<|ζ P.nd;obtain⟨Q,c⟩:=Ea P.nv;rw[<-b]at p a;rw[<-c]at i;rw[<-b,<-c]at f|-;have K:=ſ<|M b<|M c a;clear hP h b c a;simp only[gi,cP]at f|-;go_enter func221,ntmps221;go_upto_region 1 with(fail)
 generalize u:(w.alloc<|j' (ei g N cap Q) 86).alloc (j' Fp 260)=a;have U:J (Bl w a/\a.1[δ w.1]?=C' (j' (ei g N cap Q) 86 (0,0))/\a.1[δ w.1+1]?=C' mN):=by subst u;exact⟨cU,eO.1,eO.2⟩
 clear u;have E:=A U.b;go_upto_region 2 with(go_at_call 280;refine(f.o _).mono ?_;rintro e t ⟨rb,d,rfl,S,Y,l⟩;have c:=ſ<|M S<|M Y l;clear S Y l E)
 generalize u:t.alloc (j' (dB rb N) 260)=F;have p:J (Bl w F/\F.1[δ w.1]?=C' (j' (ei g N cap Q) 86 (0,0))/\F.1[δ w.1+1]?=C' mN/\F.1[δ t.1]?=C' (j' (dB rb N) 260 (0,0))/\Sys F w.1.size rb 2 393 404 d/\d.map RR.pr=kR N (Ä (TP P) 0)):=by exact į
 clear u;have a:δ w.1+1<δ t.1:=by have:=c.B.size;have:=À U.B;omega
 have B:rb<δ t.1:=À c.a.fE;have b:δ w.1+1<rb:=by have:=c.a.low;have:=À U.B;omega
 generalize δ t.1=sb at p a B|-;have E:=A p.b;go_wp2_with fail;clear E;go_loopw[13] (λy wr=>∃(i:Nat)(ql:List RR),i<=N/\y=G i/\J (Sys wr w.1.size rb 2 393 404 ql/\ql.map RR.pr=kR N (Ä (TP P) i)/\TF w.1.size 393 404 F wr)) (λy _=>N-(intOf y).toNat)
 case atStart=>exact⟨0,d,bq _,rfl,p.e,p.E,Bj⟩
 obtain⟨i,ql,S,rfl,S⟩:=hrel;have D:=À<|S.B.box p.d aj aj;by_cases L:i<N;rotate_left
 .have a:¬(i:Int)<N:=I;have d:i=N:=I;have Y:=S.B;have E:=A<|Y.box p.d aj aj;have y1:=A<|Y.box p.b aj aj;have z1:=A<|Y.box p.c aj aj;have n1:δ w.1+1≠sb:=I;have n2:=n1.symm;have c:δ w.1+1≠δ w.1:=I;clear Y;go_upto_region 11 with fail
  go_region_law fail
  all_goals
   go_wp2_with fail;have v:wr.1[δ w.1+1]?=C' mN:=S.B.box p.c aj aj;have b:=(A<|aw (o:=2) (aw (o:=1) (aw (o:=0) v<|cw rb N) iP) mM).1;refine aC (v:=p' #[cP rb N,G Q]) (by simp[results221,go_sem,(A<|aw (o:=0) v<|cw rb N).1,(A<|aw (o:=1) (aw (o:=0) v<|cw rb N) iP).1,b,cP]) rfl ⟨rb,rfl,ql,?_,?_,?_⟩
   .exact S.a.keep v ⟨aj,aj⟩ (λk b=>by show(((wr.setCell _ _).setCell _ _).setCell _ _).1[k]?=_;rw[bh _ _ _ _ b,bh _ _ _ _ b,bh _ _ _ _ b])
   .rw[S.b,d,FG]
   exact((((p.a.trans S.B.low)).setCell I' _).setCell I' _).setCell I' _ |>.drew
 have a:(i:Int)<N:=I;have k:=(s.a.below p.a).tf S.B aj aj aj aj;obtain⟨r,R,T,z,B,_,Uq,_⟩:=k.nodes (by rw[<-K.a];exact L);have X:=λj (f:j<14)=>(mY k T j f);have f:=aK z;obtain⟨j,tI⟩:=Ea r.n;rw[<-tI]at X z B f;simp only[NC.wv,NC.ev]at X;generalize r.bL=U at X;generalize r.wa=y at X;generalize r.wl=wl at X;generalize r.wc=wc at X;generalize r.ea=ea at X;generalize r.el=el at X;generalize r.ec=ec at X;have D:J (∀W,Cl 284 #[k'<|aJ U (h' y wl wc) j<|h' ea el ec] W<|Rb W<|cn<|RV j):=λW=>RT U (h' y wl wc) (h' ea el ec) j W<|Ku s.A f;have E8:J (∀W,Cl 282 #[k'<|aJ U (h' y wl wc) j<|h' ea el ec] W<|Rb W<|i'<|fL j):=λW=>(l! U _ _ j W (s.A.aO j f).1).mono λe w' V=>⟨V.1,by rw[V.2];exact aY⟩;have II:J (fL j=P'->0<=j.var/\j.var<8):=λh=>by have:=s.A.var j f (by simpa[fL]using h);have:=s.A.nv;omega
 obtain⟨c,V⟩:=Ea<|RV j;obtain⟨ok,o⟩:=Ea<|fL j;obtain⟨r,hr,R,YK⟩:=Gp S.b L;have d:J (ql[i]?=C' r/\r.st=eN (0,0)/\TP P i=(eN c,(P.mK i).map λt=>(t,vS<|if ok then⟨cJ [j.var.toNat],(0,0)⟩ else Ú))):=⟨hr,by rw[R];simp[Ä,Q0,eN],by unfold TP TQ;rw[B,V,o]⟩;have wD:J (∀W e b,PM W g cap nl P->Sys W w.1.size rb 2 393 404 b->ζ b=N->δ w.1<=δ W.1->(∀r∈b,ζ r.es<=200)->Cl 285 #[cP rb N,gi g N cap Q,G i,Fc e] W λr w'=>(∃v,r=o' v)/\∃a,Sys w' w.1.size rb 2 393 404 a/\a.map RR.pr=(P.mK i).foldl (λl t=>wT l i (t,vS e)) (b.map RR.pr)/\TF w.1.size 393 404 W w'):=by intro W e b C h2 h3 h4 l;have:=tY g cap Q rb w.1.size i nl P b e W C s.A (by rw[<-K.a];exact L) h2 (by rw[<-K.a];exact h3) h4 l;rwa[<-K.a]at this
 have HF:J (∀x∈ql.set i ⟨eN c,r.ea,r.ec,r.es⟩,ζ x.es<=200):=by
  have b:=DY S.b<|FF K.B;intro x q;rcases hU q with q|q
  .exact b x q
  rw[q];exact b r<|aK hr
 have HL:=ſ<|zb S.b;rw[<-V]at D;rw[<-o]at E8 II;obtain⟨x,q,op,K,⟨ai,av,b⟩,⟨bi,bv,bc⟩,l⟩:=j;have j:=OU X;simp only[aJ,cn]at D E8 II;simp only[cP,gi,Fc]at wD;clear X V o tI z hr R YK B f T k Uq;go_upto_region 5 with(fail)
 generalize f:wr.alloc (j' #[m' U,h' y wl wc,G x,G q,G op,G K,i' ai,G av,G b,i' bi,G bv,G bc,h' ea el ec,m' l] 152)=V;have B:J (Below wr.1.size wr V/\V.1[δ wr.1]?=C' (j' #[m' U,h' y wl wc,G x,G q,G op,G K,i' ai,G av,G b,i' bi,G bv,G bc,h' ea el ec,m' l] 152 (0,0))):=by subst f;exact⟨aY,bj _ _⟩
 clear f j;have E:=A<|aF B.a<|S.B.box p.d aj aj;have y1:=A B.A;have X:=B.a.size;have n1:rb≠sb:=I;have n2:=n1.symm
 go_region_law (go_simp;refine bE (D.o _) ?_;rintro e o ⟨rfl,f⟩;have D:J (Bl V o):=aq ay f;clear f E y1;have E:=A<|aF D.o<|aF B.a<|S.B.box p.d aj aj;have y1:=A<|aF D.o B.A;have z1:=((S.a.below B.a).below D.o).two d.a d.b)
 all_goals
  generalize u:κ (κ o (O rb<|i*3)<|Z c.1) (O rb<|i*3+1) (Z c.2)=j;have X:J (Sys j w.1.size rb 2 393 404 (ql.set i ⟨eN c,r.ea,r.ec,r.es⟩)/\TF w.1.size 393 404 F j/\j.1[δ wr.1]?=C' (j' #[m' U,h' y wl wc,G x,G q,G op,G K,i' ai,G av,G b,i' bi,G bv,G bc,h' ea el ec,m' l] 152 (0,0))):=by subst u;have hs:=(S.a.below B.a).below D.o;have Y:=hs.sQ (k:=i) (v:=Z c.1) (v':=Z c.2);exact⟨hs.start aj d.a d.b,(S.B.trans<|TF.aR (aq B.a D.o) I).trans Y,Y.box (aF D.o B.A) aj aj⟩
  clear u;clear E y1 z1;generalize δ wr.1=D at X B|-;go_upto_region 7 with fail
  generalize u:j.alloc (j' x? 397)=z;have f:J (Below j.1.size j z/\z.1[δ j.1]?=C' (j' x? 397 (0,0))/\δ w.1<=δ j.1/\δ F.1<=δ j.1):=by subst u;exact⟨aY,bj _ _,by have:=X.b.low.size;have:=À<|X.b.box p.b aj aj;omega,X.b.low.size⟩
  clear u;have o:=ſ<|M f.a f.c;generalize δ j.1=k at f|-;have E:=A<|aF o.a X.B;have H6:J (∀W,Bl z W->PM W g cap nl P/\Sys W w.1.size rb 2 393 404 (ql.set i ⟨eN c,r.ea,r.ec,r.es⟩)/\δ w.1<=δ W.1/\TF w.1.size 393 404 F W/\W.1[D]?=C' (j' #[m' U,h' y wl wc,G x,G q,G op,G K,i' ai,G av,G b,i' bi,G bv,G bc,h' ea el ec,m' l] 152 (0,0))/\W.1[sb]?=C' (j' (dB rb N) 260 (0,0))/\W.1[δ w.1]?=C' (j' (ei g N cap Q) 86 (0,0))/\W.1[k]?=C' (j' x? 397 (0,0))):=by intro W j;have b:=aq o.a j;have Y:=X.b.trans<|TF.aR b o.A;exact⟨(s.a.below p.a).tf Y aj aj aj aj,X.a.below b,br o.A b.size,Y,aF b X.B,Y.box p.d aj aj,Y.box p.b aj aj,aF j f.b⟩
  have b:=f.C;cases ok
  .go_upto_region 9 with(go_at_call 282;refine(E8.o _).mono ?_;rintro e U ⟨rfl,f⟩;have u:=ſ f;clear f E)
   obtain⟨B,y,l,Y,_,o,x,j⟩:=H6.o U u.o;have E:=A o;have y1:=A x;have z1:=A j;have W:J (Cl 285 #[k'<|dB rb N,k'<|ei g N cap Q,G i,k' x?] U λr w'=>(∃v,r=o' v)/\∃a,Sys w' w.1.size rb 2 393 404 a/\a.map RR.pr=kR N (Ä (TP P)<|i+1)/\TF w.1.size 393 404 F w'):=by refine bE (wD.o U Ú _ B y (by rw[jn];exact HL.o) l HF.o) ?_;rintro r w' ⟨C,a,h2,h3,h4⟩;exact⟨C,a,h2,h3.trans<|z! S.b d.a d.B,Y.trans h4⟩
   clear B y l Y o x j;go_wp2_with (go_at_call 285;refine W.o.mono ?_;rintro e D ⟨⟨v,rfl⟩,a,V⟩;have b:=ſ V;clear V E y1 z1);go_roundw
   case rel=>exact⟨i+1,a,L,f',b.o⟩
   exact H'
  have R:=II.o rfl;obtain⟨K,rfl⟩:∃K:Nat,q=(K:Int):=⟨q.toNat,L' R.1⟩;have q:K<128:=by have:=R.2;omega
  have s:J (∀X b,χ X (O b 0)=C' (G K)->Cl 241 (mL b) X (Rb X<|cn<|cJ [K])):=λX b T=>kz X b K q T;have T:J (TP P i=(eN c,(P.mK i).map λt=>(t,vS ⟨cJ [K],(0,0)⟩))):=by show _=_;rw[d.B];simp
  obtain⟨b,q⟩:=Ea<|cJ [K];rw[<-q]at s T;clear R q;simp only[cn]at s;go_upto_region 8 with(go_at_call 282;refine(E8.o _).mono ?_;rintro e U ⟨rfl,f⟩;have u:=ſ f;clear f E)
  have E:=A (H6.o U u.o).2.2.2.2.1
  skip
  go_upto_region 9 with(go_at_call 241;refine(s.o _ _ ak).mono ?_;rintro e D ⟨rfl,q⟩;have f:=ſ<|aq u.o<|aq aY q;clear q E;have z1:=A (H6.o D f.o).2.2.2.2.2.2.2)
  have s:J (PM (κ (κ D (O k 0)<|Z b.1) (O k 1)<|Z b.2) g cap nl P/\Sys (κ (κ D (O k 0)<|Z b.1) (O k 1)<|Z b.2) w.1.size rb 2 393 404 (ql.set i ⟨eN c,r.ea,r.ec,r.es⟩)/\δ w.1<=δ (κ (κ D (O k 0)<|Z b.1) (O k 1)<|Z b.2).1/\TF w.1.size 393 404 F (κ (κ D (O k 0)<|Z b.1) (O k 1)<|Z b.2)/\(κ (κ D (O k 0)<|Z b.1) (O k 1)<|Z b.2).1[sb]?=C' (j' (dB rb N) 260 (0,0))/\(κ (κ D (O k 0)<|Z b.1) (O k 1)<|Z b.2).1[δ w.1]?=C' (j' (ei g N cap Q) 86 (0,0))/\(κ (κ D (O k 0)<|Z b.1) (O k 1)<|Z b.2).1[k]?=C' (j' #[Z b.1,Z b.2,Z 0,Z 0] 397 (0,0))):=by
   obtain⟨B,y,l,Y,_,o,x,j⟩:=H6.o D f.o;have c:∀q,q≠k->(κ (κ D (O k 0)<|Z b.1) (O k 1)<|Z b.2).1[q]?=D.1[q]?:=λq f=>(bh _ _ _ _ f).trans<|bh _ _ _ _ f;have z:sb≠k:=by rintro rfl;rw[o]at j;simp at j
   have K:δ w.1≠k:=by intro h;rw[<-h,x]at j;simp at j
   refine⟨B.keep λq u t f e U=>c q ?_,y.keep j ⟨aj,aj⟩ c,?_,?_,(c _ z).trans o,(c _ K).trans x,?_⟩
   .rintro rfl;rw[j]at e;simp at e;obtain⟨_,rfl,_⟩:=e;rcases U with h|h<;>exact absurd h aj
   .simpa using l
   .exact⟨(Y.low.setCell (by show _<=k;have:=p.a.size;omega) _).setCell (by show _<=k;have:=p.a.size;omega) _,λq u t f e C h2=>(c q<|L'<|(bG.1 e).1).trans<|Y.keep q u t f e C h2⟩
   rw[aw (aw j _) _];rfl
  clear z1;generalize(κ D (O k 0)<|Z b.1).setCell (O k 1) (Z b.2)=c at s|-;obtain⟨B,y,l,Y,o,x,j⟩:=s.o;have E:=A o;have y1:=A x;have z1:=A j;have W:J (Cl 285 #[k'<|dB rb N,k'<|ei g N cap Q,G i,k' #[Z b.1,Z b.2,Z 0,Z 0]] c λr w'=>(∃v,r=o' v)/\∃a,Sys w' w.1.size rb 2 393 404 a/\a.map RR.pr=kR N (Ä (TP P)<|i+1)/\TF w.1.size 393 404 F w'):=by refine bE (wD.o c ⟨b,(0,0)⟩ _ B y (by rw[jn];exact HL.o) l HF.o) ?_;rintro r w' ⟨C,a,h2,h3,h4⟩;exact⟨C,a,h2,h3.trans<|z! S.b d.a T.o,Y.trans h4⟩
  clear B y l Y o x j;go_wp2_with (go_at_call 285;refine W.o.mono ?_;rintro e l ⟨⟨v,rfl⟩,a,Y⟩;have W:=ſ Y;clear Y E y1 z1);go_roundw
  case rel=>exact⟨i+1,a,L,f',W.o⟩
  exact H'
end
section
variable {P:Pm}{w:t'}{v:A'}
def vh(P:Pm)(st:Nat->List A')(E:Nat->Ef)(k n:Nat):RA:=(st n,(range k).flatMap λm=>(ij n 0<|P.mK m).map λ_=>(m,vS<|E m))
def Hu(P:Pm)(E:Nat->Ef)(N:Nat):kR N (vh P (λ_=>eN (0,0)) E 0)=replicate N Q0:=by refine Dd.2 ⟨ak,λb a=>?_⟩;obtain⟨n,_,rfl⟩:=bp.1 a;simp[vh,Q0,eN]
def Hv(P:Pm)(st:Nat->List A')(E:Nat->Ef)(N k:Nat):(P.mK k).foldl (λl t=>wT l t (k,vS<|E k)) (kR N<|vh P st E k)=kR N (vh P st E<|k+1):=by rw[UH N (k,vS<|E k) (P.mK k) 0];refine eJ λn _=>?_;simp[vh,kI]
def Hj(n:Nat):∀(j:Nat)(R:List Nat),ζ (ij n j R)<=ζ R
 |_,[]=>by simp[ij]
 |j,t::R=>by have:=Hj n (j+1) R;simp only[ij];split<;>simp<;>omega
def xp{P:Pm}{st:Nat->List A'}{E:Nat->Ef}(b:∀m,ζ (P.mK m)<=2){n:Nat}:∀k,ζ (vh P st E k n).2<=2*k
 |0=>by simp[vh]
 |k+1=>by have B:=xp b (st:=st) (E:=E) (n:=n) k;have C:=Hj n 0<|P.mK k;have N:=b k;simp only[vh,kI,I?,aW,b9,xW,fQ,bA]at B|-;omega
def tm(h:cF P)(m:Nat):ζ (P.mK m)<=2:=by
 rw[Pm.mK,getD];cases e:P.nx[m]? with
 |none=>simp
 |some l=>exact(h.nx l<|aK e).1
def ze{a:t'}{T p:Nat}{D:List A'}(h:ρ w B t m v n D)(e:TF f T p w a)(C:t≠T)(d:t≠p):ρ a B t m v n D:=by
 refine⟨h.1,?_⟩;rcases h.2 with a|⟨g,b,Y,V,u,c,f⟩
 .exact aI a
 exact aH ⟨g,b,Y,V,u,(e.keep g _ _ _ c C d).trans c,f⟩
def pD{h:List A'}(D:ρ w B t m v n h)(d:f<=B):ρ w f t m v n h:=by exact Ŧ
def sk(P:Pm):ζ P.ex<=ζ P.nd:=by have:=U6 (ζ P.nd) P;rwa[b!<|aD _]at this
def U3(h:∀n∈P.nd,nw<|jm n):∀x∈P.ex,nw x:=by have:=EC (ζ P.nd) P h;rwa[b!<|aD _]at this
def vm{n:SN}(K:n∈P.nd)(l:Lx n=P'):jm n∈P.ex:=by have:C' (jm n)∈P.nd.map uk:=bp.2 ⟨n,K,by rw[ED,aB l]⟩;exact(Y7 _ _).2 this
def TX(ks:List Å)(n:SN):Ef:=⟨zV ks n,Fb ks n⟩
def ä(ks:List Å)(n:Nat):List A':=eN (if n=0 then j5 (ζ ks) else(0,0))
def đ(P:Pm):Nat->RA:=vh P (ä P.ex) (λm=>TX P.ex<|P.at m)<|ζ P.nd
end
def G9(g cap Q:Nat)(D:List NC)(P:Pm)(w:t')(hP:PM w g cap D P)(q:cF P)(d:∀n∈P.nd,nw<|jm n):
  Cl 222 #[gi g (ζ P.nd) cap Q] w λe w'=>∃rb f,e=o' (p' #[cP rb<|ζ P.nd,G<|ζ P.ex])/\Sys w' w.1.size rb 2 393 404 f/\f.map RR.pr=kR (ζ P.nd) (đ P)/\Bl w w':=by
 have p:=q.most;have j:=q.pos;have b:=sk P;have s:=ſ<|M hP<|M q d;have l:J (∀W,Cl 280 #[gi g (ζ P.nd) cap Q] W λe w'=>∃rb f,e=o' (cP rb<|ζ P.nd)/\Sys w' W.1.size rb 2 393 404 f/\f.map RR.pr=replicate (ζ P.nd) Q0/\Bl W w'):=λW=>l0 g (ζ P.nd) cap Q W p;have o:J (∀W,Bl w W->Cl 286 #[gi g (ζ P.nd) cap Q] W λe w'=>∃a c,e=o' (bk a (ζ P.ex) c)/\ρ w' W.1.size 430 7 (bk a (ζ P.ex) c) (ζ P.ex) (l5 P.ex)/\Bl W w'):=λW hW=>Cx g cap Q D P W (hP.below hW) p d;obtain⟨N,c⟩:=Ea<|ζ P.nd;obtain⟨R,i⟩:=Ea P.ex;rw[<-c]at p j b;rw[<-i]at b;rw[<-c,<-i]at o|-;rw[<-c]at l;have K:=ſ<|M c i;have k:J (∀W,Cl 208 #[G<|ζ R] W<|Rb W<|cn<|j5<|ζ R):=λW=>o8 (ζ R) W I;obtain⟨h,a⟩:=Ea<|j5<|ζ R;rw[<-a]at k;have r:=ſ a;clear hP q c i d a;simp only[gi,cP,cn]at l o k|-;go_enter func222,ntmps222;go_upto_region 1 with(fail)
 generalize u:(w.alloc<|j' (ei g N cap Q) 86).alloc (j' Fp 260)=a;have U:J (Bl w a/\d' a w.1.size (ei g N cap Q) 86/\a.1[δ w.1+1]?=C' mN):=by subst u;exact⟨cU,eO.1,eO.2⟩
 clear u;have E:=A U.b;go_upto_region 2 with(go_at_call 280;refine(l.o _).mono ?_;rintro e t ⟨rb,f,rfl,S,Y,l⟩;have c:=ſ<|M S<|M Y l;clear S Y l E)
 generalize u:t.alloc (j' (dB rb N) 260)=F;have b:J (Bl w F/\d' F w.1.size (ei g N cap Q) 86/\F.1[δ w.1+1]?=C' mN/\d' F t.1.size (dB rb N) 260/\Sys F w.1.size rb 2 393 404 f/\f.map RR.pr=kR N (vh P (λ_=>eN (0,0)) (λm=>TX R<|P.at m) 0)):=by subst u;have l:=aq c.B<|cE t<|j' (dB rb N) 260;have y:=c.a.below<|cE t<|j' (dB rb N) 260;exact⟨aq U.a l,aF l U.b,aF l U.B,bj _ _,y.deep U.a.size,by rw[c.b,Hu]⟩
 clear u;have a:δ w.1+1<δ t.1:=by have:=c.B.size;have:=À U.B;omega
 have B:rb<δ t.1:=À c.a.fE;generalize δ t.1=sb at b a B|-;have E:=A b.b;go_upto_region 3 with(go_at_call 286;refine(o.o _ b.a).mono ?_;rintro e o ⟨q,t,rfl,a,Y⟩;have z:=ſ<|M a Y;clear a Y E)
 obtain⟨c,d,vg,_⟩:=Gp b.E j;have a:J (f[0]?=C' c/\c.st=eN (0,0)):=⟨d,vg⟩;clear d vg;have E:=A<|aF z.A b.d;have j:rb≠sb:=I;have x:=j.symm;have d:(0:Int)<N:=I
 go_region_law (go_simp;refine bE (k.o _) ?_;rintro e i ⟨rfl,v⟩;have k:J (Bl o i):=aq ay v;clear v E;have E:=A<|aF k.o<|aF z.A b.d;have d:=((b.e.below z.A).below k.o).two a.a a.A;simp only[gN,bW]at d;have o:=d)
 all_goals
  generalize u:κ (κ i (O rb 0)<|Z h.1) (O rb 1) (Z h.2)=C;have U:J (Bl w C/\PM C g cap D P/\ρ C w.1.size 430 7 (bk q (ζ R) t) (ζ R) (l5 R)/\Sys C w.1.size rb 2 393 404 (f.set 0 ⟨eN h,c.ea,c.ec,c.es⟩)/\(f.set 0 ⟨eN h,c.ea,c.ec,c.es⟩).map RR.pr=kR N (vh P (ä R) (λm=>TX R<|P.at m) 0)/\d' C w.1.size (ei g N cap Q) 86/\C.1[δ w.1+1]?=C' mN/\d' C sb (dB rb N) 260):=by
   subst u;have c:=aq z.A k.o;have y:=b.e.below c;have Y:=y.sQ (k:=0) (v:=Z h.1) (v':=Z h.2);have d:=y.start aj a.a a.A (z:=h);simp only[gN,bW]at Y d;have p:=aq b.a c;refine⟨p.trans Y.low,(s.a.below p).tf Y aj aj aj aj,ze (bu (pD z.a b.a.size) k.o) Y aj aj,d,?_,Y.box (aF c b.b) aj aj,Y.box (aF c b.c) aj aj,Y.box (aF c b.d) aj aj⟩;rw[Kl b.E a.a];refine eJ λn _=>?_;by_cases a:n=0
   .subst a;simp[vh,ä,r.o]
   simp[vh,ä,a]
  clear u;clear E o;have E:=A U.f;go_wp2_with fail;clear E;go_loopw[22] (λy wr=>∃(i:Nat)(b:List RR),i<=N/\y=G i/\J (Sys wr w.1.size rb 2 393 404 b/\b.map RR.pr=kR N (vh P (ä R) (λm=>TX R<|P.at m) i)/\TF w.1.size 393 404 C wr)) (λy _=>N-(intOf y).toNat)
  case atStart=>exact⟨0,_,bq _,rfl,U.d,U.e,Bj⟩
  obtain⟨i,b,S,rfl,u⟩:=hrel;have zL:δ w.1<=δ wr.1:=br U.a.size u.B.low.size;by_cases L:i<N;rotate_left
  .have a:¬(i:Int)<N:=I;have d:i=N:=I;have Y:=u.B;have v:=Y.box U.g aj aj;have E:=A<|Y.box U.G aj aj;have o:=A v;have j:δ w.1+1≠sb:=I;have x:=j.symm;clear Y;go_wp2_with fail;have F:=(A<|aw (o:=2) (aw (o:=1) (aw (o:=0) v<|cw rb N) iP) mM).1;refine aC (v:=p' #[cP rb N,G<|ζ R]) (by simp[results222,go_sem,(A<|aw (o:=0) v<|cw rb N).1,(A<|aw (o:=1) (aw (o:=0) v<|cw rb N) iP).1,F,cP]) rfl ⟨rb,rfl,b,?_,?_,?_⟩
   .exact u.a.keep v ⟨aj,aj⟩ (λk c=>by rw[bh _ _ _ _ c,bh _ _ _ _ c,bh _ _ _ _ c])
   .rw[u.b,d,đ,<-K.a,<-K.A]
   exact(((U.a.trans u.B.low).setCell I' _).setCell I' _).setCell I' _
  have a:(i:Int)<N:=I;have S:=U.b.tf u.B aj aj aj aj;obtain⟨r,a,T,V,hat,_,Uq,_⟩:=S.nodes (by rw[<-K.a];exact L);have X:=λj (f:j<14)=>(mY S T j f);have h:=aK V;obtain⟨j,tI⟩:=Ea r.n;rw[<-tI]at X V hat h;simp only[NC.wv,NC.ev]at X;generalize r.bL=k at X;generalize r.wa=y at X;generalize r.wl=wl at X;generalize r.wc=wc at X;generalize r.ea=ea at X;generalize r.el=Y at X;generalize r.ec=B at X;have o:=ze U.c u.B aj aj;have ae:J (∀W,Bl wr W->Cl 287 #[k'<|aJ k (h' y wl wc) j<|h' ea Y B,h' q (ζ R) t] W (Rb W<|cn<|zV R j)):=λW hW=>ru k y wl wc ea Y B j q t R W (zx<|bu o hW) (by rw[K.A];exact U3 s.B) I λa=>⟨s.B j h,by rw[K.A];exact vm h a⟩;have d:J (∀W,Bl wr W->Cl 288 #[k'<|aJ k (h' y wl wc) j<|h' ea Y B,h' q (ζ R) t] W (Rb W<|cn<|Fb R j)):=λW hW=>Cg k y wl wc ea Y B j q t R W (zx<|bu o hW) I (s.b.aO j h).1;have E:J (∀W,Bl wr W->Cl 283 #[cP rb N,gi g N cap Q,G i,Fc ⟨zV R j,Fb R j⟩] W λr w'=>(∃v,r=o' v)/\∃a,Sys w' w.1.size rb 2 393 404 a/\a.map RR.pr=kR N (vh P (ä R) (λm=>TX R<|P.at m)<|i+1)/\TF w.1.size 393 404 C w'/\TF w.1.size 393 404 W w'):=by intro W hW;have:=vY g cap Q rb w.1.size i D P b ⟨zV R j,Fb R j⟩ W (S.below hW) s.b (by rw[<-K.a];exact L) (u.a.below hW) (by rw[<-K.a];exact zb u.b) (br zL hW.size) (DY u.b λn _=>by have:=xp (st:=ä R) (E:=λm=>TX R<|P.at m) (n:=n) (tm s.b) i;omega);rw[<-K.a]at this;refine this.mono ?_;rintro r w' ⟨C,a,h2,K,s⟩;refine⟨C,a,h2,?_,(u.B.trans<|TF.aR hW zL).trans s,s⟩;rw[K,u.b,<-Hv,hat];rfl
  obtain⟨b,C⟩:=Ea<|zV R j;obtain⟨c,v⟩:=Ea<|Fb R j;rw[<-C]at ae E;rw[<-v]at d E;obtain⟨x,q,op,r,⟨P,f,b⟩,⟨bi,D,z⟩,c⟩:=j;have t:=OU X;simp only[aJ,cn,cP,gi,Fc]at ae d E;clear X C v tI V hat h T S Uq o;go_upto_region 7 with(fail)
  generalize h:wr.alloc (j' #[m' k,h' y wl wc,G x,G q,G op,G r,i' P,G f,G b,i' bi,G D,G z,h' ea Y B,m' c] 152)=V;have j:J (Bl wr V/\d' V wr.1.size #[m' k,h' y wl wc,G x,G q,G op,G r,i' P,G f,G b,i' bi,G D,G z,h' ea Y B,m' c] 152/\d' V sb (dB rb N) 260/\d' V w.1.size (ei g N cap Q) 86):=by subst h;exact⟨aY,bj _ _,aF aY<|u.B.box U.G aj aj,aF aY<|u.B.box U.f aj aj⟩
  clear h t;have S:J (∀W,TF w.1.size 393 404 V W->χ W (O wr.1.size 0)=C' (m' k)/\χ W (O wr.1.size 1)=C' (h' y wl wc)/\χ W (O wr.1.size 2)=C' (G x)/\χ W (O wr.1.size 3)=C' (G q)/\χ W (O wr.1.size 4)=C' (G op)/\χ W (O wr.1.size 5)=C' (G r)/\χ W (O wr.1.size 6)=C' (i' P)/\χ W (O wr.1.size 7)=C' (G f)/\χ W (O wr.1.size 8)=C' (G b)/\χ W (O wr.1.size 9)=C' (i' bi)/\χ W (O wr.1.size 10)=C' (G D)/\χ W (O wr.1.size 11)=C' (G z)/\χ W (O wr.1.size 12)=C' (h' ea Y B)/\χ W (O wr.1.size 13)=C' (m' c)/\χ W (O sb 0)=C' (cw rb N)/\χ W (O sb 1)=C' iP/\χ W (O sb 2)=C' mM/\χ W (O w.1.size 0)=C' (eu g N cap)/\χ W (O w.1.size 1)=C' (G Q)):=by intro W hW;have R:=(A<|hW.box j.b aj aj).1;have F:=(A<|hW.box j.c aj aj).1;have h:=(A<|hW.box j.C aj aj).1;exact⟨R 0,R 1,R 2,R 3,R 4,R 5,R 6,R 7,R 8,R 9,R 10,R 11,R 12,R 13,F 0,F 1,F 2,h 0,h 1⟩
  have h:δ w.1<=δ V.1:=br zL j.a.size;have o:=S.o V Bj
  go_region_held3 (λw'=>χ w' (O wr.1.size 0)=C' (m' k)/\χ w' (O wr.1.size 1)=C' (h' y wl wc)/\χ w' (O wr.1.size 2)=C' (G x)/\χ w' (O wr.1.size 3)=C' (G q)/\χ w' (O wr.1.size 4)=C' (G op)/\χ w' (O wr.1.size 5)=C' (G r)/\χ w' (O wr.1.size 6)=C' (i' P)/\χ w' (O wr.1.size 7)=C' (G f)/\χ w' (O wr.1.size 8)=C' (G b)/\χ w' (O wr.1.size 9)=C' (i' bi)/\χ w' (O wr.1.size 10)=C' (G D)/\χ w' (O wr.1.size 11)=C' (G z)/\χ w' (O wr.1.size 12)=C' (h' ea Y B)/\χ w' (O wr.1.size 13)=C' (m' c)/\χ w' (O sb 0)=C' (cw rb N)/\χ w' (O sb 1)=C' iP/\χ w' (O sb 2)=C' mM/\χ w' (O w.1.size 0)=C' (eu g N cap)/\χ w' (O w.1.size 1)=C' (G Q)) (go_keep) ((first|(go_at_call 287;refine(ae.o _<|aq j.a ay).mono ?_;rintro e f ⟨rfl,l⟩;have p:Bl V f:=aq ay l;have D:=ſ p;have P:=S.o f<|TF.aR p h;clear l p)|(go_at_call 288;refine(d.o _<|aq j.a<|aq D.o ay).mono ?_;rintro e b ⟨rfl,X⟩;have p:Bl V b:=aq (aq D.o ay) X;have c:=ſ p;have o0:=S.o b<|TF.aR p h;clear X p)|(go_at_call 283;refine(E.o _<|aq j.a<|aq c.o ay).mono ?_;rintro e E ⟨⟨b,rfl⟩,a,h2,K,s,b⟩;have l:=ſ<|M h2<|M K s;have Q:=S.o E<|(TF.aR (aq c.o ay) h).trans b;clear h2 K s b)))
  all_goals
   go_wp2_with fail;go_roundw
   case rel=>exact⟨i+1,a,L,f',l.o⟩
   exact H'
section
variable {R:List Å}{n:SN}
def Ò(ks:List Å)(n:SN):BS:=if n.aO=6 then j5 (ζ ks) else eP (Fb ks n) (zV ks n)
def Ó(ks:List Å)(n:SN):Ef:=⟨zV ks n,(0,0)⟩
def TN(P:Pm)(n:Nat):RA:=(eN<|Ò P.ex<|P.at n,(P.mK n).map λt=>(t,vS<|Ó P.ex<|P.at n))
def Ly(h:Lx n=P'->jm n∈R)(X:ζ R<=60):bQ (zV R n):=by
 unfold zV;split
 .rename_i l;exact pF<|L'<|qW<|h l
 exact⟨aj,aj⟩
def T9(X:ζ R<=60):bQ (Fb R n):=by
 unfold Fb;split
 .exact KZ _ _ _ I
 exact⟨aj,aj⟩
def ų{p:Prop}(h:p:=by
 go_wp2_with (go_at_call 285;refine k.o.mono ?_;rintro e s ⟨⟨v,rfl⟩,a,p⟩;have W:=ſ p;clear p E q z1);go_roundw
 case rel=>exact⟨i+1,a,L,f',W.o⟩
 simp[intOf];omega):p:=h
def T8(g cap Q:Nat)(D:List NC)(P:Pm)(w:t')(hP:PM w g cap D P)(k:cF P)(d:∀n∈P.nd,nw<|jm n):
  Cl 223 #[gi g (ζ P.nd) cap Q] w λe w'=>∃rb f,e=o' (p' #[cP rb<|ζ P.nd,G<|ζ P.ex])/\Sys w' w.1.size rb 2 393 404 f/\f.map RR.pr=kR (ζ P.nd) (TN P)/\Bl w w':=by
 have p:=k.most;have j:=k.pos;have b:=sk P;have s:=ſ<|M hP<|M k d;have i:J (∀W,Cl 280 #[gi g (ζ P.nd) cap Q] W λe w'=>∃rb f,e=o' (cP rb<|ζ P.nd)/\Sys w' W.1.size rb 2 393 404 f/\f.map RR.pr=replicate (ζ P.nd) Q0/\Bl W w'):=λW=>l0 g (ζ P.nd) cap Q W p;have h:J (∀W,Bl w W->Cl 286 #[gi g (ζ P.nd) cap Q] W λe w'=>∃a c,e=o' (bk a (ζ P.ex) c)/\ρ w' W.1.size 430 7 (bk a (ζ P.ex) c) (ζ P.ex) (l5 P.ex)/\Bl W w'):=λW hW=>Cx g cap Q D P W (hP.below hW) p d;obtain⟨N,c⟩:=Ea<|ζ P.nd;obtain⟨R,an⟩:=Ea P.ex;rw[<-c]at p j b;rw[<-an]at b;rw[<-c,<-an]at h|-;rw[<-c]at i;have K:=ſ<|M c an;have cc:J (∀W,Cl 208 #[G<|ζ R] W<|Rb W<|cn<|j5<|ζ R):=λW=>o8 (ζ R) W I;obtain⟨up,a⟩:=Ea<|j5<|ζ R;rw[<-a]at cc;have HU:=ſ a;clear hP k c an d a;simp only[gi,cP,cn]at i h cc|-;go_enter func223,ntmps223;go_upto_region 1 with(fail)
 generalize u:(w.alloc<|j' (ei g N cap Q) 86).alloc (j' Fp 260)=a;have U:J (Bl w a/\d' a w.1.size (ei g N cap Q) 86/\a.1[δ w.1+1]?=C' mN):=by subst u;exact⟨cU,eO.1,eO.2⟩
 clear u;have E:=A U.b;go_upto_region 2 with(go_at_call 280;refine(i.o _).mono ?_;rintro e t ⟨rb,f,rfl,S,Y,l⟩;have c:=ſ<|M S<|M Y l;clear S Y l E)
 generalize u:t.alloc (j' (dB rb N) 260)=F;have b:J (Bl w F/\d' F w.1.size (ei g N cap Q) 86/\F.1[δ w.1+1]?=C' mN/\d' F t.1.size (dB rb N) 260/\Sys F w.1.size rb 2 393 404 f/\f.map RR.pr=kR N (Ä (TN P) 0)):=by exact į
 clear u;have a:δ w.1+1<δ t.1:=by have:=c.B.size;have:=À U.B;omega
 have B:rb<δ t.1:=À c.a.fE;generalize δ t.1=sb at b a B|-;have E:=A b.b;go_upto_region 3 with(go_at_call 286;refine(h.o _ b.a).mono ?_;rintro e o ⟨c,p,rfl,a,Y⟩;have z:=ſ<|M a Y;clear a Y E)
 have HT:J (Bl w o/\PM o g cap D P/\ρ o w.1.size 430 7 (bk c (ζ R) p) (ζ R) (l5 R)/\Sys o w.1.size rb 2 393 404 f/\f.map RR.pr=kR N (Ä (TN P) 0)/\d' o w.1.size (ei g N cap Q) 86/\o.1[δ w.1+1]?=C' mN/\d' o sb (dB rb N) 260):=
  ⟨aq b.a z.A,s.a.below<|aq b.a z.A,pD z.a b.a.size,b.e.below z.A,b.E,aF z.A b.b,aF z.A b.c,aF z.A b.d⟩
 have a:∀n,n<N->ζ (TN P n).2<=200:=by intro n _;have:=tm s.b n;simp[TN];omega
 have q:=ſ a;clear a;have E:=A HT.f;go_wp2_with fail;clear E;go_loopw[16] (λy wr=>∃(i:Nat)(b:List RR),i<=N/\y=G i/\J (Sys wr w.1.size rb 2 393 404 b/\b.map RR.pr=kR N (Ä (TN P) i)/\TF w.1.size 393 404 o wr)) (λy _=>N-(intOf y).toNat)
 case atStart=>exact⟨0,f,bq _,rfl,HT.d,HT.e,Bj⟩
 obtain⟨i,b,S,rfl,HK⟩:=hrel;have zL:δ w.1<=δ wr.1:=br HT.a.size HK.B.low.size;by_cases L:i<N;rotate_left
 .have a:¬(i:Int)<N:=I;have d:i=N:=I;have U:=HK.B;have aa:=U.box HT.g aj aj;have E:=A<|U.box HT.G aj aj;have z1:=A aa;have f:δ w.1+1≠sb:=I;have x:=f.symm;clear U;go_wp2_with fail;have q2:=(A<|aw (o:=2) (aw (o:=1) (aw (o:=0) aa<|cw rb N) iP) mM).1;refine aC (v:=p' #[cP rb N,G<|ζ R]) (by simp[results223,go_sem,(A<|aw (o:=0) aa<|cw rb N).1,(A<|aw (o:=1) (aw (o:=0) aa<|cw rb N) iP).1,q2,cP]) rfl ⟨rb,rfl,b,?_,?_,?_⟩
  .exact HK.a.keep aa ⟨aj,aj⟩ (λk hk=>by rw[bh _ _ _ _ hk,bh _ _ _ _ hk,bh _ _ _ _ hk])
  .rw[HK.b,d,FG]
  exact(((HT.a.trans HK.B.low).setCell I' _).setCell I' _).setCell I' _
 have a:(i:Int)<N:=I;have bo:=HT.b.tf HK.B aj aj aj aj;obtain⟨r,a,T,V,hat,_,Uq,_⟩:=bo.nodes (by rw[<-K.a];exact L);have X:=λj (f:j<14)=>(mY bo T j f);have h:=aK V;obtain⟨j,tI⟩:=Ea r.n;rw[<-tI]at X V hat h;simp only[NC.wv,NC.ev]at X;generalize r.bL=k at X;generalize r.wa=y at X;generalize r.wl=wl at X;generalize r.wc=wc at X;generalize r.ea=ea at X;generalize r.el=el at X;generalize r.ec=B at X;have S:=ze HT.c HK.B aj aj;have ae:J (∀W,Bl wr W->Cl 287 #[k'<|aJ k (h' y wl wc) j<|h' ea el B,h' c (ζ R) p] W (Rb W<|cn<|zV R j)):=λW hW=>ru k y wl wc ea el B j c p R W (zx<|bu S hW) (by rw[K.A];exact U3 s.B) I λa=>⟨s.B j h,by rw[K.A];exact vm h a⟩;have d:J (∀W,Bl wr W->Cl 288 #[k'<|aJ k (h' y wl wc) j<|h' ea el B,h' c (ζ R) p] W (Rb W<|cn<|Fb R j)):=λW hW=>Cg k y wl wc ea el B j c p R W (zx<|bu S hW) I (s.b.aO j h).1;have au:J (∀W,Cl 153 #[cn<|Fb R j,cn<|zV R j] W<|Rb W<|cn<|eP (Fb R j)<|zV R j):=λW=>j3 _ _ W (T9 I)<|Ly (λa=>by rw[K.A];exact vm h a) I
 obtain⟨r,hr,hst,_⟩:=Gp HK.b L;have wD:J (∀(W:t')(z:BS),(if j.aO=6 then up else eP (Fb R j) (zV R j))=z->Sys W w.1.size rb 2 393 404 (b.set i ⟨eN z,r.ea,r.ec,r.es⟩)->TF w.1.size 393 404 o W->Cl 285 #[cP rb N,gi g N cap Q,G i,Fc ⟨zV R j,(0,0)⟩] W λr w'=>(∃v,r=o' v)/\∃a,Sys w' w.1.size rb 2 393 404 a/\a.map RR.pr=kR N (Ä (TN P)<|i+1)/\TF w.1.size 393 404 o w'):=by
  intro W z f C p;have c:=DY HK.b<|FF q.o
  have:=tY g cap Q rb w.1.size i D P _ ⟨zV R j,(0,0)⟩ W (HT.b.tf p aj aj aj aj) s.b (by rw[<-K.a];exact L) C (by rw[jn,<-K.a];exact zb HK.b) (br HT.a.size p.low.size) (by
   intro x F;rcases hU F with F|F
   .exact c x F
   .rw[F];exact c r<|aK hr)
  rw[<-K.a]at this;refine this.mono ?_;rintro c w' ⟨q,a,s,h5,c⟩;refine⟨q,a,s,h5.trans<|z! HK.b hr ?_,p.trans c⟩;rw[TN,Ò,Ó,hat,<-K.A,<-f,HU.o]
 have HR:J (b[i]?=C' r/\r.st=eN (0,0)):=⟨hr,by rw[hst];simp[Ä,Q0,eN]⟩;obtain⟨C,D⟩:=Ea<|zV R j;obtain⟨c,f⟩:=Ea<|Fb R j;rw[<-D]at ae;rw[<-f]at d;rw[<-D,<-f]at wD au;obtain⟨K,dd⟩:=Ea<|eP c C;rw[<-dd]at wD au;obtain⟨c,q,op,s,⟨ai,av,ac⟩,⟨F,bv,z⟩,p⟩:=j;have t:=OU X;simp only[aJ,cn,cP,gi,Fc]at ae d au wD;clear X D f dd tI V hat h T bo Uq S hr hst;go_upto_region 6 with(fail)
 generalize f:wr.alloc (j' #[m' k,h' y wl wc,G c,G q,G op,G s,i' ai,G av,G ac,i' F,G bv,G z,h' ea el B,m' p] 152)=V;have j:J (Bl wr V/\d' V wr.1.size #[m' k,h' y wl wc,G c,G q,G op,G s,i' ai,G av,G ac,i' F,G bv,G z,h' ea el B,m' p] 152):=by subst f;exact⟨aY,bj _ _⟩
 clear f t;have E:=A j.A;go_upto_region 7 with(go_at_call 287;refine(ae.o _ j.a).mono ?_;rintro e f ⟨rfl,l⟩;have D:=ſ l;clear l E)
 generalize u:f.alloc (kK C.1 C.2)=X;have h:J (Bl wr X/\d' X wr.1.size #[m' k,h' y wl wc,G c,G q,G op,G s,i' ai,G av,G ac,i' F,G bv,G z,h' ea el B,m' p] 152/\X.1[δ f.1]?=C' (q! C.1 C.2)/\d' X sb (dB rb N) 260/\d' X w.1.size (ei g N cap Q) 86):=by subst u;have t:=aq (aq j.a D.o)<|cE f<|kK C.1 C.2;exact⟨t,aF aY<|aF D.o j.A,bj _ _,aF t<|HK.B.box HT.G aj aj,aF t<|HK.B.box HT.f aj aj⟩
 clear u;have l:δ wr.1<δ f.1:=by have:=D.o.size;have:=À j.A;omega
 have j:=À HK.a.fE;generalize δ f.1=j at h l|-;have S:J (∀W,TF w.1.size 393 404 X W->χ W (O wr.1.size 0)=C' (m' k)/\χ W (O wr.1.size 1)=C' (h' y wl wc)/\χ W (O wr.1.size 2)=C' (G c)/\χ W (O wr.1.size 3)=C' (G q)/\χ W (O wr.1.size 4)=C' (G op)/\χ W (O wr.1.size 5)=C' (G s)/\χ W (O wr.1.size 6)=C' (i' ai)/\χ W (O wr.1.size 7)=C' (G av)/\χ W (O wr.1.size 8)=C' (G ac)/\χ W (O wr.1.size 9)=C' (i' F)/\χ W (O wr.1.size 10)=C' (G bv)/\χ W (O wr.1.size 11)=C' (G z)/\χ W (O wr.1.size 12)=C' (h' ea el B)/\χ W (O wr.1.size 13)=C' (m' p)/\χ W (O sb 0)=C' (cw rb N)/\χ W (O j 0)=C' (Z C.1)/\χ W (O j 1)=C' (Z C.2)):=by intro W hW;have f:=(A<|hW.box h.b aj aj).1;have q2:=(A<|hW.box h.d aj aj).1;have l:=(A<|hW.box h.c aj aj).1;exact⟨f 0,f 1,f 2,f 3,f 4,f 5,f 6,f 7,f 8,f 9,f 10,f 11,f 12,f 13,q2 0,l 0,l 1⟩
 have f:δ w.1<=δ X.1:=br zL h.a.size;have l:=S.o X Bj;have D:rb≠sb:=I;have T:rb≠δ wr.1:=I;have l:rb≠j:=I;have V:=D.symm;have D:=T.symm;have D:=l.symm
 go_region_held3 (λw'=>χ w' (O wr.1.size 0)=C' (m' k)/\χ w' (O wr.1.size 1)=C' (h' y wl wc)/\χ w' (O wr.1.size 2)=C' (G c)/\χ w' (O wr.1.size 3)=C' (G q)/\χ w' (O wr.1.size 4)=C' (G op)/\χ w' (O wr.1.size 5)=C' (G s)/\χ w' (O wr.1.size 6)=C' (i' ai)/\χ w' (O wr.1.size 7)=C' (G av)/\χ w' (O wr.1.size 8)=C' (G ac)/\χ w' (O wr.1.size 9)=C' (i' F)/\χ w' (O wr.1.size 10)=C' (G bv)/\χ w' (O wr.1.size 11)=C' (G z)/\χ w' (O wr.1.size 12)=C' (h' ea el B)/\χ w' (O wr.1.size 13)=C' (m' p)/\χ w' (O sb 0)=C' (cw rb N)/\χ w' (O j 0)=C' (Z C.1)/\χ w' (O j 1)=C' (Z C.2)) (go_keep) ((first|(go_at_call 288;refine(d.o _<|aq h.a ay).mono ?_;rintro e d ⟨rfl,Y⟩;have p:Bl X d:=aq ay Y;have l:=ſ p;have j:=S.o d<|TF.aR p f;clear Y p)|(go_at_call 153;refine(au.o _).mono ?_;rintro e j ⟨rfl,aa⟩;have p:Bl X j:=aq (aq l.o ay) aa;have d:=ſ p;have o0:=S.o j<|TF.aR p f;have z1:=((HK.a.below h.a).below p).two HR.a HR.A;clear aa p)))
 all_goals
  generalize u:κ (κ j (O rb<|i*3)<|Z K.1) (O rb<|i*3+1) (Z K.2)=j;have Y:J (Sys j w.1.size rb 2 393 404 (b.set i ⟨eN K,r.ea,r.ec,r.es⟩)/\TF w.1.size 393 404 o j/\TF w.1.size 393 404 X j):=by subst u;have t:=aq h.a d.o;have hs:=HK.a.below t;have U:=hs.sQ (k:=i) (v:=Z K.1) (v':=Z K.2);exact⟨hs.start aj HR.a HR.A,(HK.B.trans<|TF.aR t zL).trans U,(TF.aR d.o f).trans U⟩
  clear u
  try clear z1
  have an:=cQ (λx=>x) (rfl:ζ R=ζ R);have E:=A<|Y.B.box h.b aj aj;by_cases hk:c=6;rotate_left
  .clear E;have E:=A<|Y.B.box h.b aj aj;go_upto_region 10 with fail
   clear E;have k:J (Cl 285 #[k'<|dB rb N,k'<|ei g N cap Q,G i,k' #[Z C.1,Z C.2,Z 0,Z 0]] j λr w'=>(∃v,r=o' v)/\∃a,Sys w' w.1.size rb 2 393 404 a/\a.map RR.pr=kR N (Ä (TN P)<|i+1)/\TF w.1.size 393 404 o w'):=wD.o j _ (by simp[hk]) Y.a Y.b;have E:=A<|Y.B.box h.d aj aj;have q:=A<|Y.B.box h.D aj aj;have z1:=A<|Y.B.box h.c aj aj;exact ų
  go_upto_region 9 with fail
  clear E;have E:=A<|Y.B.box h.d aj aj;have z1:=Y.a.two (k:=i) (r:=⟨eN K,r.ea,r.ec,r.es⟩) (s:=K) (by rw[eQ,aB rfl,aB (aV.1 HR.a).1]) rfl
  go_region_law (go_simp;refine bE (cc.o _) ?_;rintro e l ⟨rfl,d⟩;have c:J (Bl j l):=aq ay d;clear d E z1;have E:=A<|aF c.o<|Y.B.box h.d aj aj;have z1:=(Y.a.below c.o).two (k:=i) (r:=⟨eN K,r.ea,r.ec,r.es⟩) (s:=K) (by rw[eQ,aB rfl,aB (aV.1 HR.a).1]) rfl)
  all_goals
   generalize u:κ (κ l (O rb<|i*3)<|Z up.1) (O rb<|i*3+1) (Z up.2)=l;have d:J (Sys l w.1.size rb 2 393 404 (b.set i ⟨eN up,r.ea,r.ec,r.es⟩)/\TF w.1.size 393 404 o l/\TF w.1.size 393 404 X l):=by subst u;have hs:=Y.a.below c.o;have h5:δ w.1<=δ j.1:=br f Y.B.low.size;have U:=hs.sQ (k:=i) (v:=Z up.1) (v':=Z up.2);have hst:=hs.start (k:=i) (r:=⟨eN K,r.ea,r.ec,r.es⟩) (s:=K) (z:=up) aj (by rw[eQ,aB rfl,aB (aV.1 HR.a).1]) rfl;rw[x7]at hst;exact⟨hst,(Y.b.trans<|TF.aR c.o h5).trans U,(Y.B.trans<|TF.aR c.o h5).trans U⟩
   clear u;clear E z1;have k:J (Cl 285 #[k'<|dB rb N,k'<|ei g N cap Q,G i,k' #[Z C.1,Z C.2,Z 0,Z 0]] l λr w'=>(∃v,r=o' v)/\∃a,Sys w' w.1.size rb 2 393 404 a/\a.map RR.pr=kR N (Ä (TN P)<|i+1)/\TF w.1.size 393 404 o w'):=wD.o l _ (by simp[hk]) d.a d.b;have E:=A<|d.B.box h.d aj aj;have q:=A<|d.B.box h.D aj aj;have z1:=A<|d.B.box h.c aj aj;exact ų
end
section
variable {P:Pm}{c:Ct}
def XV(a:Int)(f:Nat):bt (uX (ox tB) a) f=Q':=by
 have:dj (ox tB).1=[]:=by show dj (0,0)=[];rw[dj,su,su];rfl
 rw[uX,this];exact ji f
def ŧ(h:ć P c)(a:Int)(b:0<=a)(m:Nat){f:Nat}(Y:f<128):bt (Wn c.nodes a m) f=qM c f a m:=by
 have e:qM c f a m=((c.at m).lQ f&&decide ((c.at m).uJ f<a)):=by unfold qM;rw[show decide (a<0)=Q' by simp;omega,km]
 rw[e];unfold Wn;by_cases d:m<ζ c.nodes
 .exact X5 h (wj d) a Y
 rw[zY d,getD,b? I];show bt (uX (ox tB) a) f=_;rw[XV];simp[Nd.lQ,tB]
def O8{R:RS}(h:ć P c)(v:Ar P c.aM R):AU R c.nodes (ζ P.nd)=KQ P c:=by
 rw[cK,TS];simp only[AU,þ,bZ,cq];have X:∀n f,n<ζ P.nd->f<P.facts c.aM->(c.at n).lQ f=P'->é R c.nodes n f=P.rule c.aM f n (qM c f<|(c.at n).uJ f):=by intro n f K Y V;have a:=h.s.few;have F:c.at n∈c.nodes:=wj (by rw[h.s.len];exact K);have D:0<=(c.at n).uJ f:=Xn h.c h.g;rw[é,show c.nodes.getD n tB=c.at n from rfl,MF h F V,wZ v (λm g C d=>by rw[ŧ h _ D m d];exact Mu h.s C) K I];simp only[Y,xT,eV];congr 1;funext m;exact ŧ h _ D m I
 have b:∀n f,n<ζ P.nd->(f∈dj (rT<|c.nodes.getD n tB)↔f<P.facts c.aM/\(c.at n).lQ f=P'):=by
  intro n f K;have F:c.at n∈c.nodes:=wj (by rw[h.s.len];exact K);rw[show c.nodes.getD n tB=c.at n from rfl,fz<|Dq h.s _<|uw F];have a:=h.s.few;constructor
  .rintro⟨C,d⟩;rw[Dr h.s F C]at d;have:=h.s.facts _ F (f:Int) (by simpa[Nd.lQ]using d);exact⟨I,d⟩
  rintro⟨C,d⟩;exact⟨I,by rw[Dr h.s F I];exact d⟩
 constructor
 .intro y f n Y K U;have V:(c.at n).lQ f=P':=by unfold qM at U;simp only[aS]at U;exact U.1
  rw[<-X n f K Y V];exact y n K f<|(b n f K).2 ⟨Y,V⟩
 intro y n K f d;obtain⟨Y,V⟩:=(b n f K).1 d;rw[X n f K Y V];refine y f n Y K ?_;simp[qM,V]
def yI:∀(l:List Int)(Y:Int),cR Y l=P'->∀g,l.getLast?=C' g->∀x∈l,x<=g
 |[],_,_,g,h,x,hx=>by cases hx
 |[a],_,_,g,h,x,hx=>by simp at h hx;omega
 |a::b::l,Y,c,g,h,x,hx=>by
  simp only[cR,aS,bw]at c;have q:cR (a+1) (b::l)=P':=by simp only[cR,aS,bw];exact c.2
  rw[getLast?_cons_cons]at h;have B:=yI (b::l) _ q g h;rcases cO.1 hx with rfl|hx
  .have:=sX (b::l) _ q b ak;have:=B b ak;omega
  exact B x hx
def Af(h:ZE c)(count:Int):c.nodes.all (L0 count)=c.nodes.all λx=>x.facts.all λf=>decide (f<count):=by
 rw[cK];simp only[bZ,bw];constructor;rotate_left
 .intro y x F;unfold L0;cases X:x.facts.getLast? with
  |none=>rfl
  |some g=>simpa using y x F g<|mem_of_getLast? X
 intro y x F f Y;have C:=y x F;unfold L0 at C;cases X:x.facts.getLast? with
 |none=>rw[getLast?_eq_none_iff]at X;rw[X]at Y;cases Y
 |some g=>rw[X]at C;have:=yI _ _ (h.cR x F) g X f Y;simp at C;omega
end
section
variable {P:Pm}
def VG(S:i<ζ P.nd)(X:ζ P.nd<=60)(Y:f<128):bt (zV P.ex<|P.at i) f=P.ev i f:=by
 have d:P.at i∈P.nd:=by rw[Pm.at,getD,aQ S];exact e9 S
 have R:=sk P;rw[zV,Pm.ev,ED];by_cases l:Lx (P.at i)=P';rotate_left
 .rw[ax l,ax l,ji]
 have L:=qW<|vm d l;rw[aB l,aB l,lI _ _ Y I'];cases F:P.ex[f]? with
 |none=>have:ζ P.ex<=f:=rN.1 F;simp;omega
 |some y=>
  have j:=(aV.1 F).1;have b:P.ex.Nodup:=Qv _;simp only[eX];refine xO.2 ⟨λe=>?_,λe=>?_⟩
  .subst e;have:=Bp L;have a:=(aV.1 F).2;rw[<-a,this]
  subst e;have a:=(aV.1 F).2;have:=b.idxOf_getElem f j;rw[a]at this;exact this.symm
def VE{ks:List Å}{v:Int}{f:Nat}(Y:f<128):∀m,m<=60->m<=ζ ks->bt (IZ ks v m) f=(decide (f<m)&&match ks[f]? with|some y=>oG y v|none=>Q')
 |0,_,_=>by simp[IZ,ji]
 |m+1,h,hl=>by
  have B:=VE (ks:=ks) (v:=v) Y m I I;have a:ks.getD m ē=ks[m]:=by rw[getD,aQ I];rfl
  rw[zC,a];have y:∀b:Bool,(decide (f<m+1)&&b)=((decide (f<m)&&b)||(decide (f=m)&&b)):=by
   intro b;cases b
   .simp
   simp only[x4];rw[<-Bool.decide_or];exact xO.2 I
  split
  .rename_i R;rw[gT,B,lI _ _ Y I',y];congr 1;by_cases e:f=m
   .subst e;rw[aQ I];simp[R]
   simp[e]
  rename_i R;rw[B,y];by_cases e:f=m
  .subst e;rw[aQ I];simp[R]
  simp[e]
def ş(X:ζ P.nd<=60)(Y:f<128):bt (Fb P.ex<|P.at i) f=P.kl i f:=by
 have R:=sk P;unfold Fb Pm.kl;cases Q:fL (P.at i)
 .simp[ji]
 rw[aB rfl,VE Y _ I<|aD _];simp only[eV];cases F:P.ex[f]? with
 |none=>simp
 |some y=>have:=(aV.1 F).1;simp[this]
end
section
variable {P:Pm}{S:SN->BS}{E:Nat->Ef}{r:BS×List (Nat×Ef)}
def Vz{f:Nat}(Y:f<128):∀(a:List kE)(u:BS),(∀o∈a,o.aN=P'->0<=o.var/\o.var<128)->bt (a.foldl (λs o=>if o.aN then e7 s (cJ [o.var.toNat]) else s) u) f=(bt u f||a.any λo=>o.aN&&o.var==(f:Int))
 |[],u,_=>ak
 |o::a,u,h=>by
  rw[e8,Vz Y a _ λx F=>h x<|by simp[F],xR];cases R:o.aN
  .simp
  have D:=h o ak R;rw[aB rfl,gT,lI _ _ Y I',xN];congr 1;congr 1;simp only[eV,eX];rw[cK,uu,eo];omega
def agE{n:SN}(h:∀o∈nQ n,o.aN=P'->0<=o.var/\o.var<128)(Y:f<128):bt (RV n) f=QV n (f:Int):=by
 rw[RV,IJ,Vz Y _ _ h,ji,km];unfold nQ QV dP;split
 .simp
 split
 .simp
 simp
def WS(h:cF P){n:SN}(K:n∈P.nd)(C:QV n (f:Int)=P'):f<P.nv:=by
 unfold QV at C;simp only[eS,aS,bw,eo]at C;rcases C with⟨⟨C,a⟩,N⟩|⟨⟨C,a⟩,N⟩
 .have:=h.a n K C a;omega
 have:=h.b n K C a;omega
def wS(P:Pm)(S:SN->BS)(E:SN->Ef):RS:=(range<|ζ P.nd).map λn=>(S<|P.at n,(P.mK n).map λt=>(t,E<|P.at n))
def Vx(P:Pm)(S:SN->BS)(E:SN->Ef):JU (wS P S E)=kR (ζ P.nd) λn=>(eN<|S<|P.at n,(P.mK n).map λt=>(t,vS<|E<|P.at n)):=by rw[JU,wS,fF];refine eJ λn _=>?_;simp[Function.comp]
def ŵ(h:p:=by
 have X:=(aV.1 h).1;simp at X;rw[bH,jv X]at h;simp at h
 exact⟨X,h.symm⟩):p:=h
def jh{E:SN->Ef}(h:(wS P S E)[n]?=C' r):n<ζ P.nd/\r=(S<|P.at n,(P.mK n).map λt=>(t,E<|P.at n)):=by unfold wS at h;exact ŵ
def acy(h:cF P)(m:Nat):∀t∈P.mK m,t<ζ P.nd:=by
 rw[Pm.mK,getD];cases e:P.nx[m]? with
 |none=>simp
 |some l=>exact(h.nx l<|aK e).2
def Ç{i:Nat}(S:i<ζ P.nd):P.at i∈P.nd:=by rw[Pm.at,getD,aQ S];exact e9 S
def Oi{E:SN->Ef}(h:cF P)(u:∀n∈P.nd,bQ<|S n)(a:∀n∈P.nd,E9<|E n):E5 (wS P S E) (ζ P.nd):=by
 refine⟨by simp[wS],h.most,λr b=>?_⟩;obtain⟨n,K⟩:=dN.1 b;obtain⟨X,rfl⟩:=jh K;refine⟨u _<|Ç X,?_,λe l=>?_⟩
 .have:=tm h n;simp;omega
 obtain⟨t,U,rfl⟩:=bp.1 l;exact⟨a _<|Ç X,acy h n t U⟩
def Dh:bQ (0,0):=⟨aj,aj⟩
def acK(h:cF P){n:SN}(K:n∈P.nd):E9 (TQ n):=by
 unfold TQ;split
 .rename_i Q;have:=h.var n K (by simpa[fL]using Q);have:=h.nv;exact⟨pF I,Dh⟩
 exact⟨Dh,Dh⟩
def Ya(h:cF P):Ar P 2 (wS P RV TQ):=by
 have a:=h.nv;have E:P.facts 2=P.nv:=by simp[Pm.facts]
 refine⟨Oi h (λn K=>by have:=JJ (ζ<|nQ n) (nQ n)<|Ku h K;rwa[b!<|aD _]at this) λn K=>acK h K,I,?_,?_,?_,?_⟩
 .intro n r a f Y;obtain⟨X,rfl⟩:=jh a;have d:=Ç X;simp only;rw[agE (Ku h d) Y,E];have e:P.st 2 n f=QV (P.at n) f:=by simp[Pm.st]
  rw[e];cases C:QV (P.at n) (f:Int)
  .simp
  simp[WS h d C]
 .intro n r a;obtain⟨X,rfl⟩:=jh a;simp[Pm.PA,xG]
 .intro n r a e l f Y;obtain⟨X,rfl⟩:=jh a;obtain⟨t,U,rfl⟩:=bp.1 l;have:(TQ<|P.at n).add=(0,0):=by unfold TQ;split<;>rfl
  simp only;rw[this,ji];simp[Pm.ad]
 intro n r a e l f Y;obtain⟨X,rfl⟩:=jh a;obtain⟨t,U,rfl⟩:=bp.1 l;have u:P.ps 2 n t f=!(fL (P.at n)&&(P.at n).var==(f:Int)):=by simp[Pm.ps]
 simp only;rw[u,xQ];unfold TQ;cases Q:fL (P.at n)
 .simp[Ú,ji]
 have R:=h.var _ (Ç X) (by simpa[fL]using Q);rw[aB rfl,lI _ _ I I'];simp only[eV,eX];rw[cK,uu,eo];omega
def Ŵ(h:p:=by
 intro i f b;unfold Pm.kl at b;cases F:P.ex[f]? with
 |none=>rw[F]at b;simp at b
 |some y=>exact(aV.1 F).1):p:=h
def Yi(h:cF P):Ar P 4 (wS P (Ò P.ex)<|Ó P.ex):=by
 have p:=h.most;have b:=sk P;have j:P.facts 4=ζ P.ex:=by simp[Pm.facts]
 have z:∀n∈P.nd,bQ (zV P.ex n):=λn K=>Ly (λl=>vm K l) I;have a:∀i f,P.kl i f=P'->f<ζ P.ex:=by exact Ŵ
 refine⟨Oi h (λn K=>?_) λn K=>⟨z n K,Dh⟩,I,?_,?_,?_,?_⟩
 .unfold Ò;split
  .exact o? _ I
  exact pS
 .intro n r c f Y;obtain⟨X,rfl⟩:=jh c;have e:P.st 4 n f=((P.at n).aO==6||(P.kl n f&&!P.ev n f)):=by simp[Pm.st]
  simp only;rw[e,j];unfold Ò;by_cases b:(P.at n).aO=6
  .rw[aB b,wm _ _ I Y];simp[b]
  rw[ax b,oM (z _<|Ç X) Y,ş p Y,VG X p Y];have:((P.at n).aO==6)=Q':=by simp[b]
  rw[this,km];cases o:P.kl n f
  .simp
  simp[a n f o]
 .intro n r c;obtain⟨X,rfl⟩:=jh c;simp[Pm.PA,xG]
 .intro n r c e l f Y;obtain⟨X,rfl⟩:=jh c;obtain⟨t,U,rfl⟩:=bp.1 l;simp[Ó,ji,Pm.ad]
 intro n r c e l f Y;obtain⟨X,rfl⟩:=jh c;obtain⟨t,U,rfl⟩:=bp.1 l;have u:P.ps 4 n t f=!P.ev n f:=by simp[Pm.ps]
 simp only[Ó];rw[u,xQ,VG X p I]
def wL(P:Pm)(S:Nat->BS)(E:Nat->Ef):RS:=(range<|ζ P.nd).map λn=>(S n,(range<|ζ P.nd).flatMap λm=>(ij n 0<|P.mK m).map λ_=>(m,E m))
def UJ(P:Pm)(S:Nat->BS)(E:Nat->Ef):JU (wL P S E)=kR (ζ P.nd) (vh P (λn=>eN<|S n) E<|ζ P.nd):=by rw[JU,wL,fF];refine eJ λn _=>?_;simp[xG,vh,map_flatMap]
def je{S:Nat->BS}(h:(wL P S E)[n]?=C' r):n<ζ P.nd/\r=(S n,(range<|ζ P.nd).flatMap λm=>(ij n 0<|P.mK m).map λ_=>(m,E m)):=by unfold wL at h;exact ŵ
def Cj(n:Nat):∀(l:List<|List Nat)(i:Nat),(fJ n i l).map Prod.fst=(range<|ζ l).flatMap λj=>(ij n 0<|l.getD j []).map λ_=>i+j
 |[],i=>by simp[fJ]
 |x::l,i=>by
  rw[fJ,eR,Cj n l<|i+1,bR,range_succ_eq_map,b9,flatMap_map];congr 1
  .simp[xG]
  have e:∀j,i+1+j=i+(j+1):=λj=>I;simp[e]
def zo{e:Nat×Ef}(h:e∈(range<|ζ P.nd).flatMap λm=>(ij n 0<|P.mK m).map λ_=>(m,E m)):e.1<ζ P.nd/\e.2=E e.1:=by obtain⟨m,d,l⟩:=mem_flatMap.1 h;obtain⟨_,_,rfl⟩:=bp.1 l;exact⟨cq.1 d,rfl⟩
def N1{S:Nat->BS}(h:cF P)(u:∀n,bQ<|S n)(a:∀m,m<ζ P.nd->E9 (E m)):E5 (wL P S E) (ζ P.nd):=by
 refine⟨by simp[wL],h.most,λr b=>?_⟩;obtain⟨n,K⟩:=dN.1 b;obtain⟨X,rfl⟩:=je K;refine⟨u n,?_,λe l=>?_⟩
 .have C:=xp (st:=λn=>eN<|S n) (E:=E) (n:=n) (tm h)<|ζ P.nd;have b:=h.most;have N:ζ ((range<|ζ P.nd).flatMap λm=>(ij n 0<|P.mK m).map λ_=>(m,E m))=ζ (vh P (λn=>eN<|S n) E (ζ P.nd) n).2:=by simp[vh,length_flatMap]
  simp only;rw[N];omega
 obtain⟨C,b⟩:=zo l;exact⟨by rw[b];exact a _ C,C⟩
def UI{p:Int}(U:p=1\/p=3)(F:ζ P.nx=ζ P.nd):((range<|ζ P.nd).flatMap λm=>(ij n 0<|P.mK m).map λ_=>(m,E m)).map Prod.fst=P.PA p n:=by have z:¬(p=2\/p=4):=I;rw[Pm.PA,Pm.ins,ax z,Cj,F,map_flatMap];simp[xG,Pm.mK]
def KX(h:cF P)(F:ζ P.nx=ζ P.nd):Ar P 3 (wL P (λn=>if n=0 then j5 (ζ P.ex) else(0,0)) λm=>TX P.ex<|P.at m):=by
 have p:=h.most;have b:=sk P;have u:P.facts 3=ζ P.ex:=by simp[Pm.facts]
 have z:∀n∈P.nd,bQ (zV P.ex n):=λn K=>Ly (λl=>vm K l) I;have a:∀i f,P.kl i f=P'->f<ζ P.ex:=by exact Ŵ
 refine⟨N1 h (λn=>?_) λm d=>⟨z _<|Ç d,T9 I⟩,I,?_,?_,?_,?_⟩
 .split
  .exact o? _ I
  exact Dh
 .intro n r b f Y;obtain⟨X,rfl⟩:=je b;have e:P.st 3 n f=(n==0):=by simp[Pm.st]
  simp only;rw[e,u];by_cases D:n=0
  .rw[aB D,wm _ _ I Y];simp[D]
  rw[ax D,ji];simp[D]
 .intro n r b;obtain⟨X,rfl⟩:=je b;exact UI (aH rfl) F
 .intro n r b e l f Y;obtain⟨X,rfl⟩:=je b;obtain⟨C,c⟩:=zo l;have d:P.ad 3 e.1 f=P.kl e.1 f:=by simp[Pm.ad]
  rw[c,d,u];simp only[TX];rw[ş p Y];cases o:P.kl e.1 f
  .simp
  simp[a _ f o]
 intro n r b e l f Y;obtain⟨X,rfl⟩:=je b;obtain⟨C,c⟩:=zo l;have d:P.ps 3 n e.1 f=!P.ev e.1 f:=by simp[Pm.ps]
 rw[c,d,xQ];simp only[TX];rw[VG C p I]
end
section
variable {P:Pm}
def EI:∀(l r:List SN)(i:Nat),qU i (l++r)=qU i l++qU (i+ζ l) r
 |[],r,i=>by simp[qU]
 |n::l,r,i=>by have B:=EI l r<|i+1;have e:i+1+ζ l=i+(ζ l+1):=I;rw[dA,qU,qU,B,bR,e];split<;>simp
def EG:∀(l:List SN)(i m:Nat),m∈qU i l↔∃j n,l[j]?=C' n/\fL n=P'/\m=i+j
 |[],i,m=>by simp[qU]
 |x::l,i,m=>by
  have B:=EG l (i+1) m;constructor
  .intro h;rw[qU]at h;split at h
   .rename_i F;rcases cO.1 h with rfl|h
    .exact⟨0,x,rfl,F,I⟩
    obtain⟨j,n,C,a,N⟩:=B.1 h;exact⟨j+1,n,J' C,a,I⟩
   obtain⟨j,n,C,a,N⟩:=B.1 h;exact⟨j+1,n,J' C,a,I⟩
  rintro⟨j,n,C,a,N⟩;rw[qU];cases j with
  |zero=>simp at C;subst C;rw[aB a];simp[N]
  |succ j=>
   have:=B.2 ⟨j,n,J' C,a,I⟩;split
   .simp[this]
   exact this
def CA:∀(l:List SN)(i:Nat),(qU i l).Nodup
 |[],i=>by simp[qU]
 |x::l,i=>by
  have B:=CA l<|i+1;rw[qU];split
  .refine ux.2 ⟨λh=>?_,B⟩;obtain⟨j,n,_,_,N⟩:=(EG l (i+1) i).1 h;omega
  exact B
def EH:∀(l:List SN)(i:Nat),ζ (qU i l)<=ζ l
 |[],i=>by simp[qU]
 |x::l,i=>by have B:=EH l<|i+1;rw[qU];split<;>simp<;>omega
def oJ(P:Pm)(k:Nat):Nat:=P.nv+ζ (qU 0<|P.nd.take k)
def Va(P:Pm):oJ P 0=P.nv:=by simp[oJ,qU]
def Ze(P:Pm):oJ P (ζ P.nd)=P.facts 1:=by simp[oJ,Pm.facts]
def Ij(a:k<ζ P.nd):oJ P (k+1)=if fL (P.at k) then oJ P k+1 else oJ P k:=by
 have e:P.at k=P.nd[k]:=by unfold Pm.at;rw[getD,aQ a];rfl
 unfold oJ;rw[cX a,EI,e];simp only[qU];split<;>simp<;>omega
def LC(a:k<ζ P.nd)(Q:fL (P.at k)=P'):(qU 0 P.nd)[oJ P k-P.nv]?=C' k:=by
 have e:P.at k=P.nd[k]:=by rw[Pm.at,getD,aQ a];rfl
 have C:P.nd=P.nd.take k++P.nd[k]::P.nd.drop (k+1):=by rw[getElem_cons_drop,xY]
 have a:qU 0 P.nd=qU 0 (P.nd.take k)++k::qU (k+1) (P.nd.drop<|k+1):=by
  conv=>lhs;rw[C]
  rw[EI,qU,<-e,aB Q];have:0+ζ (P.nd.take k)=k:=by rw[dG];omega
  rw[this]
 rw[a];rw[oJ,Js,fh<|aD _];simp
def nn{m:Nat}:P.oK f=C' m↔m<ζ P.nd/\fL (P.at m)=P'/\f=oJ P m:=by
 constructor;rotate_left
 .rintro⟨X,Q,rfl⟩;rw[Pm.oK,ax (by unfold oJ;omega)];exact LC X Q
 intro h;unfold Pm.oK at h;split at h
 .cases h
 rename_i Y;obtain⟨j,n,C,a,N⟩:=(EG P.nd 0 m).1<|aK h;have f:m=j:=I;subst f;have X:=(aV.1 C).1;have Q:fL (P.at m)=P':=by rw[Pm.at,getD,C];exact a
 refine⟨X,Q,?_⟩;have l:=(getElem?_inj (aV.1 h).1<|CA P.nd 0).1<|h.trans (LC X Q).symm;have:P.nv<=oJ P m:=by unfold oJ;omega
 omega
def zW(a:k<ζ P.nd)(Q:fL (P.at k)=P'):oJ P k<P.facts 1:=by
 have h:=(aV.1<|LC a Q).1;have:P.nv<=oJ P k:=by unfold oJ;omega
 have e:P.facts 1=P.nv+ζ (qU 0 P.nd):=by simp[Pm.facts]
 omega
def zT(h:cF P):P.facts 1<=68:=by
 have e:P.facts 1=P.nv+ζ (qU 0 P.nd):=by simp[Pm.facts]
 have:=EH P.nd 0;have:=h.most;have:=h.nv;omega
def rq(P:Pm)(i:Nat):BS:=if fL (P.at i) then cJ [oJ P i] else(0,0)
def xh(P:Pm)(k v:Nat):BS:=(range k).foldl (λs i=>if fL (P.at i)&&(P.at i).var==(v:Int) then e7 s (rq P i) else s)<|cJ [v]
def vN(P:Pm)(i:Nat):Ef:=if fL (P.at i) then⟨xh P (ζ P.nd) (P.at i).var.toNat,rq P i⟩ else Ú
def Pc(P:Pm)(n:Nat):BS:=if n=0 then j5 P.nv else(0,0)
def J9(h:cF P)(S:i<ζ P.nd):bQ (rq P i):=by
 unfold rq;split
 .rename_i Q;have:=zW S Q;have:=zT h;exact pF I
 exact Dh
def pz(P:Pm)(k v:Nat):xh P (k+1) v=if fL (P.at k)&&(P.at k).var==(v:Int) then e7 (xh P k v) (rq P k) else xh P k v:=by simp[xh,kI]
def DR{P:Pm}(h:cF P){v:Nat}(R:v<128):∀k,k<=ζ P.nd->bQ (xh P k v)
 |0,_=>pF R
 |k+1,hk=>by
  rw[pz];split
  .exact gG (DR h R k I)<|J9 h I
  exact DR h R k I
def adZ(h:cF P)(S:i<ζ P.nd)(Y:f<128):bt (rq P i) f=(decide (f<P.facts 1)&&(P.oK f==C' i)):=by
 have t:=zT h;have e:(P.oK f==C' i)=decide (fL (P.at i)=P'/\f=oJ P i):=by rw[cK,eo,uu,nn];exact⟨λx=>x.2,λx=>⟨S,x⟩⟩
 rw[e];unfold rq;by_cases Q:fL (P.at i)=P'
 .have L:=zW S Q;rw[aB Q,lI _ _ Y I',cK];simp[Q];omega
 rw[ax Q,ji];simp[Q]
def VC{P:Pm}(h:cF P){v f:Nat}(R:v<128)(Y:f<128):∀k,k<=ζ P.nd->bt (xh P k v) f=(decide (f=v)||decide (∃i,i<k/\fL (P.at i)=P'/\(P.at i).var=(v:Int)/\f=oJ P i))
 |0,_=>by rw[show xh P 0 v=cJ [v] from rfl,lI _ _ Y<|by simp;exact R];simp
 |k+1,hk=>by
  have B:=VC h R Y k I;have t:=zT h;rw[pz];by_cases T:(fL (P.at k)&&(P.at k).var==(v:Int))=P';rotate_left
  .rw[ax T,B];congr 1;refine xO.2 ⟨λ⟨i,C,a⟩=>⟨i,I,a⟩,λ⟨i,C,a,N,d⟩=>⟨i,?_,a,N,d⟩⟩;by_cases E:i=k
   .subst E;exact absurd (by simp[a,N]) T
   omega
  rw[aB T,gT,B];simp only[aS,eo]at T;have L:=zW (P:=P) (k:=k) I T.1;have e:bt (rq P k) f=decide (f=oJ P k):=by rw[rq,aB T.1,lI _ _ Y I'];simp
  rw[e,xN];congr 1;rw[cK];simp only[eS,bw];constructor
  .rintro(⟨i,C,a⟩|C)
   .exact⟨i,I,a⟩
   exact⟨k,I,T.1,T.2,C⟩
  rintro⟨i,C,a,N,d⟩;by_cases E:i=k
  .subst E;exact aH d
  exact aI ⟨i,I,a,N,d⟩
end
section
variable {P:Pm}
def Ik{f v:Nat}(Y:f<P.facts 1)(R:v<P.nv):(P.LD f=(v:Int))↔(f=v\/∃i,i<ζ P.nd/\fL (P.at i)=P'/\(P.at i).var=(v:Int)/\f=oJ P i):=by
 unfold Pm.LD;by_cases h:f<P.nv
 .rw[aB h];constructor
  .intro e;left;omega
  rintro(e|⟨i,C,a,N,d⟩)
  .omega
  have:P.nv<=oJ P i:=by unfold oJ;omega
  omega
 rw[ax h];have X:f-P.nv<ζ (qU 0 P.nd):=by
  have e:P.facts 1=P.nv+ζ (qU 0 P.nd):=by simp[Pm.facts]
  omega
 cases Q:P.oK f with
 |none=>unfold Pm.oK at Q;rw[ax h,aQ X]at Q;cases Q
 |some m=>
  obtain⟨C,a,N⟩:=nn.1 Q;simp only;constructor
  .intro e;exact aH ⟨m,C,a,e,N⟩
  rintro(e|⟨i,N,k,j,a⟩)
  .omega
  have:=nn.2 ⟨N,k,a⟩;rw[Q]at this;cases this;exact j
def ab5(h:cF P){i:Nat}(S:i<ζ P.nd):E9 (vN P i):=by
 unfold vN;split
 .rename_i Q;have:=h.var _ (Ç S) (by simpa[fL]using Q);have:=h.nv;exact⟨DR h I _<|aD _,J9 h S⟩
 exact⟨Dh,Dh⟩
def F!(h:cF P)(F:ζ P.nx=ζ P.nd):Ar P 1 (wL P (Pc P)<|vN P):=by
 have p:=h.most;have d:=h.nv;have t:=zT h;have R:P.nv<=P.facts 1:=by simp[Pm.facts]
 refine⟨N1 h (λn=>?_) λm d=>ab5 h d,t,?_,?_,?_,?_⟩
 .unfold Pc;split
  .exact o? _ I
  exact Dh
 .intro n r a f Y;obtain⟨X,rfl⟩:=je a;have e:P.st 1 n f=(n==0&&decide (f<P.nv)):=by simp[Pm.st]
  simp only;rw[e];unfold Pc;by_cases D:n=0
  .rw[aB D,wm _ _ I Y,cK];simp[D];omega
  rw[ax D,ji];simp[D]
 .intro n r a;obtain⟨X,rfl⟩:=je a;exact UI (aI rfl) F
 .intro n r a e l f Y;obtain⟨X,rfl⟩:=je a;obtain⟨C,c⟩:=zo l;have u:P.ad 1 e.1 f=(P.oK f==C' e.1):=by simp[Pm.ad]
  rw[c,u];by_cases Q:fL (P.at e.1)=P'
  .have b:(vN P e.1).add=rq P e.1:=by rw[vN,aB Q]
   rw[b,adZ h C Y]
  have b:(vN P e.1).add=(0,0):=by rw[vN,ax Q];rfl
  have d:(P.oK f==C' e.1)=Q':=by rw[vD,Ne,eo,nn];exact λx=>Q x.2.1
  rw[b,d,ji,Bool.and_false]
 intro n r a e l f Y;obtain⟨X,rfl⟩:=je a;obtain⟨C,c⟩:=zo l;have u:P.ps 1 n e.1 f=!(fL (P.at e.1)&&(P.at e.1).var==P.LD f):=by simp[Pm.ps]
 rw[c,u,xQ];by_cases Q:fL (P.at e.1)=P'
 .have R:=h.var _ (Ç C) (by simpa[fL]using Q);obtain⟨v,c⟩:∃v:Nat,(P.at e.1).var=(v:Int):=⟨(P.at e.1).var.toNat,I⟩;have b:(vN P e.1).drop=xh P (ζ P.nd) v:=by rw[vN,aB Q,c];rfl
  have a:v<P.nv:=I;rw[b,VC h I I _<|aD _,Q,c,eV,cK,eS,uu,uu,eo];exact(Ik Y a).symm.trans ⟨Eq.symm,Eq.symm⟩
 have b:(vN P e.1).drop=(0,0):=by rw[vN,ax Q];rfl
 rw[b,ji];simp[Q]
end
def w!{w:t'}{B a:Nat}{c:List RR}{R:RS}(h:Sys w B a 2 393 404 c)(U:c.map RR.pr=JU R):og w B a R:=⟨c,h,U⟩
def afW(P:Pm):kR (ζ P.nd) (TP P)=JU (wS P RV TQ):=(Vx P RV TQ).symm
def afV(P:Pm):kR (ζ P.nd) (TN P)=JU (wS P (Ò P.ex)<|Ó P.ex):=(Vx P (Ò P.ex)<|Ó P.ex).symm
def afY(P:Pm):kR (ζ P.nd) (đ P)=JU (wL P (λn=>if n=0 then j5 (ζ P.ex) else(0,0)) λm=>TX P.ex<|P.at m):=(UJ P _ _).symm
def Pm.rs(P:Pm)(p:Int):RS:=if p=1 then wL P (Pc P) (vN P) else if p=2 then wS P RV TQ else if p=3 then wL P (λn=>if n=0 then j5 (ζ P.ex) else(0,0)) (λm=>TX P.ex<|P.at m) else wS P (Ò P.ex) (Ó P.ex)
def ME{P:Pm}(h:cF P)(F:ζ P.nx=ζ P.nd){p:Int}(U:1<=p/\p<=4):Ar P p (P.rs p):=by
 unfold Pm.rs;by_cases C:p=1
 .subst C;rw[aB rfl];exact F! h F
 rw[ax C];by_cases a:p=2
 .subst a;rw[aB rfl];exact Ya h
 rw[ax a];by_cases N:p=3
 .subst N;rw[aB rfl];exact KX h F
 rw[ax N];obtain rfl:p=4:=I;exact Yi h
section
variable {l:List BS}
def du(l:List BS):List A':=l.flatMap eN
def JM(l:List BS)(s:BS):du (l++[s])=du l++eN s:=by simp[du]
def BE(l:List BS):ζ (du l)=ζ l*2:=by
 induction l with
 |nil=>rfl
 |cons a l B=>simp only[du,b9,aW,bR,eN,de]at B|-;omega
def BD:∀(l:List BS)(k:Nat)(z:BS),k<ζ l->((du l).set (k*2)<|Z z.1).set (k*2+1) (Z z.2)=du (l.set k z)
 |[],k,z,h=>by simp at h
 |a::l,0,z,_=>by simp[du,eN]
 |a::l,k+1,z,h=>by have B:=BD l k z<|J' h;have V:(k+1)*2=k*2+1+1:=I;have u:(k+1)*2+1=k*2+1+1+1:=I;simp only[du,b9,eN,dA,c!,da,V]at B|-;rw[B]
def FO:∀(l:List BS)(k:Nat)(s:BS),l[k]?=C' s->(du l)[k*2]?=C' (Z s.1)/\(du l)[k*2+1]?=C' (Z s.2)
 |[],k,s,h=>by simp at h
 |a::l,0,s,h=>by simp at h;subst h;simp[du,eN]
 |a::l,k+1,s,h=>by have B:=FO l k s<|J' h;have V:(k+1)*2=k*2+1+1:=I;simp only[du,b9,eN,dA,c!,V,nz]at B|-;exact B
def Gv{z:BS}(h:ρ W B t 2 (eu q n c) n<|du l)(a:k<n):
  ρ (κ (κ W (O q<|k*2)<|Z z.1) (O q<|k*2+1)<|Z z.2) B t 2 (eu q n c) n (du<|l.set k z):=by
 have X:ζ l=n:=by have:=h.1;rw[BE]at this;omega
 refine⟨by rw[BE,jn,X],?_⟩;rcases h.2 with⟨a,_⟩|⟨g,b,Y,V,u,e,f,o,b,d⟩
 .cases a
 simp at V;obtain⟨rfl,rfl⟩:=V;refine aH ⟨q,c,_,rfl,u,aw (aw e _) _,f,o,by simp[b],?_⟩;rw[Rk,Rk,take_set,take_set,d];exact BD l k z I
def qi{s:BS}(h:ρ W B t 2 (eu q n c) n<|du l)(a:l[k]?=C' s):
  (χ W (O q<|k*2)=C' (Z s.1)/\W.frozen? (O q<|k*2)=Q')/\χ W (O q<|k*2+1)=C' (Z s.2)/\W.frozen? (O q<|k*2+1)=Q':=by
 have T:=λj u f=>h.cells (g:=q) rfl j u f
 obtain⟨C,c⟩:=FO l k s a;have f:∀o,W.frozen? (O q o)=Q':=by
  rcases h.2 with⟨a,_⟩|⟨g,b,Y,V,u,b,_⟩
  .cases a
  simp at V;obtain⟨rfl,rfl⟩:=V;exact(A b).2
 refine⟨⟨?_,f _⟩,?_,f _⟩
 .have:=T _ _ C;simp only[Addr.add]at this;by_cases b:k*2=0
  .simpa[b]using this
  simpa[b]using this
 have:=T _ _ c;simpa[Addr.add]using this
def jS{b m o:Nat}{v u:A'}{D:List A'}(h:ρ W B t m v n D)(c:φ v=D'\/φ v≠C' b):ρ (κ W (O b o) u) B t m v n D:=by
 refine⟨h.1,?_⟩;rcases h.2 with a|⟨g,b,Y,V,u,d,e⟩
 .exact aI a
 refine aH ⟨g,b,Y,V,u,(bh _ _ _ _ ?_).trans d,e⟩;rintro rfl;rw[V]at c;rcases c with h|h
 .cases h
 exact h rfl
end
section
variable {P:Pm}{Q v o:Nat}{L:Array A'}{D:List A'}
def KA(j:Nat):List BS:=(range j).map λv=>cJ [v]
def PG(j:Nat):KA (j+1)=KA j++[cJ [j]]:=by simp[KA,kI]
def nI(P:Pm)(N k:Nat):List BS:=(range N).map λi=>if i<k then rq P i else(0,0)
def py(P:Pm)(nv k:Nat):List BS:=(range nv).map<|xh P k
def Pd(P:Pm)(N:Nat):nI P N 0=replicate N (0,0):=by refine Dd.2 ⟨by simp[nI],λb a=>?_⟩;obtain⟨n,_,rfl⟩:=bp.1 a;simp
def SY(P:Pm)(N:Nat):nI P N N=(range N).map (rq P):=eJ λn K=>by simp[cq.1 K]
def Xu(a:k<N):(nI P N k)[k]?=C' (0,0):=by simp[nI,a]
def SX(a:k<N):(nI P N k).set k (rq P k)=nI P N (k+1):=by
 refine dQ λi=>?_;rw[eQ];simp only[nI,bA,uA,bH];by_cases h:k=i
 .subst h;simp[a]
 have e:i<k+1↔i<k:=I;by_cases S:i<N
 .simp[h,e,S]
 simp[h,S]
def Pe(Q:fL (P.at k)=Q'):nI P N (k+1)=nI P N k:=by
 refine eJ λi _=>?_;by_cases h:i=k
 .subst h;simp[rq,Q]
 have e:i<k+1↔i<k:=I;simp[e]
def MP(R:v<Q):(py P Q k)[v]?=C' (xh P k v):=by simp[py,R]
def SW(R:v<Q)(a:fL (P.at k)=P')(l:(P.at k).var=(v:Int)):(py P Q k).set v (e7 (xh P k v)<|rq P k)=py P Q (k+1):=by
 refine dQ λi=>?_;rw[eQ];simp only[py,bA,uA,bH];by_cases h:v=i
 .subst h;simp[R,pz,a,l]
 have e:¬((v:Int)=i):=I;by_cases S:i<Q
 .simp[h,S,pz,a,l,e]
 simp[h,S]
def Pb(a:fL (P.at k)=Q'):py P Q (k+1)=py P Q k:=eJ λi _=>by rw[pz];simp[a]
def TF.cell{f:Nat×Nat}{v:A'}(h:W.1[q]?=C' (j' L t f))(a:B<=q):TF B t t W (κ W (O q o) v):=by refine⟨(aP _ _).setCell a _,λp s b a e C _=>bh _ _ _ _ ?_⟩;rintro rfl;rw[h]at e;simp at e;exact C e.2.1.symm
def TF.abu{b:Nat}{v g:A'}(h:W.1[q]?=C' (cL L t))(a:B<=q):TF B t t W (κ (κ W (O q o) v) (O q b) g):=(TF.cell h a).trans<|TF.cell (aw h _) a
def jT(h:ρ W B t m (eu q n c) n D):B<=q/\∃Y,W.1[q]?=C' (cL Y t):=by
 rcases h.2 with⟨a,_⟩|⟨g,b,Y,V,u,b,_⟩
 .cases a
 simp at V;obtain⟨rfl,rfl⟩:=V;exact⟨u,Y,b⟩
def Gu{a:u'}(h:ρ W B t m (h' a n c) n D)(K:0<n):∃q,a=C' (O q 0):=by
 rcases h.2 with⟨e,u⟩|⟨g,a,Y,V,_⟩
 .omega
 simp at V;exact⟨g,V.1⟩
def wO(g W:Nat)(nl:List NC)(P:Pm)(w:t')(hP:PM w g W nl P)(c:cF P):
  Cl 281 #[gi g (ζ P.nd) W P.nv] w λe w'=>∃ob va vc,e=o' (p' #[h' (C'<|O ob 0) (ζ P.nd)<|ζ P.nd,h' va P.nv vc,G (P.facts 1:Int)])/\ρ w' w.1.size 267 2 (cw ob<|ζ P.nd) (ζ P.nd) (du<|(range<|ζ P.nd).map<|rq P)/\ρ w' w.1.size 267 2 (bk va P.nv vc) P.nv (du<|py P P.nv<|ζ P.nd)/\Bl w w':=by
 obtain⟨i0,S,D,b,a⟩:=cG qy;have u:J (_/\_/\_/\_):=⟨S,D,b,a⟩;clear S D b a;have p:=c.most;have NQ:=c.nv;have HH:=ſ<|M hP c;obtain⟨N,b⟩:=Ea<|ζ P.nd;obtain⟨Q,a⟩:=Ea P.nv;rw[<-b]at p;rw[<-a]at NQ;rw[<-b,<-a];have K:=ſ<|M b a;clear hP c b a;simp only[gi];go_enter func281,ntmps281;go_upto_region 1 with(fail)
 generalize ar:w.alloc (j' (ei g N W Q) 86)=W0;have U:J (Bl w W0/\d' W0 w.1.size (ei g N W Q) 86):=by subst ar;exact⟨aY,bj _ _⟩
 clear ar;have x1:=A U.A;have a:=À U.A;go_upto_region 2 with(at_make;refine eK _ rfl (.tmp 10) (.tmp 10) 264 rfl w.1.size 267 i0 _ 2 underlying264 u.a u.b u.c .i64 .i64 N N N rfl rfl rfl rfl (by rw[u.C];omega) (by unfold maxLen;omega) I ?_;intro t b d;have V:=ſ<|M b d;clear b d)
 have HW:J (Bl w t/\d' t w.1.size (ei g N W Q) 86/\ρ t w.1.size 267 2 (cw W0.1.size N) N (du<|replicate N (0,0))):=by
  have C:=V.a;rw[jK _ 2 (by simp[Value.cells]) N]at C;have e:(replicate N<|[Z 0,Z 0]).flatten=du (replicate N (0,0)):=by simp[du,eN,flatMap,rO]
  refine⟨U.a.grown V.A I (λq e=>by cases e),(V.A.block w.1.size a ak).trans U.A,?_⟩;rw[<-e];exact C
 have ff:δ w.1<δ W0.1:=a;generalize δ W0.1=ob at HW ff|-;clear a x1;have x1:=A HW.b;go_wp2_with fail;clear x1;go_loopw[3,14] (λp y wr=>∃(j:Nat)(a:u')(c:Nat),j<=Q/\y=G j/\p=h' a j c/\J (ρ wr t.1.size 267 2 (h' a j c) j (du<|KA j)/\Bl t wr)) (λ_ y _=>Q-(intOf y).toNat)
 case atStart=>exact⟨0,D',0,bq _,rfl,rfl,cY _ _ _ _,aP _ _⟩
 obtain⟨j,a,c,hj,rfl,rfl,HK⟩:=hrel;by_cases L:j<Q
 .have lF:(j:Int)<Q:=I;have s:J (∀X b,χ X (O b 0)=C' (G j)->Cl 241 (mL b) X (Rb X<|cn<|cJ [j])):=λX b T=>kz X b j I T;have V8:J (du (KA<|j+1)=du (KA j)++eN (cJ [j])):=by show _=_;rw[PG,JM]
  obtain⟨S,uj⟩:=Ea<|cJ [j];rw[<-uj]at s V8;clear uj;simp only[cn]at s;go_wp2_with (first|(go_at_call 241;refine(s.o _ _ ak).mono ?_;rintro e U ⟨rfl,p⟩;have D:=ſ<|aq aY p;clear p)|(at_builtin;refine iK _ rfl _ _ 264 rfl t.1.size 267 i0 (k' #[Z 0,Z 0]) 2 16 underlying264 u.a u.b u.c u.C rfl aj (h' a j c) j (du<|KA j) rfl ((bu HK.a D.o).alloc _) (O U.1.size 0) 1 1 [Z S.1,Z S.2] rfl rfl (GM<|bj U _) (by intro u p;simp at p;rcases p with rfl|rfl<;>rfl) (by simp only[maxLen];omega) I (by have:=(aq HK.A D.o).size;simp;omega) ?_;intro U l o9 g9 _;obtain⟨a9,c9,rfl⟩:=aX o9;have H9:=ſ<|M o9 g9;clear o9 g9));go_roundw
  case rel=>
   refine⟨j+1,a9,c9,L,f',rfl,?_,?_⟩
   .rw[V8.o];exact H9.a
   exact((aq HK.A D.o).alloc (aq HK.A D.o).size _).grown H9.A (by have:=(aq HK.A D.o).size;simp;omega) λq e=>((bu HK.a D.o).lt q e).1
  exact H'
 have lF:¬(j:Int)<Q:=I;obtain rfl:j=Q:=I;have x1:=A<|aF HK.A HW.b;go_wp2_with fail;clear x1;have HT:J (ρ wr w.1.size 267 2 (cw ob N) N (du<|nI P N 0)/\ρ wr t.1.size 267 2 (h' a j c) j (du<|py P j 0)/\PM wr g W nl P/\Bl w wr/\ob<δ t.1/\δ t.1<=δ wr.1):=by have C:=HW.B;obtain⟨_,Y,T⟩:=jT C;exact⟨by rw[Pd];exact bu C HK.A,HK.a,HH.a.below<|aq HW.a HK.A,aq HW.a HK.A,À T,HK.A.size⟩
 have HC0:J (oJ P 0=j):=by show _=_;rw[Va];exact K.A.symm
 obtain⟨W2,h⟩:=Ea wr;subst h;go_loopw[4,29] (λg y wr=>∃(k:Nat),k<=N/\y=G k/\g=G (oJ P k:Int)/\J (ρ wr w.1.size 267 2 (cw ob N) N (du<|nI P N k)/\ρ wr t.1.size 267 2 (h' a j c) j (du<|py P j k)/\TF w.1.size 267 267 W2 wr)) (λ_ y _=>N-(intOf y).toNat)
 case atStart=>exact⟨0,bq _,rfl,by rw[HC0.o],HT.a,HT.b,Bj⟩
 obtain⟨k,g,rfl,rfl,f⟩:=hrel;by_cases L:k<N;rotate_left
 .have lF:¬(k:Int)<N:=I;obtain rfl:k=N:=I;have g:J (oJ P k=P.facts 1):=by show _=_;rw[K.a];exact Ze P
  generalize oJ P k=dk at g|-;go_wp2_with fail;refine aC (v:=p' #[h' (C'<|O ob 0) k k,h' a j c,G dk]) (by simp[results281,go_sem]) rfl ⟨ob,a,c,by rw[g.o],?_,?_,?_⟩
  .rw[<-SY];exact f.a
  .have:=pD f.b<|br (rL ff)<|rL HT.e;exact this
  exact HT.d.trans f.B.low
 have lF:(k:Int)<N:=I;have zL:δ w.1<=δ wr.1:=br HT.d.size f.B.low.size;have R:=HT.c.tf f.B aj aj aj aj;obtain⟨r,a,T,F,i,_,Uq,_⟩:=R.nodes (by rw[<-K.a];exact L);have E:=λj (hj:j<14)=>(mY R T j hj);have d:=aK F;obtain⟨v,tI⟩:=Ea r.n;rw[<-tI]at E F i d;simp only[NC.wv,NC.ev]at E;generalize r.bL=bL at E;generalize r.wa=wa at E;generalize r.wl=wl at E;generalize r.wc=wc at E;generalize r.ea=ea at E;generalize r.el=el at E;generalize r.ec=B at E;have E8:J (∀W,Cl 282 #[k'<|aJ bL (h' wa wl wc) v<|h' ea el B] W<|Rb W<|i'<|fL v):=λW=>(l! bL _ _ v W (HH.A.aO v d).1).mono λe w' V=>⟨V.1,by rw[V.2];exact aY⟩;have II:J (fL v=P'->0<=v.var/\v.var<j):=λh=>by have:=HH.A.var v d (by simpa[fL]using h);have:=K.A;omega
 have bl:J (oJ P (k+1)=if fL v then oJ P k+1 else oJ P k):=by have:=Ij (P:=P) (k:=k) (by rw[<-K.a];exact L);rwa[i]at this
 have ck:J (fL v=P'->oJ P k<128):=λh=>by have:=zW (P:=P) (k:=k) (by rw[<-K.a];exact L) (by rw[i];exact h);have:=zT HH.A;omega
 have cd:J (rq P k=if fL v then cJ [oJ P k] else(0,0)):=by show _=_;rw[rq,i]
 have ah:J (fL (P.at k)=fL v/\(P.at k).var=v.var):=by rw[i];exact⟨rfl,rfl⟩
 obtain⟨ok,o⟩:=Ea<|fL v;rw[<-o]at E8 II bl ck cd ah;obtain⟨x,var,op,test,⟨ai,av,ac⟩,⟨bi,bv,bc⟩,dz⟩:=v;have v:=OU E;simp only[aJ,cn]at E8 II ah;clear E o tI F i d T R Uq;obtain⟨dk,d⟩:=Ea<|oJ P k;rw[<-d]at bl ck cd|-;clear d;go_upto_region 11 with(fail)
 generalize d:wr.alloc (j' #[m' bL,h' wa wl wc,G x,G var,G op,G test,i' ai,G av,G ac,i' bi,G bv,G bc,h' ea el B,m' dz] 152)=V;have HV:J (Below wr.1.size wr V/\d' V wr.1.size #[m' bL,h' wa wl wc,G x,G var,G op,G test,i' ai,G av,G ac,i' bi,G bv,G bc,h' ea el B,m' dz] 152):=by subst d;exact⟨aY,bj _ _⟩
 clear d v;have x1:=A HV.A;cases ok
 .go_wp2_with (go_at_call 282;refine(E8.o _).mono ?_;rintro e W6 ⟨rfl,E⟩;have o:=ſ<|aq HV.a E;clear E x1);go_roundw
  case rel=>
   refine⟨k+1,L,f',by rw[bl.o];rfl,?_,?_,?_⟩
   .rw[Pe ah.a];exact bu f.a o.o
   .rw[Pb ah.a];exact bu f.b o.o
   exact f.B.trans<|TF.aR o.o zL
  exact H'
 have R:=II.o rfl;obtain⟨F,rfl⟩:∃F:Nat,var=(F:Int):=⟨var.toNat,L' R.1⟩;have hvj:F<j:=by have:=R.2;omega
 have fo:dk<128:=ck.o rfl;obtain⟨q,rfl⟩:=Gu f.b I;have nq:q≠ob:=by have:=(jT f.b).1;have:=HT.e;omega
 have s:J (∀X b,χ X (O b 0)=C' (G dk)->Cl 241 (mL b) X (Rb X<|cn<|cJ [dk])):=λX b T=>kz X b dk fo T;have v:J (∀(X:t')(b:Nat),χ X (O b 0)=C' (Z ((xh P k F).1:Int))->χ X (O b 1)=C' (Z ((xh P k F).2:Int))->χ X (O b 2)=C' (Z ((rq P k).1:Int))->χ X (O b 3)=C' (Z ((rq P k).2:Int))->Cl 267 (rf b) X (Rb X<|cn<|e7 (xh P k F)<|rq P k)):=by have C:=K.a;have h2:=K.A;have a:=HH.A.nv;exact λX b g Q p a=>fA X b _ _ (DR HH.A I k I) (J9 HH.A I) g Q p a
 have d:J ((py P j k)[F]?=C' (xh P k F)/\(py P j k).set F (e7 (xh P k F)<|rq P k)=py P j (k+1)/\(nI P N k).set k (rq P k)=nI P N (k+1)/\(nI P N k)[k]?=C' (0,0)/\(nI P N<|k+1)[k]?=C' (rq P k)):=⟨MP hvj,SW hvj ah.a ah.A,SX L,Xu L,by simp[nI,L]⟩;obtain⟨S,uj⟩:=Ea<|cJ [dk];have ee:rq P k=S:=by rw[cd.o,uj];rfl
 rw[ee]at d v;rw[<-uj]at s;obtain⟨u1,ed⟩:=Ea<|e7 (xh P k F) S;rw[<-ed]at d v;obtain⟨a,i⟩:=Ea<|xh P k F;rw[<-i]at d v;clear R uj ee ed i;simp only[cn]at s v;go_upto_region 12 with(go_at_call 282;refine(E8.o _).mono ?_;rintro e W6 ⟨rfl,E⟩;have o:=ſ<|aq HV.a E;have r:=ſ<|aF E HV.A;clear E x1)
 go_upto_region 13 with(go_at_call 241;refine(s.o _ _ ak).mono ?_;rintro e b ⟨rfl,g⟩;have a:=ſ<|aq aY g;clear g;have z1:=qi (bu f.a<|aq o.o a.o) d.d)
 have i:J (ρ (κ (κ b (O ob<|k*2)<|Z S.1) (O ob<|k*2+1)<|Z S.2) w.1.size 267 2 (cw ob N) N (du<|nI P N<|k+1)/\ρ (κ (κ b (O ob<|k*2)<|Z S.1) (O ob<|k*2+1)<|Z S.2) t.1.size 267 2 (eu q j c) j (du<|py P j k)/\TF w.1.size 267 267 W2 (κ (κ b (O ob<|k*2)<|Z S.1) (O ob<|k*2+1)<|Z S.2)/\d' (κ (κ b (O ob<|k*2)<|Z S.1) (O ob<|k*2+1)<|Z S.2) wr.1.size #[m' bL,h' wa wl wc,G x,G F,G op,G test,i' ai,G av,G ac,i' bi,G bv,G bc,h' ea el B,m' dz] 152/\δ w.1<=δ (κ (κ b (O ob<|k*2)<|Z S.1) (O ob<|k*2+1)<|Z S.2).1):=by
  have p:=aq o.o a.o;have C:=bu f.a p;obtain⟨hl,Y,T⟩:=jT C;have g:TF w.1.size 267 267 b (κ (κ b (O ob<|k*2)<|Z S.1) (O ob<|k*2+1)<|Z S.2):=TF.abu T hl;have E:φ (h' (C'<|O q 0) j c)≠C' ob:=by simp[Value.ownBlock];exact nq
  refine⟨?_,jS (jS (bu f.b p)<|aH E)<|aH E,(f.B.trans<|TF.aR p zL).trans g,g.box (aF a.o r.o) aj aj,?_⟩
  .rw[<-d.c];exact Gv C L
  have:=p.size;simp;omega
 clear z1;generalize(κ b (O ob<|k*2)<|Z S.1).setCell (O ob<|k*2+1) (Z S.2)=a at i|-;generalize δ wr.1=b at i|-;have s:b≠q:=by rintro rfl;obtain⟨_,Y,T⟩:=jT i.b;rw[i.d]at T;simp at T
 have x:b≠ob:=by rintro rfl;obtain⟨_,Y,T⟩:=jT i.a;rw[i.d]at T;simp at T
 have f:=s.symm;have V:=x.symm;have f:=nq.symm;have f:b<δ a.1:=À i.d;have b:q<δ a.1:=by obtain⟨_,Y,T⟩:=jT i.b;exact À T
 have D:ob<δ a.1:=by obtain⟨_,Y,T⟩:=jT i.a;exact À T
 have y1:=A i.d;have z1:=qi i.a d.D;have b:=qi i.b d.a
 go_region_law (go_simp;refine bE (v.o _ _ ak ak ak ak) ?_;rintro e l ⟨rfl,fi⟩;have R:J (Bl a l):=aq ay fi;clear fi y1 z1 b;have z1:=qi (bu i.b R.o) d.a;have y1:=A<|aF R.o i.d)
 all_goals
  generalize ar:κ (κ l (O q<|F*2)<|Z u1.1) (O q<|F*2+1) (Z u1.2)=a;have H9:J (ρ a w.1.size 267 2 (cw ob N) N (du<|nI P N<|k+1)/\ρ a t.1.size 267 2 (eu q j c) j (du<|py P j<|k+1)/\TF w.1.size 267 267 W2 a):=by
   subst ar;have h2:=bu i.b R.o;obtain⟨hl,Y,T⟩:=jT h2;have E:φ (h' (C'<|O ob 0) N N)≠C' q:=by simp[Value.ownBlock];exact λh=>nq h.symm
   refine⟨jS (jS (bu i.a R.o)<|aH E)<|aH E,?_,(i.c.trans<|TF.aR R.o i.D).trans<|TF.abu T<|L' HT.e⟩;rw[<-d.b];exact Gv h2 hvj
  clear ar;clear z1 y1;go_wp2_with fail;go_roundw
  case rel=>exact⟨k+1,L,f',by rw[bl.o];go_num,H9.o⟩
  exact H'
end
