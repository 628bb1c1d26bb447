import Derived.Test.YtmipbiligijcpaaGreatDoorA14
import Derived.Test.YtmipbiligijcpaaGreatDoorA15
namespace Go.Proofs.YtmipbiligijcpaaGreatDoor
set_option linter.all false
set_option maxHeartbeats 0
set_option maxRecDepth 99999
open Go.RowKit Go.Proofs Go.Maps Tryz List open List renaming length->ζ,toArray->θ open _root_.Array renaming size->δ open World renaming setCell->κ,ownsRow->ρ,cell?->χ,grownBy->ξ,setCells->ψ open Value renaming ownBlock->φ open Value renaming slice->i',bool->j',agg->l',string->m',pointer->o',tuple->t' open Obj renaming cells->k' open Ending renaming returned->p' open Option renaming some->B',none->C' open Bool renaming true->O',false->P'
variable {j:Nat}
def r9(g cap nc:Nat)(na:x')(nl:List NC)(P:Pm)(c:Ct)(w:u')(hP:PM w g cap nl P)(hO:dC P)(hC:wR P)(ho:qA P)(hx:ζ P.nx=ζ P.nd)(h:b9 w na c.nodes)(M9:∀x∈c.nodes,dY x)(Qb:jz c=O')(hl:ζ c.nodes=ζ P.nd)(hp:c.aE=5):
  Cl 93 #[i! g (ζ P.nd) cap P.nv,l' #[G c.aE,G c.grade,i' na (ζ P.nd) nc]] w (Rb w<|G<|jF P c):=by
 have jV:=True.intro;exact adq
def PK(g d r:Nat)(T:x')(D:List NC)(P:Pm)(c:Ct)(w:u')(hP:PM w g d D P)(s:aax P)(h:b9 w T c.nodes)(B:∀x∈c.nodes,dY x)(o:jz c=O')(b:Cf w):
  Cl 45 #[i! g (ζ P.nd) d P.nv,l' #[G c.aE,G c.grade,i' T (ζ c.nodes) r]] w (Rb w<|G<|jF P c):=by
 have a:(1<=c.aE/\c.aE<=6)/\(c.grade=1\/c.grade=2)/\ζ c.nodes<=60:=by
  unfold jz known at o;simp at o;refine⟨⟨o.1.1.1.1,o.1.1.1.2⟩,?_,o.1.2⟩;rcases o.1.1.2 with h|h
  .exact aK h
  exact aI h.1
 have q:ζ c.nodes≠ζ P.nd->jF P c=6:=by intro z;rw[jF,v8,cV z];rfl
 have f:=hid λX U W j=>r9 g d r T D P c W (hP.below j) s.ok s.cs s.op s.nx (h.below j) B o X U;have l:=hid λX U W j=>wj g d r T D P c W (hP.below j) s.ok s.cs s.op s.nx (h.below j) B o X U;have t:=hid λX U W j=>Az g d r T D P c W (hP.below j) s.ok s.nx s.key (h.below j) B o X ⟨a.1.1,U⟩ a.2.1<|b.below j;have p:=s.ok.most;have i:=a.2.2;have y:=a.1;have C:=hid q;clear q hP s h B o b a;generalize jF P c=a at t f l C|-;generalize c.aE=u at t f l y|-;generalize c.grade=h at t f l|-;generalize ζ P.nd=N at t f l C p|-;generalize ζ c.nodes=a at t f l C i|-;simp only[i!]at t f l|-;by_cases X:a=N;rotate_left
 .have v:((a:Int)==(N:Int))=P':=by simp;omega
  have k:=C.o X;go_enter func45,ntmps45;go_upto_region 1 with fail
  refine vZ (F:=Code.wp _ _ _ _) λa U=>?_;have E:=M U.a.1;have b:=M U.a.2;go_wp2;go_ret;exact⟨by rw[k];rfl,U.b⟩
 subst X;have F:=hid<|t.o rfl;have g:=hid<|f.o rfl;have f:=hid<|l.o rfl;go_enter func45,ntmps45;go_upto_region 1 with fail
 refine vZ (F:=Code.wp _ _ _ _) λa U=>?_;have E:=M U.a.1;have b:=M U.a.2;by_cases l:u=5
 .subst l;go_wp2_with (go_at_call 93;refine(g.o rfl _ U.b).mono ?_;rintro e t ⟨rfl,a⟩;have c:=hid a;clear a E b);go_ret;exact⟨rfl,H U.b c.o⟩
 by_cases d:u=6
 .subst d;go_wp2_with (go_at_call 94;refine(f.o rfl _ U.b).mono ?_;rintro e t ⟨rfl,a⟩;have c:=hid a;clear a E b);go_ret;exact⟨rfl,H U.b c.o⟩
 have d:u<=4:=I;have K:=hid<|F.o d;clear F g f d y;go_wp2_with (go_at_call 95;refine(K.o _ U.b).mono ?_;rintro e t ⟨rfl,a⟩;have c:=hid a;clear a E b);go_ret;exact⟨rfl,H U.b c.o⟩
def adJ{g:Array Oper}{o:Oper}{a:Act}{w:u'}{K:Act->u'->Prop}{Q:Exit->Act->u'->Prop}{E:Prop}(k:o.guard=C')(s x:Operand)
  (l:o.op=.call {callee:=.builtin .append,args:=#[s,x],argTypes:=#[36,36]})
  (B:Nat) (p:a.eval s=i' C' 0 0)
  (c:x') (f:Nat) (m:List Int) (F:a.eval x=i' c (ζ m) f) (W:c=C'->f=0) (d:cE w c m)
  (L:ζ m*8<=140737488355328) (v:B<=δ w.1)
  (h:∀z e b,ρ b B 3 1 (i' z (ζ m) e) (ζ m) (m.map G)->ξ w b C'->K (a.put o.dst<|i' z (ζ m) e) b):
  if Region.wanted o (yielded g a.tmps)=O' then Oper.wp Tryz.prog o a w K Q else E:=by
 obtain⟨N,S,D,P,j⟩:=cQ nQ;cases c with
 |none=>
  have T:=W rfl;subst T;have i:m=[]:=by
   cases m with
   |nil=>rfl
   |cons y r=>obtain⟨b,o,e,_⟩:=d 0 y rfl;cases e
  subst i;have b:Region.wanted o (yielded g a.tmps)=O':=by simp[Region.wanted,k]
  rw[aB b];have r:=run_append_owned_none (P:=Tryz.prog) (w:=w) B 36 o.type 3 N 1 underlying36 S (i' C' 0 0) 0 [] cb;have g:a.eval x=i' C' 0 0:=F;simp[Oper.wp,execOp,l,resolve,invoke,builtin,p,g,r,Result.andThen];exact h C' 0 w cb<|Cz _ _
 |some a=>
  refine jq k s x 36 l B 3 N _ 1 8 underlying36 S D P j rfl aj (i' C' 0 0) 0 [] p cb a (ζ m) f (m.map G) F ak (BA d) (by intro u C;obtain⟨y,_,rfl⟩:=cZ.1 C;rfl) (by simp only[maxLen];omega) I v ?_;intro R F f k _;rw[bW,ej]at f;obtain⟨a,p,rfl⟩:=aV f;have j:ξ w F C':=k
  try simp only[bW]
  exact h a p F f j
def FM(E:List Vl):mL E=fh (E.map plV):=by rw[mL,fh,flatMap_map];rfl
def nzC:List A':=[i' C' 0 0,i' C' 0 0,j' P',G 0,i' C' 0 0]
def ti(n:Nat):List A':=(replicate n nzC).flatten
def yw(n:Nat):ti (n+1)=nzC++ti n:=by unfold ti;rw[gF,oU]
def Bz:∀n,ζ (ti n)=n*5
 |0=>rfl
 |n+1=>by rw[yw,bF,Bz n];simp[nzC];omega
def eG.ZZ{W a:u'}{B:Nat}{x:N5}(h:eG W B x)(V:∀(k:Nat) (Y:Array A') (t:TypeId),W.1[k]?=B' (c7 Y t)->t=3\/t=73->a.1[k]?=W.1[k]?):eG a B x:=by
 have k:∀{e size n:Nat} {v:A'} {D:List A'},ρ W B e size v n D->e=3\/e=73->ρ a B e size v n D:=by
  intro e size n v D h l;refine⟨h.1,?_⟩;rcases h.2 with a|⟨g,b,Y,C,c,N,d⟩
  .exact aI a
  exact aK ⟨g,b,Y,C,c,(V g Y e N l).trans N,d⟩
 exact⟨k h.f<|aI rfl,k h.r<|aI rfl,k h.v<|aK rfl,h.ap⟩
def OV(na:x')(nc:Nat)(ns:List Nd)(w:u')(h:b9 w na ns)(hn:ζ ns<=60)(M9:∀x∈ns,ζ x.facts<=100000/\ζ x.vals<=1000):
  Cl 46 #[i' na (ζ ns) nc] w λe w'=>∃cl la lc,e=p' (aO la (ζ ns) lc)/\cl.map N5.n=ns.map qQ/\ρ w' w.1.size 96 5 (aO la (ζ ns) lc) (ζ ns) (dJ cl)/\(∀x∈cl,eG w' w.1.size x)/\Eh cl/\Below w.1.size w w':=by
 obtain⟨i1,hi,Qa,tF,WV⟩:=cQ yT;have HI:J (_/\_/\_/\_):=⟨hi,Qa,tF,WV⟩;clear hi Qa tF WV;have HH:=hid<|A h M9;clear h M9;obtain⟨N,hNN⟩:=Ea<|ζ ns;rw[<-hNN]at hn|-;have HN:=hid hNN;clear hNN;go_enter func46,ntmps46;go_upto_region 2 with(at_make;refine j8 _ rfl (.tmp 7) (.tmp 7) 46 rfl w.1.size 96 i1 _ 5 underlying46 HI.a HI.b HI.c .i64 .i64 N N N rfl rfl rfl rfl (by rw[HI.C];omega) (by unfold maxLen;omega) aF ?_;intro W2 Z4 TK;have HO:=hid<|A Z4 TK;clear Z4 TK)
 have Qk:J (W2.1[δ w.1]?=B' (k' (θ<|ti N) 96 (0,0))/\Below w.1.size w W2):=by
  have h1:=HO.a;rw[ik _ 5 rfl N]at h1;refine⟨?_,aQ.grown HO.A aF λq e=>by cases e⟩;rcases h1.2 with⟨e,_⟩|⟨g,cap,cur,e,h1,h2,h3,_,h5,h6⟩
  .simp at e
  simp at e;obtain⟨rfl,rfl⟩:=e;rw[h2];rw[cH<|by simp[h5]]at h6;have h7:cur.toList=ti N:=h6;rw[<-h7]
 clear HO;go_wp2;go_loopw[11] (λiv wr=>∃(i:Nat) (cl:List N5),i<=N/\iv=G i/\J (wr.1[δ w.1]?=B' (k' (θ<|dJ cl++ti (N-i)) 96 (0,0))/\cl.map N5.n=(ns.take i).map qQ/\(∀x∈cl,eG wr (δ w.1+1) x)/\Eh cl/\Below w.1.size w wr)) (λiv _=>N-(intOf iv).toNat)
 .exact⟨0,[],bj,rfl,Qk.a,rfl,λx hx=>by simp at hx,List.Pairwise.nil,Qk.A⟩
 obtain⟨i,cl,hi,rfl,HK⟩:=hrel;have hww:=blt HK.a;by_cases rW:i<N;rotate_left
 .have iz:¬(i:Int)<N:=I;obtain rfl:N=i:=I;go_wp2;refine aC (v:=i' (dO w.1.size) N N) (by simp[results46,go_sem]) rfl ⟨cl,B'<|O w.1.size 0,N,rfl,?_,?_,?_,HK.d,HK.D⟩
  .have:=HK.b;rwa[cH<|by rw[HN.o];exact aF]at this
  .have h1:=HK.a;have KZ:ζ cl=N:=by have:=dZ length HK.b;rw[b!,b!,gC,<-HN.o]at this;omega
   rw[kH]at h1;have e0:ti 0=[]:=rfl;rw[e0,gO]at h1;exact⟨by rw[gR,KZ],aK ⟨δ w.1,N,_,rfl,aF,h1,aF,by unfold maxLen;omega,by rw[kL,gR,KZ],by rw[cH<|by simp[gR,KZ]]⟩⟩
  intro y hy;have h0:=HK.c y hy;exact⟨a! h0.f I,a! h0.r I,a! h0.v I,h0.ap⟩
 have iz:(i:Int)<N:=I;obtain⟨x,hx⟩:=La (l:=ns) (i:=i) (by rw[<-HN.o];exact rW);obtain⟨b,o,fa,ra,va,fc,rc,vc,rfl,c0,c1,c2,c3,c4,c5⟩:=HH.a.below HK.D i x hx;have uR:=HH.A x<|aT hx;have HX:=hid<|A hx c5;have hfl:ζ x.facts*8<=140737488355328:=I;have HC:J (∀W,Below wr.1.size wr W->Cl 96 #[i' va (ζ x.vals) vc] W λe w'=>∃a c,e=p' (aO a (ζ x.vals) c)/\ρ w' W.1.size 73 6 (aO a (ζ x.vals) c) (ζ x.vals) (mL x.vals)/\Bl W w'):=λW hW=>Ae va vc x.vals W (c5.vals.below hW) uR.2;clear hx c5 uR;go_upto_region 5 with fail
 clear c0 c1 c2 c3 c4;refine gS (F:=Code.wp _ _ _ _) λV HV=>?_;have HVW:=hid HV.b;have Eb:=hid<|A HV.a<|A (aL HV.b HK.a) HV.B;clear HV;generalize TG:δ wr.1=nb at Eb|-;have hne:nb≠δ w.1:=I;refine wp_region_held_drew (S:=λW'=>W'.1[nb]?=B' _) au Eb.a λaM=>?_;refine tq 0 (dU w.1.size N) ?_;refine tq 1 (G i) ?_;refine tq 2 (vh nb) ?_;refine tr 3 (aO fa (ζ x.facts) fc) (λW' bN=>(M bN).1) ?_;refine tq 5 (o'<|B'<|O nb 2) ?_;refine tr 6 (j' x.aD) (λW' bN=>(M bN).1) ?_;refine tq 7 (o'<|B'<|O nb 4) ?_;refine tr 8 (aO va (ζ x.vals) vc) (λW' bN=>(M bN).1) ?_;refine r1 4 λK hK=>?_;refine adJ rfl (.const<|i' C' 0 0) (.tmp 19) rfl V.1.size (by simp[Act.eval]) fa fc x.facts (by simp[Act.eval,Act.put]) HX.A.acx ((HX.A.facts.below HVW.o).below<|aQ.drew) hfl aF ?_;intro Iy Ix Y1 Es W!;have H1:J (ρ Y1 V.1.size 3 1 (aO Iy (ζ x.facts) Ix) (ζ x.facts) (x.facts.map G)/\Bl V Y1):=⟨Es,aQ.drew.grown W! aF λq e=>by cases e⟩;clear Es W!;refine hK.out _ _ (aL H1.A Eb.a) λaM=>?_;clear hK K;refine pt ?_;refine r1 9 λK hK=>?_;go_simp;refine(HC.o _<|H HVW.o H1.A).mono ?_;rintro e Y ⟨Jh,Jg,rfl,ho2,TN⟩;have H2:J (ρ Y V.1.size 3 1 (aO Iy (ζ x.facts) Ix) (ζ x.facts) (x.facts.map G)/\ρ Y V.1.size 73 6 (aO Jh (ζ x.vals) Jg) (ζ x.vals) (mL x.vals)/\Bl V Y):=⟨aZ H1.a TN,a! ho2 H1.A.size,H H1.A TN⟩;clear ho2 TN H1;refine hK.out _ _ (aL H2.B Eb.a) λaM=>?_;clear hK K;refine pt ?_;refine tq 10 (l' #[i' Iy (ζ x.facts) Ix,i' C' 0 0,j' x.aD,G 0,i' Jh (ζ x.vals) Jg]) ?_;refine tq 11 (o'<|B'<|O w.1.size<|i*5) ?_;refine r1 12 λK hK=>?_;rw[aB au];have hbw:=aL H2.B Eb.b;have ht:Y.there w.1.size (i*5) 5:=λj hj=>by refine⟨?_,(M hbw).2 _⟩;rw[(M hbw).1,oQ (by have:=dZ length HK.b;rw[b!,b!,gC,<-HN.o]at this;rw[kL,bF,gR,Bz];omega)];rfl
 refine wp_store_mid 96 (.tmp 27) (.tmp 26) rfl w.1.size (i*5) #[i' Iy (ζ x.facts) Ix,i' C' 0 0,j' x.aD,G 0,i' Jh (ζ x.vals) Jg] rfl rfl ht au (by simp[Value.oneCell']) ?_;refine hK.out _ _ (scb (aL H2.B Eb.a) hne) λaM=>?_;clear hK K;refine pt ?_;refine wpAnyH_done au ?_ _;have Ql:J ((ψ Y w.1.size (i*5) [i' Iy (ζ x.facts) Ix,i' C' 0 0,j' x.aD,G 0,i' Jh (ζ x.vals) Jg]).1[δ w.1]?=B' (k' (θ<|dJ (cl++[(⟨Iy,Ix,C',0,Jh,Jg,qQ x⟩:N5)])++ti (N-(i+1))) 96 (0,0))/\(cl++[(⟨Iy,Ix,C',0,Jh,Jg,qQ x⟩:N5)]).map N5.n=(ns.take<|i+1).map qQ/\(∀y∈cl++[(⟨Iy,Ix,C',0,Jh,Jg,qQ x⟩:N5)],eG (ψ Y w.1.size (i*5) [i' Iy (ζ x.facts) Ix,i' C' 0 0,j' x.aD,G 0,i' Jh (ζ x.vals) Jg]) (δ w.1+1) y)/\Eh (cl++[(⟨Iy,Ix,C',0,Jh,Jg,qQ x⟩:N5)])/\Below w.1.size w (ψ Y w.1.size (i*5) [i' Iy (ζ x.facts) Ix,i' C' 0 0,j' x.aD,G 0,i' Jh (ζ x.vals) Jg])):=by
  have KZ:ζ cl=i:=by have:=dZ length HK.b;rw[b!,b!,gC,<-HN.o]at this;omega
  obtain⟨m,hm⟩:∃m,N-i=m+1:=⟨N-i-1,I⟩;have hm2:N-(i+1)=m:=I;have hbY:Below wr.1.size wr Y:=H HVW.o H2.B;have WW:eG Y V.1.size (⟨Iy,Ix,C',0,Jh,Jg,qQ x⟩:N5):=⟨H2.a,cb,by have:=H2.b;rw[FM]at this;simpa[N5.vv,qQ]using this,Classical.em _⟩;have afk:∀(k:Nat) (cur:Array A') (t:TypeId),Y.1[k]?=B' (c7 cur t)->t=3\/t=73->(ψ Y w.1.size (i*5) [i' Iy (ζ x.facts) Ix,i' C' 0 0,j' x.aD,G 0,i' Jh (ζ x.vals) Jg]).1[k]?=Y.1[k]?:=by intro k cur t hk ht2;refine jI _ _ _ _ _ ?_;rintro rfl;rw[hbw]at hk;simp at hk;rcases ht2 with e|e<;>rw[e]at hk<;>exact absurd hk.2 aj
  refine⟨?_,?_,?_,?_,dF aF _ _ _<|HK.D.trans<|hbY.mono<|rj hww⟩
  .rw[hm2];rw[hm,yw,<-ef]at hbw;have e2:dJ (cl++[(⟨Iy,Ix,C',0,Jh,Jg,qQ x⟩:N5)])=dJ cl++[i' Iy (ζ x.facts) Ix,i' C' 0 0,j' x.aD,G 0,i' Jh (ζ x.vals) Jg]:=by simp[dJ,eB,qQ]
   rw[e2];exact CM _ _ _ _ _ _ Y (i*5) (by rw[gR,KZ]) hbw rfl
  .rw[eW,HK.b,cX (bm.1 HX.a).1,(bm.1 HX.a).2,eW];rfl
  .intro y hy;rcases eE.1 hy with hy|hy
   .refine eG.ZZ ?_ afk;have h0:=HK.c y hy;exact⟨aZ h0.f hbY,aZ h0.r hbY,aZ h0.v hbY,h0.ap⟩
   rw[jg.1 hy];refine eG.ZZ ?_ afk;exact⟨a! WW.f<|J' Eb.B,a! WW.r<|J' Eb.B,a! WW.v<|J' Eb.B,WW.ap⟩
  unfold Eh;rw[Qo];refine⟨HK.d,Qn _ _,?_⟩;intro p hp q hq u hu v hv;rw[jg.1 hq]at hv;have h1:=(HK.c p hp).blks u hu;have h2:=WW.blks v hv;have:=Eb.B;omega
 clear aM ht hbw;generalize ψ Y w.1.size (i*5) [i' Iy (ζ x.facts) Ix,i' C' 0 0,j' x.aD,G 0,i' Jh (ζ x.vals) Jg]=Z at Ql|-;go_wp2;go_roundw
 .exact⟨i+1,_,rW,f',Ql.o⟩
 exact G'
def CkP(w:u')(s t:z')(e:Ending)(w':u'):Prop:=∃(cl:List N5) (na:x') (nc:Nat),e=p' (t' #[i' na (ζ cl) nc,G<|wh s t])/\cl.map N5.n=wO s t/\ρ w' w.1.size 96 5 (i' na (ζ cl) nc) (ζ cl) (dJ cl)/\(∀x∈cl,eG w' w.1.size x)/\Eh cl/\Bl w w'
def CkP.nil{w b:u'}{s t:z'}{a:Int}(h:wh s t=a/\wO s t=[])(c:Bl w b):CkP w s t (p'<|t' #[i' C' 0 0,G a]) b:=
 ⟨[],C',0,by rw[h.1];rfl,h.2.symm,cb,λx F=>(by cases F),List.Pairwise.nil,c⟩
def eG.mono{W:u'}{B f:Nat}{x:N5}(h:eG W B x)(a:f<=B):eG W f x:=⟨a! h.f a,a! h.r a,a! h.v a,h.ap⟩
def Wu{c:Ct}(o:jz c=O'):∀x∈c.nodes,ζ x.vals<=8:=by
 intro x F;have h:=uI o x F;unfold bA at h;split at h
 .unfold dV at h;simp only[bh,h!]at h;rw[h.1.1.2];simp
 split at h
 .unfold eN at h;simp only[bh,bq]at h;exact h.1.1.1.2
 unfold fX at h;simp only[bh,h!]at h;rw[h.2];simp
def Je(s t:z')(w:u')(a:Env w)(b:Cf w):Cl 20 #[m' s,m' t] w (CkP w s t):=by
 have X:=hid b;have c:=hid a;clear b a;go_enter func20,ntmps20;go_wp2_with fail;refine(O1 s w c.o).mono ?_;rintro e j ⟨a,C⟩;have r:=hid a;clear a;cases U:kW s with
 |inl b=>
  rw[U]at C;have Y:=hid<|Uw (t:=t) U;clear U;cases b
  .obtain rfl:=C;go_wp2;exact aC (v:=t' #[i' C' 0 0,G 1]) (by simp[results20,go_sem]) rfl (CkP.nil Y.o<|H r.o bf)
  obtain rfl:=C;go_wp2;exact aC (v:=t' #[i' C' 0 0,G 2]) (by simp[results20,go_sem]) rfl (CkP.nil Y.o<|H r.o bf)
 |inr q=>
  obtain⟨c,E⟩:=q;rw[U]at C;obtain⟨g,w,D,S,rfl,i,l,b,a,L⟩:=C;have d:=Wr U a l b L;have k:=Sx U a;obtain⟨P,hP⟩:=Ea<|nI c S<|ζ E;have f:ζ E=P.nv:=by rw[hP];rfl
  have h:ζ c=ζ P.nd:=by rw[hP];exact(b! _).symm
  rw[<-hP]at d k;have y:=hid<|A d k;have W:J ((dec t.1.1=C'->wh s t=5/\wO s t=[])/\∀c,dec t.1.1=B' c->wh s t=jF P c/\wO s t=if jF P c=0 then c.nodes.map qQ else[]):=⟨λQ=>Ux U Q,λc Q=>by rw[hP];exact aar U a Q⟩;rw[f,h];clear i l b a L d k hP f h U;go_upto_region 2 with fail
  refine gS (F:=Code.wp _ _ _ _) λq a=>?_;have d:=hid<|A (H r.o a.b)<|A a.a<|y.a.below a.b;generalize δ j.1=N at d|-;go_wp2_with fail;refine(FW t q).mono ?_;rintro e r ⟨a,o⟩;have j:=hid<|A o<|A (H d.a o)<|A (aL o d.b)<|d.B.below o;clear o;rcases a with⟨c,a,i,R,d,u,rfl,p,o,b⟩|⟨d,rfl⟩;rotate_left
  .have Y:=hid<|W.a d;clear d;go_wp2;exact aC (v:=t' #[i' C' 0 0,G 5]) (by simp[results20,go_sem]) rfl (CkP.nil Y.o<|H j.b bf)
  obtain⟨B,k⟩:=qk d;obtain⟨l,_⟩:=qj d;have h:ζ c.nodes=ζ a:=by rw[u];simp
  have a:b9 r i c.nodes:=by rw[u];exact kE (by rw[h]at p;exact p) λx F=>(o x F).own
  have f:∀x∈c.nodes,ζ x.facts<=100000/\ζ x.vals<=1000:=λx F=>⟨bD (k x F).2.1 aj,bD (Wu l x F) aj⟩;have K:=hid<|A a<|A (λx F=>(k x F).1)<|A l f;have Y:=hid<|W.A c d;clear d u p o b k l a h f;go_upto_region 5 with fail
  refine gS (F:=Code.wp _ _ _ _) λp h=>?_;have T:=hid<|A (H j.b h.b)<|A h.a<|A (aL h.b j.c)<|A (j.C.below h.b)<|K.a.below h.b;have a:=bD j.a.size h.b.size;generalize δ r.1=a at T|-;obtain⟨a,v⟩:=Ea<|jF P c;have d:J (Cl 45 #[i! g (ζ P.nd) w P.nv,l'<|kM c.aE c.grade i (ζ c.nodes) R] p<|Rb p<|G a):=by rw[v];exact PK g w R i D P c p T.d y.A T.D K.b K.c<|X.o.below T.a
  have f:J (wh s t=a/\wO s t=if a=0 then c.nodes.map qQ else[]):=by rw[v];exact Y.o
  clear v;simp only[i!]at d;have E:=M T.b;have h:=M T.c;by_cases D:a=0;rotate_left
  .have b:=I' D;have g:J (wh s t=a/\wO s t=[]):=⟨f.a,by rw[f.A,aA D]⟩;clear D;go_wp2_with (go_at_call 45;refine d.o.mono ?_;rintro e o ⟨rfl,b⟩;have z:=hid<|H T.a b;clear b E h);exact aC (v:=t' #[i' C' 0 0,G a]) (by simp[results20,go_sem]) rfl (CkP.nil g.o z.o)
  subst D;go_upto_region 10 with(go_at_call 45;refine d.o.mono ?_;rintro e o ⟨rfl,b⟩;have z:=hid<|A (H T.a b)<|A (aL b T.b)<|T.D.below b;clear b E h)
  have E:=M z.b;go_wp2_with (go_at_call 46;refine(OV i R c.nodes o z.B B K.C).mono ?_;rintro e a ⟨D,l,rc,rfl,b,i,d,y,a⟩;have B:=hid<|A b<|A i<|A d<|A y a;clear b i d y a E);have L:ζ c.nodes=ζ D:=by have:=dZ length B.a;simpa using this.symm
  refine aC (v:=t' #[i' l (ζ c.nodes) rc,G 0]) (by simp[results20,go_sem]) rfl ⟨D,l,rc,?_,?_,?_,?_,B.d,?_⟩
  .rw[f.a,L]
  .rw[B.a,f.A];simp
  .have:=B.b;rw[L]at this;exact a! this z.a.size
  .exact λx F=>(B.c x F).mono z.a.size
  exact H z.a B.D
section
variable {a:List PN} {S:List (bE×Nat)} {p:PN} {D:List RC} {c:RC} {s:z'} {E:List bE}
def FT{Q:Nat}(h:a[j]?=B' p):(nI a S Q).at j=p.n:=by rw[Pm.at,nI,getD,cg,h];rfl
def xT(h:AG D a)(T:D[j]?=B' c):∃p,a[j]?=B' p/\U3 c p:=by obtain⟨p,U⟩:=La (l:=a) (i:=j) (by rw[<-h.len];exact(bm.1 T).1);exact⟨p,U,h.each j c p T U⟩
def afK(h:AG D a)(S:List<|bE×Nat)(Q:Nat):DR D (nI a S Q).nx (nI a S Q):=by refine⟨by rw[h.len];exact(b! _).symm,rfl,λj c T=>?_⟩;obtain⟨p,U,a⟩:=xT h T;rw[FT U];exact a.n
def Nl(h:U3 c p):(mr c.n).isSome=(t! p.n).isSome/\∀d k,mr c.n=B' d->t! p.n=B' k->p.n.aG=1/\d=(c.n.a.word,c.n.sign,c.n.b.word,c.n.a.var,c.n.b.var)/\k=(jW p.n.a,p.n.op,jW p.n.b)/\fQ c.n.a p.n.a/\fQ c.n.b p.n.b:=by
 have Q:=h.n.does;have f:=h.n.ops;have U:=h.n.aG;have b:=h.n.a;have g:=h.n.b;by_cases a:p.n.aG=1;rotate_left
 .have V:((c.n.does.toList==[61])&&(c.n.ops==2))=P':=by rw[Q,f,dp];have:p.n.aG=0\/p.n.aG=2\/p.n.aG=3\/p.n.aG=4\/p.n.aG=5\/p.n.aG=6:=I;rcases this with e|e|e|e|e|e<;>rw[e]<;>decide
  rw[mr,t!,V,rm,aA aj,aA λq=>a q.1];exact⟨rfl,λd k q=>by cases q⟩
 have j:=b I;have b:=g I
 have T:∀{r:RO} {o:lU},fQ r o->decide (r.var<0)=!o.aS:=fun {r o} q=>by
  unfold fQ at q;cases e:o.aS with
  |true=>rw[e,aB rfl]at q;simp;omega
  |false=>rw[e,aA aj]at q;simp;omega
 have V:(c.n.does.toList==[61])=O':=by rw[Q,a,dp];decide
 have u:(c.n.ops==2)=O':=by rw[f,a];rfl
 rw[mr,t!,V,u,T j,T b,a];cases x:p.n.a.aS<;>cases y:p.n.b.aS<;>simp<;>exact⟨j,b⟩
def afJ(h:kW s=Pr.ok a E)(w:AG D a)(S:List<|bE×Nat)(Q:Nat):DX D (nI a S Q):=by
 have B:=adE h;refine⟨λj c T=>?_,λd k i r q F=>?_,λd k q=>?_⟩
 .obtain⟨p,U,h⟩:=xT w T;rw[FT U];exact(Nl h).1
 .obtain⟨j,c,T,Q,s⟩:=q;obtain⟨g,a,Y,P,a⟩:=F;obtain⟨p,U,h⟩:=xT w T;obtain⟨g,W,e⟩:=xT w Y;rw[FT U]at s;rw[FT W]at a;obtain⟨N,D,b,C,t⟩:=(Nl h).2 d k Q s;obtain⟨f,o,x,E,l⟩:=(Nl e).2 i r P a;obtain⟨u,a,V⟩:=h.wd N;obtain⟨a,R,u⟩:=e.wd f;have X:=NZ (B p<|aT U) (B g<|aT W) N f V u;rw[D,o,b,x,<-X];constructor
  .intro e;simp only[eR]at e;exact⟨e.1,e.2.1,e.2.2.1⟩
  intro e;have a:=X.1 e;simp only[eR,jW]at a
  have z:∀{r g:RO} {o f:lU},fQ r o->fQ g f->o.aS=f.aS->o.var=f.var->r.var=g.var:=fun {r g o f} x y i v=>by
   unfold fQ at x y;rw[<-i]at y;cases e:o.aS with
   |true=>rw[e,aB rfl]at x y;rw[x.1,y.1,v]
   |false=>rw[e,aA aj]at x y;rw[x.1,y.1]
  simp only[eR];exact⟨e.1,e.2.1,e.2.2,z C E a.1.1 a.1.2.1,z t l a.2.2.1 a.2.2.2.1⟩
 obtain⟨j,c,T,Q,s⟩:=q;obtain⟨p,U,h⟩:=xT w T;rw[FT U]at s;obtain⟨N,D,b,C,t⟩:=(Nl h).2 d k Q s;rw[D,b]
 have z:∀{r:RO} {o:lU},fQ r o->r.var=if (jW o).1 then(jW o).2.1 else -1:=fun {r o} x=>by
  unfold fQ at x;unfold jW;cases e:o.aS with
  |true=>rw[e,aB rfl]at x;simp[x.1]
  |false=>rw[e,aA aj]at x;simp[x.1]
 exact⟨z C,z t⟩
def Xz{w:u'}{N g b x B:Nat}{f:x'}{y:A'}{d:List A'}(h:kW s=Pr.ok a E)(o:ly 0 [] (a.map PN.bu)=B' S)
  (e:w.1[N]?=B' (k' #[i' (B'<|O g 0) (ζ a) b,i' f (ζ E) x,y] 107 (0,0))) (i:mX w g b D) (v:AG D a)
  (F:ρ w B 36 1 y (ζ d) d) (X:ζ d=ζ a) (k:∀(j:Nat) (c:A') (p:PN),d[j]?=B' c->a[j]?=B' p->ρ w B 3 1 c (ζ<|jb S p.nc j) ((jb S p.nc j).map G)):DP w N D (nI a S<|ζ E).nx (ζ E):=by
 obtain⟨_,D,_⟩:=ym h;obtain⟨u,q,rfl,_,_,z⟩:=O2 F I;refine⟨⟨g,b,f,x,u,q,?_,i,λj l f=>?_⟩,by rw[v.len];exact tm S a 0⟩
 .rw[v.len,<-X];rw[<-X]at e;exact e
 have i:(yx S 0 a)[j]?=B' l:=f;rw[wE,bW]at i;cases C:a[j]? with
 |none=>rw[C]at i;cases i
 |some p=>
  rw[C]at i;simp only[m?,fD]at i;have r:=(bm.1 C).1;obtain⟨c,L⟩:=La (l:=d) (i:=j) I;have b:=k j c p L C;obtain⟨a,B,rfl⟩:=aV b;refine⟨a,B,?_,?_⟩
  .rw[<-i,b!];exact z j _ L I
  rw[<-i,yE _ λt U=>(let ⟨k,a,_⟩:=(zl h o C).2 t U;⟨k,a⟩)];exact BM b
end
section
variable {c:Ct} {Q:Nat}
def afN(o:jz c=O')(U:c.aE<=4)(B:∀x∈c.nodes,dY x)(X:ζ c.nodes=Q):af1 c Q:=by obtain⟨a,k,f⟩:=By o;refine⟨⟨a.1,U⟩,X,B,λa x F=>?_,k⟩;have:=uI o x F;unfold bA dV eD at this;rw[aB U,aB a]at this;simp only[bh,bq,cF]at this;refine⟨this.2.1,λr a=>?_⟩;have:=this.2.2 r a;unfold rk at this;simp only[bh,bq]at this;exact this.1
def afM(o:jz c=O')(U:5<=c.aE)(B:∀x∈c.nodes,dY x)(R:c.nodes.all (An (Q:Int))=O')(K:Q<=8):af0 c Q:=by
 obtain⟨d,k,f⟩:=By o;have y:c.aE=5\/c.aE=6:=I
 have b:∀x∈c.nodes,(x.aD=O'->ζ x.vals=Q/\0<=x.rank/\x.rank<=100000)/\(x.aD=P'->x.vals=[]/\x.rank=0):=λx F=>by
  have C:=uI o x F;unfold bA at C;rw[aA I]at C;constructor
  .intro a;rw[aB a]at C;unfold eN rk at C;simp only[bh,bq]at C;rw[cF]at R;have e:=R x F;unfold An at e;simp[a]at e;exact⟨I,C.1.1.2.1,C.1.1.2.2⟩
  intro a;rw[aA<|by rw[a];decide]at C;unfold fX at C;simp only[bh,bq,h!]at C;exact⟨C.2,C.1.1.1.2⟩
 refine⟨y,λx F=>?_,λx F r=>?_,λx F=>?_,λx F a=>((b x F).1 a).1⟩
 .cases a:x.aD with
  |true=>have:=((b x F).1 a).1;omega
  |false=>rw[((b x F).2 a).1];simp
 .rcases y with U|U
  .obtain⟨n,g⟩:=xh F;have C:=nR (Z1 o U B R).env r n;have e:jL c r n=oO x r:=by rw[jL,Ct.at,getD,g];rfl
   rw[e]at C;rw[U];exact C
  have C:=Fp o U B R;rw[U];unfold oO;split
  .exact gl _ _
  rename_i c;intro E e;cases e;have a:x.aD=O':=by cases V:x.aD;(· exact absurd (aI V) c);rfl
  refine⟨by simp[C.len x F a],λv R=>?_⟩;obtain⟨u,c,rfl⟩:=cZ.1 R;obtain⟨d,k,f,w⟩:=C.vals x F u c;rw[eZ,aB d];exact⟨⟨f,w⟩,by rw[aA aj];exact⟨rfl,k⟩⟩
 cases a:x.aD with
 |true=>exact((b x F).1 a).2
 |false=>rw[((b x F).2 a).2];omega
def uY(P:Pm)(c:Ct):(v8 P c=P'->jF P c=6)/\(v8 P c=O'->jF P c=if c.aE<=4 then RI P c else vlN P c):=by refine⟨λh=>by rw[jF,aB h],λh=>?_⟩;rw[jF,aA<|by rw[h];decide];rfl
end
def CkD(w:u')(s t:z')(e:Ending)(w':u'):Prop:=∃(dl:List N5) (da:x') (dc:Nat),e=p' (t' #[i' da (ζ dl) dc,G<|wh s t])/\dl.map N5.n=wO s t/\ρ w' w.1.size 96 5 (aO da (ζ dl) dc) (ζ dl) (dJ dl)/\(∀x∈dl,iB w' w.1.size x)/\Bl w w'
def CkD.nil{w b:u'}{s t:z'}{a:Int}(h:wh s t=a/\wO s t=[])(c:Bl w b):CkD w s t (p'<|t' #[i' C' 0 0,G a]) b:=
 ⟨[],C',0,by rw[h.1];rfl,h.2.symm,cb,λx F=>(by cases F),c⟩
def Sz{v:List Nd}{k:Nat}{x:Nd}(h:v[k]?=B' x):(v.map qQ).take (k+1)=(v.map qQ).take k++[qQ x]:=by
 have a:(v.map qQ)[k]?=B' (qQ x):=by rw[cg,h];rfl
 rw[cX (bm.1 a).1,(bm.1 a).2]
def J4(s t:z')(w:u'):Cl 34 #[m' s,m' t] w (CkD w s t):=by
 go_enter func34,ntmps34;go_wp2_with fail;refine(JJ s w).mono ?_;rintro e W1 ⟨b,h1⟩;have Yf:=hid b;clear b;cases U:kW s with
 |inl b=>
  rw[U]at h1;have Y:=hid<|Uw (t:=t) U;clear U;cases b
  .obtain rfl:=h1;go_wp2_with fail;exact aC (v:=t' #[i' C' 0 0,G 1]) (by simp[results34,go_sem]) rfl (CkD.nil Y.o Yf.o)
  obtain rfl:=h1;go_wp2_with fail;exact aC (v:=t' #[i' C' 0 0,G 2]) (by simp[results34,go_sem]) rfl (CkD.nil Y.o Yf.o)
 |inr q=>
  obtain⟨pl,vs⟩:=q;rw[U]at h1;obtain⟨pb,g,cap,va,vc,xv,D,qV,ps,rfl,N,r,R,l,f,o,F,E,L⟩:=h1;have x:=Xz U o r l f.rel F E L;have B:=afK f.rel ps<|ζ vs;have C:=afJ U f.rel ps<|ζ vs;have u:=Sx U o;obtain⟨P,hP⟩:=Ea<|nI pl ps<|ζ vs;have z:P.nv=ζ vs:=by rw[hP];rfl
  rw[<-hP]at x B C u;rw[<-z]at x;have HP:=hid<|A x<|A B<|A C u;have W:J ((dec t.1.1=C'->wh s t=5/\wO s t=[])/\∀c,dec t.1.1=B' c->wh s t=jF P c/\wO s t=if jF P c=0 then c.nodes.map qQ else[]):=⟨λhd=>Ux U hd,λc hd=>by rw[hP];exact aar U o hd⟩;clear N r R l f o F E L x B C u hP z U;go_wp2_with fail;refine(Hh t W1).mono ?_;rintro e L ⟨h2,o⟩;have f:=hid<|A o<|H Yf.o o;clear o;rcases h2 with⟨c,dl0,la,lc,V,e2,rfl,E,o⟩|⟨V,rfl⟩;rotate_left
  .have Y:=hid<|W.a V;clear W V;go_wp2_with fail;exact aC (v:=t' #[i' C' 0 0,G 5]) (by simp[results34,go_sem]) rfl (CkD.nil Y.o<|H f.A bf)
  obtain⟨d1,d2⟩:=qk V;obtain⟨z,_⟩:=qj V;have r:b9 L la c.nodes:=by rw[e2];exact kE E o
  have HN:=hid (A r<|A (λx F=>(d2 x F).1)<|A z λx F=>(d2 x F).2);have Y:=hid<|W.A c V;clear V e2 E o d2 z r W;go_upto_region 5 with fail
  refine gS (F:=Code.wp _ _ _ _) λW3 z=>?_;have o:=hid<|A (H f.A z.b)<|A z.a<|A (HP.a.below<|H f.a z.b)<|HN.a.below z.b;clear z f;generalize δ L.1=L at o|-;obtain⟨er,E⟩:=Ea<|jF P c;obtain⟨fb,r⟩:=Ea<|v8 P c;obtain⟨B,C,u⟩:=HP.A;have N:J (Cl 61 #[o'<|B'<|O pb 0,l'<|kM c.aE c.grade la (ζ c.nodes) lc] W3<|Rb W3<|j' fb):=by rw[r];exact Ov pb D P.nx P la lc c W3 o.c B C u.ok o.C HN.b d1
  have X:J (fb=P'->er=6):=λq=>by rw[E];exact(uY P c).1<|r.symm.trans q
  have L:fb=O'->ζ c.nodes=ζ D:=λq=>by rw[r]at q;unfold v8 at q;rw[bh,bq]at q;rw[q.1,B.len]
  have R:J (fb=O'->c.aE<=4->∀W,Bl W3 W->Cl 62 #[o'<|B'<|O pb 0,l'<|kM c.aE c.grade la (ζ c.nodes) lc] W (Rb W<|G er)):=λq U W hW=>by have:=PB pb D P.nx P la lc c W (o.c.below hW) B C u.ok (o.C.below hW) (afN HN.c U HN.b<|L q)<|bD (B2 u.ok _) aj;rw[<-L q]at this;rw[E,(uY P c).2<|r.symm.trans q,aB U];exact this
  have T:J (fb=O'->¬c.aE<=4->∀W,Bl W3 W->Cl 63 #[o'<|B'<|O pb 0,l'<|kM c.aE c.grade la (ζ c.nodes) lc] W (Rb W<|G er)):=λq U W hW=>by have hv:=Ng (P:=P) HN.c I<|(L q).trans B.len;rw[<-r,q]at hv;have:=E9 pb D P.nx P la lc c W (o.c.below hW) B u.ok u.cs (o.C.below hW) (L q)<|afM HN.c I HN.b hv.symm u.ok.nv;rw[<-L q]at this;rw[E,(uY P c).2<|r.symm.trans q,aA U];exact this
  have f:J (wh s t=er/\wO s t=if er=0 then c.nodes.map qQ else[]):=by rw[E];exact Y.o
  clear E r B C u L Y;obtain⟨Y,r⟩:=Ea<|ζ c.nodes;rw[<-r]at N R T d1;rw[<-r]at o;have HM:=hid r;rw[<-r];clear r;have E:=M o.b;cases fb
  .obtain rfl:=X.o rfl;go_wp2_with (go_at_call 61;refine N.o.mono ?_;rintro e U ⟨rfl,L⟩;have B:=hid<|H o.a L;clear L E);exact aC (v:=t' #[i' C' 0 0,G 6]) (by simp[results34,go_sem]) rfl (CkD.nil ⟨f.a,by rw[f.A];rfl⟩ B.o)
  by_cases D:c.aE<=4
  all_goals
   first
   | (
     have r:=hid<|R.o rfl D
     go_upto_region 13 with(first|(go_at_call 62;refine(r.o _ B.C).mono ?_;rintro e C ⟨rfl,L⟩;have H5:=hid<|A (aL L B.b)<|A (H B.a L)<|B.c.below L;clear L E)|(go_at_call 61;refine N.o.mono ?_;rintro e U ⟨rfl,L⟩;have B:=hid<|A (H o.a L)<|A (aL L o.b)<|A (o.C.below L) L;clear L E;have E:=M B.b)))
   | (
     have r:=hid<|T.o rfl D
     go_upto_region 13 with(first|(go_at_call 63;refine(r.o _ B.C).mono ?_;rintro e C ⟨rfl,L⟩;have H5:=hid<|A (aL L B.b)<|A (H B.a L)<|B.c.below L;clear L E)|(go_at_call 61;refine N.o.mono ?_;rintro e U ⟨rfl,L⟩;have B:=hid<|A (H o.a L)<|A (aL L o.b)<|A (o.C.below L) L;clear L E;have E:=M B.b)))
  all_goals
   clear r R T N X D B o;by_cases h0:er=0;rotate_left
   .have D:=I' h0;have D:J (wh s t=er/\wO s t=[]):=⟨f.a,by rw[f.A,aA h0]⟩;clear f h0;go_wp2_with fail;exact aC (v:=t' #[i' C' 0 0,G er]) (by simp[results34,go_sem]) rfl (CkD.nil D.o H5.b)
   subst h0;have HLL:J (wO s t=c.nodes.map qQ):=by show _=_;rw[f.A,aB rfl]
   have HE0:=hid f.a;clear f HP;obtain⟨i0,hi,D,r,o⟩:=cQ yT;obtain⟨i1,f,Tz,s,hz5⟩:=cQ Gy;have HI:=hid<|A (A hi<|A D<|A r o)<|A f<|A Tz<|A s hz5;clear hi D r o f Tz s hz5;go_wp2_with fail;go_loopw[11,12] (λt s wr=>∃(k:List N5) (oa:x') (oc:Nat),ζ k<=Y/\s=G (ζ k:Nat)/\t=i' oa (ζ k) oc/\J (k.map N5.n=(c.nodes.map qQ).take (ζ k)/\ρ wr C.1.size 96 5 (aO oa (ζ k) oc) (ζ k) (dJ k)/\(∀x∈k,iB wr C.1.size x)/\Bl C wr)) (λ_ s _=>Y-(intOf s).toNat)
   case atStart=>exact⟨[],C',0,bj,rfl,rfl,rfl,cb,(λx F=>by cases F),aQ⟩
   rename u'=>X0
   obtain⟨k,oa,oc,hk,rfl,rfl,HK⟩:=hrel;have E:=M<|aL HK.C H5.a;by_cases L:ζ k<Y;rotate_left
   .have s:¬(ζ k:Int)<(Y:Int):=I;go_wp2_with fail;have e:ζ k=Y:=I;refine aC (v:=t' #[i' oa (ζ k) oc,G 0]) (by simp[results34,go_sem]) rfl ⟨k,oa,oc,by rw[HE0.o],?_,a! HK.b H5.b.size,λx F=>(HK.c x F).mono H5.b.size,H H5.b HK.C⟩;rw[HK.a,HLL.o,cH<|by simp[<-HM.o,e]]
   have s:(ζ k:Int)<(Y:Int):=I;obtain⟨x,F⟩:=La (l:=c.nodes) (i:=ζ k) (by rw[<-HM.o];exact L);obtain⟨b,o,fa,ra,va,fc,rc,vc,f,T,B,u,N,R,r⟩:=H5.B.below HK.C (ζ k) x F;subst f;have b:=HN.b x<|aT F;have f:=HN.C x<|aT F;have HX:=hid<|A F<|A r<|A b f;have hz5:=HK.C.size;clear F r b f;go_upto_region 20 with fail
   clear T B u N R E;refine gS (F:=Code.wp _ _ _ _) λs f=>?_;have y1:=M f.a;go_upto_region 21 with fail
   clear y1;refine gS (F:=Code.wp _ _ _ _) λT2 b=>?_;have r:=f.B;have X:J (Bl X0 T2/\T2.1[δ X0.1]?=B' _/\T2.1[δ s.1]?=B' _):=⟨H f.b b.b,aL b.b f.a,b.a⟩;have u:=b.B;clear f b;obtain⟨xb,f⟩:=Ea s.1.size;rw[<-f]at X r u;rw[<-f];clear f;have Qj:=hid<|A r u;have s:δ C.1<=δ T2.1:=I;have afp:δ X0.1≠xb:=I;have b:xb≠δ X0.1:=I;have t:δ X0.1<=xb:=I;clear r u;have y1:=M X.b;have z1:=M X.B;go_upto_region 22 with(at_builtin;refine aaE rfl _ _ rfl C.1.size rfl fa fc x.facts rfl HX.b.acx (HX.b.facts.below X.a) HX.c.Qg s ?_;clear y1 z1;intro E r U o6 f b;have z1:=M<|(f.block _ (blt X.B) ak).trans X.B;have s:=hid<|A o6<|A f b;clear o6 f b)
   have f:=Pd (o:=0) X.a X.B t s.b<|i' E (ζ x.facts) r;have b:(κ U (O xb 0)<|i' E (ζ x.facts) r).1[δ X0.1]?=B' _:=((Vn U xb 0<|i' E (ζ x.facts) r).block _ (by have:=s.b.size;have:=Qj.A;omega) afp).trans<|(s.b.block _ (blt X.b) ak).trans X.b;have t:xb<δ (κ U (O xb 0)<|i' E (ζ x.facts) r).1:=by have:=s.b.size;have:=(Vn U xb 0<|i' E (ζ x.facts) r).size;have:=Qj.A;omega
   generalize u:κ U (O xb 0) (i' E (ζ x.facts) r)=V6 at f b t;have B:J (Bl X0 V6/\d' V6 xb #[i' E (ζ x.facts) r,i' C' 0 0,j' x.aD,G 0,i' C' 0 0] 96/\V6.1[δ X0.1]?=B' _/\ρ V6 C.1.size 3 1 (i' E (ζ x.facts) r) (ζ x.facts) (x.facts.map G)/\(E=C'->r=0)):=⟨f.1,f.2.1,b,f.2.2.1 _ _ _ _ _ _ aj s.a,s.B⟩;clear u f s X z1 b;go_wp2_with fail;go_loopw[15] (λs b=>∃(j:Nat) (T:x') (R:Nat),j<=ζ x.vals/\s=G j/\J (b.1[xb]?=B' (k' #[i' E (ζ x.facts) r,i' C' 0 0,j' x.aD,G 0,i' T j R] 96 (0,0))/\ρ b V6.1.size 73 6 (i' T j R) j (mL<|x.vals.take j)/\Fr (λq=>q≠xb) V6 b)) (λs _=>ζ x.vals-(intOf s).toNat)
   case atStart=>exact⟨0,C',0,bj,rfl,B.b,cb,Fr.refl _ _⟩
   obtain⟨j,T,R,hj,rfl,N⟩:=hrel;have afj:=B.a.size;have IE:=hid<|B.a.trans<|N.B.below afj (λq hq=>by show q≠xb;have:=Qj.a;omega);have TG:=N.B.box B.c afp;by_cases hlj:j<ζ x.vals;rotate_left
   .have acn:¬(j:Int)<(ζ x.vals:Int):=I;obtain rfl:j=ζ x.vals:=I;have b:(x.vals.take<|ζ x.vals)=x.vals:=gg;have HJ2:J (ρ wr V6.1.size 73 6 (aO T (ζ x.vals) R) (ζ x.vals)<|mL x.vals):=by have:=N.b;rwa[b]at this
    clear b;have HXO:J (iB wr C.1.size ⟨E,r,C',0,T,R,qQ x⟩):=by
      refine⟨N.B.own B.d (λq e=>by have:=N.a;intro e2;subst e2;exact eh B.d B.b aj e),cb,?_,B.D,λ_=>rfl,λe=>?_⟩
      .have:=a! HJ2.o<|bD HK.C.size afj;rw[FM]at this;simpa[qQ]using this
      show R=0;have e2:T=C':=e;subst e2;rcases HJ2.A with⟨hv,_⟩|⟨g,b,Y,hv,_⟩
      .simp at hv;exact hv.2
      simp at hv
    have HOR:=hid<|aZ HK.b IE.o;have HBK:=hid<|A IE.o<|H HK.C IE.o;have z1:=M N.a;have y1:=M TG;have b:=IE.o.size;go_wp2_with (at_builtin;refine gu rfl _ _ 46 rfl C.1.size 96 i0 _ 5 88 underlying46 HI.a.1 HI.a.2.1 HI.a.2.2.1 HI.a.2.2.2 rfl aj (aO oa (ζ k) oc) (ζ k) (dJ k) rfl (HOR.o.alloc _) (O wr.1.size 0) 1 1 [i' E (ζ x.facts) r,i' C' 0 0,j' x.aD,G 0,i' T (ζ x.vals) R] rfl rfl (pB<|cv wr<|k' #[i' E (ζ x.facts) r,i' C' 0 0,j' x.aD,G 0,i' T (ζ x.vals) R] 96) (by intro u hu;simp only[dr,ke,jf]at hu;rcases hu with rfl|rfl|rfl|rfl|rfl<;>rfl) (by simp only[maxLen];omega) I H' ?_;intro v9 W9 o9 F _;obtain⟨a9,c9,rfl⟩:=aV o9;have H9:=hid<|A o9 F;clear o9 F z1 y1);have l:=eI<|HOR.o.alloc<|k' #[i' E (ζ x.facts) r,i' C' 0 0,j' x.aD,G 0,i' T (ζ x.vals) R] 96;have HRW:=hid l;clear l;go_roundw
    case rel=>
      refine⟨k++[⟨E,r,C',0,T,R,qQ x⟩],a9,c9,H',ak,ak,?_,?_,?_,?_⟩
      .rw[eW,HK.a,bF,fF,Sz HX.a];rfl
      .have:=H9.a;rw[bF,fF];simpa[dJ,eB,qQ]using this
      .intro y B;rcases eE.1 B with h|h
       .exact(((HK.c y h).below IE.o).below bf).kept H9.A HRW.o
       simp only[jg]at h;subst h;exact(HXO.o.below bf).kept H9.A HRW.o
      exact(HBK.A.alloc HBK.A.size _).grown H9.A (by have:=HBK.A.size;simp;omega) λq hq=>(HOR.o.lt q hq).1
    exact G'
   have acn:(j:Int)<(ζ x.vals:Int):=I;obtain⟨v,hv⟩:=La hlj;obtain⟨b6,o6,f,d0,d1,d2,-,-,-⟩:=HX.b.vals.below IE.o j v hv;subst f;have HVV:=hid<|yj hv;have Pu:b6<δ X0.1:=by obtain⟨b,b,e7,f0,-⟩:=HX.b.vals j v hv;cases e7;exact lP f0
   have W:=HX.E;have y1:=M TG;go_upto_region 25 with fail
   clear y1 hv;refine st (λW'=>d' W' xb #[i' E (ζ x.facts) r,i' C' 0 0,j' x.aD,G 0,i' T j R] 96/\d' W' X0.1.size #[i' fa (ζ x.facts) fc,i' ra (ζ x.aW) rc,j' x.aD,G x.rank,i' (B'<|O b6 o6) (ζ x.vals) vc] 96/\χ W' (O b6<|o6+j*6)=B' (G v.aG)/\χ W' (O b6<|o6+j*6+1)=B' (G v.lo)/\χ W' (O b6<|o6+j*6+2)=B' (G v.hi)) 23 (hS:=⟨N.a,TG,d0,d1,d2⟩) (h:=λaM=>?_);refine tt 0 (o'<|B'<|O xb 4) (h:=?_);refine tt 1 (i' T j R) (y:=λW' bN=>by have k1:=(M bN.1).1;clear aM bN;go_simp) (h:=?_);refine tt 2 (o'<|B'<|O X0.1.size 4) (h:=?_);refine tt 3 (oY b6 o6 (ζ x.vals) vc) (y:=λW' bN=>by have k1:=(M bN.2.1).1;clear aM bN;go_simp) (h:=?_);refine tt 4 (G j) (h:=?_);refine tt 5 (o'<|B'<|O b6<|o6+j*6) (h:=?_);refine tt 6 (o'<|B'<|O b6<|o6+j*6) (h:=?_);refine tt 7 (G v.aG) (y:=λW' bN=>by have k1:=bN.2.2.1;clear aM bN;go_simp) (h:=?_);refine tt 8 (o'<|B'<|O X0.1.size 4) (h:=?_);refine tt 9 (oY b6 o6 (ζ x.vals) vc) (y:=λW' bN=>by have k1:=(M bN.2.1).1;clear aM bN;go_simp) (h:=?_);refine tt 10 (G j) (h:=?_);refine tt 11 (o'<|B'<|O b6<|o6+j*6) (h:=?_);refine tt 12 (o'<|B'<|O b6<|o6+j*6+1) (h:=?_);refine tt 13 (G v.lo) (y:=λW' bN=>by have k1:=bN.2.2.2.1;clear aM bN;go_simp) (h:=?_);refine tt 14 (o'<|B'<|O X0.1.size 4) (h:=?_);refine tt 15 (oY b6 o6 (ζ x.vals) vc) (y:=λW' bN=>by have k1:=(M bN.2.1).1;clear aM bN;go_simp) (h:=?_);refine tt 16 (G j) (h:=?_);refine tt 17 (o'<|B'<|O b6<|o6+j*6) (h:=?_);refine tt 18 (o'<|B'<|O b6<|o6+j*6+2) (h:=?_);refine tt 19 (G v.hi) (y:=λW' bN=>by have k1:=bN.2.2.2.2;clear aM bN;go_simp) (h:=?_);refine tt 20 (l' #[G v.aG,G v.lo,G v.hi,j' P',G 0,G 0]) (h:=?_);refine rt 21 (h:=λK hK=>?_);go_simp;refine hK.out _ _ (λ_=>⟨aL bf aM.1,aL bf aM.2.1,ax aM.2.2.1 bf,ax aM.2.2.2.1 bf,ax aM.2.2.2.2 bf⟩) ?_;clear hK K;refine pt ?_;refine Xl (F:=λV=>zP _ _ _ _ _ _ _ _ _ V) λT3 f=>?_;have X:=hid<|A (aL f.A N.a)<|A (aL f.A TG)<|A (ax d0 f.A)<|A (ax d1 f.A)<|ax d2 f.A;have HO3:=hid<|aZ N.b f.A;have Tz:=bD N.B.size f.A.size;have HFR:=hid (N.B.trans (Fr.aX (P:=λq=>q≠xb) f.A) λ_ _ h=>h);refine rt 22 (h:=λK hK=>?_);refine jq rfl (.tmp 78) (.tmp 98) 71 rfl V6.1.size 73 i1 (l' jn) 6 48 underlying71 HI.b HI.c HI.d HI.D rfl aj (i' T j R) j (mL<|x.vals.take j) rfl HO3.o (O wr.1.size 0) 1 1 (pvC v) rfl rfl (pB f.a) (by intro u hu;simp only[pvC,dr,ke,jf]at hu;rcases hu with rfl|rfl|rfl|rfl|rfl|rfl<;>rfl) (by simp only[maxLen];omega) I Tz ?_;intro v9 W9 o9 F _;obtain⟨a9,c9,rfl⟩:=aV o9;have r:some xb≠φ (i' T j R):=λe=>eh HO3.o X.a aj e.symm;have b:∀q,q<δ V6.1->some q≠φ (i' T j R):=λq hq e=>by have:=(HO3.o.lt q e.symm).1;omega
   have l:=(F.block xb (blt X.a) r).trans X.a;have s:=(F.block X0.1.size (blt X.b)<|b _ I).trans X.b;have g:b6<δ X0.1:=Pu;have g:∀o,χ W9 (O b6 o)=χ T3 (O b6 o):=λo=>cw<|F.block b6 I<|b _ I;refine hK.out _ _ (λ_=>⟨l,s,(g _).trans X.c,(g _).trans X.d,(g _).trans X.D⟩) ?_;clear hK K;have H9:=hid (A o9<|A l<|HFR.o.grown F λq hq _=>b q hq);clear o9 F r b l s g X HO3 HFR f aM;refine pt ?_;refine rt 23 (h:=λK hK=>?_);go_simp;refine hK.out _ _ (λh=>absurd h aj) ?_;clear hK K;refine pt ?_;refine rt 24 (h:=λK hK=>?_);obtain⟨k1,b⟩:=M H9.b;go_simp;refine hK.out _ _ (λh=>absurd h aj) ?_;clear hK K k1 b;refine pt ?_;refine dt (h:=?_);go_wp2_with fail;go_roundw
   case rel=>
    refine⟨j+1,a9,c9,hlj,f',?_,?_,?_⟩
    · rw[aq H9.b _];rfl
    · rw[HVV.o]
      exact H9.a.kept (bX W9 xb 4 _) (aK λe=>eh H9.a H9.b aj e)
    exact H9.B.set λq h=>h
   exact G'
def ace:lr 0:=⟨aj,aj⟩
def Ul{t:z'}{s:z'}:∀n∈wO s t,dY n/\ζ n.facts<=70000/\ζ n.aW<=70000/\ζ n.vals<=70000:=by
 intro n K;unfold wO at K;split at K;rotate_left
 .cases K
 split at K;rotate_left
 .cases K
 rename_i c Q;obtain⟨x,F,rfl⟩:=cZ.1 K;obtain⟨C,a,N,d⟩:=(qk Q).2 x F;refine⟨⟨C.facts,λf Y=>(by cases Y),ace,λv R=>?_,C.Qg,by simp[qQ],by simpa[qQ]using C.vsz⟩,a,by simp[qQ],by simpa[qQ]using d⟩;obtain⟨u,a,rfl⟩:=cZ.1 R;have:=C.vals u a;exact⟨this.aG,this.lo,this.hi,ace,ace⟩
def acH(s t:z'):ζ (wO s t)<=60:=by
 unfold wO;split
 .split
  .rename_i c Q;rw[b!];exact(qk Q).1
  simp
 simp
def pK(R B:Nat)(y l:x')(X rk:Nat)(es:List mD)(s t:z')(w:u')(o:Env w)(b:Cf w)(h:Eg w R B (aO y (ζ es) X) (i' l (ζ es) rk) es)(p:ζ es<=10):
  Cl 13 #[o'<|B'<|O R 0,m' s,m' t] w λe W=>e=p' (j' O')/\Below B w W/\∃j f g k c,ζ c=ζ es+1/\Eg W R B (i' j (ζ c) f) (aO g (ζ c) k) c:=by
 have HW:=hid h;have c:=hid<|A o b;clear h o b;obtain⟨i2,W,D,tF,b⟩:=cQ Tt;have j:=hid<|A W<|A D<|A tF b;clear W D tF b;have U:ζ es+1<=maxLen:=by unfold maxLen;omega
 have Y:(ζ es+1)*24<=140737488355328:=I;go_enter func13,ntmps13;go_wp2_with fail;refine(Je s t w c.a c.A).mono ?_;rintro e W1 ⟨D,T,r,rfl,g,r1,f,N,b⟩;have c:=hid<|A g<|A r1<|A f<|A N b;clear g r1 f N b;go_wp2_with fail;refine(J4 s t W1).mono ?_;rintro e g ⟨N,da,W,rfl,u,q,f,o⟩;have C:=u.trans c.a.symm;have z:∀x∈D,x.n∈wO s t:=λx F=>by rw[<-c.a];exact AK F
 have b:ζ D<=60:=by have:=acH s t;rwa[<-c.a,b!]at this
 have v:J (j7 g ⟨T,r,δ w.1,δ W1.1,D,da,W,N⟩/\Bl w g/\δ W1.1<=δ g.1):=by refine⟨⟨Lx.below ⟨c.b,c.c,c.d,λk hk=>(c.b.lt k hk).2,λx F k hk=>((c.c x F).blks k hk).2,λx F=>(Ul x.n<|z x F).2,b⟩ o,a! q bj,λx F=>(f x F).mono bj,λx F=>(Ul x.n<|z x F).1,C⟩,H c.D o,o.size⟩
 have L:ζ N=ζ D:=by have:=dZ length C;simpa using this
 have b:=qN T da r W (D.map N5.n) g v.a.wat v.a.rat (λn p=>by simp at p;obtain⟨x,F,rfl⟩:=p;exact v.a.i x F) (by simp only[b!];omega);simp only[b!]at b;have p:J (Cl 30 #[i' T (ζ D) r,i' da (ζ N) W] g λe x=>e=p' (j' O')/\Below g.1.size g x):=by rw[L];exact b
 have tF:=c.D.size;clear b C z u q f o L;go_wp2_with fail;refine bK p.o ?_;rintro e o ⟨rfl,x⟩;have b:=HW.o.bx.below<|H v.b x;have p:J (BX o R B (aO y (ζ es) X) (i' l (ζ es) rk) (ζ es) (ζ es) (es.map mD.wv) (es.map mD.rv)/\j7 o ⟨T,r,δ w.1,δ W1.1,D,da,W,N⟩/\Bl w o/\δ W1.1<=δ o.1):=⟨b,v.a.below x,H v.b x,bD v.B x.size⟩;clear x;have E:χ o (O R 7)=B' (aO y (ζ es) X):=by rw[(M b.box).1];rfl
 have g:=(M b.box).2;have c:=b.low;have L:=b.lt;clear b;go_upto_region 5 with(at_builtin;refine qD _ rfl _ _ 29 rfl B 46 i2 (i' C' 0 0) 1 24 underlying29 j.a j.b j.c j.C rfl aj (aO y (ζ es) X) (ζ es) (es.map mD.wv) rfl (aZ p.a.rw bf) (O o.1.size 0) 1 1 [i' T (ζ D) r] rfl rfl (pB<|cv o _) (by intro u v;simp at v;subst v;rfl) U Y H' ?_;intro v4 f b q _ x;obtain⟨z,F,rfl⟩:=aV b;clear E g;obtain⟨E,g⟩:=p.a.afS bf q;have L:=hid<|p.a.ae0 bf q b x;clear b q x)
 obtain⟨C,c⟩:=Ea<|κ f (O R 7)<|i' z (ζ es+1) F;have f:J (BX C R B (i' z (ζ es+1) F) (i' l (ζ es) rk) (ζ es+1) (ζ es) (es.map mD.wv++[i' T (ζ D) r]) (es.map mD.rv)/\Fr (λk=>k≠R/\some k≠φ (i' y (ζ es) X)) o C):=by rw[c];exact L.o
 rw[<-c];clear c E g;have E:χ C (O R 8)=B' (i' l (ζ es) rk):=by rw[(M f.a.box).1];rfl
 have g:=(M f.a.box).2;have c:=f.a.lt;go_upto_region 6 with(at_builtin;refine qD _ rfl _ _ 29 rfl B 46 i2 (i' C' 0 0) 1 24 underlying29 j.a j.b j.c j.C rfl aj (i' l (ζ es) rk) (ζ es) (es.map mD.rv) rfl (aZ f.a.rr bf) (O C.1.size 0) 1 1 [i' da (ζ N) W] rfl rfl (pB<|cv C _) (by intro u v;simp at v;subst v;rfl) U Y H' ?_;intro v4 c b q _ x;obtain⟨U,o,rfl⟩:=aV b;clear E g;obtain⟨E,g⟩:=f.a.afT bf q;have j:=hid<|f.a.ae1 bf q b x;clear b q x)
 obtain⟨Y,b⟩:=Ea<|κ c (O R 8)<|i' U (ζ es+1) o;have c:J (BX Y R B (i' z (ζ es+1) F) (i' U (ζ es+1) o) (ζ es+1) (ζ es+1) (es.map mD.wv++[i' T (ζ D) r]) (es.map mD.rv++[i' da (ζ N) W])/\Fr (λk=>k≠R/\some k≠φ (i' l (ζ es) rk)) C Y):=by rw[b];exact j.o
 rw[<-b];clear b E g;have b:(wh s t==wh s t)=O':=ak;go_wp2_with (go_at_call 26;refine bK (Ww (wh s t) _) ?_;rintro e b ⟨rfl,rfl⟩);go_ret;have g:=(f.A.mono (Q:=λk=>k≠R/\some k≠φ (i' y (ζ es) X)/\some k≠φ (i' l (ζ es) rk)) λ_ _ h=>⟨h.1,h.2.1⟩).trans c.A λ_ _ h=>⟨h.1,h.2.2⟩;have j:=p.c;have b:=HW.o.base;have l:=f.A.below (B:=B) (bD b j.size) λk hk=>⟨I,λe=>J'<|(p.a.rw.lt _ e.symm).1⟩;have X:=c.A.below (B:=B) (bD (bD b j.size) f.A.size) λk hk=>⟨I,λe=>J'<|(f.a.rr.lt _ e.symm).1⟩;have R:=p.C;have e:=g.size;refine⟨rfl,((j.mono b).trans l).trans X,z,F,U,o,es++[⟨T,r,δ w.1,δ W1.1,D,da,W,N⟩],ak,?_⟩;rw[show(es++[(⟨T,r,δ w.1,δ W1.1,D,da,W,N⟩:mD)]).length=ζ es+1 by simp];refine Eg.push c.a (λL r=>?_) HW.o.ord (λL r=>(HW.o.top L r).2.2) λL r=>?_
 .refine j7.by ?_<|p.a.keep g;rcases eE.1 r with h|h
  .exact(HW.o.ok L h).below p.c
  simp only[jg]at h;subst h;exact p.b
 rcases eE.1 r with h|h
 .have C:=HW.o.top L h;have c:=j.size;exact⟨C.1,C.2.1,I⟩
 simp only[jg]at h;subst h;exact⟨b,tF,H'⟩
section
variable {w x W:u'} {B i:Nat} {o g E:A'} {U:List A'}
structure SIn(w wi:u')(bb B Z k n1 n4:Nat)(wn rn:A')(es:List mD)(l1 l4 l5:A')(s1 s4 s5:List A'):Prop where
  bk:BN wi bb B l1 l4 l5 wn rn s1 s4 s5
  rw:ρ wi B 46 1 wn (ζ es) (es.map mD.wv)
  ne:∀j,φ wn=B' j->some j≠φ l5/\j<Z
  tr:∀j e,k<=j->es[j]?=B' e->Lx wi e.lo e.hi e.na e.nc e.cl
  c1:∀v∈s1,∀b,φ v=B' b->(∀j e,k<=j->es[j]?=B' e->b<e.lo)\/Z<=b
  c4:∀v∈s4,∀b,φ v=B' b->(∀j e,k<=j->es[j]?=B' e->b<e.lo)\/Z<=b
  c5:∀v∈s5,∀b,φ v=B' b->(∀j e,k<=j->es[j]?=B' e->b<e.lo)\/Z<=b
  e1:ζ s1=4*n1
  e4:ζ s4=4*n4
  e5:ζ s5=4*k
  q1:n1<=120*k
  q4:n4<=60*k
  below:Below B w wi
  z:Z<=δ wi.1
def SIn.start{c:Nat}{a:List mD}(h:Eg w c B o g a)(b:Bl w x):SIn w x c B w.1.size 0 0 0 o g a (i' C' 0 0) (i' C' 0 0) (i' C' 0 0) [] [] []:=by have a:=h.below b;refine⟨⟨a.bx.box,cb,cb,cb,(λi v R=>by simp at R),(λi v R=>by simp at R),(λi v R=>by simp at R),a.base⟩,a.bx.rw,λj f=>⟨by simp[Value.ownBlock],(h.bx.rw.lt j f).2⟩,λj e _ l=>(a.ok e<|aT l).s,(λv R=>by cases R),(λv R=>by cases R),(λv R=>by cases R),rfl,rfl,rfl,I,I,b.mono h.base,b.size⟩
def SD{c:List mD}(h:c.Pairwise λa b=>a.hi<=b.lo){x y:mD}(S:c[i]?=B' x)(f:c[j]?=B' y)(t:i<j):x.hi<=y.lo:=by obtain⟨C,rfl⟩:=bm.1 S;obtain⟨a,rfl⟩:=bm.1 f;exact Qp.1 h i j C a t
def SIn.next{f k s V:Nat}{r:List mD}{b a:A'}{P K:List A'}{e:mD}(h:SIn w x j B f k s V o g r b a E U P K)(F:r.Pairwise λa b=>a.hi<=b.lo)(l:r[k]?=B' e)(X:ζ e.cl<=60)(hP:aay x W j B e.lo e.hi f (s+2*ζ e.cl) (V+ζ e.cl) (k+1) E o g):
  ∃(p:x') (q:Nat) (d:x') (i:Nat) (z:x') (D:Nat) (Q c u:List A'),SIn w W j B f (k+1) (s+2*ζ e.cl) (V+ζ e.cl) o g r (i' p (ζ Q) q) (aO d (ζ c) i) (i' z (ζ u) D) Q c u:=by
 obtain⟨p,q,d,i,z,D,Q,c,u,N,C,t,v,w,E,S,a,s,y⟩:=hP.how;have o:∀b,b<e.hi\/f<=b->(∀j L,k+1<=j->r[j]?=B' L->b<L.lo)\/f<=b:=by
  intro b g;rcases g with g|g
  .left;intro j L f r;have:=SD F l r I;omega
  exact aK g
 have k:=h.z;have k:=a.below.size;refine⟨p,q,d,i,z,D,Q,c,u,v,dP h.rw λj Y f T=>s j Y T (h.ne j f).1,?_,?_,λv R b g=>o b<|w v R b g,λv R b g=>o b<|E v R b g,λv R b g=>o b<|S v R b g,N,C,t,J' h.q1,J' h.q4,h.below.trans a.below,I⟩;rotate_left
 .intro j L f r;have c:=SD F l r I;refine(h.tr j L I r).by λb Y t l X T U=>a.keep b Y t T ?_ ?_ ?_ ?_<|aK I;all_goals rcases U with e|e|e<;>(rw[e];decide)
 intro j f;refine⟨?_,(h.ne j f).2⟩;rcases y with u|⟨q,u,a⟩
 .rw[u];exact(h.ne j f).1
 rw[u];intro a;cases a;have:=(h.ne _ f).2;omega
def BN.clear{b:Nat}{f c rt:A'}{e l:List A'}(h:BN W b B g f E c rt U e l):BN (κ (κ (κ (κ W (O b 5)<|i' C' 0 0) (O b 6)<|i' C' 0 0) (O b 7)<|i' C' 0 0) (O b 8)<|i' C' 0 0) b B g f E (i' C' 0 0) (i' C' 0 0) U e l:=by
 have c:∀k,k≠b->(κ (κ (κ (κ W (O b 5)<|i' C' 0 0) (O b 6)<|i' C' 0 0) (O b 7)<|i' C' 0 0) (O b 8)<|i' C' 0 0).1[k]?=W.1[k]?:=λk c=>
  (aJ c).trans ((aJ c).trans<|(aJ c).trans<|aJ c)
 have z:∀(k:Nat) (Y:Array A') (t:TypeId),W.1[k]?=B' (c7 Y t)->t≠32->k≠b:=by intro k Y t T U e;subst e;rw[h.box]at T;simp at T;exact U T.2.symm
 refine⟨?_,dP h.r1 λk Y _ T=>c k<|z k Y _ T aj,dP h.r4 λk Y _ T=>c k<|z k Y _ T aj,dP h.r5 λk Y _ T=>c k<|z k Y _ T aj,λi v R=>(h.m1 i v R).of_block λk b=>?_,λi v R=>(h.m4 i v R).of_block λk b=>?_,λi v R=>(h.m5 i v R).of_block λk b=>?_,by have:=h.base;simp[World.setCell];omega⟩
 .rw[lT<|lT<|lT<|lT h.box];rfl
 .obtain⟨Y,T⟩:=(h.m1 i v R).ty k b;exact c k<|z k Y _ T aj
 .obtain⟨Y,T⟩:=(h.m4 i v R).ty k b;exact c k<|z k Y _ T aj
 obtain⟨Y,T⟩:=(h.m5 i v R).ty k b;exact c k<|z k Y _ T aj
def CS{e n a:Nat}{q:x'}{b:List mD}{f:mD->A'}(h:ρ W B e 1 (i' q n a) (ζ b)<|b.map f){x:mD}(F:b[i]?=B' x):∃g,q=B' (O g 0)/\χ W (O g i)=B' (f x):=by
 have s:ρ W B e 1 (i' q n a) (ζ<|b.map f) (b.map f):=by rw[b!];exact h
 exact row_one s (i:=i) (by simp[F])
def Ju(bb B:Nat)(y ra:x')(wk rk:Nat)(X:List mD)(w:u')(j:Eg w bb B (aO y (ζ X) wk) (i' ra (ζ X) rk) X)(f:ζ X<=3):
  Cl 11 (di bb) w λe W=>e=p' (j' O')/\Below B w W/\∃(T:x') (qd:Nat) (q:x') (Tc:Nat) (h:x') (D:Nat) (U P K:List A'),BN W bb B (aO T (ζ U) qd) (i' q (ζ P) Tc) (aO h (ζ K) D) (i' C' 0 0) (i' C' 0 0) U P K/\ζ U<=50000/\ζ P<=50000/\ζ K<=50000:=by
 have HW:=hid j;clear j;go_enter func11,ntmps11;go_wp2;go_loopw[3,4] (λt i R=>t=j' O'/\i=G 0/\J (Bl w R)) (λ_ _ _=>0)
 .exact⟨rfl,rfl,aQ⟩
 obtain⟨rfl,rfl,N⟩:=hrel;obtain⟨Q,y2⟩:=M (HW.o.below N.o).bx.box;simp only[dn]at Q;go_wp2;clear Q y2;go_loopw[3,6] (λt i wr=>t=j' O'/\∃k:Nat,k<=ζ X/\i=G k/\J (Bl w wr)) (λ_ i _=>ζ X-(intOf i).toNat)
 .exact⟨rfl,0,bj,rfl,N⟩
 obtain⟨rfl,k,hk,rfl,HK⟩:=hrel;have C:=HW.o.below HK.o;obtain⟨E,c⟩:=M C.bx.box;simp only[dn]at E;by_cases L:k<ζ X
 .have j:(k:Int)<(ζ X:Int):=I;obtain⟨e,l⟩:=La L;have o:=C.ok e<|aT l;obtain⟨g,rfl,d⟩:=CS C.bx.rw l;obtain⟨r,rfl,r0⟩:=CS C.bx.rr l;have g0':χ wr (O g k)=B' (aO e.na (ζ e.cl) e.nc):=d;have z:χ wr (O r k)=B' (aO e.da (ζ e.dl) e.dc):=r0;have p:J (∀W,Bl wr W->Cl 30 #[i' e.na (ζ e.cl) e.nc,i' e.da (ζ e.dl) e.dc] W (Rb W<|j' O')):=by intro W S;have a:=o.below S;have b:=qN e.na e.da e.nc e.dc (e.cl.map N5.n) W a.wat a.rat (λn f=>by simp at f;obtain⟨x,F,rfl⟩:=f;exact a.i x F) (by have f:=a.s.len;simp only[b!];omega);simp only[b!]at b;rw[a.len];exact b
  have Y:J (χ wr (O bb 7)=B' (iF g (ζ X) wk)/\χ wr (O bb 8)=B' (i' (B'<|O r 0) (ζ X) rk)/\χ wr (O g k)=B' (aO e.na (ζ e.cl) e.nc)/\χ wr (O r k)=B' (aO e.da (ζ e.dl) e.dc)):=⟨by rw[E];rfl,by rw[E];rfl,g0',z⟩;clear C o l d r0;go_wp2_with fail
  go_region_held3 (λv=>χ v (O bb 7)=B' (iF g (ζ X) wk)/\χ v (O bb 8)=B' (i' (B'<|O r 0) (ζ X) rk)/\χ v (O g k)=B' (aO e.na (ζ e.cl) e.nc)/\χ v (O r k)=B' (aO e.da (ζ e.dl) e.dc)) (go_keep) ((go_at_call 30;refine D' (p.o wr.drew<|(sn wr.1.size wr).drew) λa v=>?_;have z:=(sn wr.1.size wr).drew.trans v;have a:=ax Y.a z;have a:=ax Y.b z;have a:=ax Y.c z;have F:=ax Y.C z;have a:=hid z;clear v z))
  go_wp2_with fail;exact⟨⟨rfl,k+1,I,rfl,HK.o.trans<|a.o.mono HK.o.size⟩,by simp only[intOf];omega⟩
 have j:¬(k:Int)<(ζ X:Int):=I;clear C;go_wp2;clear E c;go_loopw[8] (λi R=>i=G 0/\J (Bl w R)) (λ_ _=>0)
 .exact⟨rfl,HK⟩
 obtain⟨rfl,c⟩:=hrel;obtain⟨Q,y2⟩:=M (HW.o.below c.o).bx.box;simp only[dn]at Q;go_wp2;clear Q y2;go_loopw[9] (λi R=>∃k:Nat,k<=ζ X/\i=G k/\J (∃(s V:Nat) (T:x') (qd:Nat) (q:x') (Tc:Nat) (h:x') (D:Nat) (U P K:List A'),SIn w R bb B w.1.size k s V (aO y (ζ X) wk) (i' ra (ζ X) rk) X (aO T (ζ U) qd) (i' q (ζ P) Tc) (aO h (ζ K) D) U P K)) (λi _=>ζ X-(intOf i).toNat)
 .exact⟨0,bj,rfl,⟨0,0,C',0,C',0,C',0,[],[],[],SIn.start HW.o c.o⟩⟩
 obtain⟨k,hk,rfl,p⟩:=hrel;obtain⟨s,V,T,qd,q,Tc,h,D,U,P,K,u⟩:=p.o;obtain⟨Q,y2⟩:=M u.bk.box;simp only[dn]at Q;by_cases L:k<ζ X
 .have j:(k:Int)<(ζ X:Int):=I;obtain⟨e,l⟩:=La L;obtain⟨g,rfl,d⟩:=CS u.rw l;have g0':χ wr (O g k)=B' (aO e.na (ζ e.cl) e.nc):=d;have Q:=HW.o.top e<|aT l;have N:=u.q1;have c:=u.q4;have a:=u.tr k e aF l;have i:=O6 bb B e.lo e.hi w.1.size s V k e.na T q h e.nc qd Tc D e.cl (iF g (ζ X) wk) (i' ra (ζ X) rk) U P K wr u.bk a u.e1 u.e4 u.e5 (λv R b S=>Or.imp (λf=>f k e aF l) id<|u.c1 v R b S) (λv R b S=>Or.imp (λf=>f k e aF l) id<|u.c4 v R b S) (λv R b S=>Or.imp (λf=>f k e aF l) id<|u.c5 v R b S) HW.o.bx.low Q.1 Q.2.1 Q.2.2 u.z I I I;have Y:=hid<|A i<|A u<|A l a.len;clear i u l p d Q N c a;go_wp2_with (go_at_call 32;refine bK Y.a ?_;rintro e F ⟨rfl,hP⟩);have a:=Y.b.next HW.o.ord Y.c Y.C hP;exact⟨⟨k+1,I,rfl,⟨_,_,a⟩⟩,by simp only[intOf];omega⟩
 obtain rfl:k=ζ X:=I;have j:¬((ζ X:Int)<(ζ X:Int)):=I;have S:=hid u;clear u p;go_wp2;go_ret;refine⟨rfl,?_,T,qd,q,Tc,h,D,U,P,K,S.o.bk.clear,?_,?_,?_⟩
 .have X:=HW.o.bx.low;exact(((S.o.below.setCell X _).setCell X _).setCell X _).setCell X _
 .have:=S.o.e1;have:=S.o.q1;omega
 .have:=S.o.e4;have:=S.o.q4;omega
 have:=S.o.e5;omega
end
def Eg.start{w:u'}:Eg (w.alloc<|k' (dn (i' C' 0 0) (i' C' 0 0) (i' C' 0 0) (i' C' 0 0)<|i' C' 0 0) 32) w.1.size w.1.size (i' C' (ζ ([]:List mD)) 0) (i' C' (ζ ([]:List mD)) 0) []:=
 ⟨⟨bV,cb,cb,aI rfl,aF⟩,(λe l=>by cases l),List.Pairwise.nil,(λe l=>by cases l),ak⟩
def Lh(s t:z')(w:u')(a:Env w)(b:Cf w):
  Cl 5 #[m' s,m' t] w (Rb w<|j' O'):=by
 have d:=hid<|A a b;clear a b;go_enter func5,ntmps5;go_wp2_with fail;obtain⟨S,X⟩:=Ea<|w.alloc<|k' (dn (i' C' 0 0) (i' C' 0 0) (i' C' 0 0) (i' C' 0 0)<|i' C' 0 0) 32;have f:J (Eg S w.1.size w.1.size (i' C' (ζ ([]:List mD)) 0) (i' C' (ζ ([]:List mD)) 0) []/\Bl w S):=by rw[X];exact⟨Eg.start,bf⟩
 have o:w.alloc (k' #[i' C' 0 0,i' C' 0 0,i' C' 0 0,i' C' 0 0,i' C' 0 0,i' C' 0 0,i' C' 0 0,i' C' 0 0,i' C' 0 0] 32)=S:=X.symm;rw[o];clear X o;refine(pK w.1.size w.1.size C' C' 0 0 [] ⟨#[114,101,116,117,114,110]⟩ ⟨#[87,67,1,2,2,1,0]⟩ S (d.a.below f.A) (d.A.below f.A) f.a ak).mono ?_;rintro e h ⟨rfl,i,R,E,y,Q,g,b,C⟩;have a:ζ g=1:=I' b;have c:J (Eg h w.1.size w.1.size (aO R (ζ g) E) (aO y (ζ g) Q) g/\Bl w h/\ζ g=1):=⟨C,f.A.trans i,a⟩;clear i C b a;go_wp2_with fail;refine(pK w.1.size w.1.size R y E Q g s t h (d.a.below c.b) (d.A.below c.b) c.a<|J' c.B).mono ?_;rintro e F ⟨rfl,o,a,g,f,b,k,i,h⟩;have u:J (Eg F w.1.size w.1.size (aO a (ζ k) g) (i' f (ζ k) b) k/\Bl w F/\ζ k=2):=⟨h,c.b.trans o,by rw[i,c.B]⟩;clear o h i;go_wp2_with fail;refine(pK w.1.size w.1.size a f g b k s t F (d.a.below u.b) (d.A.below u.b) u.a<|J' u.B).mono ?_;rintro e o ⟨rfl,x,a,b,Y,L,v,r,N⟩;have z:J (Eg o w.1.size w.1.size (i' a (ζ v) b) (i' Y (ζ v) L) v/\Bl w o/\ζ v=3):=⟨N,u.b.trans x,by rw[r,u.B]⟩;clear x N r;go_wp2_with fail;refine(Ju w.1.size w.1.size a Y b L v o z.a<|J' z.B).mono ?_;rintro e d ⟨rfl,j,T,c,q,b,h,D,U,P,K,p,W,a,a⟩;have B:J (BN d w.1.size w.1.size (aO T (ζ U) c) (i' q (ζ P) b) (aO h (ζ K) D) (i' C' 0 0) (i' C' 0 0) U P K/\Bl w d):=⟨p,z.b.trans j⟩;clear j p;go_wp2_with fail;refine(Kr w.1.size w.1.size T q h c b D _ _ U P K d B.a I I I).mono ?_;rintro e C ⟨rfl,l⟩;have f:J (Bl w C):=H B.A l;clear l;go_wp2_with fail;go_ret;exact⟨rfl,f.o⟩
