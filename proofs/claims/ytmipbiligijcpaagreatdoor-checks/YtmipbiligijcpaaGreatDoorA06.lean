import Derived.Test.YtmipbiligijcpaaGreatDoorA04
namespace Go.Proofs.YtmipbiligijcpaaGreatDoor
set_option linter.all false
set_option maxHeartbeats 0
set_option maxRecDepth 99999
open Go.RowKit Go.Proofs Go.Maps Tryz List open List renaming length→ζ,toArray→θ open _root_.Array renaming size→δ open World renaming setCell→κ,cell?→χ,setCells→ψ open Value renaming slice→i',bool→j',agg→l',pointer→o',tuple→t' open Obj renaming cells→k' open Ending renaming returned→p' open Option renaming some→B',none→C' open Bool renaming true→O',false→P'
variable {p:Prop}{q:Nat}{w:u'}
section
variable {x:Int}
def Ti:Tryz.prog.cellsOf 225=2:=au
def sf:Tryz.prog.cellsOf 4=1:=au
def ee:Tryz.prog.cellsOf 2=1:=au
def we:Tryz.prog.keyTypeAt 5 225=O':=au
def S4(h:aP x=O'):(Lit.int .i64 x).wf=O':=by unfold aP at h;simp only[bh,bq]at h;simpa[Lit.wf,IntKind.min,IntKind.max,IntKind.signed,IntKind.bits]using h
def M4(a:Bool)(h:aP x=true):Tryz.prog.keyLits 5 225 [.bool a,.int .i64 x]=some [.bool a,.int .i64 x]:=by simp[Program.keyLits,underlying225,underlying4,underlying2,Ti,sf,ee,S4 h]
def Tg(a c:Bool)(x y:Int)(F:aP x=true)(B:aP y=true)(w:World):(binOp .eql 225 (.agg #[.bool a,G x]) (.agg #[.bool c,G y])).run Tryz.prog w=.ok (.bool (a==c&&x==y)) w:=by
 rw[run_eql_struct];obtain⟨r,b,S⟩:=IK (P:=Tryz.prog) 9995 5 225 we w 5 5 (.agg #[.bool a,G x]) (.agg #[.bool c,G y]) _ _ au au (M4 a F) (M4 c B);have:r=(a==c&&x==y):=by rw[cj,S];simp
 rw[<-this];simp only[Nat.reduceAdd]at b;rw[b];rfl
def KI(r:A')(c:Int)(w:u')(b:r=l' #[]):
  Cl 385 #[r,G c] w (Rb w (l' #[j' P',G c])):=by
 subst b;go_enter func385,ntmps385;go_wp2;refine aC (v:=l' #[j' P',G c]) (by simp[results385,go_sem]) rfl ⟨rfl,cG⟩
def KH(r:A')(w:u')(b:r=l' #[]):
  Cl 386 #[r] w (Rb w (l' qI)):=by
 subst b;go_enter func386,ntmps386;go_wp2;refine aC (v:=l' qI) (by simp[results386,go_sem]) rfl ⟨rfl,cG⟩
def Pg(r:A')(a b:Bool)(x y:Int)(w:u')(c:r=l' #[]):
  Cl 388 #[r,l' #[j' a,G x],l' #[j' b,G y]] w (Rb w (t' #[l' #[j' a,G x],j' O'])):=by
 subst c;go_enter func388,ntmps388;go_wp2;refine aC (v:=t' #[l' #[j' a,G x],j' O']) (by simp[results388,go_sem]) rfl ⟨rfl,iw⟩
def KK(r:A')(a b:Bool)(x y:Int)(w:u')(d:r=l' #[])(F:aP x=O')(B:aP y=O'):
  Cl 383 #[r,l' #[j' a,G x],l' #[j' b,G y]] w (Rb w (j' ((a==b&&x==y)||b))):=by
 subst d;have k:=λw=>Tg a b x y F B w;clear F B;obtain⟨q,c⟩:=Ea ((a==b&&x==y));rw[<-c];simp only[<-c]at k;clear c;go_enter func383,ntmps383;cases q
 ·go_wp2;go_ret;exact⟨ak,gB⟩
 go_wp2;go_ret;exact⟨ak,gB⟩
def Ph(r:A')(a b:Bool)(x y:Int)(w:u')(d:r=l' #[])(F:aP x=O')(B:aP y=O'):
  Cl 387 #[r,l' #[j' a,G x],l' #[j' b,G y]] w (Rb w (if (a==b&&x==y) then l' #[j' a,G x] else l' qI)):=by
 subst d;have k:=λw=>Tg a b x y F B w;clear F B;obtain⟨q,c⟩:=Ea ((a==b&&x==y));rw[<-c];simp only[<-c]at k;clear c;go_enter func387,ntmps387;cases q
 ·go_wp2;refine aC (v:=l' qI) (by simp[results387,go_sem]) rfl ⟨rfl,iw⟩
 go_wp2;refine aC (v:=l' #[j' a,G x]) (by simp[results387,go_sem]) rfl ⟨rfl,iw⟩
def kcR(op:Int)(a b:Bool)(x y:Int):A'×Bool:=if op=3/\b=P'/\y=0 then(l' u!,P') else if a||b then(l' qI,O') else(l' #[j' P',G (jT op x y)],vV op y)
def QJ(h:p:=by
 go_wp2
 refine aC (v:=t' #[l' qI,j' O']) (by simp[results384,go_sem]) rfl ⟨rfl,by first|exact iw|exact K.o _ _ _ _ _⟩):p:=h
def QI(h:p:=by
 go_wp2_with (go_at_call 172;refine bK (g.o _) ?_;rintro e t ⟨rfl,rfl⟩)
 refine aC (v:=t' #[l' #[j' P',G f],j' l]) (by simp[results384,go_sem]) rfl ⟨rfl,by first|exact iw|exact K.o _ _ _ _ _⟩):p:=h
def Yy(h:p:=by
 obtain rfl:R=(l' qI,O'):=by rw[P.o];rfl
 go_enter func384,ntmps384;rcases N with N|rfl
 ·exact QJ
 cases d:(i==3)
 ·exact QJ
 exact QJ):p:=h
def Dr(r:A')(i:Int)(a b:Bool)(x y:Int)(w:u')(d:r=l' #[])(F:aP x=O')(B:aP y=O'):
  Cl 384 #[r,G i,l' #[j' a,G x],l' #[j' b,G y]] w (Rb w (t' #[(kcR i a b x y).1,j' (kcR i a b x y).2])):=by
 subst d;have k:=λw=>Tg b P' y 0 B rfl w;clear F B;obtain⟨q,c⟩:=Ea ((b==P'&&y==0));have S:J (q=O'↔(b=P'/\y=0)):=by rw[c];exact⟨λh=>I' h,λh=>I' h⟩
 simp only[<-c]at k;clear c;have g:=hid (λW=>PV i x y W);obtain⟨f,j⟩:=Ea (jT i x y);obtain⟨l,c⟩:=Ea (vV i y);rw[<-j,<-c]at g;obtain⟨R,v⟩:=Ea (kcR i a b x y);rw[<-v];have k:J (R=if i=3/\q=O' then(l' u!,P') else if a||b then(l' qI,O') else(l' #[j' P',G f],l)):=by show _=_;rw[v,j,c];simp only[kcR,S.o]
 clear j c v;have K:=hid (λ(a b c d e:Obj)=>(r! w a b c d).alloc H' e);by_cases T:i=3/\q=O'
 ·obtain⟨rfl,rfl⟩:=T;obtain rfl:R=(l' u!,P'):=by rw[k.o];simp
  go_enter func384,ntmps384;go_wp2;refine aC (v:=t' #[l' u!,j' P']) (by simp[results384,go_sem]) rfl ⟨rfl,by first|exact iw|exact K.o _ _ _ _ _⟩
 have P:J (R=if a||b then(l' qI,O') else(l' #[j' P',G f],l)):=by show _=_;rw[k.o,aA T]
 have N:(i==3)=P'\/q=P':=by
  rcases Bool.eq_false_or_eq_true q with h|h
  ·left;simp;intro e;exact T ⟨e,h⟩
  right;exact h
 clear T;cases a;rotate_left
 ·exact Yy
 cases b
 ·obtain rfl:R=(l' #[j' P',G f],l):=by rw[P.o];rfl
  go_enter func384,ntmps384;rcases N with N|rfl
  ·exact QI
  cases d:(i==3)
  ·exact QI
  exact QI
 exact Yy
theorem QH(h:p:=by
 repeat(first|with_reducible exact aQ|with_reducible refine below_drewN ?_ _|with_reducible refine jh ?_|refine jM ?_ (by show _<=_;simp;try omega) _|refine lz ?_ (by first|(simp;done)|(simp;omega)) _)):p:=h
def Gs(r:A')(R:Int)(g a b:Bool)(x y:Int)(w:u')(d:r=l' #[]):
  Cl 382 #[r,G R,j' g,l' #[j' a,G x],l' #[j' b,G y]] w (Rb w (t' #[l' #[j' a,G x],l' #[j' b,G y],j' (a||b||(ru R x y==g))])):=by
 subst d;have d:=hid (λW=>Pn R x y W);obtain⟨h,V⟩:=Ea (ru R x y);rw[<-V]at d⊢;clear V;obtain⟨q,c⟩:=Ea ((a||b||(h==g)));rw[<-c];cases a;rotate_left
 ·have S:J (q=O'):=c;clear c;go_enter func382,ntmps382;go_upto_region 2 with fail
  go_region_law fail
  all_goals
   go_wp2;refine aC (v:=t' #[l' #[j' O',G x],l' #[j' b,G y],j' O']) (by simp[results382,go_sem]) rfl ⟨by rw[S.o],?_⟩;exact QH
 cases b;rotate_left
 ·have S:J (q=O'):=c;clear c;go_enter func382,ntmps382;go_upto_region 2 with fail
  go_region_law fail
  all_goals
   go_wp2;refine aC (v:=t' #[l' #[j' P',G x],l' #[j' O',G y],j' O']) (by simp[results382,go_sem]) rfl ⟨by rw[S.o],?_⟩;exact QH
 obtain⟨z,f⟩:=Ea ((h==g));have S:J (q=z):=by show _=_;rw[c,f];rfl
 clear c;have c:=hid f;clear f;go_enter func382,ntmps382;cases h<;>cases g
 all_goals
  go_upto_region 2 with(go_at_call 173;refine bK (d.o _) ?_;rintro e t ⟨rfl,rfl⟩)
  rw[c.o]at S
  go_region_law fail
  all_goals
   go_wp2
   first|refine aC (v:=t' #[l' #[j' P',G x],l' #[j' P',G y],j' O']) (by simp[results382,go_sem]) rfl ⟨by rw[S.o];rfl,?_⟩|refine aC (v:=t' #[l' #[j' P',G x],l' #[j' P',G y],j' P']) (by simp[results382,go_sem]) rfl ⟨by rw[S.o];rfl,?_⟩
   exact QH
end
section
variable {W:u'}
abbrev BB:=Int×Int
def eK(a:BB):A':=l' #[G a.1,G a.2]
abbrev BR:=BB×BB×Bool
def zU(r:BR):A':=t' #[eK r.1,eK r.2.1,j' r.2.2]
def jk(a b:BB):BR:=(a,b,decide (a.1<=a.2)&&decide (b.1<=b.2))
def iO(a b:BB):BR:=if b.2=-9223372036854775808\/a.1=9223372036854775807 then((0,0),(0,0),P') else jk (a.1,min a.2 (b.2-1)) (max b.1 (a.1+1),b.2)
def lR(a b:BB):BR:=jk (a.1,min a.2 b.2) (max b.1 a.1,b.2)
def oq(a b:BB):BB:=(max a.1 b.1,min a.2 b.2)
def kc(a b:BB):BR:=(oq a b,oq a b,decide ((oq a b).1<=(oq a b).2))
def fM(a b:BB):BR:=(a,b,!(a.1==b.1&&a.2==b.2)||!(a.1==a.2))
def N2(r:BR):BR:=(r.2.1,r.1,r.2.2)
def cM(ts:Int)(so:Bool)(a b:BB):BR:=
 if ts=0 then(if so then iO a b else N2 (lR b a))
 else if ts=1 then(if so then lR a b else N2 (iO b a))
 else if ts=2 then(if so then kc a b else fM a b)
 else(if so then fM a b else kc a b)
structure dT(a:BB):Prop where
  lo:aP a.1=O'
  hi:aP a.2=O'
def UX(w:u')(a b c d e:Obj):Bl w (((((w.alloc a).alloc b).alloc c).alloc d).alloc e):=(r! w a b c d).alloc H' _
def PU(r:A')(a b:BB)(w:u')(d:r=l' #[]):
  Cl 394 #[r,eK a,eK b] w (Rb w (eK (min a.1 b.1,max a.2 b.2))):=by
 subst d;simp only[eK];go_enter func394,ntmps394;go_wp2;refine aC (v:=eK (min a.1 b.1,max a.2 b.2)) (by simp[results394,go_sem,eK]) rfl ⟨rfl,iw⟩
def zF(w:u'):
  Cl 406 #[] w (Rb w (eK (-2^63,9223372036854775807))):=by
 go_enter func406,ntmps406;go_wp2;refine aC (v:=eK (-2^63,9223372036854775807)) (by simp[results406,go_sem,eK]) rfl ⟨rfl,bf⟩
def Lq(r:A')(c:Int)(w:u')(b:r=l' #[]):
  Cl 392 #[r,G c] w (Rb w (eK (c,c))):=by
 subst b;go_enter func392,ntmps392;go_wp2;refine aC (v:=eK (c,c)) (by simp[results392,go_sem,eK]) rfl ⟨rfl,cG⟩
def Lm(r:A')(w:u')(b:r=l' #[]):
  Cl 393 #[r] w (Rb w (eK (-9223372036854775808,9223372036854775807))):=by
 subst b;have T:=hid zF;simp only[eK]at T;go_enter func393,ntmps393;go_wp2_with (go_at_call 406;refine(T.o _).mono ?_;rintro e t ⟨rfl,a⟩;have E:=M (aL a fC.2);have U:=hid a;clear a);refine aC (v:=eK (-9223372036854775808,9223372036854775807)) (by simp[results,results393,go_sem,eK,(M (aq (o:=0) (aL U.o (bL w _ _).2) (G (-9223372036854775808)))).1,(M (aq (o:=1) (aq (o:=0) (aL U.o (bL w _ _).2) (G (-9223372036854775808))) (G 9223372036854775807))).1]) rfl ⟨rfl,?_⟩;exact((H cG U.o).setCell (by show _<=δ w.1+1;omega) _).setCell (by show _<=δ w.1+1;omega) _
def Lr(r:A')(a b:BB)(w:u')(d:r=l' #[]):
  Cl 390 #[r,eK a,eK b] w (Rb w (j' (decide (b.1<=a.1)&&decide (a.2<=b.2)))):=by
 subst d;simp only[eK];by_cases h:b.1<=a.1
 ·go_enter func390,ntmps390;go_wp2;go_ret;exact⟨by simp[h],gB⟩
 have D:decide (b.1<=a.1)=P':=by simp;omega
 rw[D,rm];go_enter func390,ntmps390;go_wp2;go_ret;exact⟨rfl,gB⟩
def Yx(h:p:=by
 repeat(first|with_reducible exact aQ|with_reducible refine below_drewN ?_ _|with_reducible refine jh ?_|refine jM ?_ (by show _<=_;simp;try omega) _|refine lz ?_ (by first|(simp;done)|(simp;omega)) _)):p:=h
def Cb(r:A')(a b:BB)(w:u')(d:r=l' #[]):
  Cl 395 #[r,eK a,eK b] w λe c=>e=p' (t' #[eK (oq a b),j' (decide ((oq a b).1<=(oq a b).2))])/\Bl w c:=by
 subst d;simp only[eK,oq];go_enter func395,ntmps395;obtain⟨m,d⟩:=Ea (max a.1 b.1);obtain⟨n,K⟩:=Ea (min a.2 b.2);go_upto_region 2 with fail
 rw[<-d,<-K];have r:=hid (A d K);clear d K
 go_region_law fail
 all_goals
  go_wp2;refine aC (v:=t' #[eK (m,n),j' (decide (m<=n))]) (by simp[results395,go_sem,eK]) rfl ⟨by rw[r.a,r.A];rfl,?_⟩;exact Yx
def gk(h:p:=by
 first|(have _:=kg)|(simp only[eK,zU,jk])
 obtain⟨N,g⟩:=a;obtain⟨l,o⟩:=b
 first|(have _:=kg;(have k:=λw=>sv N l g o ha.lo hb.lo ha.hi hb.hi w);clear ha hb;simp only[eK,zU,fM];obtain⟨q,hq⟩:=Ea (!(N==l&&g==o));simp only[<-hq]at k⊢;clear hq;cases q)|(by_cases h:N<=g)
 ·first|(have _:=kg;go_enter func400,ntmps400)|(go_enter func407,ntmps407)
  go_upto_region 1 with fail
  go_region_held3 (λw'=>χ w' (O w.1.size 0)=B' (G N)/\χ w' (O w.1.size 1)=B' (G g)/\χ w' (O (δ w.1+1) 0)=B' (G l)/\χ w' (O (δ w.1+1) 1)=B' (G o)) (go_keep) (fail)
  all_goals
   go_wp2
   first|(have _:=kg;refine aC (v:=t' #[l' #[G N,G g],l' #[G l,G o],j' (!(N==g))]) (by simp[results400,go_sem,bne]) rfl ⟨ak,?_⟩)|(refine aC (v:=t' #[eK (N,g),eK (l,o),j' (decide (l<=o))]) (by simp[results407,go_sem,eK]) rfl ⟨by simp[h,eK],?_⟩)
   repeat(first|with_reducible exact aQ|with_reducible refine below_drewN ?_ _|with_reducible refine jh ?_|refine jM ?_ (by show _<=_;simp;try omega) _|refine lz ?_ (by first|(simp;done)|(simp;omega)) _)
 first|(have _:=kg;go_enter func400,ntmps400)|((have D:decide (N<=g)=P':=by simp;omega);clear h;go_enter func407,ntmps407)
 go_upto_region 1 with fail
 refine wp_region_held_drew (S:=λw'=>χ w' (O w.1.size 0)=B' (G N)/\χ w' (O w.1.size 1)=B' (G g)/\χ w' (O (δ w.1+1) 0)=B' (G l)/\χ w' (O (δ w.1+1) 1)=B' (G o)) au (by(try dsimp only);go_keep) (λf=>?_);refine wpAnyH_take (i:=0) (v:=l' #[G N,G g]) rfl au au au (λ_ _ _ h=>h) (aI ⟨by rfl,λw u=>by have j:=u;clear f;go_simp⟩) (h') ?_;refine pt ?_;refine wpAnyH_take (i:=1) (v:=l' #[G l,G o]) rfl au au au (λ_ _ _ h=>h) (aI ⟨by rfl,λw u=>by have j:=u;clear f;go_simp⟩) (h') ?_;refine pt ?_
 first|(have _:=kg;refine wpAnyH_take (i:=2) (v:=l' #[G N,G g]) rfl au au au (λ_ _ _ h=>h) (aI ⟨by rfl,λw u=>by have j:=u;clear f;go_simp⟩) (h') ?_)|(refine wpAnyH_take (i:=2) (v:=o' (dO w.1.size)) rfl au au au (λ_ _ _ h=>h) (aI ⟨by rfl,λw u=>by have j:=u;clear f;go_simp⟩) (h') ?_)
 refine pt ?_
 first|(have _:=kg;refine wpAnyH_take (i:=3) (v:=l' #[G l,G o]) rfl au au au (λ_ _ _ h=>h) (aI ⟨by rfl,λw u=>by have j:=u;clear f;go_simp⟩) (h') ?_)|(refine wpAnyH_take (i:=3) (v:=G N) rfl au au au (λ_ _ _ h=>h) (aI ⟨by rfl,λw u=>by have j:=u;clear f;go_simp⟩) (h') ?_)
 refine pt ?_
 first|(have _:=kg;refine wpAnyH_take (i:=4) (v:=j' O') rfl au au au (λ_ _ _ h=>h) (aI ⟨by rfl,λw u=>by have j:=u;clear f;go_simp⟩) (h') ?_)|(refine wpAnyH_take (i:=4) (v:=o' (some (O w.1.size 1))) rfl au au au (λ_ _ _ h=>h) (aI ⟨by rfl,λw u=>by have j:=u;clear f;go_simp⟩) (h') ?_)
 refine pt ?_
 first|(have _:=kg;refine wpAnyH_take (i:=5) (v:=j' O') rfl au au au (λ_ _ _ h=>h) (aI ⟨by rfl,λw u=>by have j:=u;clear f;go_simp⟩) (h') ?_)|(refine wpAnyH_take (i:=5) (v:=G g) rfl au au au (λ_ _ _ h=>h) (aI ⟨by rfl,λw u=>by have j:=u;clear f;go_simp⟩) (h') ?_)
 refine pt ?_
 first|(have _:=kg;refine wpAnyH_take (i:=6) (v:=undef) rfl au au au (λ_ _ _ h=>h) (aK ⟨au,rfl⟩) (h') ?_)|(refine wpAnyH_take (i:=6) (v:=j' false) rfl au au au (λ_ _ _ h=>h) (aI ⟨by rfl,λw u=>by have j:=u;clear f;go_simp⟩) (h') ?_)
 refine pt ?_
 first|(have _:=kg;refine wpAnyH_take (i:=7) (v:=undef) rfl au au au (λ_ _ _ h=>h) (aK ⟨au,rfl⟩) (h') ?_)|(refine wpAnyH_take (i:=7) (v:=j' false) rfl au au au (λ_ _ _ h=>h) (aI ⟨by rfl,λw u=>by have j:=u;clear f;go_simp⟩) (h') ?_)
 refine pt ?_;refine wpAnyH_take (i:=8) (v:=undef) rfl au au au (λ_ _ _ h=>h) (aK ⟨au,rfl⟩) (h') ?_;refine pt ?_;refine wpAnyH_take (i:=9) (v:=undef) rfl au au au (λ_ _ _ h=>h) (aK ⟨au,rfl⟩) (h') ?_;refine pt ?_;refine wpAnyH_take (i:=10) (v:=undef) rfl au au au (λ_ _ _ h=>h) (aK ⟨au,rfl⟩) (h') ?_;refine pt ?_
 first|(have _:=kg;refine wpAnyH_take (i:=11) (v:=j' O') rfl au au au (λ_ _ _ h=>h) (aI ⟨by rfl,λw u=>by have j:=u;clear f;go_simp⟩) (h') ?_)|(refine wpAnyH_take (i:=11) (v:=undef) rfl au au au (λ_ _ _ h=>h) (aK ⟨au,rfl⟩) (h') ?_)
 refine pt ?_
 first|(have _:=kg;refine r1 12 λK k=>?_)|(refine wpAnyH_take (i:=12) (v:=undef) rfl au au au (λ_ _ _ h=>h) (aK ⟨au,rfl⟩) (h') ?_;refine pt ?_;refine wpAnyH_take (i:=13) (v:=j' P') rfl au au au (λ_ _ _ h=>h) (aI ⟨by rfl,λw u=>by have j:=u;clear f;go_simp⟩) (h') ?_;refine pt ?_;refine r1 14 λK k=>?_)
 go_simp;refine k.out _ _ (by(try dsimp only);go_keep) (λf=>?_);clear k K;refine pt ?_
 first|(have _:=kg;refine r1 13 λK k=>?_)|(refine r1 15 λK k=>?_)
 go_simp;refine k.out _ _ (by(try dsimp only);go_keep) (λf=>?_);clear k K;refine pt ?_
 first|(have _:=kg;refine tz 14 (j' O') ?_ (y:=aI ⟨by rfl,λw u=>by go_simp⟩))|(refine tz 16 (j' false) ?_ (y:=aI ⟨by rfl,λw u=>by go_simp⟩))
 refine wpAnyH_done au ?_ _;go_wp2
 first|(have _:=kg;refine aC (v:=t' #[l' #[G N,G g],l' #[G l,G o],j' O']) (by simp[results400,go_sem,bne]) rfl ⟨ak,?_⟩)|(refine aC (v:=t' #[eK (N,g),eK (l,o),j' P']) (by simp[results407,go_sem,eK]) rfl ⟨by simp only[D,eK,rm],?_⟩)
 repeat(first|with_reducible exact aQ|with_reducible refine below_drewN ?_ _|with_reducible refine jh ?_|refine jM ?_ (by show _<=_;simp;try omega) _|refine lz ?_ (by first|(simp;done)|(simp;omega)) _)):p:=h
def Cd(a b:BB)(w:u'):
  Cl 407 #[eK a,eK b] w (Rb w (zU (jk a b))):=by
 exact gk
def Nw(a b:BB)(t:Bool)(w:u'):
  Cl 397 #[eK a,eK b,j' t] w (Rb w (zU (b,a,t))):=by
 simp only[eK,zU];go_enter func397,ntmps397;go_upto_region 1 with fail
 go_region_law fail
 all_goals
  go_wp2;refine aC (v:=zU (b,a,t)) (by simp[results397,go_sem,eK,zU]) rfl ⟨rfl,?_⟩;exact Yx
def al4(w:u')(a b c d:Obj):((((w.alloc a).alloc b).alloc c).alloc d).1[δ w.1+2]?=B' c/\((((w.alloc a).alloc b).alloc c).alloc d).1[δ w.1+3]?=B' d:=by have h:=bL ((w.alloc a).alloc b) c d;have z:δ ((w.alloc a).alloc b).1=δ w.1+2:=ak;rw[z]at h;exact h
def sd{a b c d e}:=@al4 a b c d e
def RJ{p t:Nat}{F E e f:A'}(U:W.1[p]?=B' (k' #[F,E] t (0,0)))(g:W.1[q]?=B' (k' #[e,f] t (0,0)))(z:p≠q)(a b c d:A'):
  (κ (κ (κ (κ W (O p 0) a) (O p 1) b) (O q 0) c) (O q 1) d).1[p]?=B' (k' #[a,b] t (0,0))/\(κ (κ (κ (κ W (O p 0) a) (O p 1) b) (O q 0) c) (O q 1) d).1[q]?=B' (k' #[c,d] t (0,0)):=by
 have C:(κ (κ W (O p 0) a) (O p 1) b).1[p]?=B' (k' #[a,b] t (0,0)):=by rw[aq (aq U _) _];rfl
 have c:(κ (κ W (O p 0) a) (O p 1) b).1[q]?=B' (k' #[e,f] t (0,0)):=((aJ z.symm).trans (aJ z.symm)).trans g;exact⟨((aJ z).trans (aJ z)).trans C,by rw[aq (aq c _) _];rfl⟩
def zE{w:u'}{p:Nat}{a b c d:A'}(h:Bl w W)(U:δ w.1<=p)(e:δ w.1<=q):Bl w (κ (κ (κ (κ W (O p 0) a) (O p 1) b) (O q 0) c) (O q 1) d):=(((h.setCell U _).setCell U _).setCell e _).setCell e _
def vK(a b:BB)(w:u'):
  Cl 398 #[eK a,eK b] w (Rb w (zU (lR a b))):=by
 have c:=hid (λW=>Cd (a.1,min a.2 b.2) (max b.1 a.1,b.2) W);have e:lR a b=jk (a.1,min a.2 b.2) (max b.1 a.1,b.2):=rfl;rw[e];obtain⟨⟨⟨r1,q⟩,⟨v,L⟩,f⟩,hr⟩:∃r,r=jk (a.1,min a.2 b.2) (max b.1 a.1,b.2):=⟨_,rfl⟩;rw[<-hr]at c⊢;clear e hr;simp only[eK,zU]at c⊢;have s:δ w.1+2≠δ w.1+3:=I;go_enter func398,ntmps398;go_wp2_with (go_at_call 407;refine E' (c.o _) λt U=>?_;have E:=M (aL U.o sd.1);have b:=M (aL U.o sd.2));have b:=RJ (aL U.o sd.1) (aL U.o sd.2) I (G r1) (G q) (G v) (G L);refine aC (v:=t' #[l' #[G r1,G q],l' #[G v,G L],j' f]) (by simp[results398,go_sem,(M b.1).1,(M b.2).1]) rfl ⟨rfl,zE (H iw U.o) I I⟩
def Yw(h:p:=by
 clear T;go_wp2_with fail
 refine aC (v:=.tuple #[.agg #[G 0,G 0],.agg #[G 0,G 0],.bool false]) (by simp[results,results396,go_sem]) rfl ⟨rfl,iw⟩):p:=h
def Cc(a b:BB)(w:u')(f:dT a)(g:dT b):
  Cl 396 #[eK a,eK b] w (Rb w (zU (iO a b))):=by
 have c:=f.lo;have X:=g.hi;clear f g;by_cases T:b.2=-9223372036854775808\/a.1=9223372036854775807
 ·have e:iO a b=((0,0),(0,0),false):=by unfold iO;rw[aB T]
  rw[e];simp only[eK,zU];obtain⟨N,p⟩:=a;obtain⟨k,o⟩:=b;simp only at T⊢;clear e c X;go_enter func396,ntmps396;cases C:(o==-9223372036854775808)
  ·have l:(N==9223372036854775807)=true:=by simp at C⊢;omega
   exact Yw
  exact Yw
 have j:=hid (λW=>Cd (a.1,min a.2 (b.2-1)) (max b.1 (a.1+1),b.2) W);have e:iO a b=jk (a.1,min a.2 (b.2-1)) (max b.1 (a.1+1),b.2):=by unfold iO;rw[aA T]
 rw[e];obtain⟨⟨⟨r1,q⟩,⟨v,L⟩,f⟩,hr⟩:∃r,r=jk (a.1,min a.2 (b.2-1)) (max b.1 (a.1+1),b.2):=⟨_,rfl⟩;rw[<-hr]at j⊢;clear e hr;simp only[eK,zU]at j⊢;obtain⟨N,p⟩:=a;obtain⟨k,o⟩:=b;simp only at T j c X⊢;have C:(o==-9223372036854775808)=false:=by simp;omega
 have l:(N==9223372036854775807)=false:=by simp;omega
 have b:IntKind.i64.wrap (o-1)=o-1:=by unfold aP at X;simp only[bh,bq]at X;simp[IntKind.wrap,IntKind.bits,IntKind.signed]at *;omega
 have W:IntKind.i64.wrap (N+1)=N+1:=by unfold aP at c;simp only[bh,bq]at c;simp[IntKind.wrap,IntKind.bits,IntKind.signed]at *;omega
 clear T c X;have s:δ w.1+2≠δ w.1+3:=I;go_enter func396,ntmps396;go_wp2_with (go_at_call 407;refine(j.o _).mono ?_;rintro e t ⟨rfl,g⟩;have U:=hid g;clear g;have E:=M (aL U.o sd.1);have b:=M (aL U.o sd.2));have b:=RJ (aL U.o sd.1) (aL U.o sd.2) I (G r1) (G q) (G v) (G L);refine aC (v:=t' #[l' #[G r1,G q],l' #[G v,G L],j' f]) (by simp[results,results396,go_sem,(M b.1).1,(M b.2).1]) rfl ⟨rfl,zE (H iw U.o) I I⟩
end
def UY:Tryz.prog.cellsOf 247=2:=au
def sq:Tryz.prog.keyTypeAt 5 247=O':=au
def Nx{x y:Int}(h:aP x=O')(s:aP y=O'):Tryz.prog.keyLits 5 247 [.int .i64 x,.int .i64 y]=B' [.int .i64 x,.int .i64 y]:=by simp[Program.keyLits,underlying247,underlying2,UY,ee,S4 h,S4 s]
def sv(a c x y:Int)(d:aP a=O')(T:aP c=O')(F:aP x=O')(B:aP y=O')(w:u'):(binOp .neq 247 (l' #[G a,G x]) (l' #[G c,G y])).run Tryz.prog w=.ok (j' (!(a==c&&x==y))) w:=by
 rw[run_neq_struct];obtain⟨r,b,S⟩:=IK (P:=Tryz.prog) 9995 5 247 sq w 5 5 (l' #[G a,G x]) (l' #[G c,G y]) _ _ au au (Nx d F) (Nx T B);have:r=(a==c&&x==y):=by rw[cj,S];simp
 rw[<-this];simp only[Nat.reduceAdd]at b;rw[b];rfl
def D4(a b:BB)(w:u')(ha:dT a)(hb:dT b):
  Cl 400 #[eK a,eK b] w (Rb w (zU (fM a b))):=by
 have kg:=True.intro;exact gk
def Lp(a b:BB)(w:u'):
  Cl 399 #[eK a,eK b] w (Rb w (zU (kc a b))):=by
 have r:=hid (λW=>Cb (l' #[]) a b W rfl);simp only[eK,zU,kc]at r⊢;generalize(oq a b).1=m at r⊢;generalize(oq a b).2=n at r⊢;obtain⟨q,f⟩:=Ea (decide (m<=n));rw[<-f]at r⊢;clear f;go_enter func399,ntmps399;go_upto_region 2 with(go_at_call 395;refine E' (r.o _) λt U=>?_)
 generalize u:t.alloc (mH m n)=F;have b:J (Bl w F/\F.1[δ w.1+2]?=B' vg/\F.1[δ w.1+3]?=B' vg/\d' F t.1.size #[G m,G n] 247/\δ w.1+3<δ t.1):=by subst u;have a:=H U.o (cz t (mH m n));exact⟨H iw a,aL a sd.1,aL a sd.2,bV,blt (aL U.o sd.2)⟩
 clear u;have c:=b.D;generalize δ t.1=a at b c⊢;have E:=M b.b;have c:=M b.c;have W:=M b.d;have s:δ w.1+2≠a:=I;have x:=s.symm;have c:δ w.1+3≠a:=I;have V:=c.symm;have d:δ w.1+2≠δ w.1+3:=I
 go_region_law fail
 all_goals
  go_wp2;have f:=RJ b.b b.c I (G m) (G n) (G m) (G n);have Q:∀(X:u') (o:Addr),χ X.drew o=χ X o:=λ_ _=>rfl;refine aC (v:=t' #[l' #[G m,G n],l' #[G m,G n],j' q]) (by simp[results399,go_sem,(M f.1).1,(M f.2).1]) rfl ⟨rfl,?_⟩
  first|exact(zE b.a I I).drew|exact zE b.a I I|exact below_drewN (zE b.a I I) _
def al5(w:u')(a b c d e:Obj):(((((w.alloc a).alloc b).alloc c).alloc d).alloc e).1[δ w.1+3]?=B' d/\(((((w.alloc a).alloc b).alloc c).alloc d).alloc e).1[δ w.1+4]?=B' e:=by have h:=al4 (w.alloc a) b c d e;have z:δ (w.alloc a).1=δ w.1+1:=ak;rw[z,Nat.add_right_comm,Nat.add_right_comm w.1.size 1 3]at h;exact h
def qy{a b c d e f}:=@al5 a b c d e f
def LY(h:p:=by
 have k:=RJ (aL U.o qy.1) (aL U.o qy.2) I (G r1) (G q) (G v) (G L)
 refine aC (v:=t' #[l' #[G r1,G q],l' #[G v,G L],j' f]) (by simp[results389,go_sem,(M k.1).1,(M k.2).1]) rfl ⟨rfl,zE (H (UX _ _ _ _ _ _) U.o) I I⟩):p:=h
def Yv(h:p:=by
 rw[e];have Y:=hid (λW=>D4 a b W l c);obtain⟨⟨⟨r1,q⟩,⟨v,L⟩,f⟩,hr⟩:∃r,r=fM a b:=⟨_,rfl⟩;rw[<-hr]at Y⊢;clear e hr l c;simp only[eK,zU]at Y⊢;go_enter func389,ntmps389;go_wp2_with (go_at_call 400;refine E' (Y.o _) λt U=>?_;have E:=M (aL U.o qy.1);have o:=M (aL U.o qy.2))
 exact LY):p:=h
def Yu(h:p:=by
 rw[e];have Y:=hid (λW=>Lp a b W);obtain⟨⟨⟨r1,q⟩,⟨v,L⟩,f⟩,hr⟩:∃r,r=kc a b:=⟨_,rfl⟩;rw[<-hr]at Y⊢;clear e hr l c;simp only[eK,zU]at Y⊢;go_enter func389,ntmps389;go_wp2_with (go_at_call 399;refine E' (Y.o _) λt U=>?_;have E:=M (aL U.o qy.1);have o:=M (aL U.o qy.2))
 exact LY):p:=h
def Yt(h:p:=by
 have k:=RJ (aL j.o qy.1) (aL j.o qy.2) I (G v) (G L) (G r1) (G q)
 refine aC (v:=t' #[l' #[G v,G L],l' #[G r1,G q],j' f]) (by simp[results389,go_sem,(M k.1).1,(M k.2).1]) rfl ⟨rfl,zE (H (UX _ _ _ _ _ _) j.o) I I⟩):p:=h
def Hv(r:A')(R:Int)(g:Bool)(a b:BB)(w:u')(hr:r=l' #[])(l:dT a)(c:dT b):
  Cl 389 #[r,G R,j' g,eK a,eK b] w (Rb w (zU (cM R g a b))):=by
 subst hr;have s:δ w.1+3≠δ w.1+4:=I;have x:=s.symm;cases D:(R==0);rotate_left
 ·cases g
  ·have e:cM R P' a b=N2 (lR b a):=by unfold cM;simp at *;simp[*]
   rw[e];have Y:=hid (λW=>vK b a W);obtain⟨⟨⟨r1,q⟩,⟨v,L⟩,f⟩,hr⟩:∃r,r=lR b a:=⟨_,rfl⟩;rw[<-hr]at Y⊢;have p:=hid (λW=>Nw (r1,q) (v,L) f W);clear e hr l c;simp only[eK,zU,N2]at Y p⊢;go_enter func389,ntmps389;go_wp2_with (first|(have _:=U;go_at_call 397;refine D' (p.o _) λF X=>?_;have j:=hid (H U.o X);clear X;have E:=M (aL j.o qy.1);have o:=M (aL j.o qy.2))|(go_at_call 398;refine E' (Y.o _) λt U=>?_));exact Yt
  have e:cM R O' a b=iO a b:=by unfold cM;simp at *;simp[*]
  rw[e];have Y:=hid (λW=>Cc a b W l c);obtain⟨⟨⟨r1,q⟩,⟨v,L⟩,f⟩,hr⟩:∃r,r=iO a b:=⟨_,rfl⟩;rw[<-hr]at Y⊢;clear e hr l c;simp only[eK,zU]at Y⊢;go_enter func389,ntmps389;go_wp2_with (go_at_call 396;refine E' (Y.o _) λt U=>?_;have E:=M (aL U.o qy.1);have o:=M (aL U.o qy.2));exact LY
 cases C:(R==1);rotate_left
 ·cases g
  ·have e:cM R P' a b=N2 (iO b a):=by unfold cM;simp at *;simp[*]
   rw[e];have Y:=hid (λW=>Cc b a W c l);obtain⟨⟨⟨r1,q⟩,⟨v,L⟩,f⟩,hr⟩:∃r,r=iO b a:=⟨_,rfl⟩;rw[<-hr]at Y⊢;have p:=hid (λW=>Nw (r1,q) (v,L) f W);clear e hr l c;simp only[eK,zU,N2]at Y p⊢;go_enter func389,ntmps389;go_wp2_with (first|(have _:=U;go_at_call 397;refine D' (p.o _) λF X=>?_;have j:=hid (H U.o X);clear X;have E:=M (aL j.o qy.1);have o:=M (aL j.o qy.2))|(go_at_call 396;refine E' (Y.o _) λt U=>?_));exact Yt
  have e:cM R O' a b=lR a b:=by unfold cM;simp at *;simp[*]
  rw[e];have Y:=hid (λW=>vK a b W);obtain⟨⟨⟨r1,q⟩,⟨v,L⟩,f⟩,hr⟩:∃r,r=lR a b:=⟨_,rfl⟩;rw[<-hr]at Y⊢;clear e hr l c;simp only[eK,zU]at Y⊢;go_enter func389,ntmps389;go_wp2_with (go_at_call 398;refine E' (Y.o _) λt U=>?_;have E:=M (aL U.o qy.1);have o:=M (aL U.o qy.2));exact LY
 cases j:(R==2)
 ·cases g
  ·have e:cM R P' a b=kc a b:=by unfold cM;simp at *;simp[*]
   exact Yu
  have e:cM R O' a b=fM a b:=by unfold cM;simp at *;simp[*]
  exact Yv
 cases g
 ·have e:cM R P' a b=fM a b:=by unfold cM;simp at *;simp[*]
  exact Yv
 have e:cM R O' a b=kc a b:=by unfold cM;simp at *;simp[*]
 exact Yu
section
variable {a b:Int}
def f64{x:Int}:aP x=O'↔(-9223372036854775808<=x/\x<=9223372036854775807):=by unfold aP;simp
def Yr(h:p:=by
 have c:=k;rw[f64]at k;rw[je]at c
 rw[c,ei h,cV (by unfold wrap64;omega)];rfl):p:=h
def Yq(h:p:=by
 have c:=k;rw[f64]at k;rw[je]at c
 rw[c,cV h,ei (by unfold wrap64;omega)];rfl):p:=h
def VO(c:aP a=O')(d:aP b=O'):(decide (wrap64 (a+b)<a)==decide (b<0))=aP (a+b):=by
 rw[f64]at c d;by_cases h:b<0
 ·by_cases k:aP (a+b)=O'
  ·rw[k,cy k,ei h,ei I];rfl
  exact Yr
 by_cases k:aP (a+b)=O'
 ·rw[k,cy k,cV h,cV I];rfl
 exact Yq
def XB(c:aP a=O')(d:aP b=O'):(decide (a<wrap64 (a-b))==decide (b<0))=aP (a-b):=by
 rw[f64]at c d;by_cases h:b<0
 ·by_cases k:aP (a-b)=O'
  ·rw[k,cy k,ei h,ei I];rfl
  exact Yr
 by_cases k:aP (a-b)=O'
 ·rw[k,cy k,cV h,cV I];rfl
 exact Yq
def vB(c:a≠0)(d:b≠0):decide (a*b<0)=(decide (a<0) !=decide (b<0)):=by
 rcases Int.lt_or_gt_of_ne c with C|C<;>rcases Int.lt_or_gt_of_ne d with c|c
 ·have:=Int.mul_pos_of_neg_of_neg C c;rw[cV I,ei C,ei c];rfl
 ·have:=Int.mul_neg_of_neg_of_pos C c;rw[ei this,ei C,cV I];rfl
 ·have:=Int.mul_neg_of_pos_of_neg C c;rw[ei this,cV I,ei c];rfl
 have:=Int.mul_pos C c;rw[cV I,cV I,cV I];rfl
def WA(c:aP a=O')(e:aP b=O')(D:a≠0)(C:b≠0):(wrap64 ((wrap64 (a*b)).tdiv b)==a&&(decide (wrap64 (a*b)<0)==(decide (a<0) !=decide (b<0))))=aP (a*b):=by
 by_cases d:b=-1;rotate_left
 ·rw[BD e C d];by_cases k:aP (a*b)=O'
  ·rw[k,cy k,vB D C];simp
  rw[je]at k;rw[k];rfl
 subst d;rw[f64]at c;have e:a*-1=-a:=I;rw[e];by_cases F:a=-2^63
 ·subst F;have u:wrap64 (- -2^63)=-2^63:=by unfold wrap64;omega
  have b:aP (- -2^63)=P':=by rw[kJ,ne_eq,f64];omega
  rw[u,b];simp
 have k:aP (-a)=O':=by rw[f64];omega
 have q:(-a).tdiv (-1)=a:=by rw[Cw,LA];omega
 rw[k,cy k,q,cy (by rw[f64];exact c)];have:=vB (a:=a) (b:=-1) D aj;rw[e]at this;rw[this];simp
def Xu(x:Int):A':=l' #[G (wrap64 x),j' (aP x)]
def Ht(a b:Int)(w:u')(c:aP a=O')(d:aP b=O'):
  Cl 402 #[G a,G b] w (Rb w (Xu (a+b))):=by
 have v:=hid (VO c d);clear c d;go_enter func402,ntmps402;go_wp2;refine aC (v:=l' #[G (wrap64 (a+b)),j' (decide (wrap64 (a+b)<a)==decide (b<0))]) (by simp[results402,go_sem]) rfl ⟨by rw[v.o];rfl,bf⟩
def Hu(a b:Int)(w:u')(c:aP a=O')(d:aP b=O'):
  Cl 408 #[G a,G b] w (Rb w (Xu (a-b))):=by
 have v:=hid (XB c d);clear c d;go_enter func408,ntmps408;go_wp2;refine aC (v:=l' #[G (wrap64 (a-b)),j' (decide (a<wrap64 (a-b))==decide (b<0))]) (by simp[results408,go_sem]) rfl ⟨by rw[v.o];rfl,bf⟩
def Ys(h:p:=by
 go_enter func404,ntmps404;go_wp2
 refine aC (v:=l' #[G 0,j' O']) (by simp[results404,go_sem]) rfl ⟨by rw[e];rw[Xu,LS];rfl,bf⟩):p:=h
def qo(a b:Int)(w:u')(c:aP a=O')(f:aP b=O'):
  Cl 404 #[G a,G b] w (Rb w (Xu (a*b))):=by
 cases D:(a==0);rotate_left
 ·obtain rfl:a=0:=I' D;have e:=Int.zero_mul b;exact Ys
 cases C:(b==0);rotate_left
 ·obtain rfl:b=0:=I' C;have e:=Int.mul_zero a;exact Ys
 have U:=I' D;have d:=I' C;have Y:=WA c f U d;clear c f U;obtain⟨n,K⟩:=Ea (wrap64 (a*b));obtain⟨q,c⟩:=Ea ((wrap64 (n.tdiv b)==a));rw[<-K,<-c]at Y;have v:=hid Y;have S:=hid c;clear Y c;go_enter func404,ntmps404;cases q
 ·have l:=S.o.symm;rw[K]at l;go_wp2;rw[<-K];refine aC (v:=l' #[G n,j' P']) (by simp[results404,go_sem]) rfl ⟨by rw[Xu,<-K,<-v.o];rfl,bf⟩
 have l:=S.o.symm;rw[K]at l;go_wp2;rw[<-K];refine aC (v:=l' #[G n,j' (decide (n<0)==(decide (a<0) !=decide (b<0)))]) (by simp[results404,go_sem,bne]) rfl ⟨by rw[Xu,<-K,<-v.o,dW],bf⟩
abbrev EX:=Int×Bool
def cc(w:u')(ao:x')(es:List EX):Prop:=∀j e,es[j]?=B' e->∃b o,ao=B' (O b o)/\χ w (O b (o+j*2))=B' (G e.1)/\χ w (O b (o+j*2+1))=B' (j' e.2)
def Vq(s:Int×Int×Bool)(e:EX):Int×Int×Bool:=(min s.1 e.1,max s.2.1 e.1,s.2.2&&e.2)
def arR(s:Int×Int×Bool):BB:=if s.2.2 then(s.1,s.2.1) else(-9223372036854775808,9223372036854775807)
def acu(h:p:=by
 have X:=(bm.1 h).1;rw[cX X,(bm.1 h).2]
 simp):p:=h
def B1{α β:Type}(f:β->α->β)(s:β){l:List α}{k:Nat}{x:α}(h:l[k]?=B' x):(l.take (k+1)).foldl f s=f ((l.take k).foldl f s) x:=by exact acu
def pL(x:EX)(d:List EX)(q:x')(c:Nat)(w:u')(h:cc w q d)(X:ζ d<=100):
  Cl 401 #[l' #[G x.1,j' x.2],i' q (ζ d) c] w λe a=>e=p' (eK (arR (d.foldl Vq (x.1,x.1,x.2))))/\Below w.1.size w a:=by
 obtain⟨g,q⟩:=x;have s:=hid h;clear h;obtain⟨k,a⟩:=Ea (ζ d);rw[<-a]at X⊢;have K:=hid a;clear a;have B:=hid zF;simp only[eK]at B⊢;go_enter func401,ntmps401;go_upto_region 3 with fail
 generalize u:((w.alloc (k' #[G g,j' q] 502)).alloc iG).alloc (k' #[G g,G g] 247)=a;have U:J (Below w.1.size w a/\a.1[δ w.1+1]?=B' vg/\a.1[δ w.1+2]?=B' (k' #[G g,G g] 247 (0,0))):=by subst u;have h:=bL (w.alloc (k' #[G g,j' q] 502)) iG (k' #[G g,G g] 247);have z:δ (w.alloc (k' #[G g,j' q] 502)).1=δ w.1+1:=ak;rw[z]at h;exact⟨gB,h.1,h.2⟩
 clear u;go_wp2;go_loopw[6,18] (λP y wr=>∃(j:Nat) (h S:Int) (f:Bool),j<=k/\y=G j/\P=j' f/\J ((h,S,f)=(d.take j).foldl Vq (g,g,q)/\Below w.1.size w wr/\wr.1[δ w.1+1]?=B' vg/\wr.1[δ w.1+2]?=B' (k' #[G h,G S] 247 (0,0)))) (λ_ y _=>k-(intOf y).toNat)
 ·exact⟨0,g,g,q,bj,rfl,rfl,rfl,U.a,U.b,U.B⟩
 obtain⟨j,h,S,f,a,rfl,rfl,c⟩:=hrel;by_cases L:j<k;rotate_left
 ·have a:¬(j:Int)<k:=I;have p:j=k:=I;have y:J ((h,S,f)=d.foldl Vq (g,g,q)):=by show _=_;rw[c.a,p,K.o,gg]
  cases f
  ·have i:=hid (λW=>B.o W);have F:=c.c;go_wp2_with (go_at_call 406;refine E' (B.o _) λt r=>?_;have E:=M (aL r.o c.c));refine aC (v:=eK (-9223372036854775808,9223372036854775807)) (by simp[results401,go_sem,eK,(M (aq (o:=1) (aq (o:=0) (aL r.o c.c) (G (-9223372036854775808))) (G 9223372036854775807))).1]) rfl ⟨by rw[<-y.o];rfl,?_⟩;exact((c.b.trans (r.o.mono c.b.size)).setCell (by show _<=δ w.1+1;omega) _).setCell (by show _<=δ w.1+1;omega) _
  have E:=M c.c;have b:=M c.C;go_wp2;refine aC (v:=eK (h,S)) (by simp[results401,go_sem,eK,(M (aq (o:=1) (aq (o:=0) c.c (G h)) (G S))).1]) rfl ⟨by rw[<-y.o];rfl,?_⟩;exact(c.b.setCell (by show _<=δ w.1+1;omega) _).setCell (by show _<=δ w.1+1;omega) _
 have a:(j:Int)<k:=I;obtain⟨⟨a,v⟩,l⟩:∃e,d[j]?=B' e:=⟨_,bR (by rw[<-K.o];exact L)⟩;obtain⟨b,o,rfl,T,Q⟩:=s.o j _ l;have e:χ wr (O b (o+j*2))=B' (G a):=ax T c.b;have Y:χ wr (O b (o+j*2+1))=B' (j' v):=ax Q c.b;have y:J ((min h a,max S a,f&&v)=(d.take (j+1)).foldl Vq (g,g,q)):=by show _=_;rw[B1 _ _ l,<-c.a];rfl
 clear T Q l;have E:=M c.C;have D:=blt c.C;have s:δ wr.1≠δ w.1+2:=I;have x:=s.symm;go_upto_region 7 with fail
 generalize u:(κ (κ wr (O (δ w.1+1+1) 0) (G (min h a))) (O (δ w.1+1+1) 1) (G (max S a))).alloc (k' #[G a,j' v] 502)=t;have X:J (Below w.1.size w t/\t.1[δ w.1+1]?=B' vg/\t.1[δ w.1+2]?=B' (k' #[G (min h a),G (max S a)] 247 (0,0))/\t.1[δ wr.1]?=B' (k' #[G a,j' v] 502 (0,0))):=by
  subst u;have i:=cz (κ (κ wr (O (δ w.1+1+1) 0) (G (min h a))) (O (δ w.1+1+1) 1) (G (max S a))) (k' #[G a,j' v] 502);have C:Below w.1.size w (κ (κ wr (O (δ w.1+1+1) 0) (G (min h a))) (O (δ w.1+1+1) 1) (G (max S a))):=(c.b.setCell (by show _<=δ w.1+1+1;omega) _).setCell (by show _<=δ w.1+1+1;omega) _;have b:(κ (κ wr (O (δ w.1+1+1) 0) (G (min h a))) (O (δ w.1+1+1) 1) (G (max S a))).1[δ w.1+1]?=B' vg:=((aJ (by show δ w.1+1≠δ w.1+1+1;omega)).trans (aJ (by show δ w.1+1≠δ w.1+1+1;omega))).trans c.c;have N:(κ (κ wr (O (δ w.1+1+1) 0) (G (min h a))) (O (δ w.1+1+1) 1) (G (max S a))).1[δ w.1+2]?=B' (k' #[G (min h a),G (max S a)] 247 (0,0)):=by rw[aq (aq c.C _) _];rfl
  have d:δ (κ (κ wr (O (δ w.1+1+1) 0) (G (min h a))) (O (δ w.1+1+1) 1) (G (max S a))).1=δ wr.1:=ak;refine⟨H C i,aL i b,aL i N,?_⟩;have l:=cv (κ (κ wr (O (δ w.1+1+1) 0) (G (min h a))) (O (δ w.1+1+1) 1) (G (max S a))) (k' #[G a,j' v] 502);rw[d]at l;exact l
 clear u;clear E e Y;have E:=M X.C;cases f
 ·go_wp2;go_roundw
  ·exact⟨j+1,_,_,P',L,f',rfl,y.o,X.a,X.b,X.c⟩
  exact G'
 go_wp2;go_roundw
 ·exact⟨j+1,_,_,v,L,f',rfl,y.o,X.a,X.b,X.c⟩
 exact G'
end
def bZ(v:VV):BB:=(v.lo,v.hi)
def XZ(a b:VV):arR (Vq (wrap64 (a.lo+b.lo),wrap64 (a.lo+b.lo),aP (a.lo+b.lo)) (wrap64 (a.hi+b.hi),aP (a.hi+b.hi)))=bZ (zI a b):=by
 unfold arR Vq zI zV bZ;by_cases C:aP (a.lo+b.lo)=O';rotate_left
 ·rw[je]at C;simp[C,VV.all]
 by_cases c:aP (a.hi+b.hi)=O'
 ·simp only[C,c,cy C,cy c,ua,c!];generalize a.lo+b.lo=x;generalize a.hi+b.hi=y;simp[kh,VV.one];constructor<;>(repeat' split)<;>omega
 rw[je]at c;simp[c,VV.all]
def XX(a b:VV):arR (Vq (wrap64 (a.lo-b.hi),wrap64 (a.lo-b.hi),aP (a.lo-b.hi)) (wrap64 (a.hi-b.lo),aP (a.hi-b.lo)))=bZ (kP a b):=by
 unfold arR Vq kP zV bZ;by_cases C:aP (a.lo-b.hi)=O';rotate_left
 ·rw[je]at C;simp[C,VV.all]
 by_cases c:aP (a.hi-b.lo)=O'
 ·simp only[C,c,cy C,cy c,ua,c!];generalize a.lo-b.hi=x;generalize a.hi-b.lo=y;simp[kh,VV.one];constructor<;>(repeat' split)<;>omega
 rw[je]at c;simp[c,VV.all]
def XY(a b:VV):arR ([(wrap64 (a.lo*b.hi),aP (a.lo*b.hi)),(wrap64 (a.hi*b.lo),aP (a.hi*b.lo)),(wrap64 (a.hi*b.hi),aP (a.hi*b.hi))].foldl Vq (wrap64 (a.lo*b.lo),wrap64 (a.lo*b.lo),aP (a.lo*b.lo)))=bZ (yF a b):=by
 simp only[arR,yF,zV,bZ,iC,wX,Vq];by_cases C:aP (a.lo*b.lo)=O';rotate_left
 ·rw[je]at C;simp[C,VV.all]
 by_cases c:aP (a.lo*b.hi)=O';rotate_left
 ·rw[je]at c;simp[c,VV.all]
 by_cases N:aP (a.hi*b.lo)=O';rotate_left
 ·rw[je]at N;simp[N,VV.all]
 by_cases d:aP (a.hi*b.hi)=O';rotate_left
 ·rw[je]at d;simp[d,VV.all]
 simp only[C,c,N,d,cy C,cy c,cy N,cy d,ua,c!];generalize a.lo*b.lo=x;generalize a.lo*b.hi=y;generalize a.hi*b.lo=z;generalize a.hi*b.hi=u;simp[kh,VV.one];constructor<;>(repeat' split)<;>omega
def T7{n:Int}{f:Bool}(D:χ w (O q 0)=B' (G n))(C:χ w (O q 1)=B' (j' f)):cc w (B' (O q 0)) [(n,f)]:=by
 intro j e hj
 match j,hj with
 |0,hj=>simp at hj;subst hj;exact⟨q,0,rfl,by simp[D],by simp[C]⟩
 |j+1,hj=>simp at hj
def Xt{s x c:Int}{K B t:Bool}(D:χ w (O q 0)=B' (G s))(C:χ w (O q 1)=B' (j' K))(a:χ w (O q 2)=B' (G x))(N:χ w (O q 3)=B' (j' B))(d:χ w (O q 4)=B' (G c))(l:χ w (O q 5)=B' (j' t)):cc w (B' (O q 0)) [(s,K),(x,B),(c,t)]:=by
 intro j e hj
 match j,hj with
 |0,hj=>simp at hj;subst hj;exact⟨q,0,rfl,by simp[D],by simp[C]⟩
 |1,hj=>simp at hj;subst hj;exact⟨q,0,rfl,by simp[a],by simp[N]⟩
 |2,hj=>simp at hj;subst hj;exact⟨q,0,rfl,by simp[d],by simp[l]⟩
 |j+3,hj=>simp at hj
def X2(w:u')(a b c:Obj):(((w.alloc a).alloc b).alloc c).1[δ w.1]?=B' a/\(((w.alloc a).alloc b).alloc c).1[δ w.1+1]?=B' b/\(((w.alloc a).alloc b).alloc c).1[δ w.1+2]?=B' c:=by have h:=bL (w.alloc a) b c;have z:δ (w.alloc a).1=δ w.1+1:=ak;rw[z]at h;exact⟨aL cG bV,h.1,h.2⟩
def D!{a b c d}:=@X2 a b c d
def zB(a b:VV)(w:u')(j:dT (bZ a))(i:dT (bZ b)):
  Cl 403 #[eK (bZ a),eK (bZ b)] w (Rb w (eK (bZ (kP a b)))):=by
 obtain⟨P,N,f⟩:=a;obtain⟨l,a,o⟩:=b;have d:=hid (XX ⟨P,N,f⟩ ⟨l,a,o⟩);have c:=hid (λW=>Hu N o W j.lo i.hi);have u:=hid (λW=>Hu f a W j.hi i.lo);have T:=hid (λW q h=>pL (wrap64 (N-o),aP (N-o)) [(wrap64 (f-a),aP (f-a))] (B' (O q 0)) 1 W h ak);simp only[iC,wX,fF]at T;simp only at d;rw[d.o]at T;clear j i;simp only[Xu]at c u;generalize kP ⟨P,N,f⟩ ⟨l,a,o⟩=s at T⊢;generalize wrap64 (N-o)=h at c T;generalize wrap64 (f-a)=x at u T;generalize aP (N-o)=K at c T;generalize aP (f-a)=B at u T;obtain⟨b,U,d⟩:=s;simp only[eK,bZ]at T⊢;go_enter func403,ntmps403;go_upto_region 1 with fail
 obtain⟨s,v,b⟩:=X2 w (k' #[G N,G f] 247) (k' #[G a,G o] 247) iG;have B:=hid (A s (A v (A b (nS w (k' #[G N,G f] 247) (k' #[G a,G o] 247) iG))));clear s v b;generalize((w.alloc (k' #[G N,G f] 247)).alloc (k' #[G a,G o] 247)).alloc iG=V at B⊢;have S:J (∀W,Bl V W->χ W (O w.1.size 0)=B' (G N)/\χ W (O w.1.size 1)=B' (G f)/\χ W (O (δ w.1+1) 0)=B' (G a)/\χ W (O (δ w.1+1) 1)=B' (G o)):=by intro W j;have R:=(M (aL j B.a)).1;have F:=(M (aL j B.b)).1;exact⟨R 0,R 1,F 0,F 1⟩
 have b:=S.o V aQ;have h:δ w.1≠δ w.1+1+1:=I;have x:=h.symm
 go_region_held3 (λg=>χ g (O w.1.size 0)=B' (G N)/\χ g (O w.1.size 1)=B' (G f)/\χ g (O (δ w.1+1) 0)=B' (G a)/\χ g (O (δ w.1+1) 1)=B' (G o)) (go_keep) (first|(have _:=L;go_at_call 401;refine D' (T.o _ _ (T7 ak ak)) λE Y=>?_;have p:Bl V E:=H (H L.o ay) Y;have l:=hid p;have Q:=S.o E p;have N:=M (aL p B.c);clear Y p)|(have _:=D;go_at_call 408;refine D' (u.o _) λa X=>?_;have p:Bl V a:=H (H D.o ay) X;have L:=hid p;have o0:=S.o a p;clear X p)|(go_at_call 408;refine D' (c.o _) λf a=>?_;have p:Bl V f:=H ay a;have D:=hid p;have P:=S.o f p;clear a p))
 all_goals
  go_wp2;refine aC (v:=l' #[G U,G d]) (by simp[results403,go_sem,(M (aq (o:=1) (aq (o:=0) (aL l.o B.c) (G U)) (G d))).1]) rfl ⟨rfl,?_⟩
  first|exact((H B.C l.o).setCell H' _).setCell H' _|exact(((H B.C l.o).setCell H' _).setCell H' _).drew
def Qh(op:Int)(a b:VV):Option VV:=if op=0 then B' (zI a b) else if op=1 then B' (kP a b) else if op=2 then B' (yF a b) else j6 a b
def MH:Option VV->A'×Bool
 |none=>(eK (0,0),P')
 |some v=>(eK (bZ v),O')
def kT{x b:Int}(F:aP x=O')(D:b≠0)(C:b≠-1):IntKind.i64.wrap (x.tdiv b)=x.tdiv b:=by have h:=cy (C? F D C);unfold wrap64 at h;rw[IntKind.wrap_i64];exact h
theorem QG(h:p:=by
 repeat(first|with_reducible exact aQ|with_reducible refine below_drewN ?_ _|with_reducible refine jh ?_|refine jM ?_ (by show _<=_;simp;try omega) _|refine lz ?_ (by first|(simp;done)|(simp;omega)) _)):p:=h
def Yn(h:p:=by
 first|exact((H gB U.o).setCell H' _).setCell H' _|exact(((H gB U.o).setCell H' _).setCell H' _).drew|exact below_drewN (((H gB U.o).setCell H' _).setCell H' _) _):p:=h
def US(a b:VV)(w:u')(j:dT (bZ a))(i:dT (bZ b)):
  Cl 405 #[eK (bZ a),eK (bZ b)] w (Rb w (t' #[(MH (j6 a b)).1,j' (MH (j6 a b)).2])):=by
 have s:δ w.1≠δ w.1+1+1:=I;have x:=s.symm;cases D:(b.lo==b.hi)
 ·have e:j6 a b=B' VV.all:=by unfold j6;rw[aB (by simpa using D)]
  rw[e];have T:=hid zF;obtain⟨P,N,p⟩:=a;obtain⟨l,h,o⟩:=b;simp only[MH,eK,bZ,VV.all]at T D⊢;clear e j i;go_enter func405,ntmps405;go_wp2_with (go_at_call 406;refine E' (T.o _) λt U=>?_;have E:=M (aL U.o D!.2.2));have R:=(M (aq (o:=1) (aq (o:=0) (aL U.o D!.2.2) (G (-9223372036854775808))) (G 9223372036854775807))).1;refine aC (v:=t' #[l' #[G (-9223372036854775808),G 9223372036854775807],j' O']) (by simp[results405,go_sem,R]) rfl ⟨rfl,?_⟩;exact Yn
 have X:b.lo=b.hi:=by simpa using D
 cases C:(b.lo==0);rotate_left
 ·have k:b.lo=0:=by simpa using C
  have e:j6 a b=C':=by unfold j6;rw[aA (by simpa using X),aB k]
  rw[e];obtain⟨P,N,p⟩:=a;obtain⟨l,h,o⟩:=b;simp only[MH,eK,bZ]at *;clear e j i X k;go_enter func405,ntmps405;go_wp2;refine aC (v:=t' #[l' #[G 0,G 0],j' P']) (by simp[results405,go_sem]) rfl ⟨rfl,?_⟩;exact QG
 have k:b.lo≠0:=by simpa using C
 by_cases v:0<b.lo
 ·have d:b.lo≠-1:=I;have e:j6 a b=B' ⟨P',a.lo.tdiv b.lo,a.hi.tdiv b.lo⟩:=by unfold j6;rw[aA (by simpa using X),aA k,aA d,aB v]
  rw[e];have V:IntKind.i64.wrap (a.lo.tdiv b.lo)=a.lo.tdiv b.lo:=kT j.lo k d;have u:IntKind.i64.wrap (a.hi.tdiv b.lo)=a.hi.tdiv b.lo:=kT j.hi k d;obtain⟨P,N,p⟩:=a;obtain⟨l,h,o⟩:=b;simp only[MH,eK,bZ]at *;have f:¬h=0:=k;clear e j i d X k;go_enter func405,ntmps405;go_upto_region 7 with fail
  go_region_held3 (λq=>χ q (O w.1.size 0)=B' (G N)/\χ q (O w.1.size 1)=B' (G p)) (go_keep) (fail)
  all_goals
   go_wp2;refine aC (v:=t' #[l' #[G (N.tdiv h),G (p.tdiv h)],j' O']) (by simp[results405,go_sem]) rfl ⟨rfl,?_⟩;exact QG
 cases d:(b.lo==-1)
 ·have g:b.lo≠-1:=by simpa using d
  have e:j6 a b=B' ⟨P',a.hi.tdiv b.lo,a.lo.tdiv b.lo⟩:=by unfold j6;rw[aA (by simpa using X),aA k,aA g,aA v]
  rw[e];have V:IntKind.i64.wrap (a.lo.tdiv b.lo)=a.lo.tdiv b.lo:=kT j.lo k g;have u:IntKind.i64.wrap (a.hi.tdiv b.lo)=a.hi.tdiv b.lo:=kT j.hi k g;obtain⟨P,N,p⟩:=a;obtain⟨l,h,o⟩:=b;simp only[MH,eK,bZ]at *;have c:decide (0<h)=P':=by simp;omega
  have f:¬h=0:=k;clear e j i g X k v;go_enter func405,ntmps405;go_upto_region 10 with fail
  go_region_held3 (λq=>χ q (O w.1.size 0)=B' (G N)/\χ q (O w.1.size 1)=B' (G p)) (go_keep) (fail)
  all_goals
   go_wp2;refine aC (v:=t' #[l' #[G (p.tdiv h),G (N.tdiv h)],j' O']) (by simp[results405,go_sem]) rfl ⟨rfl,?_⟩;exact QG
 have g:b.lo=-1:=by simpa using d
 have e:j6 a b=B' (kP ⟨P',0,0⟩ a):=by unfold j6;rw[aA (by simpa using X),aA k,aB g]
 rw[e];have r:=hid (λW=>zB ⟨P',0,0⟩ a W ⟨aj,aj⟩ j);generalize kP ⟨P',0,0⟩ a=s at r⊢;obtain⟨_,f,zd⟩:=s;obtain⟨P,N,p⟩:=a;obtain⟨l,h,o⟩:=b;simp only[MH,eK,bZ]at *;have c:decide (0<h)=P':=by simp;omega
 clear e j i g X k v;go_enter func405,ntmps405;go_wp2_with (go_at_call 403;refine E' (r.o _) λt U=>?_;have E:=M (aL U.o D!.2.2));have R:=(M (aq (o:=1) (aq (o:=0) (aL U.o D!.2.2) (G f)) (G zd))).1;refine aC (v:=t' #[l' #[G f,G zd],j' O']) (by simp[results405,go_sem,R]) rfl ⟨rfl,?_⟩;exact Yn
def Yp(h:p:=by
 go_wp2;refine aC (v:=t' #[l' #[G U,G s2],j' O']) (by simp[results391,go_sem,(M (aq (o:=1) (aq (o:=0) (aL l.o B.c) (G U)) (G s2))).1]) rfl ⟨rfl,?_⟩
 first|exact((H B.C l.o).setCell H' _).setCell H' _|exact(((H B.C l.o).setCell H' _).setCell H' _).drew|exact below_drewN (((H B.C l.o).setCell H' _).setCell H' _) _):p:=h
def Yo(h:p:=by
 first|exact((H iw r.o).setCell H' _).setCell H' _|exact(((H iw r.o).setCell H' _).setCell H' _).drew|exact below_drewN (((H iw r.o).setCell H' _).setCell H' _) _):p:=h
def Ym(h:p:=by
 have h:=X2 (w.alloc nZ) (mH N Y) (k' #[G x,G o] 247) iG;have z:δ (w.alloc nZ).1=δ w.1+1:=ak;rw[z]at h
 exact⟨h.1,h.2.1,h.2.2,iw⟩):p:=h
def Yl(h:p:=by
 intro W j;have R:=(M (aL j B.a)).1;have F:=(M (aL j B.b)).1
 exact⟨R 0,R 1,F 0,F 1⟩):p:=h
def D5(r:A')(i:Int)(a b:VV)(w:u')(f:r=l' #[])(ha:dT (bZ a))(hb:dT (bZ b)):
  Cl 391 #[r,G i,eK (bZ a),eK (bZ b)] w (Rb w (t' #[(MH (Qh i a b)).1,j' (MH (Qh i a b)).2])):=by
 subst f;have s:δ w.1+1≠δ w.1+1+1+1:=I;have x:=s.symm;have d:δ w.1+1+1≠δ w.1+1+1+1:=I;have V:=d.symm;have d:δ w.1≠δ w.1+1+1:=I;have f:=d.symm;cases h0:(i==0);rotate_left
 ·have e:Qh i a b=B' (zI a b):=by unfold Qh;simp at h0;simp[h0]
  rw[e];have d:=hid (XZ a b);obtain⟨P,N,Y⟩:=a;obtain⟨ba,x,o⟩:=b;have H1:=hid (λW=>Ht N x W ha.lo hb.lo);have u:=hid (λW=>Ht Y o W ha.hi hb.hi);have T:=hid (λW q h=>pL (wrap64 (N+x),aP (N+x)) [(wrap64 (Y+o),aP (Y+o))] (B' (O q 0)) 1 W h ak);simp only[iC,wX,fF]at T;simp only at d;rw[d.o]at T;clear ha hb e;simp only[Xu]at H1 u;generalize zI ⟨P,N,Y⟩ ⟨ba,x,o⟩=s at T⊢;generalize wrap64 (N+x)=y at H1 T;generalize wrap64 (Y+o)=m2 at u T;generalize aP (N+x)=K at H1 T;generalize aP (Y+o)=f2 at u T;obtain⟨sa,U,s2⟩:=s;simp only[eK,bZ,MH]at T⊢;go_enter func391,ntmps391;go_upto_region 3 with fail
  have B:J (d' ((((w.alloc nZ).alloc (mH N Y)).alloc (k' #[G x,G o] 247)).alloc iG) (δ w.1+1) #[G N,G Y] 247/\d' ((((w.alloc nZ).alloc (mH N Y)).alloc (k' #[G x,G o] 247)).alloc iG) (δ w.1+2) #[G x,G o] 247/\((((w.alloc nZ).alloc (mH N Y)).alloc (k' #[G x,G o] 247)).alloc iG).1[δ w.1+3]?=B' vg/\Bl w ((((w.alloc nZ).alloc (mH N Y)).alloc (k' #[G x,G o] 247)).alloc iG)):=by exact Ym
  generalize((((w.alloc nZ).alloc (mH N Y)).alloc (k' #[G x,G o] 247)).alloc iG)=V at B⊢;have S:J (∀W,Bl V W->χ W (O (δ w.1+1) 0)=B' (G N)/\χ W (O (δ w.1+1) 1)=B' (G Y)/\χ W (O (δ w.1+1+1) 0)=B' (G x)/\χ W (O (δ w.1+1+1) 1)=B' (G o)):=by exact Yl
  obtain⟨s0,Q,my,s3⟩:=S.o V aQ
  go_region_held3 (λW=>χ W (O (δ w.1+1) 0)=B' (G N)/\χ W (O (δ w.1+1) 1)=B' (G Y)/\χ W (O (δ w.1+1+1) 0)=B' (G x)/\χ W (O (δ w.1+1+1) 1)=B' (G o)) (go_keep) (first|(have _:=L;go_at_call 401;refine D' (T.o _ _ (T7 ak ak)) λX3 hb=>?_;have p:Bl V X3:=H (H L.o ay) hb;have l:=hid p;obtain⟨x0,x1,g,x3⟩:=S.o X3 p;obtain⟨g1,k⟩:=M (aL p B.c);clear hb p)|(have _:=D;go_at_call 402;refine D' (u.o _) λX hb=>?_;have p:Bl V X:=H (H D.o ay) hb;have L:=hid p;obtain⟨o0,o1,o2,o3⟩:=S.o X p;clear hb p)|(go_at_call 402;refine D' (H1.o _) λX1 hb=>?_;have p:Bl V X1:=H ay hb;have D:=hid p;obtain⟨p0,p1,p2,p3⟩:=S.o X1 p;clear hb p))
  all_goals
   exact Yp
 cases C:(i==1);rotate_left
 ·have e:Qh i a b=B' (kP a b):=by unfold Qh;simp at h0 C;simp[h0,C]
  rw[e];have r:=hid (λW=>zB a b W ha hb);generalize kP a b=s at r⊢;obtain⟨sa,U,s2⟩:=s;obtain⟨P,N,Y⟩:=a;obtain⟨ba,x,o⟩:=b;simp only[MH,eK,bZ]at r⊢;clear e ha hb;go_enter func391,ntmps391;go_wp2_with (go_at_call 403;refine E' (r.o _) λt r=>?_;obtain⟨x1,g⟩:=M (aL r.o sd.2));refine aC (v:=t' #[l' #[G U,G s2],j' O']) (by simp[results391,go_sem,(M (aq (o:=1) (aq (o:=0) (aL r.o sd.2) (G U)) (G s2))).1]) rfl ⟨rfl,?_⟩;exact Yo
 cases h2:(i==2)
 ·have e:Qh i a b=j6 a b:=by unfold Qh;simp at h0 C h2;simp[h0,C,h2]
  rw[e];have HQ:=hid (λW=>US a b W ha hb);have hfl:∃U s2 f,(MH (j6 a b)).1=l' #[G U,G s2]/\(MH (j6 a b)).2=f:=by
   cases j6 a b with
   |none=>exact⟨0,0,P',rfl,rfl⟩
   |some v=>exact⟨v.lo,v.hi,O',rfl,rfl⟩
  obtain⟨U,s2,f,v,E⟩:=hfl;rw[v,E]at HQ⊢;obtain⟨P,N,Y⟩:=a;obtain⟨ba,x,o⟩:=b;simp only[eK,bZ]at HQ⊢;clear e ha hb v E;go_enter func391,ntmps391;go_wp2_with (go_at_call 405;refine E' (HQ.o _) λt r=>?_;obtain⟨x1,g⟩:=M (aL r.o sd.2));refine aC (v:=t' #[l' #[G U,G s2],j' f]) (by simp[results391,go_sem,(M (aq (o:=1) (aq (o:=0) (aL r.o sd.2) (G U)) (G s2))).1]) rfl ⟨rfl,?_⟩;exact Yo
 have e:Qh i a b=B' (yF a b):=by unfold Qh;simp at h0 C h2;simp[h0,C,h2]
 rw[e];have d:=hid (XY a b);obtain⟨P,N,Y⟩:=a;obtain⟨ba,x,o⟩:=b;have H1:=hid (λW=>qo N x W ha.lo hb.lo);have u:=hid (λW=>qo N o W ha.lo hb.hi);have f:=hid (λW=>qo Y x W ha.hi hb.lo);have b:=hid (λW=>qo Y o W ha.hi hb.hi);have T:=hid (λW q h=>pL (wrap64 (N*x),aP (N*x)) [(wrap64 (N*o),aP (N*o)),(wrap64 (Y*x),aP (Y*x)),(wrap64 (Y*o),aP (Y*o))] (B' (O q 0)) 3 W h ak);simp only[cC,gN,bW,Nat.reduceAdd]at T;simp only at d;rw[d.o]at T;clear ha hb e;simp only[Xu]at H1 u f b;generalize yF ⟨P,N,Y⟩ ⟨ba,x,o⟩=s at T⊢;generalize wrap64 (N*x)=y at H1 T;generalize wrap64 (N*o)=m2 at u T;generalize wrap64 (Y*x)=a at f T;generalize wrap64 (Y*o)=a at b T;generalize aP (N*x)=K at H1 T;generalize aP (N*o)=f2 at u T;generalize aP (Y*x)=t at f T;generalize aP (Y*o)=a at b T;obtain⟨sa,U,s2⟩:=s;simp only[eK,bZ,MH]at T⊢;go_enter func391,ntmps391;go_upto_region 7 with fail
 have B:J (d' ((((w.alloc nZ).alloc (mH N Y)).alloc (k' #[G x,G o] 247)).alloc iG) (δ w.1+1) #[G N,G Y] 247/\d' ((((w.alloc nZ).alloc (mH N Y)).alloc (k' #[G x,G o] 247)).alloc iG) (δ w.1+2) #[G x,G o] 247/\((((w.alloc nZ).alloc (mH N Y)).alloc (k' #[G x,G o] 247)).alloc iG).1[δ w.1+3]?=B' vg/\Bl w ((((w.alloc nZ).alloc (mH N Y)).alloc (k' #[G x,G o] 247)).alloc iG)):=by exact Ym
 generalize((((w.alloc nZ).alloc (mH N Y)).alloc (k' #[G x,G o] 247)).alloc iG)=V at B⊢;have S:J (∀W,Bl V W->χ W (O (δ w.1+1) 0)=B' (G N)/\χ W (O (δ w.1+1) 1)=B' (G Y)/\χ W (O (δ w.1+1+1) 0)=B' (G x)/\χ W (O (δ w.1+1+1) 1)=B' (G o)):=by exact Yl
 obtain⟨s0,Q,my,s3⟩:=S.o V aQ
 go_region_held3 (λW=>χ W (O (δ w.1+1) 0)=B' (G N)/\χ W (O (δ w.1+1) 1)=B' (G Y)/\χ W (O (δ w.1+1+1) 0)=B' (G x)/\χ W (O (δ w.1+1+1) 1)=B' (G o)) (go_keep) (first|(have _:=c;go_at_call 401;refine D' (T.o _ _ (Xt ak ak ak ak ak ak)) λa hb=>?_;have p:Bl V a:=H (H c.o ay) hb;have Y:=hid p;obtain⟨d,W,d,d⟩:=S.o a p;obtain⟨g1,k⟩:=M (aL p B.c);clear hb p)|(have _:=l;go_at_call 404;refine D' (b.o _) λa hb=>?_;have p:Bl V a:=H (H l.o ay) hb;have c:=hid p;obtain⟨b,b,d,b⟩:=S.o a p;clear hb p)|(have _:=L;go_at_call 404;refine D' (f.o _) λX3 hb=>?_;have p:Bl V X3:=H (H L.o ay) hb;have l:=hid p;obtain⟨x0,x1,g,x3⟩:=S.o X3 p;clear hb p)|(have _:=D;go_at_call 404;refine D' (u.o _) λX hb=>?_;have p:Bl V X:=H (H D.o ay) hb;have L:=hid p;obtain⟨o0,o1,o2,o3⟩:=S.o X p;clear hb p)|(go_at_call 404;refine D' (H1.o _) λX1 hb=>?_;have p:Bl V X1:=H ay hb;have D:=hid p;obtain⟨p0,p1,p2,p3⟩:=S.o X1 p;clear hb p))
 all_goals
  have l:=Y;exact Yp
section
variable {i b t:Nat}
structure PE where
  r:Bool
  a0:VV
  a1:VV
  a2:VV
  a3:VV
  a4:VV
  a5:VV
  a6:VV
  a7:VV
def VV.z:VV:=⟨P',0,0⟩
def PE.zero:PE:=⟨P',VV.z,VV.z,VV.z,VV.z,VV.z,VV.z,VV.z,VV.z⟩
def PE.at(e:PE)(i:Nat):VV:=if i=0 then e.a0 else if i=1 then e.a1 else if i=2 then e.a2 else if i=3 then e.a3 else if i=4 then e.a4 else if i=5 then e.a5 else if i=6 then e.a6 else if i=7 then e.a7 else VV.z
def PE.put(e:PE)(i:Nat)(x:VV):PE:=⟨e.r,if i=0 then x else e.a0,if i=1 then x else e.a1,if i=2 then x else e.a2,if i=3 then x else e.a3,if i=4 then x else e.a4,if i=5 then x else e.a5,if i=6 then x else e.a6,if i=7 then x else e.a7⟩
def KC.qv(x:VV):A':=l' #[j' x.any,G x.lo]
def KB.qv(x:VV):A':=l' #[G x.lo,G x.hi]
def KC.aU(e:PE):List A':=[j' e.r,j' e.a0.any,G e.a0.lo,j' e.a1.any,G e.a1.lo,j' e.a2.any,G e.a2.lo,j' e.a3.any,G e.a3.lo,j' e.a4.any,G e.a4.lo,j' e.a5.any,G e.a5.lo,j' e.a6.any,G e.a6.lo,j' e.a7.any,G e.a7.lo]
def KB.aU(e:PE):List A':=[j' e.r,G e.a0.lo,G e.a0.hi,G e.a1.lo,G e.a1.hi,G e.a2.lo,G e.a2.hi,G e.a3.lo,G e.a3.hi,G e.a4.lo,G e.a4.hi,G e.a5.lo,G e.a5.hi,G e.a6.lo,G e.a6.hi,G e.a7.lo,G e.a7.hi]
def ZV(h:i<8):i=0\/i=1\/i=2\/i=3\/i=4\/i=5\/i=6\/i=7:=I
def KC.jw(e:PE)(h:i<8):(KC.aU e)[1+i*2]?=B' (j' (e.at i).any)/\(KC.aU e)[1+i*2+1]?=B' (G (e.at i).lo):=by rcases ZV h with rfl|rfl|rfl|rfl|rfl|rfl|rfl|rfl<;>exact⟨rfl,rfl⟩
def KC.sX(e:PE)(h:i<8)(x:VV):((KC.aU e).toArray.setIfInBounds (1+i*2) (j' x.any)).setIfInBounds (1+i*2+1) (G x.lo)=θ (KC.aU (e.put i x)):=by rcases ZV h with rfl|rfl|rfl|rfl|rfl|rfl|rfl|rfl<;>rfl
def Yk{p:Prop}(h:p:=by
 rcases R with rfl|rfl|rfl|rfl|rfl|rfl|rfl|rfl|rfl|rfl|rfl|rfl|rfl|rfl|rfl|rfl|rfl<;>rfl):p:=h
def KC.sY(e:PE):∀v∈KC.aU e,v.oneCell'=O':=by intro v R;simp only[KC.aU,dr,ke,jf]at R;exact Yk
def KC.bH(e:PE):(KC.aU e).toArray.all (·.oneCell')=O':=all_oneCell_toArray (KC.sY e)
def KB.jw(e:PE)(h:i<8):(KB.aU e)[1+i*2]?=B' (G (e.at i).lo)/\(KB.aU e)[1+i*2+1]?=B' (G (e.at i).hi):=by rcases ZV h with rfl|rfl|rfl|rfl|rfl|rfl|rfl|rfl<;>exact⟨rfl,rfl⟩
def KB.sX(e:PE)(h:i<8)(x:VV):((KB.aU e).toArray.setIfInBounds (1+i*2) (G x.lo)).setIfInBounds (1+i*2+1) (G x.hi)=θ (KB.aU (e.put i x)):=by rcases ZV h with rfl|rfl|rfl|rfl|rfl|rfl|rfl|rfl<;>rfl
def KB.sY(e:PE):∀v∈KB.aU e,v.oneCell'=O':=by intro v R;simp only[KB.aU,dr,ke,jf]at R;exact Yk
def KB.bH(e:PE):(KB.aU e).toArray.all (·.oneCell')=O':=all_oneCell_toArray (KB.sY e)
def PE.lg(e:PE){j:Nat}(h:i<8)(x:VV):(e.put i x).at j=if j=i then x else e.at j:=by
 by_cases f:j<8
 ·rcases ZV h with rfl|rfl|rfl|rfl|rfl|rfl|rfl|rfl<;>rcases ZV f with rfl|rfl|rfl|rfl|rfl|rfl|rfl|rfl<;>rfl
 have:∀e:PE,e.at j=VV.z:=λe=>by unfold PE.at;repeat rw[aA I]
 rw[this,this,aA I]
def ja(e:PE)(o:lU):VV:=if o.aS then e.at o.var.toNat else VV.one o.cq
def H!(w:u')(a b c d:Obj):((((w.alloc a).alloc b).alloc c).alloc d).1[δ w.1]?=B' a/\((((w.alloc a).alloc b).alloc c).alloc d).1[δ w.1+1]?=B' b/\((((w.alloc a).alloc b).alloc c).alloc d).1[δ w.1+2]?=B' c/\((((w.alloc a).alloc b).alloc c).alloc d).1[δ w.1+3]?=B' d:=by have h:=X2 (w.alloc a) b c d;have z:δ (w.alloc a).1=δ w.1+1:=ak;rw[z]at h;exact⟨aL gB bV,h.1,h.2.1,h.2.2⟩
def bG{L:List A'}(h:w.1[b]?=B' (c7 (θ L) t)):w.rangeAt b 0 L:=λj v R=>by rw[bW,(M h).1];simpa using R
def cY{n:Nat}{L:Array A'}(h:w.1[b]?=B' (c7 L t))(K:L.size=n):w.there b 0 n:=λj f=>by rw[bW];refine⟨?_,(M h).2 j⟩;rw[(M h).1,oQ I];rfl
def jI(b:Nat):∀(E:List A') (o:Nat) (w:u') (k:Nat),k≠b->(ψ w b o E).1[k]?=w.1[k]?
 |[],_,_,_,_=>rfl
 |v::r,o,w,k,h=>(jI b r (o+1) _ k h).trans (aJ h)
def E7{B:Nat}{u:u'}(b:Nat)(a:B<=b):∀(E:List A') (o:Nat) (w:u'),Below B u w->Below B u (ψ w b o E)
 |[],_,_,h=>h
 |v::r,o,w,h=>E7 b a r (o+1) _ (h.setCell a _)
def dF{a b c}:=@E7 a b c
def Mb(b t:Nat):∀(E p a:List A') (w:u') (o:Nat),o=ζ p->w.1[b]?=B' (k' (θ (p++a)) t (0,0))->ζ a=ζ E->(ψ w b o E).1[b]?=B' (k' (θ (p++E)) t (0,0))
 |[],p,a,w,o,_,h,hl=>by have:a=[]:=eq_nil_of_length_eq_zero hl;subst this;exact h
 |v::r,p,[],w,o,_,h,hl=>by simp at hl
 |v::r,p,d::a,w,o,c,h,hl=>by
  have C:(κ w (O b o) v).1[b]?=B' (k' (θ ((p++[v])++a)) t (0,0)):=by rw[aq h,c];simp
  have d:=Mb b t r (p++[v]) a _ (o+1) (by simp[c]) C (by simpa using hl);rw[ef]at d;exact d
def df{cs vs:List A'}(h:w.1[b]?=B' (c7 (θ cs) t))(X:ζ cs=ζ vs):(ψ w b 0 vs).1[b]?=B' (c7 (θ vs) t):=by have:=Mb b t vs [] cs w 0 rfl h X;simpa using this
def KC.Da:True:=trivial
abbrev KC.dM(x:VV):A':=j' x.any
abbrev KC.dL(x:VV):A':=G x.lo
abbrev KB.dM(x:VV):A':=G x.lo
abbrev KB.dL(x:VV):A':=G x.hi
abbrev KC.vx:List A':=[j' P',j' P',G 0,j' P',G 0,j' P',G 0,j' P',G 0,j' P',G 0,j' P',G 0,j' P',G 0,j' P',G 0]
abbrev KB.vx:List A':=[j' P',G 0,G 0,G 0,G 0,G 0,G 0,G 0,G 0,G 0,G 0,G 0,G 0,G 0,G 0,G 0,G 0]
abbrev KC.Ik:Array A':=u!
abbrev KB.Ik:Array A':=#[G 0,G 0]
abbrev KC.kV:Array A':=zW
abbrev KB.kV:Array A':=qL
abbrev KC.kU:=@underlying228
abbrev KC.qF1:=@func309
abbrev KC.qN2:=@ntmps309
abbrev KC.cA:Nat:=228
abbrev KC.i?:Nat:=225
abbrev KC.qF7:=@func340
abbrev KC.qN8:=@ntmps340
abbrev KC.qF9:=@func313
abbrev KC.aeE:=@ntmps313
abbrev KC.g! : Nat:=328
abbrev KC.aeT:=@func315
abbrev KC.aeD:=@ntmps315
abbrev KC.aeS:=@func308
abbrev KC.aeC:=@ntmps308
abbrev KC.xZ:Nat:=381
abbrev KC.aeR:=@func311
abbrev KC.aeB:=@ntmps311
abbrev KC.aeQ:=@func312
abbrev KC.aeA:=@ntmps312
abbrev KC.aeP:=@func316
abbrev KC.aez:=@ntmps316
abbrev KC.aeO:=@func317
abbrev KC.aey:=@ntmps317
abbrev KC.J?:Nat:=376
abbrev KC.aeN:=@func314
abbrev KC.aex:=@ntmps314
abbrev KC.OP:=@func274
abbrev KC.OO:=@ntmps274
abbrev KC.Wj:Nat:=316
abbrev KC.J! : Nat:=317
abbrev KC.Wi:Nat:=314
abbrev KC.Wh:Nat:=312
abbrev KC.Wg:Nat:=311
abbrev KC.Wf:Nat:=308
abbrev KC.aeZ:=@Tryz.call308
abbrev KC.aeY:=@Tryz.call311
abbrev KC.aeX:=@Tryz.call312
abbrev KC.aeW:=@Tryz.call314
abbrev KC.aeV:=@Tryz.call316
abbrev KC.abk:=@underlying226
abbrev KC.aeM:=@func273
abbrev KC.aew:=@ntmps273
abbrev KC.abm:Nat:=226
abbrev KC.aeL:=@func271
abbrev KC.aev:=@ntmps271
abbrev KC.aeK:=@func270
abbrev KC.aeu:=@ntmps270
abbrev KC.aeJ:=@func272
abbrev KC.aes:=@ntmps272
abbrev KC.aeI:=@func235
abbrev KC.aer:=@ntmps235
abbrev KC.abl:Nat:=222
abbrev KC.adY:Nat:=233
abbrev KC.adV:=@underlying229
abbrev KC.adU:=@underlying373
abbrev KC.aeH:=@func212
abbrev KC.aeq:=@ntmps212
abbrev KC.aen:Nat:=274
abbrev KC.OL:Nat:=270
abbrev KC.OJ:Nat:=272
abbrev KC.adX:Nat:=229
abbrev KC.sV:Nat:=375
abbrev KC.oG:Nat:=378
abbrev KC.adW:Nat:=373
abbrev KC.adT:=@underlying375
abbrev KC.adS:=@underlying222
abbrev KC.aeG:=@func210
abbrev KC.aep:=@ntmps210
abbrev KC.aeF:=@func163
abbrev KC.aeo:=@ntmps163
abbrev KC.aeU:=@Tryz.call235
abbrev KC.aem:Nat:=210
abbrev KC.abn:Nat:=235
abbrev KB.kU:=@underlying250
abbrev KB.qF1:=@func319
abbrev KB.qN2:=@ntmps319
abbrev KB.cA:Nat:=250
abbrev KB.i?:Nat:=247
abbrev KB.qF7:=@func341
abbrev KB.qN8:=@ntmps341
abbrev KB.qF9:=@func323
abbrev KB.aeE:=@ntmps323
abbrev KB.g! : Nat:=331
abbrev KB.aeT:=@func325
abbrev KB.aeD:=@ntmps325
abbrev KB.aeS:=@func318
abbrev KB.aeC:=@ntmps318
abbrev KB.xZ:Nat:=386
abbrev KB.aeR:=@func321
abbrev KB.aeB:=@ntmps321
abbrev KB.aeQ:=@func322
abbrev KB.aeA:=@ntmps322
abbrev KB.aeP:=@func326
abbrev KB.aez:=@ntmps326
abbrev KB.aeO:=@func327
abbrev KB.aey:=@ntmps327
abbrev KB.J?:Nat:=338
abbrev KB.aeN:=@func324
abbrev KB.aex:=@ntmps324
abbrev KB.OP:=@func279
abbrev KB.OO:=@ntmps279
abbrev KB.Wj:Nat:=326
abbrev KB.J! : Nat:=327
abbrev KB.Wi:Nat:=324
abbrev KB.Wh:Nat:=322
abbrev KB.Wg:Nat:=321
abbrev KB.Wf:Nat:=318
abbrev KB.aeZ:=@Tryz.call318
abbrev KB.aeY:=@Tryz.call321
abbrev KB.aeX:=@Tryz.call322
abbrev KB.aeW:=@Tryz.call324
abbrev KB.aeV:=@Tryz.call326
abbrev KB.abk:=@underlying248
abbrev KB.aeM:=@func278
abbrev KB.aew:=@ntmps278
abbrev KB.abm:Nat:=248
abbrev KB.aeL:=@func276
abbrev KB.aev:=@ntmps276
abbrev KB.aeK:=@func275
abbrev KB.aeu:=@ntmps275
abbrev KB.aeJ:=@func277
abbrev KB.aes:=@ntmps277
abbrev KB.aeI:=@func239
abbrev KB.aer:=@ntmps239
abbrev KB.abl:Nat:=244
abbrev KB.adY:Nat:=242
abbrev KB.adV:=@underlying238
abbrev KB.adU:=@underlying335
abbrev KB.aeH:=@func213
abbrev KB.aeq:=@ntmps213
abbrev KB.aen:Nat:=279
abbrev KB.OL:Nat:=275
abbrev KB.OJ:Nat:=277
abbrev KB.adX:Nat:=238
abbrev KB.sV:Nat:=337
abbrev KB.oG:Nat:=340
abbrev KB.adW:Nat:=335
abbrev KB.adT:=@underlying337
abbrev KB.adS:=@underlying244
abbrev KB.aeG:=@func216
abbrev KB.aep:=@ntmps216
abbrev KB.aeF:=@func166
abbrev KB.aeo:=@ntmps166
abbrev KB.aeU:=@Tryz.call239
abbrev KB.aem:Nat:=216
abbrev KB.abn:Nat:=239
end
section
def qs1{p:Prop}(h:p:=by
 have Q:(k:Int)<8:=I;simp only[KC.qv,KB.qv];go_enter qF1,qN2;go_upto_region 1 with fail
 have B:J ((((w.alloc (k' (θ (aU e)) cA)).alloc (k' #[(dM x),(dL x)] i?)).alloc (k' kV cA)).1[δ w.1]?=B' (k' (θ (aU e)) cA (0,0))/\(((w.alloc (k' (θ (aU e)) cA)).alloc (k' #[(dM x),(dL x)] i?)).alloc (k' kV cA)).1[δ w.1+1]?=B' (k' #[(dM x),(dL x)] i? (0,0))/\(((w.alloc (k' (θ (aU e)) cA)).alloc (k' #[(dM x),(dL x)] i?)).alloc (k' kV cA)).1[δ w.1+2]?=B' (k' (θ (vx)) cA (0,0))/\Below w.1.size w (((w.alloc (k' (θ (aU e)) cA)).alloc (k' #[(dM x),(dL x)] i?)).alloc (k' kV cA))):=by obtain⟨s,v,b⟩:=X2 w (k' (θ (aU e)) cA) (k' #[(dM x),(dL x)] i?) (k' kV cA);exact⟨s,v,b,gB⟩
 generalize(((w.alloc (k' (θ (aU e)) cA)).alloc (k' #[(dM x),(dL x)] i?)).alloc (k' kV cA))=V at B⊢;obtain⟨E,g⟩:=M B.a;obtain⟨c,d⟩:=M B.b;have t:χ V (O w.1.size (1+k*2))=B' (dM (e.at k)):=by rw[E];exact(eu ..).trans (jw e hk).1
 have Y:χ V (O w.1.size (1+k*2+1))=B' (dL (e.at k)):=by rw[E];exact(eu ..).trans (jw e hk).2
 clear E;go_upto_region 2 with fail
 have X:J ((κ (κ V (O w.1.size (1+k*2)) (dM x)) (O w.1.size (1+k*2+1)) (dL x)).1[δ w.1]?=B' (k' (θ (aU (e.put k x))) cA (0,0))/\(κ (κ V (O w.1.size (1+k*2)) (dM x)) (O w.1.size (1+k*2+1)) (dL x)).1[δ w.1+2]?=B' (k' (θ (vx)) cA (0,0))/\Below w.1.size w (κ (κ V (O w.1.size (1+k*2)) (dM x)) (O w.1.size (1+k*2+1)) (dL x))):=by refine⟨?_,((aJ (by show δ w.1+2≠δ w.1;omega)).trans (aJ (by show δ w.1+2≠δ w.1;omega))).trans B.c,(B.C.setCell aF _).setCell aF _⟩;rw[aq (aq B.a _) _,sX e hk]
 generalize(κ (κ V (O w.1.size (1+k*2)) (dM x)) (O w.1.size (1+k*2+1)) (dL x))=q at X⊢;obtain⟨V,b⟩:=Ea (e.put k x);rw[<-b]at X;have f:=hid b;clear g c d t Y b;have U:=cY (n:=17) X.b rfl;go_wp2_with (first|(refine wpList_load_mid rfl cA (.tmp 3) rfl w.1.size 0 rfl (aU V) _ (bG X.a) kU rfl au ?_)|(refine wpList_store_mid rfl cA (.tmp 6) (.tmp 11) rfl (δ w.1+1+1) 0 (θ (aU V)) rfl rfl U au (bH _) ?_));have b:=df X.b (vs:=aU V) rfl;have C:=run_loadVar_mid (P:=Tryz.prog) (ψ q (δ w.1+1+1) 0 (aU V)) (δ w.1+1+1) 0 cA (aU V) _ (bG b) kU rfl au
 refine aC (v:=l' (θ (aU V))) (by simp[results,results309,results319,C,Act.put,asAddr]) rfl ⟨by rw[f.o],dF I _ _ _ X.B⟩):p:=h
open KC in
def KC.kA(e:PE)(k:Nat)(x:VV)(w:World)(hk:k<8):
 Cl 309 #[.agg (θ (KC.aU e)),G k,KC.qv x] w (Rb w (.agg (θ (KC.aU (e.put k x))))):=by exact qs1
open KB in
def KB.kA(e:PE)(k:Nat)(x:VV)(w:World)(hk:k<8):
 Cl 319 #[.agg (θ (KB.aU e)),G k,KB.qv x] w (Rb w (.agg (θ (KB.aU (e.put k x))))):=by exact qs1
end
def KC.vu (w : u') : (nilAhead 605 328 (l' #[]) "warrant/rules.compute").run Tryz.prog w = .ok (B' P') w := by kernel_rfl
def KB.vu (w : u') : (nilAhead 605 331 (l' #[]) "warrant/rules.compute").run Tryz.prog w = .ok (B' P') w := by kernel_rfl
def KC.x5 (w : u') : (nilAhead 605 328 (l' #[]) "warrant/rules.assume").run Tryz.prog w = .ok (B' P') w := by kernel_rfl
def KB.x5 (w : u') : (nilAhead 605 331 (l' #[]) "warrant/rules.assume").run Tryz.prog w = .ok (B' P') w := by kernel_rfl
def KC.FH (w : u') : (nilAhead 605 328 (l' #[]) "warrant/rules.meet").run Tryz.prog w = .ok (B' P') w := by kernel_rfl
def KB.FH (w : u') : (nilAhead 605 331 (l' #[]) "warrant/rules.meet").run Tryz.prog w = .ok (B' P') w := by kernel_rfl
def KC.FI (w : u') : (nilAhead 605 328 (l' #[]) "warrant/rules.join").run Tryz.prog w = .ok (B' P') w := by kernel_rfl
def KB.FI (w : u') : (nilAhead 605 331 (l' #[]) "warrant/rules.join").run Tryz.prog w = .ok (B' P') w := by kernel_rfl
def KC.Bj (w : u') : (nilAhead 605 328 (l' #[]) "warrant/rules.below").run Tryz.prog w = .ok (B' P') w := by kernel_rfl
def KB.Bj (w : u') : (nilAhead 605 331 (l' #[]) "warrant/rules.below").run Tryz.prog w = .ok (B' P') w := by kernel_rfl
def KC.nE (w : u') : (method 605 328 (l' #[]) "warrant/rules.constant").run Tryz.prog w = .ok (385, l' #[]) w := by kernel_rfl
def KB.nE (w : u') : (method 605 331 (l' #[]) "warrant/rules.constant").run Tryz.prog w = .ok (392, l' #[]) w := by kernel_rfl
def KC.Bk (w : u') : (method 605 328 (l' #[]) "warrant/rules.input").run Tryz.prog w = .ok (386, l' #[]) w := by kernel_rfl
def KB.Bk (w : u') : (method 605 331 (l' #[]) "warrant/rules.input").run Tryz.prog w = .ok (393, l' #[]) w := by kernel_rfl
def KC.vw (w : u') : (method 605 328 (l' #[]) "warrant/rules.compute").run Tryz.prog w = .ok (384, l' #[]) w := by kernel_rfl
def KB.vw (w : u') : (method 605 331 (l' #[]) "warrant/rules.compute").run Tryz.prog w = .ok (391, l' #[]) w := by kernel_rfl
def KC.x6 (w : u') : (method 605 328 (l' #[]) "warrant/rules.assume").run Tryz.prog w = .ok (382, l' #[]) w := by kernel_rfl
def KB.x6 (w : u') : (method 605 331 (l' #[]) "warrant/rules.assume").run Tryz.prog w = .ok (389, l' #[]) w := by kernel_rfl
def KC.FJ (w : u') : (method 605 328 (l' #[]) "warrant/rules.meet").run Tryz.prog w = .ok (388, l' #[]) w := by kernel_rfl
def KB.FJ (w : u') : (method 605 331 (l' #[]) "warrant/rules.meet").run Tryz.prog w = .ok (395, l' #[]) w := by kernel_rfl
def KC.FK (w : u') : (method 605 328 (l' #[]) "warrant/rules.join").run Tryz.prog w = .ok (387, l' #[]) w := by kernel_rfl
def KB.FK (w : u') : (method 605 331 (l' #[]) "warrant/rules.join").run Tryz.prog w = .ok (394, l' #[]) w := by kernel_rfl
def KC.Bm (w : u') : (method 605 328 (l' #[]) "warrant/rules.below").run Tryz.prog w = .ok (383, l' #[]) w := by kernel_rfl
def KB.Bm (w : u') : (method 605 331 (l' #[]) "warrant/rules.below").run Tryz.prog w = .ok (390, l' #[]) w := by kernel_rfl
def Yj{p:Prop}(h:p:=by
 exact((H gB U.o).setCell H' _).setCell H' _):p:=h
def KC.jv(e:PE)(o:lU)(w:u')(a:o.aS=O'->0<=o.var/\o.var<8):
  Cl 310 #[.iface 328 (l' #[]),l' (θ (KC.aU e)),l' #[j' o.aS,G o.var,G o.cq]] w (Rb w (KC.qv (ja e o))):=by
 obtain⟨y,q,c⟩:=o;simp only[ja]at a⊢;cases y
 ·have Y:=hid (λW=>KI (l' #[]) c W rfl);have d:=KC.nE;go_enter func310,ntmps310;go_wp2_with (go_at_call 385;refine E' (Y.o _) λt U=>?_;have E:=M (aL U.o D!.2.2));have R:=(M (aq (o:=1) (aq (o:=0) (aL U.o D!.2.2) (j' (VV.one c).any)) (G (VV.one c).lo))).1;simp only[VV.one]at R;refine aC (v:=KC.qv (VV.one c)) (by simp[results310,go_sem,R,KC.qv,VV.one]) rfl ⟨ak,?_⟩;exact Yj
 obtain⟨k,rfl⟩:∃k:Nat,q=(k:Int):=⟨q.toNat,J' ((a rfl).1)⟩;have b:k<8:=by have:=(a rfl).2;omega
 have Q:(k:Int)<8:=I;clear a;go_enter func310,ntmps310;go_upto_region 2 with fail
 have B:=hid (A (X2 w (k' (θ (KC.aU e)) 228) (sw k c) (k' u! 225)) (nS w (k' (θ (KC.aU e)) 228) (sw k c) (k' u! 225)));generalize((w.alloc (k' (θ (KC.aU e)) 228)).alloc (sw k c)).alloc (k' u! 225)=V at B⊢;have E:=M B.a.1;have a:=M B.a.2.1;have W:=M B.a.2.2;have t:χ V (O w.1.size (1+k*2))=B' (j' (e.at k).any):=by rw[E.1];exact(eu ..).trans (KC.jw e b).1
 have Y:χ V (O w.1.size (1+k*2+1))=B' (G (e.at k).lo):=by rw[E.1];exact(eu ..).trans (KC.jw e b).2
 clear E;go_wp2;refine aC (v:=KC.qv (e.at k)) (by simp[results310,go_sem,(M (aq (o:=1) (aq (o:=0) B.a.2.2 (j' (e.at k).any)) (G (e.at k).lo))).1,KC.qv]) rfl ⟨ak,?_⟩;exact(B.A.setCell H' _).setCell H' _
def KB.jv(e:PE)(o:lU)(w:u')(a:o.aS=O'->0<=o.var/\o.var<8):
  Cl 320 #[.iface 331 (l' #[]),l' (θ (KB.aU e)),l' #[j' o.aS,G o.var,G o.cq]] w (Rb w (KB.qv (ja e o))):=by
 obtain⟨y,q,c⟩:=o;simp only[ja]at a⊢;cases y
 ·have Y:=hid (λW=>Lq (l' #[]) c W rfl);have d:=KB.nE;simp only[eK]at Y;go_enter func320,ntmps320;go_wp2_with (go_at_call 392;refine E' (Y.o _) λt U=>?_;have E:=M (aL U.o D!.2.2));have R:=(M (aq (o:=1) (aq (o:=0) (aL U.o D!.2.2) (G (VV.one c).lo)) (G (VV.one c).hi))).1;simp only[VV.one]at R;refine aC (v:=KB.qv (VV.one c)) (by simp[results320,go_sem,R,KB.qv,VV.one]) rfl ⟨ak,?_⟩;exact Yj
 obtain⟨k,rfl⟩:∃k:Nat,q=(k:Int):=⟨q.toNat,J' ((a rfl).1)⟩;have b:k<8:=by have:=(a rfl).2;omega
 have Q:(k:Int)<8:=I;clear a;go_enter func320,ntmps320;go_upto_region 2 with fail
 have B:=hid (A (X2 w (k' (θ (KB.aU e)) 250) (sw k c) iG) (nS w (k' (θ (KB.aU e)) 250) (sw k c) iG));generalize((w.alloc (k' (θ (KB.aU e)) 250)).alloc (sw k c)).alloc iG=V at B⊢;have E:=M B.a.1;have a:=M B.a.2.1;have W:=M B.a.2.2;have t:χ V (O w.1.size (1+k*2))=B' (G (e.at k).lo):=by rw[E.1];exact(eu ..).trans (KB.jw e b).1
 have Y:χ V (O w.1.size (1+k*2+1))=B' (G (e.at k).hi):=by rw[E.1];exact(eu ..).trans (KB.jw e b).2
 clear E;go_wp2;refine aC (v:=KB.qv (e.at k)) (by simp[results320,go_sem,(M (aq (o:=1) (aq (o:=0) B.a.2.2 (G (e.at k).lo)) (G (e.at k).hi))).1,KB.qv]) rfl ⟨ak,?_⟩;exact(B.A.setCell H' _).setCell H' _
