import Derived.Test.YtmipbiligijcpaaGreatDoorA05
namespace Go.Proofs.YtmipbiligijcpaaGreatDoor
set_option linter.all false
set_option maxHeartbeats 0
set_option maxRecDepth 99999
open Go.RowKit Go.Shelf Go.Proofs Go.Maps Tryz List open List renaming length->ζ,toArray->θ open _root_.Array renaming size->δ open World renaming setCell->κ,cell?->χ,setCells->ψ open Value renaming slice->g',bool->h',agg->j',string->k',pointer->m',tuple->o' open Obj renaming cells->i' open Ending renaming returned->n' open Option renaming some->z',none->A' open Bool renaming true->N',false->O'
variable {b i q t:Nat}{p:Prop}{w:p'}
section
attribute [local go_sem] Oper.semAt_some
def vP{s:BS}(pre:List<|mC s):List Nat:=pre.map Subtype.val
def tp{s:BS}(p:List<|mC s)(x:mC s):vP (p++[x])=vP p++[x.1]:=by simp[vP]
def TL{β:Type}{B k:Nat}(o:β->Obj)(a:k<B):OwnFrom B λ(s:β) W=>W.1[k]?=z' (o s):=λs W a q y b a=>(b.block k (blt y) λe=>I' ((a k e.symm).1)).trans y
def jU{W a:p'}(h:Bl W a):KeepsOthers W a:=⟨h.size,λk o a _=>(h.block k<|blt a).trans a⟩
end
section
variable {x:Int}
def Tg:Tryz.prog.cellsOf 225=2:=M
def agy:Tryz.prog.cellsOf 4=1:=M
def afz:Tryz.prog.cellsOf 2=1:=M
def ack:Tryz.prog.keyTypeAt 5 225=N':=M
def S6(h:aN x=N'):(Lit.int .i64 x).wf=N':=by unfold aN at h;simp only[aY,bM]at h;simpa[Lit.wf,IntKind.min,IntKind.max,IntKind.signed,IntKind.bits]using h
def MZ(a:Bool)(h:aN x=true):Tryz.prog.keyLits 5 225 [.bool a,.int .i64 x]=some [.bool a,.int .i64 x]:=by simp[Program.keyLits,underlying225,underlying4,underlying2,Tg,agy,afz,S6 h]
def Tf(a c:Bool)(x y:Int)(F:aN x=true)(B:aN y=true)(w:World):(binOp .eql 225 (.agg #[.bool a,G x])<|.agg #[.bool c,G y]).run Tryz.prog w=.ok (.bool<|a==c&&x==y) w:=by
 rw[run_eql_struct];obtain⟨r,b,S⟩:=II (P:=Tryz.prog) 9995 5 225 ack w 5 5 (.agg #[.bool a,G x]) (.agg #[.bool c,G y]) _ _ M M (MZ a F)<|MZ c B;have:r=(a==c&&x==y):=by rw[cC,S];simp
 rw[<-this];simp only[Nat.reduceAdd]at b;rw[b];rfl
def Kk(r:y')(c:Int)(w:p')(b:r=j' #[]):
  Cl 385 #[r,G c] w (Rb w<|j'<|om c):=by
 subst b;go_enter func385,ntmps385;go_wp2_with fail;refine aE (v:=j'<|om c) (by simp[results385,go_sem]) rfl ⟨rfl,dH⟩
def Kj(r:y')(w:p')(b:r=j' #[]):
  Cl 386 #[r] w (Rb w<|j' r5):=by
 subst b;go_enter func386,ntmps386;go_wp2_with fail;refine aE (v:=j' r5) (by simp[results386,go_sem]) rfl ⟨rfl,dH⟩
def Pq(r:y')(a b:Bool)(x y:Int)(w:p')(c:r=j' #[]):
  Cl 388 #[r,j' #[h' a,G x],j' #[h' b,G y]] w (Rb w<|o' #[j' #[h' a,G x],h' N']):=by
 subst c;go_enter func388,ntmps388;go_wp2_with fail;refine aE (v:=o' #[j' #[h' a,G x],h' N']) (by simp[results388,go_sem]) rfl ⟨rfl,jb⟩
def Km(r:y')(a b:Bool)(x y:Int)(w:p')(d:r=j' #[])(F:aN x=N')(B:aN y=N'):
  Cl 383 #[r,j' #[h' a,G x],j' #[h' b,G y]] w (Rb w<|h' ((a==b&&x==y)||b)):=by
 subst d;have k:=λw=>Tf a b x y F B w;clear F B;obtain⟨q,c⟩:=Ea ((a==b&&x==y));rw[<-c];simp only[<-c]at k;clear c;go_enter func383,ntmps383;cases q
 .go_wp2_with fail;go_ret;exact⟨ak,eD⟩
 go_wp2_with fail;go_ret;exact⟨ak,eD⟩
def Ps(r:y')(a b:Bool)(x y:Int)(w:p')(d:r=j' #[])(F:aN x=N')(B:aN y=N'):
  Cl 387 #[r,j' #[h' a,G x],j' #[h' b,G y]] w (Rb w<|if (a==b&&x==y) then j' #[h' a,G x] else j' r5):=by
 subst d;have k:=λw=>Tf a b x y F B w;clear F B;obtain⟨q,c⟩:=Ea ((a==b&&x==y));rw[<-c];simp only[<-c]at k;clear c;go_enter func387,ntmps387;cases q
 .go_wp2_with fail;refine aE (v:=j' r5) (by simp[results387,go_sem]) rfl ⟨rfl,jb⟩
 go_wp2_with fail;refine aE (v:=j' #[h' a,G x]) (by simp[results387,go_sem]) rfl ⟨rfl,jb⟩
def kcR(op:Int)(a b:Bool)(x y:Int):y'×Bool:=if op=3/\b=O'/\y=0 then(j' vm,O') else if a||b then(j' r5,N') else(j' #[h' O',G<|jQ op x y],wo op y)
def QS(h:p:=by
 go_wp2_with fail
 refine aE (v:=o' #[j' r5,h' N']) (by simp[results384,go_sem]) rfl ⟨rfl,by first|exact jb|exact K.o _ _ _ _ _⟩):p:=h
def QR(h:p:=by
 go_wp2_with (go_at_call 172;refine bP (g.o _) ?_;rintro e t ⟨rfl,rfl⟩)
 refine aE (v:=o' #[j'<|om f,h' l]) (by simp[results384,go_sem]) rfl ⟨rfl,by first|exact jb|exact K.o _ _ _ _ _⟩):p:=h
def Ze(h:p:=by
 obtain rfl:R=(j' r5,N'):=by rw[P.o];rfl
 go_enter func384,ntmps384;rcases N with N|rfl
 .exact QS
 cases d:(i==3)
 .exact QS
 exact QS):p:=h
def Dy(r:y')(i:Int)(a b:Bool)(x y:Int)(w:p')(d:r=j' #[])(F:aN x=N')(B:aN y=N'):
  Cl 384 #[r,G i,j' #[h' a,G x],j' #[h' b,G y]] w (Rb w<|o' #[(kcR i a b x y).1,h' (kcR i a b x y).2]):=by
 subst d;have k:=λw=>Tf b O' y 0 B rfl w;clear F B;obtain⟨q,c⟩:=Ea ((b==O'&&y==0));have S:J (q=N'↔(b=O'/\y=0)):=by rw[c];exact⟨λh=>H' h,λh=>H' h⟩
 simp only[<-c]at k;clear c;have g:=hid λW=>P8 i x y W;obtain⟨f,j⟩:=Ea<|jQ i x y;obtain⟨l,c⟩:=Ea<|wo i y;rw[<-j,<-c]at g;obtain⟨R,v⟩:=Ea<|kcR i a b x y;rw[<-v];have k:J (R=if i=3/\q=N' then(j' vm,O') else if a||b then(j' r5,N') else(j'<|om f,l)):=by show _=_;rw[v,j,c];simp only[kcR,S.o]
 clear j c v;have K:=hid λ(a b c d e:Obj)=>(rQ w a b c d).alloc G' e;by_cases T:i=3/\q=N'
 .obtain⟨rfl,rfl⟩:=T;obtain rfl:R=(j' vm,O'):=by rw[k.o];simp
  go_enter func384,ntmps384;go_wp2_with fail;refine aE (v:=o' #[j' vm,h' O']) (by simp[results384,go_sem]) rfl ⟨rfl,by first|exact jb|exact K.o _ _ _ _ _⟩
 have P:J (R=if a||b then(j' r5,N') else(j'<|om f,l)):=by show _=_;rw[k.o,aA T]
 have N:(i==3)=O'\/q=O':=by
  rcases Bool.eq_false_or_eq_true q with h|h
  .left;simp;intro e;exact T ⟨e,h⟩
  right;exact h
 clear T;cases a;rotate_left
 .exact Ze
 cases b
 .obtain rfl:R=(j'<|om f,l):=by rw[P.o];rfl
  go_enter func384,ntmps384;rcases N with N|rfl
  .exact QR
  cases d:(i==3)
  .exact QR
  exact QR
 exact Ze
def QQ(h:p:=by
 repeat(first|with_reducible exact aQ|with_reducible refine below_drewN ?_ _|with_reducible refine xD ?_|refine jI ?_ (by show _<=_;simp;try omega) _|refine lB ?_ (by first|(simp;done)|(simp;omega)) _)):p:=h
def GF(r:y')(R:Int)(g a b:Bool)(x y:Int)(w:p')(d:r=j' #[]):
  Cl 382 #[r,G R,h' g,j' #[h' a,G x],j' #[h' b,G y]] w (Rb w<|o' #[j' #[h' a,G x],j' #[h' b,G y],h'<|a||b||(oC R x y==g)]):=by
 subst d;have d:=hid λW=>Pz R x y W;obtain⟨h,V⟩:=Ea<|oC R x y;rw[<-V]at d|-;clear V;obtain⟨q,c⟩:=Ea ((a||b||(h==g)));rw[<-c];cases a;rotate_left
 .have S:J (q=N'):=c;clear c;go_enter func382,ntmps382;go_upto_region 2 with fail
  go_region_law fail
  all_goals
   go_wp2_with fail;refine aE (v:=o' #[j' #[h' N',G x],j' #[h' b,G y],h' N']) (by simp[results382,go_sem]) rfl ⟨by rw[S.o],?_⟩;exact QQ
 cases b;rotate_left
 .have S:J (q=N'):=c;clear c;go_enter func382,ntmps382;go_upto_region 2 with fail
  go_region_law fail
  all_goals
   go_wp2_with fail;refine aE (v:=o' #[j'<|om x,j' #[h' N',G y],h' N']) (by simp[results382,go_sem]) rfl ⟨by rw[S.o],?_⟩;exact QQ
 obtain⟨z,f⟩:=Ea ((h==g));have S:J (q=z):=by show _=_;rw[c,f];rfl
 clear c;have c:=hid f;clear f;go_enter func382,ntmps382;cases h<;>cases g
 all_goals
  go_upto_region 2 with(go_at_call 173;refine bP (d.o _) ?_;rintro e t ⟨rfl,rfl⟩)
  rw[c.o]at S
  go_region_law fail
  all_goals
   go_wp2_with fail
   first|refine aE (v:=o' #[j'<|om x,j'<|om y,h' N']) (by simp[results382,go_sem]) rfl ⟨by rw[S.o];rfl,?_⟩|refine aE (v:=o' #[j'<|om x,j'<|om y,h' O']) (by simp[results382,go_sem]) rfl ⟨by rw[S.o];rfl,?_⟩
   exact QQ
end
section
variable {W:p'}
abbrev BB:=Int×Int
def eL(a:BB):y':=j' #[G a.1,G a.2]
abbrev BR:=BB×BB×Bool
def z8(r:BR):y':=o' #[eL r.1,eL r.2.1,h' r.2.2]
def jn(a b:BB):BR:=(a,b,decide (a.1<=a.2)&&decide (b.1<=b.2))
def iM(a b:BB):BR:=if b.2=-9223372036854775808\/a.1=9223372036854775807 then((0,0),(0,0),O') else jn (a.1,min a.2 (b.2-1)) (max b.1 (a.1+1),b.2)
def lR(a b:BB):BR:=jn (a.1,min a.2 b.2) (max b.1 a.1,b.2)
def nQ(a b:BB):BB:=(max a.1 b.1,min a.2 b.2)
def kj(a b:BB):BR:=(nQ a b,nQ a b,decide ((nQ a b).1<=(nQ a b).2))
def fM(a b:BB):BR:=(a,b,!(a.1==b.1&&a.2==b.2)||!(a.1==a.2))
def Oa(r:BR):BR:=(r.2.1,r.1,r.2.2)
def cP(ts:Int)(so:Bool)(a b:BB):BR:=
 if ts=0 then(if so then iM a b else Oa (lR b a))
 else if ts=1 then(if so then lR a b else Oa (iM b a))
 else if ts=2 then(if so then kj a b else fM a b)
 else(if so then fM a b else kj a b)
structure dM(a:BB):Prop where
  lo:aN a.1=N'
  hi:aN a.2=N'
def Va(w:p')(a b c d e:Obj):Bl w (((((w.alloc a).alloc b).alloc c).alloc d).alloc e):=(rQ w a b c d).alloc G' _
def P7(r:y')(a b:BB)(w:p')(d:r=j' #[]):
  Cl 394 #[r,eL a,eL b] w (Rb w<|eL (min a.1 b.1,max a.2 b.2)):=by
 subst d;simp only[eL];go_enter func394,ntmps394;go_wp2_with fail;refine aE (v:=eL (min a.1 b.1,max a.2 b.2)) (by simp[results394,go_sem,eL]) rfl ⟨rfl,jb⟩
def zL(w:p'):
  Cl 406 #[] w (Rb w<|eL (-2^63,9223372036854775807)):=by
 go_enter func406,ntmps406;go_wp2_with fail;refine aE (v:=eL (-2^63,9223372036854775807)) (by simp[results406,go_sem,eL]) rfl ⟨rfl,bA⟩
def K9(r:y')(c:Int)(w:p')(b:r=j' #[]):
  Cl 392 #[r,G c] w (Rb w<|eL (c,c)):=by
 subst b;go_enter func392,ntmps392;go_wp2_with fail;refine aE (v:=eL (c,c)) (by simp[results392,go_sem,eL]) rfl ⟨rfl,dH⟩
def K7(r:y')(w:p')(b:r=j' #[]):
  Cl 393 #[r] w (Rb w<|eL (-9223372036854775808,9223372036854775807)):=by
 subst b;have T:=hid zL;simp only[eL]at T;go_enter func393,ntmps393;go_wp2_with (go_at_call 406;refine(T.o _).mono ?_;rintro e t ⟨rfl,a⟩;have E:=A<|aG a hJ.2;have U:=hid a;clear a);refine aE (v:=eL (-9223372036854775808,9223372036854775807)) (by simp[results,results393,go_sem,eL,(A<|H (o:=0) (aG U.o (bE w _ _).2)<|G (-9223372036854775808)).1,(A<|H (o:=1) (H (o:=0) (aG U.o (bE w _ _).2)<|G (-9223372036854775808))<|G 9223372036854775807).1]) rfl ⟨rfl,?_⟩;exact((aq dH U.o).setCell (by show _<=δ w.1+1;omega) _).setCell (by show _<=δ w.1+1;omega) _
def K?(r:y')(a b:BB)(w:p')(d:r=j' #[]):
  Cl 390 #[r,eL a,eL b] w (Rb w<|h' (decide (b.1<=a.1)&&decide (a.2<=b.2))):=by
 subst d;simp only[eL];by_cases h:b.1<=a.1
 .go_enter func390,ntmps390;go_wp2_with fail;go_ret;exact⟨by simp[h],eD⟩
 have D:decide (b.1<=a.1)=O':=by simp;omega
 rw[D,vi];go_enter func390,ntmps390;go_wp2_with fail;go_ret;exact⟨rfl,eD⟩
def Zd(h:p:=by
 repeat(first|with_reducible exact aQ|with_reducible refine below_drewN ?_ _|with_reducible refine xD ?_|refine jI ?_ (by show _<=_;simp;try omega) _|refine lB ?_ (by first|(simp;done)|(simp;omega)) _)):p:=h
def Cc(r:y')(a b:BB)(w:p')(d:r=j' #[]):
  Cl 395 #[r,eL a,eL b] w λe c=>e=n' (o' #[eL<|nQ a b,h' (decide ((nQ a b).1<=(nQ a b).2))])/\Bl w c:=by
 subst d;simp only[eL,nQ];go_enter func395,ntmps395;obtain⟨m,d⟩:=Ea (max a.1 b.1);obtain⟨n,K⟩:=Ea (min a.2 b.2);go_upto_region 2 with fail
 rw[<-d,<-K];have r:=hid<|Aa d K;clear d K
 go_region_law fail
 all_goals
  go_wp2_with fail;refine aE (v:=o' #[eL (m,n),h' (decide (m<=n))]) (by simp[results395,go_sem,eL]) rfl ⟨by rw[r.a,r.A];rfl,?_⟩;exact Zd
def adX(h:p:=by
 first|(have _:=kt)|(simp only[eL,z8,jn])
 obtain⟨N,g⟩:=a;obtain⟨l,o⟩:=b
 first|(have _:=kt;(have k:=λw=>adj N l g o ha.lo hb.lo ha.hi hb.hi w);clear ha hb;simp only[eL,z8,fM];obtain⟨q,hq⟩:=Ea (!(N==l&&g==o));simp only[<-hq]at k|-;clear hq;cases q)|(by_cases h:N<=g)
 .first|(have _:=kt;go_enter func400,ntmps400)|(go_enter func407,ntmps407)
  go_upto_region 1 with fail
  go_region_held3 (λw'=>χ w' (O w.1.size 0)=z' (G N)/\χ w' (O w.1.size 1)=z' (G g)/\χ w' (O (δ w.1+1) 0)=z' (G l)/\χ w' (O (δ w.1+1) 1)=z' (G o)) (go_keep) (fail)
  all_goals
   go_wp2_with fail
   first|(have _:=kt;refine aE (v:=o' #[j' #[G N,G g],j' #[G l,G o],h' (!(N==g))]) (by simp[results400,go_sem,bne]) rfl ⟨ak,?_⟩)|(refine aE (v:=o' #[eL (N,g),eL (l,o),h' (decide (l<=o))]) (by simp[results407,go_sem,eL]) rfl ⟨by simp[h,eL],?_⟩)
   repeat(first|with_reducible exact aQ|with_reducible refine below_drewN ?_ _|with_reducible refine xD ?_|refine jI ?_ (by show _<=_;simp;try omega) _|refine lB ?_ (by first|(simp;done)|(simp;omega)) _)
 first|(have _:=kt;go_enter func400,ntmps400)|((have D:decide (N<=g)=O':=by simp;omega);clear h;go_enter func407,ntmps407)
 go_upto_region 1 with fail
 refine wp_region_held_drew (S:=λw'=>χ w' (O w.1.size 0)=z' (G N)/\χ w' (O w.1.size 1)=z' (G g)/\χ w' (O (δ w.1+1) 0)=z' (G l)/\χ w' (O (δ w.1+1) 1)=z' (G o)) M (by(try dsimp only);go_keep) λf=>?_;refine wpAnyH_take (i:=0) (v:=j' #[G N,G g]) rfl M M M (λ_ _ _ h=>h) (aP ⟨by rfl,λw u=>by have j:=u;clear f;go_simp⟩) (f') ?_;refine pt ?_;refine wpAnyH_take (i:=1) (v:=j' #[G l,G o]) rfl M M M (λ_ _ _ h=>h) (aP ⟨by rfl,λw u=>by have j:=u;clear f;go_simp⟩) (f') ?_;refine pt ?_
 first|(have _:=kt;refine wpAnyH_take (i:=2) (v:=j' #[G N,G g]) rfl M M M (λ_ _ _ h=>h) (aP ⟨by rfl,λw u=>by have j:=u;clear f;go_simp⟩) (f') ?_)|(refine wpAnyH_take (i:=2) (v:=m'<|cV w.1.size) rfl M M M (λ_ _ _ h=>h) (aP ⟨by rfl,λw u=>by have j:=u;clear f;go_simp⟩) (f') ?_)
 refine pt ?_
 first|(have _:=kt;refine wpAnyH_take (i:=3) (v:=j' #[G l,G o]) rfl M M M (λ_ _ _ h=>h) (aP ⟨by rfl,λw u=>by have j:=u;clear f;go_simp⟩) (f') ?_)|(refine wpAnyH_take (i:=3) (v:=G N) rfl M M M (λ_ _ _ h=>h) (aP ⟨by rfl,λw u=>by have j:=u;clear f;go_simp⟩) (f') ?_)
 refine pt ?_
 first|(have _:=kt;refine wpAnyH_take (i:=4) (v:=h' N') rfl M M M (λ_ _ _ h=>h) (aP ⟨by rfl,λw u=>by have j:=u;clear f;go_simp⟩) (f') ?_)|(refine wpAnyH_take (i:=4) (v:=m'<|some<|O w.1.size 1) rfl M M M (λ_ _ _ h=>h) (aP ⟨by rfl,λw u=>by have j:=u;clear f;go_simp⟩) (f') ?_)
 refine pt ?_
 first|(have _:=kt;refine wpAnyH_take (i:=5) (v:=h' N') rfl M M M (λ_ _ _ h=>h) (aP ⟨by rfl,λw u=>by have j:=u;clear f;go_simp⟩) (f') ?_)|(refine wpAnyH_take (i:=5) (v:=G g) rfl M M M (λ_ _ _ h=>h) (aP ⟨by rfl,λw u=>by have j:=u;clear f;go_simp⟩) (f') ?_)
 refine pt ?_
 first|(have _:=kt;refine wpAnyH_take (i:=6) (v:=undef) rfl M M M (λ_ _ _ h=>h) (aR ⟨M,rfl⟩) (f') ?_)|(refine wpAnyH_take (i:=6) (v:=h' false) rfl M M M (λ_ _ _ h=>h) (aP ⟨by rfl,λw u=>by have j:=u;clear f;go_simp⟩) (f') ?_)
 refine pt ?_
 first|(have _:=kt;refine wpAnyH_take (i:=7) (v:=undef) rfl M M M (λ_ _ _ h=>h) (aR ⟨M,rfl⟩) (f') ?_)|(refine wpAnyH_take (i:=7) (v:=h' false) rfl M M M (λ_ _ _ h=>h) (aP ⟨by rfl,λw u=>by have j:=u;clear f;go_simp⟩) (f') ?_)
 refine pt ?_;refine wpAnyH_take (i:=8) (v:=undef) rfl M M M (λ_ _ _ h=>h) (aR ⟨M,rfl⟩) (f') ?_;refine pt ?_;refine wpAnyH_take (i:=9) (v:=undef) rfl M M M (λ_ _ _ h=>h) (aR ⟨M,rfl⟩) (f') ?_;refine pt ?_;refine wpAnyH_take (i:=10) (v:=undef) rfl M M M (λ_ _ _ h=>h) (aR ⟨M,rfl⟩) (f') ?_;refine pt ?_
 first|(have _:=kt;refine wpAnyH_take (i:=11) (v:=h' N') rfl M M M (λ_ _ _ h=>h) (aP ⟨by rfl,λw u=>by have j:=u;clear f;go_simp⟩) (f') ?_)|(refine wpAnyH_take (i:=11) (v:=undef) rfl M M M (λ_ _ _ h=>h) (aR ⟨M,rfl⟩) (f') ?_)
 refine pt ?_
 first|(have _:=kt;refine r1 12 λK k=>?_)|(refine wpAnyH_take (i:=12) (v:=undef) rfl M M M (λ_ _ _ h=>h) (aR ⟨M,rfl⟩) (f') ?_;refine pt ?_;refine wpAnyH_take (i:=13) (v:=h' O') rfl M M M (λ_ _ _ h=>h) (aP ⟨by rfl,λw u=>by have j:=u;clear f;go_simp⟩) (f') ?_;refine pt ?_;refine r1 14 λK k=>?_)
 go_simp;refine k.out _ _ (by(try dsimp only);go_keep) λf=>?_;clear k K;refine pt ?_
 first|(have _:=kt;refine r1 13 λK k=>?_)|(refine r1 15 λK k=>?_)
 go_simp;refine k.out _ _ (by(try dsimp only);go_keep) λf=>?_;clear k K;refine pt ?_
 first|(have _:=kt;refine tz 14 (h' N') ?_ (y:=aP ⟨by rfl,λw u=>by go_simp⟩))|(refine tz 16 (h' false) ?_ (y:=aP ⟨by rfl,λw u=>by go_simp⟩))
 refine wpAnyH_done M ?_ _;go_wp2_with fail
 first|(have _:=kt;refine aE (v:=o' #[j' #[G N,G g],j' #[G l,G o],h' N']) (by simp[results400,go_sem,bne]) rfl ⟨ak,?_⟩)|(refine aE (v:=o' #[eL (N,g),eL (l,o),h' O']) (by simp[results407,go_sem,eL]) rfl ⟨by simp only[D,eL,vi],?_⟩)
 repeat(first|with_reducible exact aQ|with_reducible refine below_drewN ?_ _|with_reducible refine xD ?_|refine jI ?_ (by show _<=_;simp;try omega) _|refine lB ?_ (by first|(simp;done)|(simp;omega)) _)):p:=h
def Ce(a b:BB)(w:p'):
  Cl 407 #[eL a,eL b] w (Rb w<|z8<|jn a b):=by
 exact adX
def Nz(a b:BB)(t:Bool)(w:p'):
  Cl 397 #[eL a,eL b,h' t] w (Rb w<|z8 (b,a,t)):=by
 simp only[eL,z8];go_enter func397,ntmps397;go_upto_region 1 with fail
 go_region_law fail
 all_goals
  go_wp2_with fail;refine aE (v:=z8 (b,a,t)) (by simp[results397,go_sem,eL,z8]) rfl ⟨rfl,?_⟩;exact Zd
def al4(w:p')(a b c d:Obj):((((w.alloc a).alloc b).alloc c).alloc d).1[δ w.1+2]?=z' c/\((((w.alloc a).alloc b).alloc c).alloc d).1[δ w.1+3]?=z' d:=by have h:=bE ((w.alloc a).alloc b) c d;have z:δ ((w.alloc a).alloc b).1=δ w.1+2:=ak;rw[z]at h;exact h
def rT{a b c d e}:=@al4 a b c d e
def RD{p t:Nat}{F E e f:y'}(U:W.1[p]?=z' (i' #[F,E] t (0,0)))(g:W.1[q]?=z' (i' #[e,f] t (0,0)))(z:p≠q)(a b c d:y'):
  (κ (κ (κ (κ W (O p 0) a) (O p 1) b) (O q 0) c) (O q 1) d).1[p]?=z' (i' #[a,b] t (0,0))/\(κ (κ (κ (κ W (O p 0) a) (O p 1) b) (O q 0) c) (O q 1) d).1[q]?=z' (i' #[c,d] t (0,0)):=by
 have C:(κ (κ W (O p 0) a) (O p 1) b).1[p]?=z' (i' #[a,b] t (0,0)):=by rw[H (H U _) _];rfl
 have c:(κ (κ W (O p 0) a) (O p 1) b).1[q]?=z' (i' #[e,f] t (0,0)):=((aJ z.symm).trans<|aJ z.symm).trans g;exact⟨((aJ z).trans<|aJ z).trans C,by rw[H (H c _) _];rfl⟩
def zK{w:p'}{p:Nat}{a b c d:y'}(h:Bl w W)(U:δ w.1<=p)(e:δ w.1<=q):Bl w (κ (κ (κ (κ W (O p 0) a) (O p 1) b) (O q 0) c) (O q 1) d):=(((h.setCell U _).setCell U _).setCell e _).setCell e _
def vW(a b:BB)(w:p'):
  Cl 398 #[eL a,eL b] w (Rb w<|z8<|lR a b):=by
 have c:=hid λW=>Ce (a.1,min a.2 b.2) (max b.1 a.1,b.2) W;have e:lR a b=jn (a.1,min a.2 b.2) (max b.1 a.1,b.2):=rfl;rw[e];obtain⟨⟨⟨r1,q⟩,⟨v,L⟩,f⟩,hr⟩:∃r,r=jn (a.1,min a.2 b.2) (max b.1 a.1,b.2):=⟨_,rfl⟩;rw[<-hr]at c|-;clear e hr;simp only[eL,z8]at c|-;have s:δ w.1+2≠δ w.1+3:=I;go_enter func398,ntmps398;go_wp2_with (go_at_call 407;refine(c.o _).mono ?_;rintro e t ⟨rfl,(U:J _)⟩;have E:=A<|aG U.o rT.1;have b:=A<|aG U.o rT.2);have b:=RD (aG U.o rT.1) (aG U.o rT.2) I (G r1) (G q) (G v)<|G L;refine aE (v:=o' #[j' #[G r1,G q],j' #[G v,G L],h' f]) (by simp[results398,go_sem,(A b.1).1,(A b.2).1]) rfl ⟨rfl,zK (aq jb U.o) I I⟩
def Zc(h:p:=by
 clear T;go_wp2_with fail
 refine aE (v:=.tuple #[.agg #[G 0,G 0],.agg #[G 0,G 0],.bool false]) (by simp[results,results396,go_sem]) rfl ⟨rfl,jb⟩):p:=h
def Cd(a b:BB)(w:p')(f:dM a)(g:dM b):
  Cl 396 #[eL a,eL b] w (Rb w<|z8<|iM a b):=by
 have c:=f.lo;have X:=g.hi;clear f g;by_cases T:b.2=-9223372036854775808\/a.1=9223372036854775807
 .have e:iM a b=((0,0),(0,0),false):=by unfold iM;rw[aD T]
  rw[e];simp only[eL,z8];obtain⟨N,p⟩:=a;obtain⟨k,o⟩:=b;simp only at T|-;clear e c X;go_enter func396,ntmps396;cases C:(o==-9223372036854775808)
  .have l:(N==9223372036854775807)=true:=by simp at C|-;omega
   exact Zc
  exact Zc
 have j:=hid λW=>Ce (a.1,min a.2 (b.2-1)) (max b.1 (a.1+1),b.2) W;have e:iM a b=jn (a.1,min a.2 (b.2-1)) (max b.1 (a.1+1),b.2):=by unfold iM;rw[aA T]
 rw[e];obtain⟨⟨⟨r1,q⟩,⟨v,L⟩,f⟩,hr⟩:∃r,r=jn (a.1,min a.2 (b.2-1)) (max b.1 (a.1+1),b.2):=⟨_,rfl⟩;rw[<-hr]at j|-;clear e hr;simp only[eL,z8]at j|-;obtain⟨N,p⟩:=a;obtain⟨k,o⟩:=b;simp only at T j c X|-;have C:(o==-9223372036854775808)=false:=by simp;omega
 have l:(N==9223372036854775807)=false:=by simp;omega
 have b:IntKind.i64.wrap (o-1)=o-1:=by unfold aN at X;simp only[aY,bM]at X;simp[IntKind.wrap,IntKind.bits,IntKind.signed]at *;omega
 have W:IntKind.i64.wrap (N+1)=N+1:=by unfold aN at c;simp only[aY,bM]at c;simp[IntKind.wrap,IntKind.bits,IntKind.signed]at *;omega
 clear T c X;have s:δ w.1+2≠δ w.1+3:=I;go_enter func396,ntmps396;go_wp2_with (go_at_call 407;refine(j.o _).mono ?_;rintro e t ⟨rfl,g⟩;have U:=hid g;clear g;have E:=A<|aG U.o rT.1;have b:=A<|aG U.o rT.2);have b:=RD (aG U.o rT.1) (aG U.o rT.2) I (G r1) (G q) (G v)<|G L;refine aE (v:=o' #[j' #[G r1,G q],j' #[G v,G L],h' f]) (by simp[results,results396,go_sem,(A b.1).1,(A b.2).1]) rfl ⟨rfl,zK (aq jb U.o) I I⟩
end
def Vb:Tryz.prog.cellsOf 247=2:=M
def adk:Tryz.prog.keyTypeAt 5 247=N':=M
def ND{x y:Int}(h:aN x=N')(s:aN y=N'):Tryz.prog.keyLits 5 247 [.int .i64 x,.int .i64 y]=z' [.int .i64 x,.int .i64 y]:=by simp[Program.keyLits,underlying247,underlying2,Vb,afz,S6 h,S6 s]
def adj(a c x y:Int)(d:aN a=N')(T:aN c=N')(F:aN x=N')(B:aN y=N')(w:p'):(binOp .neq 247 (j' #[G a,G x])<|j' #[G c,G y]).run Tryz.prog w=.ok (h' (!(a==c&&x==y))) w:=by
 rw[run_neq_struct];obtain⟨r,b,S⟩:=II (P:=Tryz.prog) 9995 5 247 adk w 5 5 (j' #[G a,G x]) (j' #[G c,G y]) _ _ M M (ND d F)<|ND T B;have:r=(a==c&&x==y):=by rw[cC,S];simp
 rw[<-this];simp only[Nat.reduceAdd]at b;rw[b];rfl
def Eb(a b:BB)(w:p')(ha:dM a)(hb:dM b):
  Cl 400 #[eL a,eL b] w (Rb w<|z8<|fM a b):=by
 have kt:=True.intro;exact adX
def K8(a b:BB)(w:p'):
  Cl 399 #[eL a,eL b] w (Rb w<|z8<|kj a b):=by
 have r:=hid λW=>Cc (j' #[]) a b W rfl;simp only[eL,z8,kj]at r|-;generalize(nQ a b).1=m at r|-;generalize(nQ a b).2=n at r|-;obtain⟨q,f⟩:=Ea (decide (m<=n));rw[<-f]at r|-;clear f;go_enter func399,ntmps399;go_upto_region 2 with(go_at_call 395;refine(r.o _).mono ?_;rintro e t ⟨rfl,(U:J _)⟩)
 generalize u:t.alloc (kr m n)=F;have b:J (Bl w F/\F.1[δ w.1+2]?=z' vq/\F.1[δ w.1+3]?=z' vq/\b' F t.1.size #[G m,G n] 247/\δ w.1+3<δ t.1):=by subst u;have a:=aq U.o<|cf t<|kr m n;exact⟨aq jb a,aG a rT.1,aG a rT.2,cv,blt<|aG U.o rT.2⟩
 clear u;have c:=b.D;generalize δ t.1=a at b c|-;have E:=A b.b;have c:=A b.c;have W:=A b.d;have s:δ w.1+2≠a:=I;have x:=s.symm;have c:δ w.1+3≠a:=I;have V:=c.symm;have d:δ w.1+2≠δ w.1+3:=I
 go_region_law fail
 all_goals
  go_wp2_with fail;have f:=RD b.b b.c I (G m) (G n) (G m)<|G n;have Q:∀(X:p')(o:Addr),χ X.drew o=χ X o:=λ_ _=>rfl;refine aE (v:=o' #[j' #[G m,G n],j' #[G m,G n],h' q]) (by simp[results399,go_sem,(A f.1).1,(A f.2).1]) rfl ⟨rfl,?_⟩
  first|exact(zK b.a I I).drew|exact zK b.a I I|exact below_drewN (zK b.a I I) _
def al5(w:p')(a b c d e:Obj):(((((w.alloc a).alloc b).alloc c).alloc d).alloc e).1[δ w.1+3]?=z' d/\(((((w.alloc a).alloc b).alloc c).alloc d).alloc e).1[δ w.1+4]?=z' e:=by have h:=al4 (w.alloc a) b c d e;have z:δ (w.alloc a).1=δ w.1+1:=ak;rw[z,Nat.add_right_comm,Nat.add_right_comm w.1.size 1 3]at h;exact h
def qs{a b c d e f}:=@al5 a b c d e f
def LP(h:p:=by
 have k:=RD (aG U.o qs.1) (aG U.o qs.2) I (G r1) (G q) (G v)<|G L
 refine aE (v:=o' #[j' #[G r1,G q],j' #[G v,G L],h' f]) (by simp[results389,go_sem,(A k.1).1,(A k.2).1]) rfl ⟨rfl,zK (aq (Va _ _ _ _ _ _) U.o) I I⟩):p:=h
def Zb(h:p:=by
 rw[e];have Y:=hid λW=>Eb a b W l c;obtain⟨⟨⟨r1,q⟩,⟨v,L⟩,f⟩,hr⟩:∃r,r=fM a b:=⟨_,rfl⟩;rw[<-hr]at Y|-;clear e hr l c;simp only[eL,z8]at Y|-;go_enter func389,ntmps389;go_wp2_with (go_at_call 400;refine(Y.o _).mono ?_;rintro e t ⟨rfl,c⟩;have U:=hid c;clear c;have E:=A<|aG U.o qs.1;have o:=A<|aG U.o qs.2)
 exact LP):p:=h
def Za(h:p:=by
 rw[e];have Y:=hid λW=>K8 a b W;obtain⟨⟨⟨r1,q⟩,⟨v,L⟩,f⟩,hr⟩:∃r,r=kj a b:=⟨_,rfl⟩;rw[<-hr]at Y|-;clear e hr l c;simp only[eL,z8]at Y|-;go_enter func389,ntmps389;go_wp2_with (go_at_call 399;refine(Y.o _).mono ?_;rintro e t ⟨rfl,c⟩;have U:=hid c;clear c;have E:=A<|aG U.o qs.1;have o:=A<|aG U.o qs.2)
 exact LP):p:=h
def Y!(h:p:=by
 have k:=RD (aG j.o qs.1) (aG j.o qs.2) I (G v) (G L) (G r1)<|G q
 refine aE (v:=o' #[j' #[G v,G L],j' #[G r1,G q],h' f]) (by simp[results389,go_sem,(A k.1).1,(A k.2).1]) rfl ⟨rfl,zK (aq (Va _ _ _ _ _ _) j.o) I I⟩):p:=h
def Hs(r:y')(R:Int)(g:Bool)(a b:BB)(w:p')(hr:r=j' #[])(l:dM a)(c:dM b):
  Cl 389 #[r,G R,h' g,eL a,eL b] w (Rb w<|z8<|cP R g a b):=by
 subst hr;have s:δ w.1+3≠δ w.1+4:=I;have x:=s.symm;cases D:(R==0);rotate_left
 .cases g
  .have e:cP R O' a b=Oa (lR b a):=by unfold cP;simp at *;simp[*]
   rw[e];have Y:=hid λW=>vW b a W;obtain⟨⟨⟨r1,q⟩,⟨v,L⟩,f⟩,hr⟩:∃r,r=lR b a:=⟨_,rfl⟩;rw[<-hr]at Y|-;have p:=hid λW=>Nz (r1,q) (v,L) f W;clear e hr l c;simp only[eL,z8,Oa]at Y p|-;go_enter func389,ntmps389;go_wp2_with (first|(have _:=U;go_at_call 397;refine(p.o _).mono ?_;rintro e F ⟨rfl,X⟩;have j:=hid<|aq U.o X;clear X;have E:=A<|aG j.o qs.1;have o:=A<|aG j.o qs.2)|(go_at_call 398;refine(Y.o _).mono ?_;rintro e t ⟨rfl,c⟩;have U:=hid c;clear c));exact Y!
  have e:cP R N' a b=iM a b:=by unfold cP;simp at *;simp[*]
  rw[e];have Y:=hid λW=>Cd a b W l c;obtain⟨⟨⟨r1,q⟩,⟨v,L⟩,f⟩,hr⟩:∃r,r=iM a b:=⟨_,rfl⟩;rw[<-hr]at Y|-;clear e hr l c;simp only[eL,z8]at Y|-;go_enter func389,ntmps389;go_wp2_with (go_at_call 396;refine(Y.o _).mono ?_;rintro e t ⟨rfl,c⟩;have U:=hid c;clear c;have E:=A<|aG U.o qs.1;have o:=A<|aG U.o qs.2);exact LP
 cases C:(R==1);rotate_left
 .cases g
  .have e:cP R O' a b=Oa (iM b a):=by unfold cP;simp at *;simp[*]
   rw[e];have Y:=hid λW=>Cd b a W c l;obtain⟨⟨⟨r1,q⟩,⟨v,L⟩,f⟩,hr⟩:∃r,r=iM b a:=⟨_,rfl⟩;rw[<-hr]at Y|-;have p:=hid λW=>Nz (r1,q) (v,L) f W;clear e hr l c;simp only[eL,z8,Oa]at Y p|-;go_enter func389,ntmps389;go_wp2_with (first|(have _:=U;go_at_call 397;refine(p.o _).mono ?_;rintro e F ⟨rfl,X⟩;have j:=hid<|aq U.o X;clear X;have E:=A<|aG j.o qs.1;have o:=A<|aG j.o qs.2)|(go_at_call 396;refine(Y.o _).mono ?_;rintro e t ⟨rfl,c⟩;have U:=hid c;clear c));exact Y!
  have e:cP R N' a b=lR a b:=by unfold cP;simp at *;simp[*]
  rw[e];have Y:=hid λW=>vW a b W;obtain⟨⟨⟨r1,q⟩,⟨v,L⟩,f⟩,hr⟩:∃r,r=lR a b:=⟨_,rfl⟩;rw[<-hr]at Y|-;clear e hr l c;simp only[eL,z8]at Y|-;go_enter func389,ntmps389;go_wp2_with (go_at_call 398;refine(Y.o _).mono ?_;rintro e t ⟨rfl,c⟩;have U:=hid c;clear c;have E:=A<|aG U.o qs.1;have o:=A<|aG U.o qs.2);exact LP
 cases j:(R==2)
 .cases g
  .have e:cP R O' a b=kj a b:=by unfold cP;simp at *;simp[*]
   exact Za
  have e:cP R N' a b=fM a b:=by unfold cP;simp at *;simp[*]
  exact Zb
 cases g
 .have e:cP R O' a b=fM a b:=by unfold cP;simp at *;simp[*]
  exact Zb
 have e:cP R N' a b=kj a b:=by unfold cP;simp at *;simp[*]
 exact Za
section
variable {a b:Int}
def f64{x:Int}:aN x=N'↔(-9223372036854775808<=x/\x<=9223372036854775807):=by unfold aN;simp
def Y9(h:p:=by
 have c:=k;rw[f64]at k;rw[jl]at c
 rw[c,eC h,dp (by unfold wrap64;omega)];rfl):p:=h
def Y8(h:p:=by
 have c:=k;rw[f64]at k;rw[jl]at c
 rw[c,dp h,eC (by unfold wrap64;omega)];rfl):p:=h
def V5(c:aN a=N')(d:aN b=N'):(decide (wrap64 (a+b)<a)==decide (b<0))=aN (a+b):=by
 rw[f64]at c d;by_cases h:b<0
 .by_cases k:aN (a+b)=N'
  .rw[k,cu k,eC h,eC I];rfl
  exact Y9
 by_cases k:aN (a+b)=N'
 .rw[k,cu k,dp h,dp I];rfl
 exact Y8
def Ya(c:aN a=N')(d:aN b=N'):(decide (a<wrap64 (a-b))==decide (b<0))=aN (a-b):=by
 rw[f64]at c d;by_cases h:b<0
 .by_cases k:aN (a-b)=N'
  .rw[k,cu k,eC h,eC I];rfl
  exact Y9
 by_cases k:aN (a-b)=N'
 .rw[k,cu k,dp h,dp I];rfl
 exact Y8
def vL(c:a≠0)(d:b≠0):decide (a*b<0)=(decide (a<0) !=decide (b<0)):=by
 rcases Int.lt_or_gt_of_ne c with C|C<;>rcases Int.lt_or_gt_of_ne d with c|c
 .have:=Int.mul_pos_of_neg_of_neg C c;rw[dp I,eC C,eC c];rfl
 .have:=Int.mul_neg_of_neg_of_pos C c;rw[eC this,eC C,dp I];rfl
 .have:=Int.mul_neg_of_pos_of_neg C c;rw[eC this,dp I,eC c];rfl
 have:=Int.mul_pos C c;rw[dp I,dp I,dp I];rfl
def WX(c:aN a=N')(e:aN b=N')(D:a≠0)(C:b≠0):(wrap64 ((wrap64<|a*b).tdiv b)==a&&(decide (wrap64 (a*b)<0)==(decide (a<0) !=decide (b<0))))=aN (a*b):=by
 by_cases d:b=-1;rotate_left
 .rw[BF e C d];by_cases k:aN (a*b)=N'
  .rw[k,cu k,vL D C];simp
  rw[jl]at k;rw[k];rfl
 subst d;rw[f64]at c;have e:a*-1=-a:=I;rw[e];by_cases F:a=-2^63
 .subst F;have u:wrap64 (- -2^63)=-2^63:=by unfold wrap64;omega
  have b:aN (- -2^63)=O':=by rw[rZ,ne_eq,f64];omega
  rw[u,b];simp
 have k:aN (-a)=N':=by rw[f64];omega
 have q:(-a).tdiv (-1)=a:=by rw[Cq,Lr];omega
 rw[k,cu k,q,cu<|by rw[f64];exact c];have:=vL (a:=a) (b:=-1) D aj;rw[e]at this;rw[this];simp
def XY(x:Int):y':=j' #[G<|wrap64 x,h'<|aN x]
def Hp(a b:Int)(w:p')(c:aN a=N')(d:aN b=N'):
  Cl 402 #[G a,G b] w (Rb w<|XY<|a+b):=by
 have v:=hid<|V5 c d;clear c d;go_enter func402,ntmps402;go_wp2_with fail;refine aE (v:=j' #[G<|wrap64<|a+b,h' (decide (wrap64 (a+b)<a)==decide (b<0))]) (by simp[results402,go_sem]) rfl ⟨by rw[v.o];rfl,bA⟩
def Hr(a b:Int)(w:p')(c:aN a=N')(d:aN b=N'):
  Cl 408 #[G a,G b] w (Rb w<|XY<|a-b):=by
 have v:=hid<|Ya c d;clear c d;go_enter func408,ntmps408;go_wp2_with fail;refine aE (v:=j' #[G<|wrap64<|a-b,h' (decide (a<wrap64 (a-b))==decide (b<0))]) (by simp[results408,go_sem]) rfl ⟨by rw[v.o];rfl,bA⟩
def Y?(h:p:=by
 go_enter func404,ntmps404;go_wp2_with fail
 refine aE (v:=j' #[G 0,h' N']) (by simp[results404,go_sem]) rfl ⟨by rw[e];rw[XY,LI];rfl,bA⟩):p:=h
def p!(a b:Int)(w:p')(c:aN a=N')(f:aN b=N'):
  Cl 404 #[G a,G b] w (Rb w<|XY<|a*b):=by
 cases D:(a==0);rotate_left
 .obtain rfl:a=0:=H' D;have e:=Int.zero_mul b;exact Y?
 cases C:(b==0);rotate_left
 .obtain rfl:b=0:=H' C;have e:=Int.mul_zero a;exact Y?
 have U:=H' D;have d:=H' C;have Y:=WX c f U d;clear c f U;obtain⟨n,K⟩:=Ea<|wrap64<|a*b;obtain⟨q,c⟩:=Ea ((wrap64 (n.tdiv b)==a));rw[<-K,<-c]at Y;have v:=hid Y;have S:=hid c;clear Y c;go_enter func404,ntmps404;cases q
 .have l:=S.o.symm;rw[K]at l;go_wp2_with fail;rw[<-K];refine aE (v:=j' #[G n,h' O']) (by simp[results404,go_sem]) rfl ⟨by rw[XY,<-K,<-v.o];rfl,bA⟩
 have l:=S.o.symm;rw[K]at l;go_wp2_with fail;rw[<-K];refine aE (v:=j' #[G n,h' (decide (n<0)==(decide (a<0) !=decide (b<0)))]) (by simp[results404,go_sem,bne]) rfl ⟨by rw[XY,<-K,<-v.o,eN],bA⟩
abbrev EX:=Int×Bool
def adF(w:p')(ao:t')(es:List EX):Prop:=∀j e,es[j]?=z' e->∃b o,ao=z' (O b o)/\χ w (O b<|o+j*2)=z' (G e.1)/\χ w (O b<|o+j*2+1)=z' (h' e.2)
def VE(s:Int×Int×Bool)(e:EX):Int×Int×Bool:=(min s.1 e.1,max s.2.1 e.1,s.2.2&&e.2)
def arR(s:Int×Int×Bool):BB:=if s.2.2 then(s.1,s.2.1) else(-9223372036854775808,9223372036854775807)
def acK(h:p:=by
 have X:=(aX.1 h).1;rw[ep X,(aX.1 h).2]
 simp):p:=h
def BZ{α β:Type}(f:β->α->β)(s:β){l:List α}{k:Nat}{x:α}(h:l[k]?=z' x):(l.take<|k+1).foldl f s=f ((l.take k).foldl f s) x:=by exact acK
def ph(x:EX)(d:List EX)(q:t')(c:Nat)(w:p')(h:adF w q d)(X:ζ d<=100):
  Cl 401 #[j' #[G x.1,h' x.2],g' q (ζ d) c] w λe a=>e=n' (eL<|arR<|d.foldl VE (x.1,x.1,x.2))/\Below w.1.size w a:=by
 obtain⟨g,q⟩:=x;have s:=hid h;clear h;obtain⟨k,a⟩:=Ea<|ζ d;rw[<-a]at X|-;have K:=hid a;clear a;have B:=hid zL;simp only[eL]at B|-;go_enter func401,ntmps401;go_upto_region 3 with fail
 generalize u:((w.alloc<|i' #[G g,h' q] 502).alloc iI).alloc (i' #[G g,G g] 247)=a;have U:J (Below w.1.size w a/\a.1[δ w.1+1]?=z' vq/\a.1[δ w.1+2]?=z' (i' #[G g,G g] 247 (0,0))):=by subst u;have h:=bE (w.alloc<|i' #[G g,h' q] 502) iI<|i' #[G g,G g] 247;have z:δ (w.alloc<|i' #[G g,h' q] 502).1=δ w.1+1:=ak;rw[z]at h;exact⟨eD,h.1,h.2⟩
 clear u;go_wp2_with fail;go_loopw[6,18] (λP y wr=>∃(j:Nat)(h S:Int)(f:Bool),j<=k/\y=G j/\P=h' f/\J ((h,S,f)=(d.take j).foldl VE (g,g,q)/\Below w.1.size w wr/\wr.1[δ w.1+1]?=z' vq/\wr.1[δ w.1+2]?=z' (i' #[G h,G S] 247 (0,0)))) (λ_ y _=>k-(intOf y).toNat)
 case atStart=>exact⟨0,g,g,q,bm,rfl,rfl,rfl,U.a,U.b,U.B⟩
 obtain⟨j,h,S,f,a,rfl,rfl,c⟩:=hrel;by_cases L:j<k;rotate_left
 .have a:¬(j:Int)<k:=I;have p:j=k:=I;have y:J ((h,S,f)=d.foldl VE (g,g,q)):=by show _=_;rw[c.a,p,K.o,jj]
  cases f
  .have i:=hid λW=>B.o W;have F:=c.c;go_wp2_with (go_at_call 406;refine(B.o _).mono ?_;rintro e t ⟨rfl,i⟩;have r:=hid i;clear i;have E:=A<|aG r.o c.c);refine aE (v:=eL (-9223372036854775808,9223372036854775807)) (by simp[results401,go_sem,eL,(A<|H (o:=1) (H (o:=0) (aG r.o c.c)<|G (-9223372036854775808))<|G 9223372036854775807).1]) rfl ⟨by rw[<-y.o];rfl,?_⟩;exact((c.b.trans<|r.o.mono c.b.size).setCell (by show _<=δ w.1+1;omega) _).setCell (by show _<=δ w.1+1;omega) _
  have E:=A c.c;have b:=A c.C;go_wp2_with fail;refine aE (v:=eL (h,S)) (by simp[results401,go_sem,eL,(A<|H (o:=1) (H (o:=0) c.c<|G h)<|G S).1]) rfl ⟨by rw[<-y.o];rfl,?_⟩;exact(c.b.setCell (by show _<=δ w.1+1;omega) _).setCell (by show _<=δ w.1+1;omega) _
 have a:(j:Int)<k:=I;obtain⟨⟨a,v⟩,l⟩:∃e,d[j]?=z' e:=⟨_,bj<|by rw[<-K.o];exact L⟩;obtain⟨b,o,rfl,T,Q⟩:=s.o j _ l;have e:χ wr (O b<|o+j*2)=z' (G a):=aB T c.b;have Y:χ wr (O b<|o+j*2+1)=z' (h' v):=aB Q c.b;have y:J ((min h a,max S a,f&&v)=(d.take<|j+1).foldl VE (g,g,q)):=by show _=_;rw[BZ _ _ l,<-c.a];rfl
 clear T Q l;have E:=A c.C;have D:=blt c.C;have s:δ wr.1≠δ w.1+2:=I;have x:=s.symm;go_upto_region 7 with fail
 generalize u:(κ (κ wr (O (δ w.1+1+1) 0)<|G (min h a)) (O (δ w.1+1+1) 1)<|G (max S a)).alloc (i' #[G a,h' v] 502)=t;have X:J (Below w.1.size w t/\t.1[δ w.1+1]?=z' vq/\t.1[δ w.1+2]?=z' (i' #[G (min h a),G (max S a)] 247 (0,0))/\t.1[δ wr.1]?=z' (i' #[G a,h' v] 502 (0,0))):=by
  subst u;have i:=cf (κ (κ wr (O (δ w.1+1+1) 0)<|G (min h a)) (O (δ w.1+1+1) 1)<|G (max S a))<|i' #[G a,h' v] 502;have C:Below w.1.size w (κ (κ wr (O (δ w.1+1+1) 0)<|G (min h a)) (O (δ w.1+1+1) 1)<|G (max S a)):=(c.b.setCell (by show _<=δ w.1+1+1;omega) _).setCell (by show _<=δ w.1+1+1;omega) _;have b:(κ (κ wr (O (δ w.1+1+1) 0)<|G (min h a)) (O (δ w.1+1+1) 1)<|G (max S a)).1[δ w.1+1]?=z' vq:=((aJ<|by show δ w.1+1≠δ w.1+1+1;omega).trans (aJ<|by show δ w.1+1≠δ w.1+1+1;omega)).trans c.c;have N:(κ (κ wr (O (δ w.1+1+1) 0)<|G (min h a)) (O (δ w.1+1+1) 1)<|G (max S a)).1[δ w.1+2]?=z' (i' #[G (min h a),G (max S a)] 247 (0,0)):=by rw[H (H c.C _) _];rfl
  have d:δ (κ (κ wr (O (δ w.1+1+1) 0)<|G (min h a)) (O (δ w.1+1+1) 1)<|G (max S a)).1=δ wr.1:=ak;refine⟨aq C i,aG i b,aG i N,?_⟩;have l:=cF (κ (κ wr (O (δ w.1+1+1) 0)<|G (min h a)) (O (δ w.1+1+1) 1)<|G (max S a))<|i' #[G a,h' v] 502;rw[d]at l;exact l
 clear u;clear E e Y;have E:=A X.C;cases f
 .go_wp2_with fail;go_roundw
  case rel=>exact⟨j+1,_,_,O',L,e',rfl,y.o,X.a,X.b,X.c⟩
  exact F'
 go_wp2_with fail;go_roundw
 case rel=>exact⟨j+1,_,_,v,L,e',rfl,y.o,X.a,X.b,X.c⟩
 exact F'
end
def b8(v:VV):BB:=(v.lo,v.hi)
def YA(a b:VV):arR (VE (wrap64<|a.lo+b.lo,wrap64<|a.lo+b.lo,aN<|a.lo+b.lo) (wrap64<|a.hi+b.hi,aN<|a.hi+b.hi))=b8 (ve a b):=by
 unfold arR VE ve vd b8;by_cases C:aN (a.lo+b.lo)=N';rotate_left
 .rw[jl]at C;simp[C,VV.all]
 by_cases c:aN (a.hi+b.hi)=N'
 .simp only[C,c,cu C,cu c,xq,dQ];generalize a.lo+b.lo=x;generalize a.hi+b.hi=y;simp[g!,VV.one];constructor<;>(repeat' split)<;>omega
 rw[jl]at c;simp[c,VV.all]
def Yy(a b:VV):arR (VE (wrap64<|a.lo-b.hi,wrap64<|a.lo-b.hi,aN<|a.lo-b.hi) (wrap64<|a.hi-b.lo,aN<|a.hi-b.lo))=b8 (ke a b):=by
 unfold arR VE ke vd b8;by_cases C:aN (a.lo-b.hi)=N';rotate_left
 .rw[jl]at C;simp[C,VV.all]
 by_cases c:aN (a.hi-b.lo)=N'
 .simp only[C,c,cu C,cu c,xq,dQ];generalize a.lo-b.hi=x;generalize a.hi-b.lo=y;simp[g!,VV.one];constructor<;>(repeat' split)<;>omega
 rw[jl]at c;simp[c,VV.all]
def Yz(a b:VV):arR ([(wrap64<|a.lo*b.hi,aN<|a.lo*b.hi),(wrap64<|a.hi*b.lo,aN<|a.hi*b.lo),(wrap64<|a.hi*b.hi,aN<|a.hi*b.hi)].foldl VE (wrap64<|a.lo*b.lo,wrap64<|a.lo*b.lo,aN<|a.lo*b.lo))=b8 (uK a b):=by
 simp only[arR,uK,vd,b8,ij,qT,VE];by_cases C:aN (a.lo*b.lo)=N';rotate_left
 .rw[jl]at C;simp[C,VV.all]
 by_cases c:aN (a.lo*b.hi)=N';rotate_left
 .rw[jl]at c;simp[c,VV.all]
 by_cases N:aN (a.hi*b.lo)=N';rotate_left
 .rw[jl]at N;simp[N,VV.all]
 by_cases d:aN (a.hi*b.hi)=N';rotate_left
 .rw[jl]at d;simp[d,VV.all]
 simp only[C,c,N,d,cu C,cu c,cu N,cu d,xq,dQ];generalize a.lo*b.lo=x;generalize a.lo*b.hi=y;generalize a.hi*b.lo=z;generalize a.hi*b.hi=u;simp[g!,VV.one];constructor<;>(repeat' split)<;>omega
def Uj{n:Int}{f:Bool}(D:χ w (O q 0)=z' (G n))(C:χ w (O q 1)=z' (h' f)):adF w (z'<|O q 0) [(n,f)]:=by
 intro j e hj
 match j,hj with
 |0,hj=>simp at hj;subst hj;exact⟨q,0,rfl,by simp[D],by simp[C]⟩
 |j+1,hj=>simp at hj
def XX{s x c:Int}{K B t:Bool}(D:χ w (O q 0)=z' (G s))(C:χ w (O q 1)=z' (h' K))(a:χ w (O q 2)=z' (G x))(N:χ w (O q 3)=z' (h' B))(d:χ w (O q 4)=z' (G c))(l:χ w (O q 5)=z' (h' t)):adF w (z'<|O q 0) [(s,K),(x,B),(c,t)]:=by
 intro j e hj
 match j,hj with
 |0,hj=>simp at hj;subst hj;exact⟨q,0,rfl,by simp[D],by simp[C]⟩
 |1,hj=>simp at hj;subst hj;exact⟨q,0,rfl,by simp[a],by simp[N]⟩
 |2,hj=>simp at hj;subst hj;exact⟨q,0,rfl,by simp[d],by simp[l]⟩
 |j+3,hj=>simp at hj
def YB(w:p')(a b c:Obj):(((w.alloc a).alloc b).alloc c).1[δ w.1]?=z' a/\(((w.alloc a).alloc b).alloc c).1[δ w.1+1]?=z' b/\(((w.alloc a).alloc b).alloc c).1[δ w.1+2]?=z' c:=by have h:=bE (w.alloc a) b c;have z:δ (w.alloc a).1=δ w.1+1:=ak;rw[z]at h;exact⟨aG dH cv,h.1,h.2⟩
def Eo{a b c d}:=@YB a b c d
def zJ(a b:VV)(w:p')(j:dM<|b8 a)(i:dM<|b8 b):
  Cl 403 #[eL<|b8 a,eL<|b8 b] w (Rb w<|eL<|b8<|ke a b):=by
 obtain⟨P,N,f⟩:=a;obtain⟨l,a,o⟩:=b;have d:=hid<|Yy ⟨P,N,f⟩ ⟨l,a,o⟩;have c:=hid λW=>Hr N o W j.lo i.hi;have u:=hid λW=>Hr f a W j.hi i.lo;have T:=hid λW q h=>ph (wrap64<|N-o,aN<|N-o) [(wrap64<|f-a,aN<|f-a)] (z'<|O q 0) 1 W h ak;simp only[ij,qT,e4]at T;simp only at d;rw[d.o]at T;clear j i;simp only[XY]at c u;generalize ke ⟨P,N,f⟩ ⟨l,a,o⟩=s at T|-;generalize wrap64 (N-o)=h at c T;generalize wrap64 (f-a)=x at u T;generalize aN (N-o)=K at c T;generalize aN (f-a)=B at u T;obtain⟨b,U,d⟩:=s;simp only[eL,b8]at T|-;go_enter func403,ntmps403;go_upto_region 1 with fail
 obtain⟨s,v,b⟩:=YB w (kr N f) (i' #[G a,G o] 247) iI;have B:=hid<|Aa s<|Aa v<|Aa b<|mx w (kr N f) (i' #[G a,G o] 247) iI;clear s v b;generalize((w.alloc<|kr N f).alloc<|i' #[G a,G o] 247).alloc iI=V at B|-;have S:J (∀W,Bl V W->χ W (O w.1.size 0)=z' (G N)/\χ W (O w.1.size 1)=z' (G f)/\χ W (O (δ w.1+1) 0)=z' (G a)/\χ W (O (δ w.1+1) 1)=z' (G o)):=by intro W j;have R:=(A<|aG j B.a).1;have F:=(A<|aG j B.b).1;exact⟨R 0,R 1,F 0,F 1⟩
 have b:=S.o V aQ;have h:δ w.1≠δ w.1+1+1:=I;have x:=h.symm
 go_region_held3 (λg=>χ g (O w.1.size 0)=z' (G N)/\χ g (O w.1.size 1)=z' (G f)/\χ g (O (δ w.1+1) 0)=z' (G a)/\χ g (O (δ w.1+1) 1)=z' (G o)) (go_keep) (first|(have _:=L;go_at_call 401;refine(T.o _ _<|Uj ak ak).mono ?_;rintro e E ⟨rfl,Y⟩;have p:Bl V E:=aq (aq L.o ay) Y;have l:=hid p;have Q:=S.o E p;have N:=A<|aG p B.c;clear Y p)|(have _:=D;go_at_call 408;refine(u.o _).mono ?_;rintro e a ⟨rfl,X⟩;have p:Bl V a:=aq (aq D.o ay) X;have L:=hid p;have o0:=S.o a p;clear X p)|(go_at_call 408;refine(c.o _).mono ?_;rintro e f ⟨rfl,a⟩;have p:Bl V f:=aq ay a;have D:=hid p;have P:=S.o f p;clear a p))
 all_goals
  go_wp2_with fail;refine aE (v:=j' #[G U,G d]) (by simp[results403,go_sem,(A<|H (o:=1) (H (o:=0) (aG l.o B.c)<|G U)<|G d).1]) rfl ⟨rfl,?_⟩
  first|exact((aq B.C l.o).setCell G' _).setCell G' _|exact(((aq B.C l.o).setCell G' _).setCell G' _).drew
def Qs(op:Int)(a b:VV):Option VV:=if op=0 then z' (ve a b) else if op=1 then z' (ke a b) else if op=2 then z' (uK a b) else hC a b
def My:Option VV->y'×Bool
 |none=>(eL (0,0),O')
 |some v=>(eL<|b8 v,N')
def k4{x b:Int}(F:aN x=N')(D:b≠0)(C:b≠-1):IntKind.i64.wrap (x.tdiv b)=x.tdiv b:=by have h:=cu<|Da F D C;unfold wrap64 at h;rw[IntKind.wrap_i64];exact h
def QP(h:p:=by
 repeat(first|with_reducible exact aQ|with_reducible refine below_drewN ?_ _|with_reducible refine xD ?_|refine jI ?_ (by show _<=_;simp;try omega) _|refine lB ?_ (by first|(simp;done)|(simp;omega)) _)):p:=h
def Y5(h:p:=by
 first|exact((aq eD U.o).setCell (by show _<=δ w.1+2;omega) _).setCell (by show _<=δ w.1+2;omega) _|exact(((aq eD U.o).setCell (by show _<=δ w.1+2;omega) _).setCell (by show _<=δ w.1+2;omega) _).drew|exact below_drewN (((aq eD U.o).setCell (by show _<=δ w.1+2;omega) _).setCell (by show _<=δ w.1+2;omega) _) _):p:=h
def U7(a b:VV)(w:p')(j:dM<|b8 a)(i:dM<|b8 b):
  Cl 405 #[eL<|b8 a,eL<|b8 b] w (Rb w<|o' #[(My<|hC a b).1,h' (My<|hC a b).2]):=by
 have s:δ w.1≠δ w.1+1+1:=I;have x:=s.symm;cases D:(b.lo==b.hi)
 .have e:hC a b=z' VV.all:=by unfold hC;rw[aD<|by simpa using D]
  rw[e];have T:=hid zL;obtain⟨P,N,p⟩:=a;obtain⟨l,h,o⟩:=b;simp only[My,eL,b8,VV.all]at T D|-;clear e j i;go_enter func405,ntmps405;go_wp2_with (go_at_call 406;refine(T.o _).mono ?_;rintro e t ⟨rfl,i⟩;have U:=hid i;clear i;have E:=A<|aG U.o Eo.2.2);have R:=(A<|H (o:=1) (H (o:=0) (aG U.o Eo.2.2)<|G (-9223372036854775808))<|G 9223372036854775807).1;refine aE (v:=o' #[j' #[G (-9223372036854775808),G 9223372036854775807],h' N']) (by simp[results405,go_sem,R]) rfl ⟨rfl,?_⟩;exact Y5
 have X:b.lo=b.hi:=by simpa using D
 cases C:(b.lo==0);rotate_left
 .have k:b.lo=0:=by simpa using C
  have e:hC a b=A':=by unfold hC;rw[aA<|by simpa using X,aD k]
  rw[e];obtain⟨P,N,p⟩:=a;obtain⟨l,h,o⟩:=b;simp only[My,eL,b8]at *;clear e j i X k;go_enter func405,ntmps405;go_wp2_with fail;refine aE (v:=o' #[j' #[G 0,G 0],h' O']) (by simp[results405,go_sem]) rfl ⟨rfl,?_⟩;exact QP
 have k:b.lo≠0:=by simpa using C
 by_cases v:0<b.lo
 .have d:b.lo≠-1:=I;have e:hC a b=z' ⟨O',a.lo.tdiv b.lo,a.hi.tdiv b.lo⟩:=by unfold hC;rw[aA<|by simpa using X,aA k,aA d,aD v]
  rw[e];have V:IntKind.i64.wrap (a.lo.tdiv b.lo)=a.lo.tdiv b.lo:=k4 j.lo k d;have u:IntKind.i64.wrap (a.hi.tdiv b.lo)=a.hi.tdiv b.lo:=k4 j.hi k d;obtain⟨P,N,p⟩:=a;obtain⟨l,h,o⟩:=b;simp only[My,eL,b8]at *;have f:¬h=0:=k;clear e j i d X k;go_enter func405,ntmps405;go_upto_region 7 with fail
  go_region_held3 (λq=>χ q (O w.1.size 0)=z' (G N)/\χ q (O w.1.size 1)=z' (G p)) (go_keep) (fail)
  all_goals
   go_wp2_with fail;refine aE (v:=o' #[j' #[G<|N.tdiv h,G<|p.tdiv h],h' N']) (by simp[results405,go_sem]) rfl ⟨rfl,?_⟩;exact QP
 cases d:(b.lo==-1)
 .have g:b.lo≠-1:=by simpa using d
  have e:hC a b=z' ⟨O',a.hi.tdiv b.lo,a.lo.tdiv b.lo⟩:=by unfold hC;rw[aA<|by simpa using X,aA k,aA g,aA v]
  rw[e];have V:IntKind.i64.wrap (a.lo.tdiv b.lo)=a.lo.tdiv b.lo:=k4 j.lo k g;have u:IntKind.i64.wrap (a.hi.tdiv b.lo)=a.hi.tdiv b.lo:=k4 j.hi k g;obtain⟨P,N,p⟩:=a;obtain⟨l,h,o⟩:=b;simp only[My,eL,b8]at *;have c:decide (0<h)=O':=by simp;omega
  have f:¬h=0:=k;clear e j i g X k v;go_enter func405,ntmps405;go_upto_region 10 with fail
  go_region_held3 (λq=>χ q (O w.1.size 0)=z' (G N)/\χ q (O w.1.size 1)=z' (G p)) (go_keep) (fail)
  all_goals
   go_wp2_with fail;refine aE (v:=o' #[j' #[G<|p.tdiv h,G<|N.tdiv h],h' N']) (by simp[results405,go_sem]) rfl ⟨rfl,?_⟩;exact QP
 have g:b.lo=-1:=by simpa using d
 have e:hC a b=z' (ke ⟨O',0,0⟩ a):=by unfold hC;rw[aA<|by simpa using X,aA k,aD g]
 rw[e];have r:=hid λW=>zJ ⟨O',0,0⟩ a W ⟨aj,aj⟩ j;generalize ke ⟨O',0,0⟩ a=s at r|-;obtain⟨_,f,zd⟩:=s;obtain⟨P,N,p⟩:=a;obtain⟨l,h,o⟩:=b;simp only[My,eL,b8]at *;have c:decide (0<h)=O':=by simp;omega
 clear e j i g X k v;go_enter func405,ntmps405;go_wp2_with (go_at_call 403;refine(r.o _).mono ?_;rintro e t ⟨rfl,i⟩;have U:=hid i;clear i;have E:=A<|aG U.o Eo.2.2);have R:=(A<|H (o:=1) (H (o:=0) (aG U.o Eo.2.2)<|G f)<|G zd).1;refine aE (v:=o' #[j' #[G f,G zd],h' N']) (by simp[results405,go_sem,R]) rfl ⟨rfl,?_⟩;exact Y5
def Y7(h:p:=by
 go_wp2_with fail;refine aE (v:=o' #[j' #[G U,G s2],h' N']) (by simp[results391,go_sem,(A<|H (o:=1) (H (o:=0) (aG l.o B.c)<|G U)<|G s2).1]) rfl ⟨rfl,?_⟩
 first|exact((aq B.C l.o).setCell G' _).setCell G' _|exact(((aq B.C l.o).setCell G' _).setCell G' _).drew|exact below_drewN (((aq B.C l.o).setCell G' _).setCell G' _) _):p:=h
def Y6(h:p:=by
 first|exact((aq jb r.o).setCell G' _).setCell G' _|exact(((aq jb r.o).setCell G' _).setCell G' _).drew|exact below_drewN (((aq jb r.o).setCell G' _).setCell G' _) _):p:=h
def Y0(h:p:=by
 have h:=YB (w.alloc nH) (kr N Y) (i' #[G x,G o] 247) iI;have z:δ (w.alloc nH).1=δ w.1+1:=ak;rw[z]at h
 exact⟨h.1,h.2.1,h.2.2,jb⟩):p:=h
def YZ(h:p:=by
 intro W j;have R:=(A<|aG j B.a).1;have F:=(A<|aG j B.b).1
 exact⟨R 0,R 1,F 0,F 1⟩):p:=h
def Ee(r:y')(i:Int)(a b:VV)(w:p')(f:r=j' #[])(ha:dM<|b8 a)(hb:dM<|b8 b):
  Cl 391 #[r,G i,eL<|b8 a,eL<|b8 b] w (Rb w<|o' #[(My<|Qs i a b).1,h' (My<|Qs i a b).2]):=by
 subst f;have s:δ w.1+1≠δ w.1+1+1+1:=I;have x:=s.symm;have d:δ w.1+1+1≠δ w.1+1+1+1:=I;have V:=d.symm;have d:δ w.1≠δ w.1+1+1:=I;have f:=d.symm;cases h0:(i==0);rotate_left
 .have e:Qs i a b=z' (ve a b):=by unfold Qs;simp at h0;simp[h0]
  rw[e];have d:=hid<|YA a b;obtain⟨P,N,Y⟩:=a;obtain⟨ba,x,o⟩:=b;have H1:=hid λW=>Hp N x W ha.lo hb.lo;have u:=hid λW=>Hp Y o W ha.hi hb.hi;have T:=hid λW q h=>ph (wrap64<|N+x,aN<|N+x) [(wrap64<|Y+o,aN<|Y+o)] (z'<|O q 0) 1 W h ak;simp only[ij,qT,e4]at T;simp only at d;rw[d.o]at T;clear ha hb e;simp only[XY]at H1 u;generalize ve ⟨P,N,Y⟩ ⟨ba,x,o⟩=s at T|-;generalize wrap64 (N+x)=y at H1 T;generalize wrap64 (Y+o)=m2 at u T;generalize aN (N+x)=K at H1 T;generalize aN (Y+o)=f2 at u T;obtain⟨sa,U,s2⟩:=s;simp only[eL,b8,My]at T|-;go_enter func391,ntmps391;go_upto_region 3 with fail
  have B:J (b' ((((w.alloc nH).alloc<|kr N Y).alloc<|i' #[G x,G o] 247).alloc iI) (δ w.1+1) #[G N,G Y] 247/\b' ((((w.alloc nH).alloc<|kr N Y).alloc<|i' #[G x,G o] 247).alloc iI) (δ w.1+2) #[G x,G o] 247/\((((w.alloc nH).alloc<|kr N Y).alloc<|i' #[G x,G o] 247).alloc iI).1[δ w.1+3]?=z' vq/\Bl w ((((w.alloc nH).alloc<|kr N Y).alloc<|i' #[G x,G o] 247).alloc iI)):=by exact Y0
  generalize((((w.alloc nH).alloc<|kr N Y).alloc<|i' #[G x,G o] 247).alloc iI)=V at B|-;have S:J (∀W,Bl V W->χ W (O (δ w.1+1) 0)=z' (G N)/\χ W (O (δ w.1+1) 1)=z' (G Y)/\χ W (O (δ w.1+1+1) 0)=z' (G x)/\χ W (O (δ w.1+1+1) 1)=z' (G o)):=by exact YZ
  obtain⟨s0,Q,s2',s3⟩:=S.o V aQ
  go_region_held3 (λW=>χ W (O (δ w.1+1) 0)=z' (G N)/\χ W (O (δ w.1+1) 1)=z' (G Y)/\χ W (O (δ w.1+1+1) 0)=z' (G x)/\χ W (O (δ w.1+1+1) 1)=z' (G o)) (go_keep) (first|(have _:=L;go_at_call 401;refine(T.o _ _<|Uj ak ak).mono ?_;rintro e X3 ⟨rfl,hb⟩;have p:Bl V X3:=aq (aq L.o ay) hb;have l:=hid p;obtain⟨x0,x1,g,x3⟩:=S.o X3 p;obtain⟨g1,k⟩:=A<|aG p B.c;clear hb p)|(have _:=D;go_at_call 402;refine(u.o _).mono ?_;rintro e X ⟨rfl,hb⟩;have p:Bl V X:=aq (aq D.o ay) hb;have L:=hid p;obtain⟨o0,o1,o2,o3⟩:=S.o X p;clear hb p)|(go_at_call 402;refine(H1.o _).mono ?_;rintro e X1 ⟨rfl,hb⟩;have p:Bl V X1:=aq ay hb;have D:=hid p;obtain⟨p0,p1,p2,p3⟩:=S.o X1 p;clear hb p))
  all_goals
   exact Y7
 cases C:(i==1);rotate_left
 .have e:Qs i a b=z' (ke a b):=by unfold Qs;simp at h0 C;simp[h0,C]
  rw[e];have r:=hid λW=>zJ a b W ha hb;generalize ke a b=s at r|-;obtain⟨sa,U,s2⟩:=s;obtain⟨P,N,Y⟩:=a;obtain⟨ba,x,o⟩:=b;simp only[My,eL,b8]at r|-;clear e ha hb;go_enter func391,ntmps391;go_wp2_with (go_at_call 403;refine(r.o _).mono ?_;rintro e t ⟨rfl,hb⟩;have r:=hid hb;clear hb;obtain⟨x1,g⟩:=A<|aG r.o rT.2);refine aE (v:=o' #[j' #[G U,G s2],h' N']) (by simp[results391,go_sem,(A<|H (o:=1) (H (o:=0) (aG r.o rT.2)<|G U)<|G s2).1]) rfl ⟨rfl,?_⟩;exact Y6
 cases h2:(i==2)
 .have e:Qs i a b=hC a b:=by unfold Qs;simp at h0 C h2;simp[h0,C,h2]
  rw[e];have HQ:=hid λW=>U7 a b W ha hb;have hfl:∃U s2 f,(My<|hC a b).1=j' #[G U,G s2]/\(My<|hC a b).2=f:=by
   cases hC a b with
   |none=>exact⟨0,0,O',rfl,rfl⟩
   |some v=>exact⟨v.lo,v.hi,N',rfl,rfl⟩
  obtain⟨U,s2,f,v,E⟩:=hfl;rw[v,E]at HQ|-;obtain⟨P,N,Y⟩:=a;obtain⟨ba,x,o⟩:=b;simp only[eL,b8]at HQ|-;clear e ha hb v E;go_enter func391,ntmps391;go_wp2_with (go_at_call 405;refine(HQ.o _).mono ?_;rintro e t ⟨rfl,hb⟩;have r:=hid hb;clear hb;obtain⟨x1,g⟩:=A<|aG r.o rT.2);refine aE (v:=o' #[j' #[G U,G s2],h' f]) (by simp[results391,go_sem,(A<|H (o:=1) (H (o:=0) (aG r.o rT.2)<|G U)<|G s2).1]) rfl ⟨rfl,?_⟩;exact Y6
 have e:Qs i a b=z' (uK a b):=by unfold Qs;simp at h0 C h2;simp[h0,C,h2]
 rw[e];have d:=hid<|Yz a b;obtain⟨P,N,Y⟩:=a;obtain⟨ba,x,o⟩:=b;have H1:=hid λW=>p! N x W ha.lo hb.lo;have u:=hid λW=>p! N o W ha.lo hb.hi;have f:=hid λW=>p! Y x W ha.hi hb.lo;have b:=hid λW=>p! Y o W ha.hi hb.hi;have T:=hid λW q h=>ph (wrap64<|N*x,aN<|N*x) [(wrap64<|N*o,aN<|N*o),(wrap64<|Y*x,aN<|Y*x),(wrap64<|Y*o,aN<|Y*o)] (z'<|O q 0) 3 W h ak;simp only[bU,eY,bH,Nat.reduceAdd]at T;simp only at d;rw[d.o]at T;clear ha hb e;simp only[XY]at H1 u f b;generalize uK ⟨P,N,Y⟩ ⟨ba,x,o⟩=s at T|-;generalize wrap64 (N*x)=y at H1 T;generalize wrap64 (N*o)=m2 at u T;generalize wrap64 (Y*x)=a at f T;generalize wrap64 (Y*o)=a at b T;generalize aN (N*x)=K at H1 T;generalize aN (N*o)=f2 at u T;generalize aN (Y*x)=t at f T;generalize aN (Y*o)=a at b T;obtain⟨sa,U,s2⟩:=s;simp only[eL,b8,My]at T|-;go_enter func391,ntmps391;go_upto_region 7 with fail
 have B:J (b' ((((w.alloc nH).alloc<|kr N Y).alloc<|i' #[G x,G o] 247).alloc iI) (δ w.1+1) #[G N,G Y] 247/\b' ((((w.alloc nH).alloc<|kr N Y).alloc<|i' #[G x,G o] 247).alloc iI) (δ w.1+2) #[G x,G o] 247/\((((w.alloc nH).alloc<|kr N Y).alloc<|i' #[G x,G o] 247).alloc iI).1[δ w.1+3]?=z' vq/\Bl w ((((w.alloc nH).alloc<|kr N Y).alloc<|i' #[G x,G o] 247).alloc iI)):=by exact Y0
 generalize((((w.alloc nH).alloc<|kr N Y).alloc<|i' #[G x,G o] 247).alloc iI)=V at B|-;have S:J (∀W,Bl V W->χ W (O (δ w.1+1) 0)=z' (G N)/\χ W (O (δ w.1+1) 1)=z' (G Y)/\χ W (O (δ w.1+1+1) 0)=z' (G x)/\χ W (O (δ w.1+1+1) 1)=z' (G o)):=by exact YZ
 obtain⟨s0,Q,s2',s3⟩:=S.o V aQ
 go_region_held3 (λW=>χ W (O (δ w.1+1) 0)=z' (G N)/\χ W (O (δ w.1+1) 1)=z' (G Y)/\χ W (O (δ w.1+1+1) 0)=z' (G x)/\χ W (O (δ w.1+1+1) 1)=z' (G o)) (go_keep) (first|(have _:=c;go_at_call 401;refine(T.o _ _<|XX ak ak ak ak ak ak).mono ?_;rintro e a ⟨rfl,hb⟩;have p:Bl V a:=aq (aq c.o ay) hb;have Y:=hid p;obtain⟨d,W,d,d⟩:=S.o a p;obtain⟨g1,k⟩:=A<|aG p B.c;clear hb p)|(have _:=l;go_at_call 404;refine(b.o _).mono ?_;rintro e a ⟨rfl,hb⟩;have p:Bl V a:=aq (aq l.o ay) hb;have c:=hid p;obtain⟨b,b,d,b⟩:=S.o a p;clear hb p)|(have _:=L;go_at_call 404;refine(f.o _).mono ?_;rintro e X3 ⟨rfl,hb⟩;have p:Bl V X3:=aq (aq L.o ay) hb;have l:=hid p;obtain⟨x0,x1,g,x3⟩:=S.o X3 p;clear hb p)|(have _:=D;go_at_call 404;refine(u.o _).mono ?_;rintro e X ⟨rfl,hb⟩;have p:Bl V X:=aq (aq D.o ay) hb;have L:=hid p;obtain⟨o0,o1,o2,o3⟩:=S.o X p;clear hb p)|(go_at_call 404;refine(H1.o _).mono ?_;rintro e X1 ⟨rfl,hb⟩;have p:Bl V X1:=aq ay hb;have D:=hid p;obtain⟨p0,p1,p2,p3⟩:=S.o X1 p;clear hb p))
 all_goals
  have l:=Y;exact Y7
structure PE where
  r:Bool
  a0:VV
  a1:VV
  a2:VV
  a3:VV
  a4:VV
  a5:VV
  a6:VV
  a7:VV
def VV.z:VV:=⟨O',0,0⟩
def PE.zero:PE:=⟨O',VV.z,VV.z,VV.z,VV.z,VV.z,VV.z,VV.z,VV.z⟩
def PE.at(e:PE)(i:Nat):VV:=if i=0 then e.a0 else if i=1 then e.a1 else if i=2 then e.a2 else if i=3 then e.a3 else if i=4 then e.a4 else if i=5 then e.a5 else if i=6 then e.a6 else if i=7 then e.a7 else VV.z
def PE.put(e:PE)(i:Nat)(x:VV):PE:=⟨e.r,if i=0 then x else e.a0,if i=1 then x else e.a1,if i=2 then x else e.a2,if i=3 then x else e.a3,if i=4 then x else e.a4,if i=5 then x else e.a5,if i=6 then x else e.a6,if i=7 then x else e.a7⟩
def KC.qv(x:VV):y':=j' #[h' x.any,G x.lo]
def KB.qv(x:VV):y':=j' #[G x.lo,G x.hi]
def KC.aT(e:PE):List y':=[h' e.r,h' e.a0.any,G e.a0.lo,h' e.a1.any,G e.a1.lo,h' e.a2.any,G e.a2.lo,h' e.a3.any,G e.a3.lo,h' e.a4.any,G e.a4.lo,h' e.a5.any,G e.a5.lo,h' e.a6.any,G e.a6.lo,h' e.a7.any,G e.a7.lo]
def KB.aT(e:PE):List y':=[h' e.r,G e.a0.lo,G e.a0.hi,G e.a1.lo,G e.a1.hi,G e.a2.lo,G e.a2.hi,G e.a3.lo,G e.a3.hi,G e.a4.lo,G e.a4.hi,G e.a5.lo,G e.a5.hi,G e.a6.lo,G e.a6.hi,G e.a7.lo,G e.a7.hi]
def S2(h:i<8):i=0\/i=1\/i=2\/i=3\/i=4\/i=5\/i=6\/i=7:=I
def KC.iJ(e:PE)(h:i<8):(KC.aT e)[1+i*2]?=z' (h' (e.at i).any)/\(KC.aT e)[1+i*2+1]?=z' (G (e.at i).lo):=by rcases S2 h with rfl|rfl|rfl|rfl|rfl|rfl|rfl|rfl<;>exact⟨rfl,rfl⟩
def KC.Dd(e:PE)(h:i<8)(x:VV):((KC.aT e).toArray.setIfInBounds (1+i*2)<|h' x.any).setIfInBounds (1+i*2+1) (G x.lo)=θ (KC.aT<|e.put i x):=by rcases S2 h with rfl|rfl|rfl|rfl|rfl|rfl|rfl|rfl<;>rfl
def YY{p:Prop}(h:p:=by
 rcases R with rfl|rfl|rfl|rfl|rfl|rfl|rfl|rfl|rfl|rfl|rfl|rfl|rfl|rfl|rfl|rfl|rfl<;>rfl):p:=h
def KC.pN(e:PE):∀v∈KC.aT e,v.oneCell'=N':=by intro v R;simp only[KC.aT,cM,dR,dz]at R;exact YY
def KC.bO(e:PE):(KC.aT e).toArray.all (·.oneCell')=N':=all_oneCell_toArray<|KC.pN e
def KC.Mm(e:PE):ζ (KC.aT e)=17:=rfl
def KB.iJ(e:PE)(h:i<8):(KB.aT e)[1+i*2]?=z' (G (e.at i).lo)/\(KB.aT e)[1+i*2+1]?=z' (G (e.at i).hi):=by rcases S2 h with rfl|rfl|rfl|rfl|rfl|rfl|rfl|rfl<;>exact⟨rfl,rfl⟩
def KB.Dd(e:PE)(h:i<8)(x:VV):((KB.aT e).toArray.setIfInBounds (1+i*2)<|G x.lo).setIfInBounds (1+i*2+1) (G x.hi)=θ (KB.aT<|e.put i x):=by rcases S2 h with rfl|rfl|rfl|rfl|rfl|rfl|rfl|rfl<;>rfl
def KB.pN(e:PE):∀v∈KB.aT e,v.oneCell'=N':=by intro v R;simp only[KB.aT,cM,dR,dz]at R;exact YY
def KB.bO(e:PE):(KB.aT e).toArray.all (·.oneCell')=N':=all_oneCell_toArray<|KB.pN e
def KB.Mm(e:PE):ζ (KB.aT e)=17:=rfl
def PE.jA(e:PE){j:Nat}(h:i<8)(x:VV):(e.put i x).at j=if j=i then x else e.at j:=by
 by_cases f:j<8
 .rcases S2 h with rfl|rfl|rfl|rfl|rfl|rfl|rfl|rfl<;>rcases S2 f with rfl|rfl|rfl|rfl|rfl|rfl|rfl|rfl<;>rfl
 have:∀e:PE,e.at j=VV.z:=λe=>by unfold PE.at;repeat rw[aA I]
 rw[this,this,aA I]
def jg(e:PE)(o:lz):VV:=if o.aU then e.at o.var.toNat else VV.one o.cg
def Hw(w:p')(a b c d:Obj):((((w.alloc a).alloc b).alloc c).alloc d).1[δ w.1]?=z' a/\((((w.alloc a).alloc b).alloc c).alloc d).1[δ w.1+1]?=z' b/\((((w.alloc a).alloc b).alloc c).alloc d).1[δ w.1+2]?=z' c/\((((w.alloc a).alloc b).alloc c).alloc d).1[δ w.1+3]?=z' d:=by have h:=YB (w.alloc a) b c d;have z:δ (w.alloc a).1=δ w.1+1:=ak;rw[z]at h;exact⟨aG eD cv,h.1,h.2.1,h.2.2⟩
def bu{L:List y'}(h:w.1[b]?=z' (cU (θ L) t)):w.rangeAt b 0 L:=λj v R=>by rw[bH,(A h).1];simpa using R
def cK{n:Nat}{L:Array y'}(h:w.1[b]?=z' (cU L t))(K:L.size=n):w.there b 0 n:=λj f=>by rw[bH];refine⟨?_,(A h).2 j⟩;rw[(A h).1,rX I];rfl
def eA(b:Nat):∀(E:List y')(o:Nat)(w:p')(k:Nat),k≠b->(ψ w b o E).1[k]?=w.1[k]?
 |[],_,_,_,_=>rfl
 |v::r,o,w,k,h=>(eA b r (o+1) _ k h).trans<|aJ h
def Fc{B:Nat}{u:p'}(b:Nat)(a:B<=b):∀(E:List y')(o:Nat)(w:p'),Below B u w->Below B u (ψ w b o E)
 |[],_,_,h=>h
 |v::r,o,w,h=>Fc b a r (o+1) _<|h.setCell a _
def dJ{a b c}:=@Fc a b c
def L8(b t:Nat):∀(E p a:List y')(w:p')(o:Nat),o=ζ p->w.1[b]?=z' (i' (θ<|p++a) t (0,0))->ζ a=ζ E->(ψ w b o E).1[b]?=z' (i' (θ<|p++E) t (0,0))
 |[],p,a,w,o,_,h,hl=>by have:a=[]:=eq_nil_of_length_eq_zero hl;subst this;exact h
 |v::r,p,[],w,o,_,h,hl=>by simp at hl
 |v::r,p,d::a,w,o,c,h,hl=>by
  have C:(κ w (O b o) v).1[b]?=z' (i' (θ ((p++[v])++a)) t (0,0)):=by rw[H h,c];simp
  have d:=L8 b t r (p++[v]) a _ (o+1) (by simp[c]) C (by simpa using hl);rw[fK]at d;exact d
def cX{cs vs:List y'}(h:w.1[b]?=z' (cU (θ cs) t))(X:ζ cs=ζ vs):(ψ w b 0 vs).1[b]?=z' (cU (θ vs) t):=by have:=L8 b t vs [] cs w 0 rfl h X;simpa using this
def KC.Dc:True:=trivial
abbrev KC.dO(x:VV):y':=h' x.any
abbrev KC.dN(x:VV):y':=G x.lo
abbrev KB.dO(x:VV):y':=G x.lo
abbrev KB.dN(x:VV):y':=G x.hi
abbrev KC.qh:List y':=[h' O',h' O',G 0,h' O',G 0,h' O',G 0,h' O',G 0,h' O',G 0,h' O',G 0,h' O',G 0,h' O',G 0]
abbrev KB.qh:List y':=[h' O',G 0,G 0,G 0,G 0,G 0,G 0,G 0,G 0,G 0,G 0,G 0,G 0,G 0,G 0,G 0,G 0]
abbrev KC.Ig:Array y':=vm
abbrev KB.Ig:Array y':=#[G 0,G 0]
abbrev KC.jf:Array y':=#[h' O',h' O',G 0,h' O',G 0,h' O',G 0,h' O',G 0,h' O',G 0,h' O',G 0,h' O',G 0,h' O',G 0]
abbrev KB.jf:Array y':=#[h' O',G 0,G 0,G 0,G 0,G 0,G 0,G 0,G 0,G 0,G 0,G 0,G 0,G 0,G 0,G 0,G 0]
abbrev KC.gU:=@underlying228
abbrev KC.qF1:=@func309
abbrev KC.qN2:=@ntmps309
abbrev KC.bL:Nat:=228
abbrev KC.iC:Nat:=225
abbrev KC.qF7:=@func340
abbrev KC.qN8:=@ntmps340
abbrev KC.qF9:=@func313
abbrev KC.ae1:=@ntmps313
abbrev KC.h! : Nat:=328
abbrev KC.afe:=@func315
abbrev KC.ae0:=@ntmps315
abbrev KC.afd:=@func308
abbrev KC.aeZ:=@ntmps308
abbrev KC.yw:Nat:=381
abbrev KC.afc:=@func311
abbrev KC.aeY:=@ntmps311
abbrev KC.afb:=@func312
abbrev KC.aeX:=@ntmps312
abbrev KC.afa:=@func316
abbrev KC.aeW:=@ntmps316
abbrev KC.ae9:=@func317
abbrev KC.aeV:=@ntmps317
abbrev KC.JU:Nat:=376
abbrev KC.ae8:=@func314
abbrev KC.aeU:=@ntmps314
abbrev KC.OW:=@func274
abbrev KC.OV:=@ntmps274
abbrev KC.WA:Nat:=316
abbrev KC.JV:Nat:=317
abbrev KC.Wz:Nat:=314
abbrev KC.Wy:Nat:=312
abbrev KC.Wx:Nat:=311
abbrev KC.Ww:Nat:=308
abbrev KC.afj:=@Tryz.call308
abbrev KC.afi:=@Tryz.call311
abbrev KC.afh:=@Tryz.call312
abbrev KC.afg:=@Tryz.call314
abbrev KC.aff:=@Tryz.call316
abbrev KC.Wu:=@underlying226
abbrev KC.ae7:=@func273
abbrev KC.aeT:=@ntmps273
abbrev KC.Wv:Nat:=226
abbrev KC.ae6:=@func271
abbrev KC.aeS:=@ntmps271
abbrev KC.ae5:=@func270
abbrev KC.aeR:=@ntmps270
abbrev KC.ae4:=@func272
abbrev KC.aeQ:=@ntmps272
abbrev KC.OT:Nat:=222
abbrev KC.abB:Nat:=233
abbrev KC.aem:=@underlying229
abbrev KC.ael:=@underlying373
abbrev KC.ae3:=@func212
abbrev KC.aeP:=@ntmps212
abbrev KC.aeN:Nat:=274
abbrev KC.Al:Nat:=270
abbrev KC.FR:Nat:=272
abbrev KC.aeo:Nat:=229
abbrev KC.qg:Nat:=375
abbrev KC.mK:Nat:=378
abbrev KC.aen:Nat:=373
abbrev KC.abA:=@underlying375
abbrev KC.abz:=@underlying222
abbrev KC.ae2:=@func210
abbrev KC.aeO:=@ntmps210
abbrev KC.aeM:Nat:=210
abbrev KB.gU:=@underlying250
abbrev KB.qF1:=@func319
abbrev KB.qN2:=@ntmps319
abbrev KB.bL:Nat:=250
abbrev KB.iC:Nat:=247
abbrev KB.qF7:=@func341
abbrev KB.qN8:=@ntmps341
abbrev KB.qF9:=@func323
abbrev KB.ae1:=@ntmps323
abbrev KB.h! : Nat:=331
abbrev KB.afe:=@func325
abbrev KB.ae0:=@ntmps325
abbrev KB.afd:=@func318
abbrev KB.aeZ:=@ntmps318
abbrev KB.yw:Nat:=386
abbrev KB.afc:=@func321
abbrev KB.aeY:=@ntmps321
abbrev KB.afb:=@func322
abbrev KB.aeX:=@ntmps322
abbrev KB.afa:=@func326
abbrev KB.aeW:=@ntmps326
abbrev KB.ae9:=@func327
abbrev KB.aeV:=@ntmps327
abbrev KB.JU:Nat:=338
abbrev KB.ae8:=@func324
abbrev KB.aeU:=@ntmps324
abbrev KB.OW:=@func279
abbrev KB.OV:=@ntmps279
abbrev KB.WA:Nat:=326
abbrev KB.JV:Nat:=327
abbrev KB.Wz:Nat:=324
abbrev KB.Wy:Nat:=322
abbrev KB.Wx:Nat:=321
abbrev KB.Ww:Nat:=318
abbrev KB.afj:=@Tryz.call318
abbrev KB.afi:=@Tryz.call321
abbrev KB.afh:=@Tryz.call322
abbrev KB.afg:=@Tryz.call324
abbrev KB.aff:=@Tryz.call326
abbrev KB.Wu:=@underlying248
abbrev KB.ae7:=@func278
abbrev KB.aeT:=@ntmps278
abbrev KB.Wv:Nat:=248
abbrev KB.ae6:=@func276
abbrev KB.aeS:=@ntmps276
abbrev KB.ae5:=@func275
abbrev KB.aeR:=@ntmps275
abbrev KB.ae4:=@func277
abbrev KB.aeQ:=@ntmps277
abbrev KB.OT:Nat:=244
abbrev KB.abB:Nat:=242
abbrev KB.aem:=@underlying238
abbrev KB.ael:=@underlying335
abbrev KB.ae3:=@func213
abbrev KB.aeP:=@ntmps213
abbrev KB.aeN:Nat:=279
abbrev KB.Al:Nat:=275
abbrev KB.FR:Nat:=277
abbrev KB.aeo:Nat:=238
abbrev KB.qg:Nat:=337
abbrev KB.mK:Nat:=340
abbrev KB.aen:Nat:=335
abbrev KB.abA:=@underlying337
abbrev KB.abz:=@underlying244
abbrev KB.ae2:=@func216
abbrev KB.aeO:=@ntmps216
abbrev KB.aeM:Nat:=216
section
def qs1{p:Prop}(h:p:=by
 have Q:(k:Int)<8:=I;simp only[KC.qv,KB.qv];go_enter qF1,qN2;go_upto_region 1 with fail
 have B:J ((((w.alloc<|i' (θ<|aT e) bL).alloc<|i' #[(dO x),(dN x)] iC).alloc<|i' jf bL).1[δ w.1]?=z' (i' (θ<|aT e) bL (0,0))/\(((w.alloc<|i' (θ<|aT e) bL).alloc<|i' #[(dO x),(dN x)] iC).alloc<|i' jf bL).1[δ w.1+1]?=z' (i' #[(dO x),(dN x)] iC (0,0))/\(((w.alloc<|i' (θ<|aT e) bL).alloc<|i' #[(dO x),(dN x)] iC).alloc<|i' jf bL).1[δ w.1+2]?=z' (i' (θ<|qh) bL (0,0))/\Below w.1.size w (((w.alloc<|i' (θ<|aT e) bL).alloc<|i' #[(dO x),(dN x)] iC).alloc<|i' jf bL)):=by obtain⟨s,v,b⟩:=YB w (i' (θ<|aT e) bL) (i' #[(dO x),(dN x)] iC)<|i' jf bL;exact⟨s,v,b,eD⟩
 generalize(((w.alloc<|i' (θ<|aT e) bL).alloc<|i' #[(dO x),(dN x)] iC).alloc<|i' jf bL)=V at B|-;obtain⟨E,g⟩:=A B.a;obtain⟨c,d⟩:=A B.b;have t:χ V (O w.1.size<|1+k*2)=z' (dO<|e.at k):=by rw[E];exact(cL ..).trans (iJ e hk).1
 have Y:χ V (O w.1.size<|1+k*2+1)=z' (dN<|e.at k):=by rw[E];exact(cL ..).trans (iJ e hk).2
 clear E;go_upto_region 2 with fail
 have X:J ((κ (κ V (O w.1.size<|1+k*2)<|dO x) (O w.1.size<|1+k*2+1)<|dN x).1[δ w.1]?=z' (i' (θ<|aT<|e.put k x) bL (0,0))/\(κ (κ V (O w.1.size<|1+k*2)<|dO x) (O w.1.size<|1+k*2+1)<|dN x).1[δ w.1+2]?=z' (i' (θ<|qh) bL (0,0))/\Below w.1.size w (κ (κ V (O w.1.size<|1+k*2)<|dO x) (O w.1.size<|1+k*2+1)<|dN x)):=by refine⟨?_,((aJ<|by show δ w.1+2≠δ w.1;omega).trans (aJ<|by show δ w.1+2≠δ w.1;omega)).trans B.c,(B.C.setCell aK _).setCell aK _⟩;rw[H (H B.a _) _,Dd e hk]
 generalize(κ (κ V (O w.1.size<|1+k*2)<|dO x) (O w.1.size<|1+k*2+1)<|dN x)=q at X|-;obtain⟨V,b⟩:=Ea<|e.put k x;rw[<-b]at X;have f:=hid b;clear g c d t Y b;have U:=cK (n:=17) X.b rfl;go_wp2_with (first|(refine wpList_load_mid rfl bL (.tmp 3) rfl w.1.size 0 rfl (aT V) _ (bu X.a) gU rfl M ?_)|(refine wpList_store_mid rfl bL (.tmp 6) (.tmp 11) rfl (δ w.1+1+1) 0 (θ<|aT V) rfl rfl U M (bO _) ?_));have b:=cX X.b (vs:=aT V) rfl;have C:=run_loadVar_mid (P:=Tryz.prog) (ψ q (δ w.1+1+1) 0<|aT V) (δ w.1+1+1) 0 bL (aT V) _ (bu b) gU rfl M
 refine aE (v:=j'<|θ<|aT V) (by simp[results,results309,results319,C,Act.put,asAddr]) rfl ⟨by rw[f.o],dJ I _ _ _ X.B⟩):p:=h
open KC in
def KC.kL(e:PE)(k:Nat)(x:VV)(w:World)(hk:k<8):
 Cl 309 #[.agg<|θ<|KC.aT e,G k,KC.qv x] w (Rb w<|.agg<|θ<|KC.aT<|e.put k x):=by exact qs1
open KB in
def KB.kL(e:PE)(k:Nat)(x:VV)(w:World)(hk:k<8):
 Cl 319 #[.agg<|θ<|KB.aT e,G k,KB.qv x] w (Rb w<|.agg<|θ<|KB.aT<|e.put k x):=by exact qs1
end
def KC.vC (w : p') : (nilAhead 605 328 (j' #[]) "warrant/rules.compute").run Tryz.prog w = .ok (z' O') w := by kernel_rfl
def KB.vC (w : p') : (nilAhead 605 331 (j' #[]) "warrant/rules.compute").run Tryz.prog w = .ok (z' O') w := by kernel_rfl
def KC.yx (w : p') : (nilAhead 605 328 (j' #[]) "warrant/rules.assume").run Tryz.prog w = .ok (z' O') w := by kernel_rfl
def KB.yx (w : p') : (nilAhead 605 331 (j' #[]) "warrant/rules.assume").run Tryz.prog w = .ok (z' O') w := by kernel_rfl
def KC.FP (w : p') : (nilAhead 605 328 (j' #[]) "warrant/rules.meet").run Tryz.prog w = .ok (z' O') w := by kernel_rfl
def KB.FP (w : p') : (nilAhead 605 331 (j' #[]) "warrant/rules.meet").run Tryz.prog w = .ok (z' O') w := by kernel_rfl
def KC.FQ (w : p') : (nilAhead 605 328 (j' #[]) "warrant/rules.join").run Tryz.prog w = .ok (z' O') w := by kernel_rfl
def KB.FQ (w : p') : (nilAhead 605 331 (j' #[]) "warrant/rules.join").run Tryz.prog w = .ok (z' O') w := by kernel_rfl
def KC.Br (w : p') : (nilAhead 605 328 (j' #[]) "warrant/rules.below").run Tryz.prog w = .ok (z' O') w := by kernel_rfl
def KB.Br (w : p') : (nilAhead 605 331 (j' #[]) "warrant/rules.below").run Tryz.prog w = .ok (z' O') w := by kernel_rfl
def KC.nt (w : p') : (method 605 328 (j' #[]) "warrant/rules.constant").run Tryz.prog w = .ok (385, j' #[]) w := by kernel_rfl
def KB.nt (w : p') : (method 605 331 (j' #[]) "warrant/rules.constant").run Tryz.prog w = .ok (392, j' #[]) w := by kernel_rfl
def KC.Bs (w : p') : (method 605 328 (j' #[]) "warrant/rules.input").run Tryz.prog w = .ok (386, j' #[]) w := by kernel_rfl
def KB.Bs (w : p') : (method 605 331 (j' #[]) "warrant/rules.input").run Tryz.prog w = .ok (393, j' #[]) w := by kernel_rfl
def KC.vD (w : p') : (method 605 328 (j' #[]) "warrant/rules.compute").run Tryz.prog w = .ok (384, j' #[]) w := by kernel_rfl
def KB.vD (w : p') : (method 605 331 (j' #[]) "warrant/rules.compute").run Tryz.prog w = .ok (391, j' #[]) w := by kernel_rfl
def KC.yz (w : p') : (method 605 328 (j' #[]) "warrant/rules.assume").run Tryz.prog w = .ok (382, j' #[]) w := by kernel_rfl
def KB.yz (w : p') : (method 605 331 (j' #[]) "warrant/rules.assume").run Tryz.prog w = .ok (389, j' #[]) w := by kernel_rfl
def KC.FT (w : p') : (method 605 328 (j' #[]) "warrant/rules.meet").run Tryz.prog w = .ok (388, j' #[]) w := by kernel_rfl
def KB.FT (w : p') : (method 605 331 (j' #[]) "warrant/rules.meet").run Tryz.prog w = .ok (395, j' #[]) w := by kernel_rfl
def KC.FU (w : p') : (method 605 328 (j' #[]) "warrant/rules.join").run Tryz.prog w = .ok (387, j' #[]) w := by kernel_rfl
def KB.FU (w : p') : (method 605 331 (j' #[]) "warrant/rules.join").run Tryz.prog w = .ok (394, j' #[]) w := by kernel_rfl
def KC.Bt (w : p') : (method 605 328 (j' #[]) "warrant/rules.below").run Tryz.prog w = .ok (383, j' #[]) w := by kernel_rfl
def KB.Bt (w : p') : (method 605 331 (j' #[]) "warrant/rules.below").run Tryz.prog w = .ok (390, j' #[]) w := by kernel_rfl
def YX{p:Prop}(h:p:=by
 exact((aq eD U.o).setCell G' _).setCell G' _):p:=h
def KC.jt(e:PE)(o:lz)(w:p')(a:o.aU=N'->0<=o.var/\o.var<8):
  Cl 310 #[.iface 328<|j' #[],j'<|θ<|KC.aT e,j' #[h' o.aU,G o.var,G o.cg]] w (Rb w<|KC.qv<|jg e o):=by
 obtain⟨y,q,c⟩:=o;simp only[jg]at a|-;cases y
 .have Y:=hid λW=>Kk (j' #[]) c W rfl;have d:=KC.nt;go_enter func310,ntmps310;go_wp2_with (go_at_call 385;refine(Y.o _).mono ?_;rintro r t ⟨rfl,(U:J _)⟩;have E:=A<|aG U.o Eo.2.2);have R:=(A<|H (o:=1) (H (o:=0) (aG U.o Eo.2.2)<|h' (VV.one c).any)<|G (VV.one c).lo).1;simp only[VV.one]at R;refine aE (v:=KC.qv<|VV.one c) (by simp[results310,go_sem,R,KC.qv,VV.one]) rfl ⟨ak,?_⟩;exact YX
 obtain⟨k,rfl⟩:∃k:Nat,q=(k:Int):=⟨q.toNat,I' ((a rfl).1)⟩;have b:k<8:=by have:=(a rfl).2;omega
 have Q:(k:Int)<8:=I;clear a;go_enter func310,ntmps310;go_upto_region 2 with fail
 have B:=hid<|Aa (YB w (i' (θ<|KC.aT e) 228) (qy k c)<|i' vm 225)<|mx w (i' (θ<|KC.aT e) 228) (qy k c)<|i' vm 225;generalize((w.alloc<|i' (θ<|KC.aT e) 228).alloc<|qy k c).alloc (i' vm 225)=V at B|-;have E:=A B.a.1;have a:=A B.a.2.1;have W:=A B.a.2.2;have t:χ V (O w.1.size<|1+k*2)=z' (h' (e.at k).any):=by rw[E.1];exact(cL ..).trans (KC.iJ e b).1
 have Y:χ V (O w.1.size<|1+k*2+1)=z' (G (e.at k).lo):=by rw[E.1];exact(cL ..).trans (KC.iJ e b).2
 clear E;go_wp2_with fail;refine aE (v:=KC.qv<|e.at k) (by simp[results310,go_sem,(A<|H (o:=1) (H (o:=0) B.a.2.2<|h' (e.at k).any)<|G (e.at k).lo).1,KC.qv]) rfl ⟨ak,?_⟩;exact(B.A.setCell G' _).setCell G' _
def KB.jt(e:PE)(o:lz)(w:p')(a:o.aU=N'->0<=o.var/\o.var<8):
  Cl 320 #[.iface 331<|j' #[],j'<|θ<|KB.aT e,j' #[h' o.aU,G o.var,G o.cg]] w (Rb w<|KB.qv<|jg e o):=by
 obtain⟨y,q,c⟩:=o;simp only[jg]at a|-;cases y
 .have Y:=hid λW=>K9 (j' #[]) c W rfl;have d:=KB.nt;simp only[eL]at Y;go_enter func320,ntmps320;go_wp2_with (go_at_call 392;refine(Y.o _).mono ?_;rintro r t ⟨rfl,(U:J _)⟩;have E:=A<|aG U.o Eo.2.2);have R:=(A<|H (o:=1) (H (o:=0) (aG U.o Eo.2.2)<|G (VV.one c).lo)<|G (VV.one c).hi).1;simp only[VV.one]at R;refine aE (v:=KB.qv<|VV.one c) (by simp[results320,go_sem,R,KB.qv,VV.one]) rfl ⟨ak,?_⟩;exact YX
 obtain⟨k,rfl⟩:∃k:Nat,q=(k:Int):=⟨q.toNat,I' ((a rfl).1)⟩;have b:k<8:=by have:=(a rfl).2;omega
 have Q:(k:Int)<8:=I;clear a;go_enter func320,ntmps320;go_upto_region 2 with fail
 have B:=hid<|Aa (YB w (i' (θ<|KB.aT e) 250) (qy k c) iI)<|mx w (i' (θ<|KB.aT e) 250) (qy k c) iI;generalize((w.alloc<|i' (θ<|KB.aT e) 250).alloc<|qy k c).alloc iI=V at B|-;have E:=A B.a.1;have a:=A B.a.2.1;have W:=A B.a.2.2;have t:χ V (O w.1.size<|1+k*2)=z' (G (e.at k).lo):=by rw[E.1];exact(cL ..).trans (KB.iJ e b).1
 have Y:χ V (O w.1.size<|1+k*2+1)=z' (G (e.at k).hi):=by rw[E.1];exact(cL ..).trans (KB.iJ e b).2
 clear E;go_wp2_with fail;refine aE (v:=KB.qv<|e.at k) (by simp[results320,go_sem,(A<|H (o:=1) (H (o:=0) B.a.2.2<|G (e.at k).lo)<|G (e.at k).hi).1,KB.qv]) rfl ⟨ak,?_⟩;exact(B.A.setCell G' _).setCell G' _
section
def KC.Vu(a _:VV):Option VV:=z' a
def KB.Vu(a b:VV):Option VV:=if (cA a b.lo b.hi).lo<=(cA a b.lo b.hi).hi then z' (cA a b.lo b.hi) else A'
def Hh(a b:VV):nQ (b8 a) (b8 b)=b8 (cA a b.lo b.hi):=by simp only[nQ,b8,cA,eR];constructor<;>split<;>omega
def KC.Mj(a b:VV):∃m t,KC.Vu a b=(if t then z' m else A')/\∀w,Cl 388 #[j' #[],KC.qv a,KC.qv b] w (Rb w<|o' #[KC.qv m,h' t]):=⟨a,N',rfl,λw=>Pq (j' #[]) a.any b.any a.lo b.lo w rfl⟩
def KB.Mj(a b:VV):∃m t,KB.Vu a b=(if t then z' m else A')/\∀w,Cl 395 #[j' #[],KB.qv a,KB.qv b] w (Rb w<|o' #[KB.qv m,h' t]):=by refine⟨cA a b.lo b.hi,decide ((cA a b.lo b.hi).lo<=(cA a b.lo b.hi).hi),by unfold KB.Vu;simp,λw=>?_⟩;have h:=Cc (j' #[]) (b8 a) (b8 b) w rfl;rw[Hh]at h;exact h
def KC.gx(e:PE)(o:lz)(x:VV):PE:=if e.r&&o.aU then(match KC.Vu (e.at o.var.toNat) x with|some m=>e.put o.var.toNat m|none=>PE.zero) else e
def KB.gx(e:PE)(o:lz)(x:VV):PE:=if e.r&&o.aU then(match KB.Vu (e.at o.var.toNat) x with|some m=>e.put o.var.toNat m|none=>PE.zero) else e
def qs2{p:Prop}(h:p:=by
 obtain⟨y,q,c⟩:=o;obtain⟨l,z⟩:=Ea<|gx e ⟨y,q,c⟩ x;rw[<-z];simp only[KC.qv,KB.qv]at ho|-;cases v:e.r
 .have K:J (l=e):=by show _=_;rw[z];(first|unfold KC.gx|unfold KB.gx);simp[v]
  clear z ho;have b:(aT e)[0]?=z' (h' false):=by rw[<-v];rfl
  clear v;go_enter qF7,qN8;go_upto_region 2 with fail
  have B:=hid<|Aa (Hw w (i' (θ<|aT e) bL) (i' #[h' y,G q,G c] 150) (i' #[(dO x),(dN x)] iC)<|i' jf bL)<|rQ w (i' (θ<|aT e) bL) (i' #[h' y,G q,G c] 150) (i' #[(dO x),(dN x)] iC)<|i' jf bL;generalize((((w.alloc<|i' (θ<|aT e) bL).alloc<|i' #[h' y,G q,G c] 150).alloc<|i' #[(dO x),(dN x)] iC).alloc<|i' jf bL)=V at B|-;have U:=cK (n:=17) B.a.2.2.2 rfl;go_wp2_with (first|(refine wpList_load_mid rfl bL (.tmp 5) rfl w.1.size 0 rfl (aT e) _ (bu B.a.1) gU rfl M ?_)|(refine wpList_store_mid rfl bL (.tmp 8) (.tmp 19) rfl (δ w.1+1+1+1) 0 (θ<|aT e) rfl rfl U M (bO _) ?_));have hq:=cX (cs:=qh) B.a.2.2.2 (vs:=aT e) rfl;have C:=run_loadVar_mid (P:=Tryz.prog) (ψ V (δ w.1+1+1+1) 0<|aT e) (δ w.1+1+1+1) 0 bL (aT e) _ (bu hq) gU rfl M;refine aE (v:=j'<|θ<|aT e) (by simp[results,results340,results341,C,Act.put,asAddr]) rfl ⟨by rw[K.o],dJ I _ _ _ B.A⟩
 cases y
 .have K:J (l=e):=by show _=_;rw[z];(first|unfold KC.gx|unfold KB.gx);simp
  clear z ho;have b:(aT e)[0]?=z' (h' true):=by rw[<-v];rfl
  clear v;go_enter qF7,qN8;go_upto_region 2 with fail
  have B:=hid<|Aa (Hw w (i' (θ<|aT e) bL) (i' #[h' false,G q,G c] 150) (i' #[(dO x),(dN x)] iC)<|i' jf bL)<|rQ w (i' (θ<|aT e) bL) (i' #[h' false,G q,G c] 150) (i' #[(dO x),(dN x)] iC)<|i' jf bL;generalize((((w.alloc<|i' (θ<|aT e) bL).alloc<|i' #[h' false,G q,G c] 150).alloc<|i' #[(dO x),(dN x)] iC).alloc<|i' jf bL)=V at B|-;have U:=cK (n:=17) B.a.2.2.2 rfl;go_wp2_with (first|(refine wpList_load_mid rfl bL (.tmp 5) rfl w.1.size 0 rfl (aT e) _ (bu B.a.1) gU rfl M ?_)|(refine wpList_store_mid rfl bL (.tmp 8) (.tmp 19) rfl (δ w.1+1+1+1) 0 (θ<|aT e) rfl rfl U M (bO _) ?_));have hq:=cX (cs:=qh) B.a.2.2.2 (vs:=aT e) rfl;have C:=run_loadVar_mid (P:=Tryz.prog) (ψ V (δ w.1+1+1+1) 0<|aT e) (δ w.1+1+1+1) 0 bL (aT e) _ (bu hq) gU rfl M;refine aE (v:=j'<|θ<|aT e) (by simp[results,results340,results341,C,Act.put,asAddr]) rfl ⟨by rw[K.o],dJ I _ _ _ B.A⟩
 obtain⟨k,rfl⟩:∃k:Nat,q=(k:Int):=⟨q.toNat,by have:=(ho rfl).1;omega⟩;have f:k<8:=by have:=(ho rfl).2;omega
 have Q:(k:Int)<8:=I;have K:J (l=match Vu (e.at k) x with|some m=>e.put k m|none=>PE.zero):=by show _=_;rw[z];(first|unfold KC.gx|unfold KB.gx);simp[v]
 have b:(aT e)[0]?=z' (h' true):=by rw[<-v];rfl
 clear z ho v;obtain⟨m,t,d,b⟩:=Mj (e.at k) x;have s:=hid b;have q:=hid λW=>kL e k m W f;rw[d]at K;clear b d;simp only[KC.qv,KB.qv]at s q;have d:=FT;have N:=FP;go_enter qF7,qN8;go_upto_region 3 with fail
 have B:=hid<|Aa (Hw w (i' (θ<|aT e) bL) (qy k c) (i' #[(dO x),(dN x)] iC)<|i' jf bL)<|rQ w (i' (θ<|aT e) bL) (qy k c) (i' #[(dO x),(dN x)] iC)<|i' jf bL;generalize((((w.alloc<|i' (θ<|aT e) bL).alloc<|qy k c).alloc<|i' #[(dO x),(dN x)] iC).alloc<|i' jf bL)=V at B|-;have S:J (∀b,Below V.1.size V b->χ b (O w.1.size<|1+k*2)=z' (dO<|e.at k)/\χ b (O w.1.size<|1+k*2+1)=z' (dN<|e.at k)/\χ b (O (δ w.1+1) 0)=z' (h' true)/\χ b (O (δ w.1+1) 1)=z' (G k)/\χ b (O (δ w.1+1) 2)=z' (G c)/\χ b (O (δ w.1+1+1) 0)=z' (dO x)/\χ b (O (δ w.1+1+1) 1)=z' (dN x)):=by intro b j;have R:=(A<|aG j B.a.1).1;have F:=(A<|aG j B.a.2.1).1;have i:=(A<|aG j B.a.2.2.1).1;exact⟨by rw[R];exact(cL ..).trans (iJ e f).1,by rw[R];exact(cL ..).trans (iJ e f).2,F 0,F 1,F 2,i 0,i 1⟩
 have E:δ w.1+3<δ V.1:=blt B.a.2.2.2;have y:δ w.1≠δ V.1:=I;have d:=y.symm;have d:δ w.1+1≠δ V.1:=I;have f:=d.symm;have g:δ w.1+1+1≠δ V.1:=I;have u:=g.symm;have d:=S.o V aQ
 go_region_held3 (λb=>χ b (O w.1.size<|1+k*2)=z' (dO<|e.at k)/\χ b (O w.1.size<|1+k*2+1)=z' (dN<|e.at k)/\χ b (O (δ w.1+1) 0)=z' (h' true)/\χ b (O (δ w.1+1) 1)=z' (G k)/\χ b (O (δ w.1+1) 2)=z' (G c)/\χ b (O (δ w.1+1+1) 0)=z' (dO x)/\χ b (O (δ w.1+1+1) 1)=z' (dN x)) (go_keep) (first|((first|go_at_call 388 | go_at_call 395);refine(s.o _).mono ?_;rintro r f ⟨rfl,c⟩;have b:f.1[δ V.1]?=z' (i' Ig iC (0,0)):=aG c (by first|exact cF V _|exact cF V.drew _);have N:=A b;have T:=hid b;clear b;have b:Below V.1.size V f:=aq ay c;have D:=hid b;have P:=S.o f b;clear c b)|((first|go_at_call 388 | go_at_call 395);refine(s.o _).mono ?_;rintro r f ⟨rfl,c⟩;have b:Below V.1.size V f:=aq ay c;have D:=hid b;have P:=S.o f b;clear c b))
 all_goals
  first
  | (
    have b:J (Below V.1.size V (κ (κ f (O V.1.size 0)<|dO m) (O V.1.size 1)<|dN m)/\(κ (κ f (O V.1.size 0)<|dO m) (O V.1.size 1)<|dN m).1[δ V.1]?=z' (i' #[(dO m),(dN m)] iC (0,0))):=⟨(D.o.setCell aK _).setCell aK _,by rw[H (H T.o _) _];rfl⟩;generalize(κ (κ f (O V.1.size 0)<|dO m) (O V.1.size 1)<|dN m)=X at b|-;have L:=hid b.o
    clear N)
  | (
    have L:J (Below V.1.size V (f.alloc<|i' #[(dO m),(dN m)] iC)/\(f.alloc<|i' #[(dO m),(dN m)] iC).1[δ f.1]?=z' (i' #[(dO m),(dN m)] iC (0,0))):=⟨aq D.o bA,cv⟩;generalize f.alloc (i' #[(dO m),(dN m)] iC)=X at L|-
    generalize δ f.1=b at L|-)
  clear d P;cases t
  .have s:J (l=PE.zero):=K.o;have b:J (Below V.1.size V X):=L.a;have U:=cK (n:=17) (aG b.o B.a.2.2.2) rfl;go_wp2_with (refine wpList_store_mid rfl bL (.tmp 8) (.tmp 36) rfl (δ w.1+1+1+1) 0 (θ<|aT PE.zero) rfl rfl U M (bO _) ?_);have hq:=cX (cs:=qh) (aG b.o B.a.2.2.2) (vs:=aT PE.zero) rfl;have C:=run_loadVar_mid (P:=Tryz.prog) (ψ X (δ w.1+1+1+1) 0<|aT PE.zero) (δ w.1+1+1+1) 0 bL (aT PE.zero) _ (bu hq) gU rfl M;refine aE (v:=j'<|θ<|aT PE.zero) (by simp[results,results340,results341,C,Act.put,asAddr]) rfl ⟨by rw[s.o],dJ I _ _ _<|aq B.A b.o⟩
  have s:J (l=e.put k m):=K.o;have b:J (Below V.1.size V X):=L.a;have c:=A<|aG b.o B.a.2.1;have W:=A L.A;go_wp2_with (first|(refine wpList_load_mid rfl bL (.tmp 5) rfl w.1.size 0 rfl (aT e) _ (bu<|aG b.o B.a.1) gU rfl M ?_)|((first|go_at_call 309 | go_at_call 319);refine(q.o _).mono ?_;rintro r E ⟨rfl,Y⟩;have l:=hid<|aq b.o Y;clear Y;have U:=cK (n:=17) (aG l.o B.a.2.2.2) rfl)|(refine wpList_store_mid rfl bL (.tmp 8) (.tmp 41) rfl (δ w.1+1+1+1) 0 (θ<|aT<|e.put k m) rfl rfl U M (bO _) ?_));have hq:=cX (cs:=qh) (aG l.o B.a.2.2.2) (vs:=aT<|e.put k m) rfl;have C:=run_loadVar_mid (P:=Tryz.prog) (ψ E (δ w.1+1+1+1) 0<|aT<|e.put k m) (δ w.1+1+1+1) 0 bL (aT<|e.put k m) _ (bu hq) gU rfl M
  refine aE (v:=j'<|θ<|aT<|e.put k m) (by simp[results,results340,results341,C,Act.put,asAddr]) rfl ⟨by rw[s.o],dJ I _ _ _<|aq B.A l.o⟩):p:=h
open KC in
def KC.oL(e:PE)(o:lz)(x:VV)(w:World)(ho:o.aU=true->0<=o.var/\o.var<8):
 Cl 340 #[.iface 328<|.agg #[],.agg (KC.aT e).toArray,.agg #[.bool o.aU,G o.var,G o.cg],KC.qv x] w (Rb w<|.agg (KC.aT<|KC.gx e o x).toArray):=by exact qs2
open KB in
def KB.oL(e:PE)(o:lz)(x:VV)(w:World)(ho:o.aU=true->0<=o.var/\o.var<8):
 Cl 341 #[.iface 331<|.agg #[],.agg (KB.aT e).toArray,.agg #[.bool o.aU,G o.var,G o.cg],KB.qv x] w (Rb w<|.agg (KB.aT<|KB.gx e o x).toArray):=by exact qs2
end
section
def KC.WC(op:Int)(a b:VV):Option VV:=if op=3/\b.any=O'/\b.lo=0 then A' else if a.any||b.any then z' VV.dT else if wo op b.lo then z' (VV.one<|jQ op a.lo b.lo) else A'
def KB.WC(op:Int)(a b:VV):Option VV:=Qs op a b
def KC.Mp(i:Int)(a b:VV)(d:dM<|b8 a)(e:dM<|b8 b):∃m t,KC.WC i a b=(if t then z' m else A')/\∀w,Cl 384 #[j' #[],G i,KC.qv a,KC.qv b] w (Rb w<|o' #[KC.qv m,h' t]):=by
 have h:=λw=>Dy (j' #[]) i a.any b.any a.lo b.lo w rfl d.lo e.lo;unfold kcR at h;unfold KC.WC;by_cases C:i=3/\b.any=O'/\b.lo=0
 .simp only[aD C]at h|-;exact⟨VV.z,O',rfl,h⟩
 simp only[aA C]at h|-;by_cases c:(a.any||b.any)=N'
 .simp only[aD c]at h|-;exact⟨VV.dT,N',rfl,h⟩
 simp only[aA c]at h|-;exact⟨VV.one<|jQ i a.lo b.lo,wo i b.lo,rfl,h⟩
def KB.Mp(i:Int)(a b:VV)(d:dM<|b8 a)(e:dM<|b8 b):∃m t,KB.WC i a b=(if t then z' m else A')/\∀w,Cl 391 #[j' #[],G i,KB.qv a,KB.qv b] w (Rb w<|o' #[KB.qv m,h' t]):=by
 have h:=λw=>Ee (j' #[]) i a b w rfl d e;unfold KB.WC;cases T:Qs i a b with
 |none=>rw[T]at h;exact⟨VV.z,O',rfl,h⟩
 |some v=>rw[T]at h;exact⟨v,N',rfl,h⟩
def KC.ru(e:PE)(n:SN):PE:=match KC.WC n.op (jg e n.a) (jg e n.b)with|some v=>e.put n.var.toNat v|none=>PE.zero
def KB.ru(e:PE)(n:SN):PE:=match KB.WC n.op (jg e n.a) (jg e n.b)with|some v=>e.put n.var.toNat v|none=>PE.zero
def qs3{p:Prop}(h:p:=by
 obtain⟨m,t,f,g⟩:=Mp n.op (jg e n.a) (jg e n.b) qF qE;obtain⟨k,l⟩:∃k:Nat,n.var=(k:Int):=⟨n.var.toNat,I⟩;have hk:k<8:=I;have s:n.var.toNat=k:=I;have HN:J (ru e n=if t then e.put k m else PE.zero):=by show _=_;(first|unfold KC.ru|unfold KB.ru);rw[f,s];cases t<;>rfl
 have U:=hid λW=>jt e n.a W ha;have C:=hid λW=>jt e n.b W hb;have u:=hid g;have o:=hid λW=>kL e k m W hk;have z:=vD;have N:=vC;generalize ru e n=ne at HN|-;generalize jg e n.a=z at U u;generalize jg e n.b=z at C u;clear f g ha hb qF qE s hv;obtain⟨x,s,op,j,f,T,g⟩:=n;simp only at l;subst l;simp only[aS,KC.qv,KB.qv]at U C u o|-;go_enter qF9,ae1;go_upto_region 1 with fail
 have B:=hid<|Aa (YB w (i' (θ<|aT e) bL) (i' #[k' bB,g' wa wl wc,G x,G k,G op,G j,h' f.aU,G f.var,G f.cg,h' T.aU,G T.var,G T.cg,g' ea el ec,k' g] 152)<|i' jf bL)<|mx w (i' (θ<|aT e) bL) (i' #[k' bB,g' wa wl wc,G x,G k,G op,G j,h' f.aU,G f.var,G f.cg,h' T.aU,G T.var,G T.cg,g' ea el ec,k' g] 152)<|i' jf bL;generalize(((w.alloc<|i' (θ<|aT e) bL).alloc<|i' #[k' bB,g' wa wl wc,G x,G k,G op,G j,h' f.aU,G f.var,G f.cg,h' T.aU,G T.var,G T.cg,g' ea el ec,k' g] 152).alloc<|i' jf bL)=V at B|-;have g:J (∀W',Below V.1.size V W'->χ W' (O (δ w.1+1) 3)=z' (G k)/\χ W' (O (δ w.1+1) 4)=z' (G op)/\χ W' (O (δ w.1+1) 5)=z' (G j)/\χ W' (O (δ w.1+1) 6)=z' (h' f.aU)/\χ W' (O (δ w.1+1) 7)=z' (G f.var)/\χ W' (O (δ w.1+1) 8)=z' (G f.cg)/\χ W' (O (δ w.1+1) 9)=z' (h' T.aU)/\χ W' (O (δ w.1+1) 10)=z' (G T.var)/\χ W' (O (δ w.1+1) 11)=z' (G T.cg)):=by intro W' j;have F:=(A<|aG j B.a.2.1).1;exact⟨F 3,F 4,F 5,F 6,F 7,F 8,F 9,F 10,F 11⟩
 have E : δ w.1 + 2 < δ V.1 := blt B.o.1.2.2;refine wp_region_held_drew (S := λW' => Below V.1.size V W') M (aQ.drew) λaC => ?_;refine tq 0 (.iface h!<|j' #[]) ?_;refine tq 1 (m'<|z'<|O (δ w.1 + 1) 4) ?_;refine tr 2 (G op) (λW' aW => g.o W' aW) ?_;refine tq 3 (.iface h!<|j' #[]) ?_;refine tz 4 (j'<|θ<|aT e) ?_ (y := yieldsIf_load_mid M _ _ rfl _ _ rfl _ _ (λW' aW => bu<|aG aW B.o.1.1) gU rfl M);refine tq 5 (m'<|z'<|O (δ w.1 + 1) 6) ?_;refine tr 6 (j'<|cD f.aU f.var f.cg) (λW' aW => g.o W' aW) ?_;refine tq 8 (.iface h!<|j' #[]) ?_;refine tz 9 (j'<|θ<|aT e) ?_ (y := yieldsIf_load_mid M _ _ rfl _ _ rfl _ _ (λW' aW => bu<|aG aW B.o.1.1) gU rfl M);refine tq 10 (m'<|z'<|O (δ w.1 + 1) 9) ?_;refine tr 11 (j'<|cD T.aU T.var T.cg) (λW' aW => g.o W' aW) ?_;refine tq 13 (.func (.method "warrant/rules.compute") #[.iface h!<|j' #[]] #[]) ?_;refine tq 14 (.func (.method "warrant/rules.compute") #[.iface h!<|j' #[]] #[]) ?_;refine tq 15 (.iface h!<|j' #[]) ?_;refine wpAnyH_ready (rs := [7, 20]) M ak ?_;refine AllReadyH.cons rfl (λK j => ?_) (AllReadyH.cons rfl (λK j => ?_) AllReadyH.nil);go_simp;refine(U.o _).mono ?_;rintro r f ⟨rfl,hb⟩
 first|(have g:=aG hb T.o;have T:=hid g;clear g)|(have g:f.1[δ V.1]?=z' (i' Ig iC (0,0)):=aG hb (by first|exact cF V _|exact cF V.drew _);have T:=hid g;clear g)|skip
 have D:J (Below V.1.size V f):=aq ay hb;clear hb;refine j.out _ _ D.o λaC=>?_;clear j K;refine pt ?_;refine wpAnyH_ready (rs:=[12,20]) M ak ?_;refine AllReadyH.cons rfl (λK j=>?_) (AllReadyH.cons rfl (λK j=>?_) AllReadyH.nil);go_simp;refine(C.o _).mono ?_;rintro r X ⟨rfl,hb⟩
 first|(have g:=aG hb T.o;have T:=hid g;clear g)|(have g:X.1[δ f.1]?=z' (i' Ig iC (0,0)):=aG hb (by first|exact cF f _|exact cF f.drew _);have T:=hid g;clear g)|skip
 have L:J (Below V.1.size V X):=aq (aq D.o ay) hb;clear hb;refine j.out _ _ L.o λaC=>?_;clear j K;refine pt ?_;refine wpAnyH_ready (rs:=[16,20]) M ak ?_;refine AllReadyH.cons rfl (λK j=>?_) (AllReadyH.cons rfl (λK j=>?_) AllReadyH.nil);go_simp;refine(u.o _).mono ?_;rintro r E ⟨rfl,hb⟩
 first|(have g:=aG hb T.o;have T:=hid g;clear g)|(have g:E.1[δ X.1]?=z' (i' Ig iC (0,0)):=aG hb (by first|exact cF X _|exact cF X.drew _);have T:=hid g;clear g)|skip
 have l:J (Below V.1.size V E):=aq (aq L.o ay) hb;clear hb;refine j.out _ _ l.o λaC=>?_;clear j K;refine pt ?_;refine tq 17 (o' #[j' #[(dO m),(dN m)],h' t]) ?_;refine tq 18 (j' #[(dO m),(dN m)]) ?_;refine tq 19 (h' t) ?_;refine r1 20 λK j=>?_;go_simp;refine j.out _ _ (aq l.o ay) λaC=>?_;clear j K;refine pt ?_;refine r1 21 λK j=>?_;go_simp;refine j.out _ _ (by first|exact((l.o.setCell (by show _<=δ E.1;first|exact aK|exact l.o.size) _).setCell (by show _<=δ E.1;first|exact aK|exact l.o.size) _)|exact aq l.o ay) λaC=>?_;clear j K;refine pt ?_;refine tq 22 (h' t) ?_;refine wpAnyH_done M ?_ _;rotate_left 1;go_simp;refine j.out _ _ (aq L.o ay) λaC=>?_;clear j K;refine pt ?_;refine r1 16 λK j=>?_;go_simp;refine(u.o _).mono ?_;rintro r E ⟨rfl,hb⟩
 first|(have g:=aG hb T.o;have T:=hid g;clear g)|(have g:E.1[δ X.1]?=z' (i' Ig iC (0,0)):=aG hb (by first|exact cF X _|exact cF X.drew _);have T:=hid g;clear g)|skip
 have l:J (Below V.1.size V E):=aq (aq L.o ay) hb;clear hb;refine j.out _ _ l.o λaC=>?_;clear j K;refine pt ?_;refine tq 17 (o' #[j' #[(dO m),(dN m)],h' t]) ?_;refine tq 18 (j' #[(dO m),(dN m)]) ?_;refine tq 19 (h' t) ?_;refine r1 21 λK j=>?_;have N:=A T.o;go_simp;refine j.out _ _ (by first|exact((l.o.setCell (by show _<=δ X.1;first|exact aK|exact L.o.size) _).setCell (by show _<=δ X.1;first|exact aK|exact L.o.size) _)|exact aq l.o ay) λaC=>?_;clear j K;refine pt ?_;clear N;refine tq 22 (h' t) ?_;refine wpAnyH_done M ?_ _;rotate_left 1;go_simp;refine j.out _ _ (aq D.o ay) λaC=>?_;clear j K;refine pt ?_;refine r1 12 λK j=>?_;go_simp;refine(C.o _).mono ?_;rintro r X ⟨rfl,hb⟩
 first|(have g:=aG hb T.o;have T:=hid g;clear g)|(have g:X.1[δ f.1]?=z' (i' Ig iC (0,0)):=aG hb (by first|exact cF f _|exact cF f.drew _);have T:=hid g;clear g)|skip
 have L:J (Below V.1.size V X):=aq (aq D.o ay) hb;clear hb;refine j.out _ _ L.o λaC=>?_;clear j K;refine pt ?_;refine r1 16 λK j=>?_;go_simp;refine(u.o _).mono ?_;rintro r E ⟨rfl,hb⟩
 first|(have g:=aG hb T.o;have T:=hid g;clear g)|(have g:E.1[δ X.1]?=z' (i' Ig iC (0,0)):=aG hb (by first|exact cF X _|exact cF X.drew _);have T:=hid g;clear g)|skip
 have l:J (Below V.1.size V E):=aq (aq L.o ay) hb;clear hb;refine j.out _ _ l.o λaC=>?_;clear j K;refine pt ?_;refine tq 17 (o' #[j' #[(dO m),(dN m)],h' t]) ?_;refine tq 18 (j' #[(dO m),(dN m)]) ?_;refine tq 19 (h' t) ?_;refine r1 21 λK j=>?_;have N:=A T.o;go_simp;refine j.out _ _ (by first|exact((l.o.setCell (by show _<=δ f.1;first|exact aK|exact D.o.size) _).setCell (by show _<=δ f.1;first|exact aK|exact D.o.size) _)|exact aq l.o ay) λaC=>?_;clear j K;refine pt ?_;clear N;refine tq 22 (h' t) ?_;refine wpAnyH_done M ?_ _;rotate_left 1;go_simp;refine j.out _ _ ay λaC=>?_;clear j K;refine pt ?_;refine r1 7 λK j=>?_;go_simp;refine(U.o _).mono ?_;rintro r f ⟨rfl,hb⟩
 first|(have g:=aG hb T.o;have T:=hid g;clear g)|(have g:f.1[δ V.1]?=z' (i' Ig iC (0,0)):=aG hb (by first|exact cF V _|exact cF V.drew _);have T:=hid g;clear g)|skip
 have D:J (Below V.1.size V f):=aq ay hb;clear hb;refine j.out _ _ D.o λaC=>?_;clear j K;refine pt ?_;refine r1 12 λK j=>?_;go_simp;refine(C.o _).mono ?_;rintro r X ⟨rfl,hb⟩
 first|(have g:=aG hb T.o;have T:=hid g;clear g)|(have g:X.1[δ f.1]?=z' (i' Ig iC (0,0)):=aG hb (by first|exact cF f _|exact cF f.drew _);have T:=hid g;clear g)|skip
 have L:J (Below V.1.size V X):=aq (aq D.o ay) hb;clear hb;refine j.out _ _ L.o λaC=>?_;clear j K;refine pt ?_;refine r1 16 λK j=>?_;go_simp;refine(u.o _).mono ?_;rintro r E ⟨rfl,hb⟩
 first|(have g:=aG hb T.o;have T:=hid g;clear g)|(have g:E.1[δ X.1]?=z' (i' Ig iC (0,0)):=aG hb (by first|exact cF X _|exact cF X.drew _);have T:=hid g;clear g)|skip
 have l:J (Below V.1.size V E):=aq (aq L.o ay) hb;clear hb;refine j.out _ _ l.o λaC=>?_;clear j K;refine pt ?_;refine tq 17 (o' #[j' #[(dO m),(dN m)],h' t]) ?_;refine tq 18 (j' #[(dO m),(dN m)]) ?_;refine tq 19 (h' t) ?_;refine r1 21 λK j=>?_;have N:=A T.o;go_simp;refine j.out _ _ (by exact((l.o.setCell aK _).setCell aK _)) λaC=>?_;clear j K;refine pt ?_;clear N;refine tq 22 (h' t) ?_;refine wpAnyH_done M ?_ _
 all_goals
  first
  | (
    have HX:J (Below V.1.size V (κ (κ E (O V.1.size 0)<|dO m) (O V.1.size 1)<|dN m)/\(κ (κ E (O V.1.size 0)<|dO m) (O V.1.size 1)<|dN m).1[δ V.1]?=z' (i' #[(dO m),(dN m)] iC (0,0))):=⟨(l.o.setCell aK _).setCell aK _,by rw[H (H (show E.1[δ V.1]?=z' (i' Ig iC (0,0))from T.o) _) _];rfl⟩
    generalize(κ (κ E (O V.1.size 0)<|dO m) (O V.1.size 1)<|dN m)=Y at HX|-)
  | (
    have HX:J (Below V.1.size V (κ (κ E (O f.1.size 0)<|dO m) (O f.1.size 1)<|dN m)/\(κ (κ E (O f.1.size 0)<|dO m) (O f.1.size 1)<|dN m).1[δ f.1]?=z' (i' #[(dO m),(dN m)] iC (0,0))):=⟨(l.o.setCell (D.o.size) _).setCell (D.o.size) _,by rw[H (H (show E.1[δ f.1]?=z' (i' Ig iC (0,0))from T.o) _) _];rfl⟩
    generalize(κ (κ E (O f.1.size 0)<|dO m) (O f.1.size 1)<|dN m)=Y at HX|-)
  | (
    have HX:J (Below V.1.size V (κ (κ E (O X.1.size 0)<|dO m) (O X.1.size 1)<|dN m)/\(κ (κ E (O X.1.size 0)<|dO m) (O X.1.size 1)<|dN m).1[δ X.1]?=z' (i' #[(dO m),(dN m)] iC (0,0))):=⟨(l.o.setCell (L.o.size) _).setCell (L.o.size) _,by rw[H (H (show E.1[δ X.1]?=z' (i' Ig iC (0,0))from T.o) _) _];rfl⟩
    generalize(κ (κ E (O X.1.size 0)<|dO m) (O X.1.size 1)<|dN m)=Y at HX|-)
  | (
    have HX:J (Below V.1.size V (E.alloc<|i' #[(dO m),(dN m)] iC)/\(E.alloc<|i' #[(dO m),(dN m)] iC).1[δ E.1]?=z' (i' #[(dO m),(dN m)] iC (0,0))):=⟨aq l.o bA,cv⟩
    generalize(E.alloc<|i' #[(dO m),(dN m)] iC)=Y at HX|-)
  cases t
  .have s:J (ne=PE.zero):=HN.o;have U:=cK (n:=17) (aG HX.a B.a.2.2) rfl;go_wp2_with (refine wpList_store_mid rfl bL (.tmp 6) (.tmp 31) rfl (δ w.1+1+1) 0 (θ<|aT PE.zero) rfl rfl U M (bO _) ?_);have hq:=cX (cs:=qh) (aG HX.a B.a.2.2) (vs:=aT PE.zero) rfl;have C:=run_loadVar_mid (P:=Tryz.prog) (ψ Y (δ w.1+1+1) 0<|aT PE.zero) (δ w.1+1+1) 0 bL (aT PE.zero) _ (bu hq) gU rfl M;refine aE (v:=j'<|θ<|aT PE.zero) (by simp[results,results313,results323,C,Act.put,asAddr]) rfl ⟨by rw[s.o],dJ I _ _ _<|aq B.A HX.a⟩
  have s:J (ne=e.put k m):=HN.o;have f:=A<|aG HX.a B.a.2.1;have W:=A HX.A;go_wp2_with (first|(refine wpList_load_mid rfl bL (.tmp 4) rfl w.1.size 0 rfl (aT e) _ (bu<|aG HX.a B.a.1) gU rfl M ?_)|((first|go_at_call 309 | go_at_call 319);refine(o.o _).mono ?_;rintro r f ⟨rfl,z⟩;have Y:=hid<|aq HX.a z;clear z;have U:=cK (n:=17) (aG Y.o B.a.2.2) rfl)|(refine wpList_store_mid rfl bL (.tmp 6) (.tmp 36) rfl (δ w.1+1+1) 0 (θ<|aT<|e.put k m) rfl rfl U M (bO _) ?_));have hq:=cX (cs:=qh) (aG Y.o B.a.2.2) (vs:=aT<|e.put k m) rfl;have C:=run_loadVar_mid (P:=Tryz.prog) (ψ f (δ w.1+1+1) 0<|aT<|e.put k m) (δ w.1+1+1) 0 bL (aT<|e.put k m) _ (bu hq) gU rfl M
  refine aE (v:=j'<|θ<|aT<|e.put k m) (by simp[results,results313,results323,C,Act.put,asAddr]) rfl ⟨by rw[s.o],dJ I _ _ _<|aq B.A Y.o⟩):p:=h
open KC in
theorem KC.sJ(e:PE)(bB:ByteArray)(wa ea:Option Addr)(wl wc el ec:Nat)(n:SN)(w:World)(hv:0<=n.var/\n.var<8)(ha:n.a.aU=true->0<=n.a.var/\n.a.var<8)(hb:n.b.aU=true->0<=n.b.var/\n.b.var<8)(qF:dM<|b8<|jg e n.a)(qE:dM<|b8<|jg e n.b):
 Cl 313 #[.iface 328<|.agg #[],.agg (KC.aT e).toArray,.agg<|aS bB (.slice wa wl wc) n<|.slice ea el ec] w (Rb w<|.agg (KC.aT<|KC.ru e n).toArray):=by exact qs3
open KB in
theorem KB.sJ(e:PE)(bB:ByteArray)(wa ea:Option Addr)(wl wc el ec:Nat)(n:SN)(w:World)(hv:0<=n.var/\n.var<8)(ha:n.a.aU=true->0<=n.a.var/\n.a.var<8)(hb:n.b.aU=true->0<=n.b.var/\n.b.var<8)(qF:dM<|b8<|jg e n.a)(qE:dM<|b8<|jg e n.b):
 Cl 323 #[.iface 331<|.agg #[],.agg (KB.aT e).toArray,.agg<|aS bB (.slice wa wl wc) n<|.slice ea el ec] w (Rb w<|.agg (KB.aT<|KB.ru e n).toArray):=by exact qs3
end
section
def qs5(h:p:=by
 obtain⟨k,t⟩:∃k:Nat,n.var=(k:Int):=⟨n.var.toNat,I⟩;have hk:k<8:=I;have s:n.var.toNat=k:=I;rw[s]
 first|(have _:=y?;(first|(have _:=Dc;have f:=hid λW=>Kj (j' #[]) W rfl)|(have f:=hid λW=>K7 (j' #[]) W rfl));(first|(have _:=Dc;have o:=hid λW=>kL e k VV.dT W hk)|(have o:=hid λW=>kL e k VV.all W hk));have g:=Bs;clear hv s)|(have f:=hid λW=>jt e n.a W ha;have o:=hid λW=>kL e k (jg e n.a) W hk;generalize jg e n.a=z at f o|-;clear hv ha s)
 obtain⟨x,g,op,l,j,T,g⟩:=n;simp only at t;subst t
 first|(have _:=y?;simp only[aS,KC.qv,KB.qv,eL,VV.dT,VV.all]at f o hn|-;go_enter afc,aeY)|(simp only[aS,KC.qv,KB.qv]at f o hn|-;go_enter afd,aeZ)
 go_upto_region 1 with fail
 generalize u:(w.alloc<|i' (θ<|aT e) bL).alloc (i' jf bL)=V;have B:J ((V.1[δ w.1]?=z' (i' (θ<|aT e) bL (0,0))/\V.1[δ w.1+1]?=z' (i' jf bL (0,0)))/\Bl w V/\V.1[nb]?=z' (i' #[k' bB,g' wa wl wc,G x,G k,G op,G l,h' j.aU,G j.var,G j.cg,h' T.aU,G T.var,G T.cg,g' ea el ec,k' g] 152 (0,0))/\V.1[db]?=z' (i' #[.iface h!<|j' #[]] yw (0,0))):=by subst u;exact⟨hJ,dH,aG dH hn,aG dH hd⟩
 clear u;have l:=hid<|Aa hn hd;clear hn hd;have E:δ w.1+1<δ V.1:=blt B.a.2;refine wp_region_held_drew (S:=λW'=>Bl w W'/\W'.1[δ w.1]?=z' (i' (θ<|aT e) bL (0,0))) M ⟨B.b.drew,B.a.1⟩ λaC=>?_;refine tz 0 (j'<|θ<|aT e) ?_ (y:=yieldsIf_load_mid M _ _ rfl _ _ rfl _ _ (λW' aW=>bu aW.2) gU rfl M);refine tq 1 (qx nb) ?_;refine tr 2 (G k) (λW' aW=>Aa ((A<|aG aW.1 l.a).1) ((A<|aG aW.1 l.A).1)) ?_;refine tr 3 (.iface h!<|j' #[]) (λW' aW=>Aa ((A<|aG aW.1 l.a).1) ((A<|aG aW.1 l.A).1)) ?_
 first|(have _:=y?;refine r1 4 λK g=>?_)|(refine tz 4 (j'<|θ<|aT e) ?_ (y:=yieldsIf_load_mid M _ _ rfl _ _ rfl _ _ (λW' aW=>bu aW.2) gU rfl M);refine tq 5 (m'<|z'<|O nb 6) ?_;refine tr 6 (j'<|cD j.aU j.var j.cg) (λW' aW=>Aa ((A<|aG aW.1 l.a).1) ((A<|aG aW.1 l.A).1)) ?_;refine r1 7 λK g=>?_)
 go_simp;refine(f.o _).mono ?_;rintro r j ⟨rfl,l⟩;have f:J (Bl V j):=aq ay l;clear l;refine g.out _ _ ⟨aq B.b f.o,aG f.o B.a.1⟩ λaC=>?_;clear g K;refine pt ?_
 first|(have _:=y?;refine r1 5 λK g=>?_)|(refine r1 8 λK g=>?_)
 go_simp;refine(o.o _).mono ?_;rintro r o ⟨rfl,l⟩;have j:J (Bl V o):=aq (aq f.o ay) l;clear l;refine g.out _ _ ⟨aq B.b j.o,aG j.o B.a.1⟩ λaC=>?_;clear g K;refine pt ?_
 first|(have _:=y?;refine r1 6 λK g=>?_)|(refine r1 9 λK g=>?_)
 rw[aD M];have U:=cK (n:=17) (aG j.o B.a.2) rfl
 first|(have _:=y?;(first|(have _:=Dc;refine wp_store_mid bL (.tmp 4) (.tmp 10) rfl (δ w.1+1) 0 (θ<|aT<|e.put k ⟨true,0,0⟩) rfl rfl U M (bO _) ?_)|(refine wp_store_mid bL (.tmp 4) (.tmp 10) rfl (δ w.1+1) 0 (θ<|aT<|e.put k ⟨false,-9223372036854775808,9223372036854775807⟩) rfl rfl U M (bO _) ?_)))|(refine wp_store_mid bL (.tmp 4) (.tmp 13) rfl (δ w.1+1) 0 (θ<|aT<|e.put k z) rfl rfl U M (bO _) ?_)
 refine g.out _ _ ⟨dJ I _ _ _<|aq B.b j.o,(eA _ _ _ _ _ I).trans<|aG j.o B.a.1⟩ λaC=>?_;clear g K;refine pt ?_;refine wpAnyH_done M ?_ _;go_wp2_with fail
 first|(have _:=y?;(first|(have _:=Dc;have hq:=cX (cs:=qh) (aG j.o B.a.2) (vs:=aT<|e.put k ⟨true,0,0⟩) rfl)|(have hq:=cX (cs:=qh) (aG j.o B.a.2) (vs:=aT<|e.put k ⟨false,-9223372036854775808,9223372036854775807⟩) rfl));(first|(have _:=Dc;have C:=run_loadVar_mid (P:=Tryz.prog) (ψ o (δ w.1+1) 0<|aT<|e.put k ⟨true,0,0⟩) (δ w.1+1) 0 bL (aT<|e.put k ⟨true,0,0⟩) _ (bu hq) gU rfl M)|(have C:=run_loadVar_mid (P:=Tryz.prog) (ψ o (δ w.1+1) 0<|aT<|e.put k ⟨false,-9223372036854775808,9223372036854775807⟩) (δ w.1+1) 0 bL (aT<|e.put k ⟨false,-9223372036854775808,9223372036854775807⟩) _ (bu hq) gU rfl M));(first|(have _:=Dc;refine aE (v:=j'<|θ<|aT<|e.put k ⟨true,0,0⟩) (by simp[results,results311,results321,C,Act.put,asAddr]) rfl ⟨rfl,dJ I _ _ _<|aq B.b j.o⟩)|(refine aE (v:=j'<|θ<|aT<|e.put k ⟨false,-9223372036854775808,9223372036854775807⟩) (by simp[results,results311,results321,C,Act.put,asAddr]) rfl ⟨rfl,dJ I _ _ _<|aq B.b j.o⟩)))|(have hq:=cX (cs:=qh) (aG j.o B.a.2) (vs:=aT<|e.put k z) rfl;have C:=run_loadVar_mid (P:=Tryz.prog) (ψ o (δ w.1+1) 0<|aT<|e.put k z) (δ w.1+1) 0 bL (aT<|e.put k z) _ (bu hq) gU rfl M;refine aE (v:=j'<|θ<|aT<|e.put k z) (by simp[results,results308,results318,C,Act.put,asAddr]) rfl ⟨rfl,dJ I _ _ _<|aq B.b j.o⟩)):p:=h
open KC in
def KC.yI(e:PE)(bB:ByteArray)(wa ea:Option Addr)(wl wc el ec:Nat)(n:SN)(nb db:Nat)(w:World)(hn:w.heap[nb]?=some (.cells (aS bB (.slice wa wl wc) n<|.slice ea el ec) 152 (0,0)))(hd:w.heap[db]?=some (.cells #[.iface 328<|.agg #[]] 381 (0,0)))(hv:0<=n.var/\n.var<8)(ha:n.a.aU=true->0<=n.a.var/\n.a.var<8):
 Cl 308 #[.agg (KC.aT e).toArray,.pointer<|some<|O nb 0,.pointer<|some<|O db 0] w (Rb w<|.agg (KC.aT<|e.put n.var.toNat<|jg e n.a).toArray):=by exact qs5
open KB in
def KB.yI(e:PE)(bB:ByteArray)(wa ea:Option Addr)(wl wc el ec:Nat)(n:SN)(nb db:Nat)(w:World)(hn:w.heap[nb]?=some (.cells (aS bB (.slice wa wl wc) n<|.slice ea el ec) 152 (0,0)))(hd:w.heap[db]?=some (.cells #[.iface 331<|.agg #[]] 386 (0,0)))(hv:0<=n.var/\n.var<8)(ha:n.a.aU=true->0<=n.a.var/\n.a.var<8):
 Cl 318 #[.agg (KB.aT e).toArray,.pointer<|some<|O nb 0,.pointer<|some<|O db 0] w (Rb w<|.agg (KB.aT<|e.put n.var.toNat<|jg e n.a).toArray):=by exact qs5
def qs6(h:p:=by
 have y?:=True.intro
 exact qs5):p:=h
open KC in
def KC.yH(e:PE)(bB:ByteArray)(wa ea:Option Addr)(wl wc el ec:Nat)(n:SN)(nb db:Nat)(w:World)(hn:w.heap[nb]?=some (.cells (aS bB (.slice wa wl wc) n<|.slice ea el ec) 152 (0,0)))(hd:w.heap[db]?=some (.cells #[.iface 328<|.agg #[]] 381 (0,0)))(hv:0<=n.var/\n.var<8):
 Cl 311 #[.agg (KC.aT e).toArray,.pointer<|some<|O nb 0,.pointer<|some<|O db 0] w (Rb w<|.agg (KC.aT<|e.put n.var.toNat VV.dT).toArray):=by exact qs6
open KB in
def KB.yH(e:PE)(bB:ByteArray)(wa ea:Option Addr)(wl wc el ec:Nat)(n:SN)(nb db:Nat)(w:World)(hn:w.heap[nb]?=some (.cells (aS bB (.slice wa wl wc) n<|.slice ea el ec) 152 (0,0)))(hd:w.heap[db]?=some (.cells #[.iface 331<|.agg #[]] 386 (0,0)))(hv:0<=n.var/\n.var<8):
 Cl 321 #[.agg (KB.aT e).toArray,.pointer<|some<|O nb 0,.pointer<|some<|O db 0] w (Rb w<|.agg (KB.aT<|e.put n.var.toNat VV.all).toArray):=by exact qs6
def qs7(h:p:=by
 have Y:=hid λW=>sJ e bB wa ea wl wc el ec n W hv ha hb qF qE;clear hv ha hb qF qE;generalize ru e n=c at Y|-;obtain⟨x,q,i,b,d,T,g⟩:=n;simp only[aS]at Y hn|-;go_enter afb,aeX;go_upto_region 1 with fail
 generalize u:(w.alloc<|i' (θ<|aT e) bL).alloc (i' jf bL)=V;have B:J ((V.1[δ w.1]?=z' (i' (θ<|aT e) bL (0,0))/\V.1[δ w.1+1]?=z' (i' jf bL (0,0)))/\Bl w V/\V.1[nb]?=z' (i' #[k' bB,g' wa wl wc,G x,G q,G i,G b,h' d.aU,G d.var,G d.cg,h' T.aU,G T.var,G T.cg,g' ea el ec,k' g] 152 (0,0))/\V.1[db]?=z' (i' #[.iface h!<|j' #[]] yw (0,0))):=by subst u;exact⟨hJ,dH,aG dH hn,aG dH hd⟩
 clear u;have l:=hid<|Aa hn hd;clear hn hd;have E:δ w.1+1<δ V.1:=blt B.a.2;have b:=A B.c;have W:=A B.C;go_wp2_with (first|(refine wpList_load_mid rfl bL (.tmp 3) rfl w.1.size 0 rfl (aT e) _ (bu B.a.1) gU rfl M ?_)|((first|go_at_call 313 | go_at_call 323);refine(Y.o _).mono ?_;rintro r b ⟨rfl,hb⟩;have f:J (Bl V b):=hb;clear hb;have U:=cK (n:=17) (aG f.o B.a.2) rfl)|(refine wpList_store_mid rfl bL (.tmp 4) (.tmp 8) rfl (δ w.1+1) 0 (θ<|aT<|c) rfl rfl U M (bO _) ?_));have d:=cX (cs:=qh) (aG f.o B.a.2) (vs:=aT<|c) rfl;have C:=run_loadVar_mid (P:=Tryz.prog) (ψ b (δ w.1+1) 0<|aT<|c) (δ w.1+1) 0 bL (aT<|c) _ (bu d) gU rfl M
 refine aE (v:=j'<|θ<|aT<|c) (by simp[results,results312,results322,C,Act.put,asAddr]) rfl ⟨rfl,dJ I _ _ _<|aq B.b f.o⟩):p:=h
open KC in
def KC.yG(e:PE)(bB:x')(wa ea:t')(wl wc el ec:Nat)(n:SN)(nb db:Nat)(w:p')(hn:w.1[nb]?=z' (i' (aS bB (g' wa wl wc) n<|g' ea el ec) 152 (0,0)))(hd:w.1[db]?=z' (i' #[.iface 328<|j' #[]] 381 (0,0)))(hv:0<=n.var/\n.var<8)(ha:n.a.aU=N'->0<=n.a.var/\n.a.var<8)(hb:n.b.aU=N'->0<=n.b.var/\n.b.var<8)(qF:dM<|b8<|jg e n.a)(qE:dM<|b8<|jg e n.b):
 Cl 312 #[j'<|θ<|KC.aT e,m'<|z'<|O db 0,m'<|z'<|O nb 0] w (Rb w<|j'<|θ<|KC.aT<|KC.ru e n):=by exact qs7
open KB in
def KB.yG(e:PE)(bB:x')(wa ea:t')(wl wc el ec:Nat)(n:SN)(nb db:Nat)(w:p')(hn:w.1[nb]?=z' (i' (aS bB (g' wa wl wc) n<|g' ea el ec) 152 (0,0)))(hd:w.1[db]?=z' (i' #[.iface 331<|j' #[]] 386 (0,0)))(hv:0<=n.var/\n.var<8)(ha:n.a.aU=N'->0<=n.a.var/\n.a.var<8)(hb:n.b.aU=N'->0<=n.b.var/\n.b.var<8)(qF:dM<|b8<|jg e n.a)(qE:dM<|b8<|jg e n.b):
 Cl 322 #[j'<|θ<|KB.aT e,m'<|z'<|O db 0,m'<|z'<|O nb 0] w (Rb w<|j'<|θ<|KB.aT<|KB.ru e n):=by exact qs7
def qs8(h:p:=by
 go_enter afa,aeW;go_upto_region 1 with fail
 generalize u:(w.alloc<|i' (θ<|aT e) bL).alloc (i' jf bL)=V;have B:J ((V.1[δ w.1]?=z' (i' (θ<|aT e) bL (0,0))/\V.1[δ w.1+1]?=z' (i' jf bL (0,0)))/\Bl w V):=by subst u;exact⟨hJ,dH⟩
 clear u;have U:=cK (n:=17) B.a.2 rfl;go_wp2_with (first|(refine wpList_load_mid rfl bL (.tmp 1) rfl w.1.size 0 rfl (aT e) _ (bu B.a.1) gU rfl M ?_)|(refine wpList_store_mid rfl bL (.tmp 2) (.tmp 3) rfl (δ w.1+1) 0 (θ<|aT e) rfl rfl U M (bO _) ?_));have b:=cX (cs:=qh) B.a.2 (vs:=aT e) rfl;have C:=run_loadVar_mid (P:=Tryz.prog) (ψ V (δ w.1+1) 0<|aT e) (δ w.1+1) 0 bL (aT e) _ (bu b) gU rfl M
 refine aE (v:=j'<|θ<|aT e) (by simp[results,results316,results326,C,Act.put,asAddr]) rfl ⟨rfl,dJ I _ _ _ B.A⟩):p:=h
open KC in
def KC.yE(e:PE)(w:World):
 Cl 316 #[.agg<|θ<|KC.aT e] w (Rb w<|.agg<|θ<|KC.aT e):=by exact qs8
open KB in
def KB.yE(e:PE)(w:World):
 Cl 326 #[.agg<|θ<|KB.aT e] w (Rb w<|.agg<|θ<|KB.aT e):=by exact qs8
end
section
variable {e:PE}
def KC.WB(e:PE)(h:i<8)(w:p'):(Instr.index 226 (j'<|θ (KC.aT e).tail)<|G i).run Tryz.prog w=.ok (j' #[(h' (e.at i).any),(G (e.at i).lo)]) w:=by rcases S2 h with rfl|rfl|rfl|rfl|rfl|rfl|rfl|rfl<;>simp[Instr.index,Co<|underlying226,asIntOf,go_sem,KC.aT,PE.at]
def KB.WB(e:PE)(h:i<8)(w:p'):(Instr.index 248 (j'<|θ (KB.aT e).tail)<|G i).run Tryz.prog w=.ok (j' #[(G (e.at i).lo),(G (e.at i).hi)]) w:=by rcases S2 h with rfl|rfl|rfl|rfl|rfl|rfl|rfl|rfl<;>simp[Instr.index,Co<|underlying248,asIntOf,go_sem,KB.aT,PE.at]
def KC.qtl(h:w.1[b]?=z' (i' (θ<|KC.aT e) t (0,0))):w.rangeAt b 1 (KC.aT e).tail:=λj v R=>by have:=bu h (j+1) v<|H' R;rwa[bH,Cx]at this
def KB.qtl(h:w.1[b]?=z' (i' (θ<|KB.aT e) t (0,0))):w.rangeAt b 1 (KB.aT e).tail:=λj v R=>by have:=bu h (j+1) v<|H' R;rwa[bH,Cx]at this
def KC.WD(h:w.1[b]?=z' (i' (θ<|KC.aT e) t (0,0)))(S:i<8):χ w (O b<|1+i*2)=z' (h' (e.at i).any)/\χ w (O b<|1+i*2+1)=z' (G (e.at i).lo):=by have E:=(A h).1;exact⟨by rw[E];exact(cL ..).trans (KC.iJ e S).1,by rw[E];exact(cL ..).trans (KC.iJ e S).2⟩
def KB.WD(h:w.1[b]?=z' (i' (θ<|KB.aT e) t (0,0)))(S:i<8):χ w (O b<|1+i*2)=z' (G (e.at i).lo)/\χ w (O b<|1+i*2+1)=z' (G (e.at i).hi):=by have E:=(A h).1;exact⟨by rw[E];exact(cL ..).trans (KB.iJ e S).1,by rw[E];exact(cL ..).trans (KB.iJ e S).2⟩
def KC.JX(a b:VV):Bool:=(a.any==b.any&&a.lo==b.lo)||b.any
def KB.JX(a b:VV):Bool:=decide (b.lo<=a.lo)&&decide (a.hi<=b.hi)
def KC.Mq(a b:VV)(w:p')(d:dM<|b8 a)(e:dM<|b8 b):Cl 383 #[j' #[],KC.qv a,KC.qv b] w (Rb w<|h'<|KC.JX a b):=Km (j' #[]) a.any b.any a.lo b.lo w rfl d.lo e.lo
def KB.Mq(a b:VV)(w:p')(_:dM<|b8 a)(_:dM<|b8 b):Cl 390 #[j' #[],KB.qv a,KB.qv b] w (Rb w<|h'<|KB.JX a b):=K? (j' #[]) (b8 a) (b8 b) w rfl
def KC.gO(lo hi:PE):Bool:=if lo.r&&hi.r then(range 8).all (λi=>KC.JX (lo.at i)<|hi.at i) else !lo.r
def KB.gO(lo hi:PE):Bool:=if lo.r&&hi.r then(range 8).all (λi=>KB.JX (lo.at i)<|hi.at i) else !lo.r
def aeI{p:Prop}(h:p:=by
 have g:=hid λi W=>Mq (lo.at i) (hi.at i) W (hl i)<|hh i;simp only[KC.qv,KB.qv]at g;clear hl hh;obtain⟨a,e⟩:=Ea<|gO lo hi;rw[<-e];obtain⟨d,l⟩:=Ea lo.r;obtain⟨o,X⟩:=Ea hi.r;have c:(aT lo)[0]?=z' (h' d):=by rw[l];rfl
 have Y:(aT hi)[0]?=z' (h' o):=by rw[X];rfl
 have T:J (a=if d&&o then(range 8).all (λi=>JX (lo.at i)<|hi.at i) else !d):=by show _=_;rw[e,l,X];rfl
 clear e l X;have f:=hid λi (h:i<8) W=>WB lo h W;go_enter ae7,aeT;go_upto_region 1 with fail
 generalize u:(w.alloc<|i' (θ<|aT lo) bL).alloc (i' (θ<|aT hi) bL)=V;have B:J ((b' V w.1.size (θ<|aT lo) bL/\b' V (δ w.1+1) (θ<|aT hi) bL)/\Bl w V):=by subst u;exact⟨hJ,dH⟩
 clear u;have t:χ V (O w.1.size 0)=z' (h' d):=by rw[(A B.a.1).1];exact(cL ..).trans c
 have b:χ V (O (δ w.1+1) 0)=z' (h' o):=by rw[(A B.a.2).1];exact(cL ..).trans Y
 clear c Y;cases d
 .obtain rfl:a=N':=by rw[T.o];rfl
  go_wp2_with fail;go_ret;exact⟨rfl,B.A⟩
 cases o
 .obtain rfl:a=O':=by rw[T.o];rfl
  go_wp2_with fail;go_ret;exact⟨rfl,B.A⟩
 have e:J (a=(range 8).all (λi=>JX (lo.at i)<|hi.at i)):=by show _=_;rw[T.o];rfl
 have E:=blt B.a.2;go_wp2_with (refine wpList_load_mid rfl Wv (.tmp 20) rfl w.1.size 1 rfl (aT lo).tail _ (qtl B.a.1) Wu rfl M ?_);clear t b;go_loopw[22] (λy wr=>∃i:Nat,i<=8/\y=G i/\J ((range i).all (λi=>JX (lo.at i)<|hi.at i)=N'/\Bl V wr)) (λy _=>8-(intOf y).toNat)
 case atStart=>exact⟨0,I,rfl,rfl,aQ⟩
 obtain⟨i,b,rfl,c⟩:=hrel;by_cases L:i<8;rotate_left
 .have b:¬(i:Int)<8:=I;obtain rfl:i=8:=I;obtain rfl:a=N':=by rw[e.o];exact c.a
  go_wp2_with fail;go_ret;exact⟨rfl,aq B.A c.A⟩
 have b:(i:Int)<8:=I;have k:=f.o i L;have z:=c.A.size;obtain⟨q,b⟩:=Ea<|JX (lo.at i)<|hi.at i;have Y:=hid<|g.o i;rw[<-b]at Y;have g:=hid b;clear b;have d:=Bt;have N:=Br;go_upto_region 6 with fail
 generalize u:wr.alloc (i' #[(dO<|lo.at i),(dN<|lo.at i)] iC)=T;have X:J (Bl wr T/\b' T wr.1.size #[(dO<|lo.at i),(dN<|lo.at i)] iC):=by subst u;exact⟨bA,cv⟩
 clear u;have S:J (∀w',Bl T w'->χ w' (O wr.1.size 0)=z' (dO<|lo.at i)/\χ w' (O wr.1.size 1)=z' (dN<|lo.at i)/\χ w' (O (δ w.1+1)<|1+i*2)=z' (dO<|hi.at i)/\χ w' (O (δ w.1+1)<|1+i*2+1)=z' (dN<|hi.at i)):=by intro w' j;have R:=(A<|aG j X.A).1;have F:=WD (aG j<|aG X.a<|aG c.A B.a.2) L;exact⟨R 0,R 1,F.1,F.2⟩
 have j:=S.o T aQ;clear k
 go_region_held3 (λw'=>χ w' (O wr.1.size 0)=z' (dO<|lo.at i)/\χ w' (O wr.1.size 1)=z' (dN<|lo.at i)/\χ w' (O (δ w.1+1)<|1+i*2)=z' (dO<|hi.at i)/\χ w' (O (δ w.1+1)<|1+i*2+1)=z' (dN<|hi.at i)) (go_keep) (((first|go_at_call 383 | go_at_call 390);refine(Y.o _).mono ?_;rintro r f ⟨rfl,d⟩;have b:Bl T f:=aq ay d;have D:=hid b;have P:=S.o f b;clear d b))
 all_goals
  clear j P;cases q
  .obtain rfl:a=O':=by rw[e.o];exact uA g.o.symm L
   go_wp2_with fail;go_ret;exact⟨rfl,aq B.A<|aq c.A<|aq X.a D.o⟩
  go_wp2_with fail;go_roundw
  case rel=>exact⟨i+1,L,e',by rw[ew,c.a,<-g.o];rfl,aq c.A<|aq X.a D.o⟩
  exact F'):p:=h
open KC in
def KC.yJ(lo hi:PE)(w:p')(hl:∀i,dM<|b8<|lo.at i)(hh:∀i,dM<|b8<|hi.at i):
 Cl 273 #[.iface 328<|j' #[],j'<|θ<|KC.aT lo,j'<|θ<|KC.aT hi] w (Rb w<|h'<|KC.gO lo hi):=aeI
open KB in
def KB.yJ(lo hi:PE)(w:p')(hl:∀i,dM<|b8<|lo.at i)(hh:∀i,dM<|b8<|hi.at i):
 Cl 278 #[.iface 331<|j' #[],j'<|θ<|KB.aT lo,j'<|θ<|KB.aT hi] w (Rb w<|h'<|KB.gO lo hi):=aeI
end
def Xx(nv:Int)(x:Nd):Bool:=!x.aF||decide ((ζ x.aM:Int)=nv)
def kcV(v:Vl)(r:Int):VV:=if v.aH=1 then VV.one v.lo else if v.bY&&decide (r<=v.rank) then VV.one v.first else VV.dT
def ad8(fl:Nat)(l:u'):Option ((Int×Nat)×u'):=match rsm (100000-(fl:Int)) l with
 |some (n,r)=>z' ((((fl+n:Nat):Int),fl+n+1),r)
 |none=>A'
end Go.Proofs.YtmipbiligijcpaaGreatDoor
