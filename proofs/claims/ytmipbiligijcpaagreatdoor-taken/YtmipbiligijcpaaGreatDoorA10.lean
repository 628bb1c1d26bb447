import Derived.Test.YtmipbiligijcpaaGreatDoorA07
namespace Go.Proofs.YtmipbiligijcpaaGreatDoor
set_option linter.all false
set_option maxHeartbeats 4000000
section
variable {x:Int} {p:Prop}
open Go.RowKit Go.Proofs Go.Maps Tryz
def Rc:Tryz.prog.cellsOf 225=2:=au
def aem:Tryz.prog.cellsOf 4=1:=au
def adr:Tryz.prog.cellsOf 2=1:=au
def aar:Tryz.prog.keyTypeAt 5 225=true:=au
def Q5(h:aQ x=true):(Lit.int .i64 x).wf=true:=by
 unfold aQ at h;simp only[aS,bm]at h
 simpa[Lit.wf,IntKind.min,IntKind.max,IntKind.signed,IntKind.bits]using h
def Ls(a:Bool)(h:aQ x=true):Tryz.prog.keyLits 5 225 [.bool a,.int .i64 x]=some [.bool a,.int .i64 x]:=by
 have d:=underlying225;have f:=underlying4;have i:=underlying2;have G:=Q5 h;simp[Program.keyLits,d,f,i,Rc,aem,adr,G]
def Ra(a c:Bool)(x y:Int)(hx:aQ x=true)(T:aQ y=true)(w:World):(binOp .eql 225 (.agg #[.bool a,Iv x]) (.agg #[.bool c,Iv y])).run Tryz.prog w=.ok (.bool (a==c&&x==y)) w:=by
 rw[run_eql_struct];obtain⟨r,L,hi⟩:=GQ (P:=Tryz.prog) 9995 5 225 aar w 5 5 (.agg #[.bool a,Iv x]) (.agg #[.bool c,Iv y]) _ _ au au (Ls a hx) (Ls c T);have:r=(a==c&&x==y):=by rw[cR,hi];simp
 rw[<-this];simp only[Nat.reduceAdd]at L;rw[L];rfl
def I!(r:Value)(c:Int)(w:World)(hr:r=.agg #[]):
  Cl 385 #[r,Iv c] w (Rb w (.agg (nQ c))):=by
 subst hr;go_enter func385,ntmps385
 go_wp2_with fail
 refine aG (v:=.agg (nQ c)) (by simp[results,results385,go_sem]) rfl ⟨rfl,aX _ _ _⟩
def I?(r:Value)(w:World)(hr:r=.agg #[]):
  Cl 386 #[r] w (Rb w (.agg qo)):=by
 subst hr;go_enter func386,ntmps386
 go_wp2_with fail
 refine aG (v:=.agg qo) (by simp[results,results386,go_sem]) rfl ⟨rfl,aX _ _ _⟩
def Nq(r:Value)(a b:Bool)(x y:Int)(w:World)(hr:r=.agg #[]):
  Cl 388 #[r,.agg #[.bool a,Iv x],.agg #[.bool b,Iv y]] w (Rb w (.tuple #[.agg #[.bool a,Iv x],.bool true])):=by
 subst hr;go_enter func388,ntmps388
 go_wp2_with fail
 refine aG (v:=.tuple #[.agg #[.bool a,Iv x],.bool true]) (by simp[results,results388,go_sem]) rfl ⟨rfl,dD _ _ _ _ _⟩
def Jb(r:Value)(a b:Bool)(x y:Int)(w:World)(hr:r=.agg #[])(hx:aQ x=true)(T:aQ y=true):
  Cl 383 #[r,.agg #[.bool a,Iv x],.agg #[.bool b,Iv y]] w (Rb w (.bool ((a==b&&x==y)||b))):=by
 subst hr;have k:=fun w=>Ra a b x y hx T w
 clear hx T;obtain⟨q,A⟩:=Ea ((a==b&&x==y));rw[<-A];simp only[<-A]at k;clear A;go_enter func383,ntmps383;cases q
 ·go_wp2_with fail
  go_ret
  exact⟨ak,cq _ _ _ _⟩
 go_wp2_with fail
 go_ret
 exact⟨ak,cq _ _ _ _⟩
def Nr(r:Value)(a b:Bool)(x y:Int)(w:World)(hr:r=.agg #[])(hx:aQ x=true)(T:aQ y=true):
  Cl 387 #[r,.agg #[.bool a,Iv x],.agg #[.bool b,Iv y]] w (Rb w (if (a==b&&x==y) then .agg #[.bool a,Iv x] else .agg qo)):=by
 subst hr;have k:=fun w=>Ra a b x y hx T w
 clear hx T;obtain⟨q,A⟩:=Ea ((a==b&&x==y));rw[<-A];simp only[<-A]at k;clear A;go_enter func387,ntmps387;cases q
 ·go_wp2_with fail
  refine aG (v:=.agg qo) (by simp[results,results387,go_sem]) rfl ⟨rfl,dD _ _ _ _ _⟩
 go_wp2_with fail
 refine aG (v:=.agg #[.bool a,Iv x]) (by simp[results,results387,go_sem]) rfl ⟨rfl,dD _ _ _ _ _⟩
def kcR(op:Int)(a b:Bool)(x y:Int):Value×Bool:=if op=3/\b=false/\y=0 then(.agg uN,false) else if a||b then(.agg qo,true) else(.agg #[.bool false,Iv (qz op x y)],EW op y)
def Pq(h:p:=by
 go_wp2_with fail
 refine aG (v:=.tuple #[.agg qo,.bool true]) (by simp[results,results384,go_sem]) rfl ⟨rfl,by first|exact dD _ _ _ _ _|exact Q.o _ _ _ _ _⟩):p:=h
def Pp(h:p:=by
 go_wp2_with (go_at_call 172;refine bA (j.o _) ?_;rintro e T ⟨rfl,rfl⟩)
 refine aG (v:=.tuple #[.agg (nQ g),.bool l]) (by simp[results,results384,go_sem]) rfl ⟨rfl,by first|exact dD _ _ _ _ _|exact Q.o _ _ _ _ _⟩):p:=h
def Xb(h:p:=by
 obtain rfl:R=(.agg qo,true):=by rw[f.o];rfl
 go_enter func384,ntmps384;rcases Y with Y|rfl
 ·exact Pq
 cases K:(op==3)
 ·exact Pq
 exact Pq):p:=h
def CV(r:Value)(op:Int)(a b:Bool)(x y:Int)(w:World)(hr:r=.agg #[])(hx:aQ x=true)(n:aQ y=true):
  Cl 384 #[r,Iv op,.agg #[.bool a,Iv x],.agg #[.bool b,Iv y]] w (Rb w (.tuple #[(kcR op a b x y).1,.bool (kcR op a b x y).2])):=by
 subst hr;have k:=fun w=>Ra b false y 0 n rfl w
 clear hx n;obtain⟨q,A⟩:=Ea ((b==false&&y==0));have o:Hd (q=true↔(b=false/\y=0)):=by rw[A];exact⟨fun h=>by simpa using h,fun h=>by simpa using h⟩
 simp only[<-A]at k;clear A;have j:=hid (fun W=>Om op x y W);obtain⟨g,i⟩:=Ea (qz op x y);obtain⟨l,m⟩:=Ea (EW op y);rw[<-i,<-m]at j;obtain⟨R,M⟩:=Ea (kcR op a b x y);rw[<-M];have X:Hd (R=if op=3/\q=true then(.agg uN,false) else if a||b then(.agg qo,true) else(.agg (nQ g),l)):=by
  show _=_;rw[M,i,m];unfold kcR;simp only[o.o]
 clear i m M o;have Q:=hid (fun(a b c d e:Obj)=>(dD w a b c d).alloc (by simp;omega) e);by_cases Z:op=3/\q=true
 ·obtain⟨rfl,rfl⟩:=Z
  obtain rfl:R=(.agg uN,false):=by rw[X.o];simp
  go_enter func384,ntmps384
  go_wp2_with fail
  refine aG (v:=.tuple #[.agg uN,.bool false]) (by simp[results,results384,go_sem]) rfl ⟨rfl,by first|exact dD _ _ _ _ _|exact Q.o _ _ _ _ _⟩
 have f:Hd (R=if a||b then(.agg qo,true) else(.agg (nQ g),l)):=by show _=_;rw[X.o,aA Z]
 have Y:(op==3)=false∨q=false:=by
  rcases Bool.eq_false_or_eq_true q with h|h
  ·left;simp;intro e;exact Z ⟨e,h⟩
  right;exact h
 clear X Z;cases a;rotate_left
 ·exact Xb
 cases b
 ·obtain rfl:R=(.agg (nQ g),l):=by rw[f.o];rfl
  go_enter func384,ntmps384;rcases Y with Y|rfl
  ·exact Pp
  cases K:(op==3)
  ·exact Pp
  exact Pp
 exact Xb
def Po(h:p:=by
 repeat(first|with_reducible exact aM _ _|with_reducible refine below_drewN ?_ _|with_reducible refine kf ?_|refine rM ?_ (by show _<=_;simp;try omega) _|refine uM ?_ (by first|(simp;done)|(simp;omega)) _)):p:=h
def Fs(r:Value)(D:Int)(s a b:Bool)(x y:Int)(w:World)(hr:r=.agg #[]):
  Cl 382 #[r,Iv D,.bool s,.agg #[.bool a,Iv x],.agg #[.bool b,Iv y]] w (Rb w (.tuple #[.agg #[.bool a,Iv x],.agg #[.bool b,Iv y],.bool (a||b||(xq D x y==s))])):=by
 subst hr;have c:=hid (fun W=>NA D x y W);obtain⟨h,T⟩:=Ea (xq D x y);rw[<-T]at c⊢;clear T;obtain⟨q,A⟩:=Ea ((a||b||(h==s)));rw[<-A];cases a;rotate_left
 ·have K:Hd (q=true):=A
  clear A;go_enter func382,ntmps382
  go_upto_region 2 with fail
  go_region_law fail
  all_goals
   go_wp2_with fail
   refine aG (v:=.tuple #[.agg #[.bool true,Iv x],.agg #[.bool b,Iv y],.bool true]) (by simp[results,results382,go_sem]) rfl ⟨by rw[K.o],?_⟩;exact Po
 cases b;rotate_left
 ·have K:Hd (q=true):=A
  clear A;go_enter func382,ntmps382
  go_upto_region 2 with fail
  go_region_law fail
  all_goals
   go_wp2_with fail
   refine aG (v:=.tuple #[.agg (nQ x),.agg #[.bool true,Iv y],.bool true]) (by simp[results,results382,go_sem]) rfl ⟨by rw[K.o],?_⟩;exact Po
 obtain⟨z,R⟩:=Ea ((h==s));have K:Hd (q=z):=by show _=_;rw[A,R];rfl
 clear A;have v:=hid R;clear R;go_enter func382,ntmps382;cases h<;>cases s
 all_goals
  go_upto_region 2 with(go_at_call 173;refine bA (c.o _) ?_;rintro e d ⟨rfl,rfl⟩)
  rw[v.o]at K
  go_region_law fail
  all_goals
   go_wp2_with fail
   first|refine aG (v:=.tuple #[.agg (nQ x),.agg (nQ y),.bool true]) (by simp[results,results382,go_sem]) rfl ⟨by rw[K.o];rfl,?_⟩|refine aG (v:=.tuple #[.agg (nQ x),.agg (nQ y),.bool false]) (by simp[results,results382,go_sem]) rfl ⟨by rw[K.o];rfl,?_⟩
   exact Po
end
open Go.RowKit Go.Proofs Go.Maps Tryz
abbrev BB:=Int×Int
def ep(a:BB):Value:=.agg #[Iv a.1,Iv a.2]
abbrev BR:=BB×BB×Bool
def zk(r:BR):Value:=.tuple #[ep r.1,ep r.2.1,.bool r.2.2]
def je(a b:BB):BR:=(a,b,decide (a.1<=a.2)&&decide (b.1<=b.2))
def iL(a b:BB):BR:=if b.2=-9223372036854775808∨a.1=9223372036854775807 then((0,0),(0,0),false) else je (a.1,min a.2 (b.2-1)) (max b.1 (a.1+1),b.2)
def lU(a b:BB):BR:=je (a.1,min a.2 b.2) (max b.1 a.1,b.2)
def n!(a b:BB):BB:=(max a.1 b.1,min a.2 b.2)
def j8(a b:BB):BR:=(n! a b,n! a b,decide ((n! a b).1<=(n! a b).2))
def eY(a b:BB):BR:=(a,b,!(a.1==b.1&&a.2==b.2)||!(a.1==a.2))
def Mj(r:BR):BR:=(r.2.1,r.1,r.2.2)
def cL(ts:Int)(so:Bool)(a b:BB):BR:=
 if ts=0 then(if so then iL a b else Mj (lU b a))
 else if ts=1 then(if so then lU a b else Mj (iL b a))
 else if ts=2 then(if so then j8 a b else eY a b)
 else(if so then eY a b else j8 a b)
structure dq(a:BB):Prop where
  lo:aQ a.1=true
  hi:aQ a.2=true
def S4(w:World)(a b c d e:Obj):Bl w (((((w.alloc a).alloc b).alloc c).alloc d).alloc e):=(dD w a b c d).alloc (by simp;omega) _
def Oj(r:Value)(a b:BB)(w:World)(hr:r=.agg #[]):
  Cl 394 #[r,ep a,ep b] w (Rb w (ep (min a.1 b.1,max a.2 b.2))):=by
 subst hr;simp only[ep];go_enter func394,ntmps394
 go_wp2_with fail
 refine aG (v:=ep (min a.1 b.1,max a.2 b.2)) (by simp[results,results394,go_sem,ep]) rfl ⟨rfl,dD _ _ _ _ _⟩
def y8(w:World):
  Cl 406 #[] w (Rb w (ep (-9223372036854775808,9223372036854775807))):=by
 go_enter func406,ntmps406
 go_wp2_with fail
 refine aG (v:=ep (-9223372036854775808,9223372036854775807)) (by simp[results,results406,go_sem,ep]) rfl ⟨rfl,aC _ _⟩
def JT(r:Value)(c:Int)(w:World)(hr:r=.agg #[]):
  Cl 392 #[r,Iv c] w (Rb w (ep (c,c))):=by
 subst hr;go_enter func392,ntmps392
 go_wp2_with fail
 refine aG (v:=ep (c,c)) (by simp[results,results392,go_sem,ep]) rfl ⟨rfl,aX _ _ _⟩
def JR(r:Value)(w:World)(hr:r=.agg #[]):
  Cl 393 #[r] w (Rb w (ep (-9223372036854775808,9223372036854775807))):=by
 subst hr;have j:=hid y8;simp only[ep]at j;go_enter func393,ntmps393
 go_wp2_with (go_at_call 406;refine(j.o _).mono ?_;rintro e T ⟨rfl,D⟩;obtain⟨F,y⟩:=ae (aE D (aN _ _ _).2);have R:=hid D;clear D)
 have A:=(ae (aw (o:=0) (aE R.o (aN w _ _).2) (Iv (-9223372036854775808)))).1;have l:=(ae (aw (o:=1) (aw (o:=0) (aE R.o (aN w _ _).2) (Iv (-9223372036854775808))) (Iv 9223372036854775807))).1;refine aG (v:=ep (-9223372036854775808,9223372036854775807)) (by simp[results,results393,go_sem,ep,A,l]) rfl ⟨rfl,?_⟩;exact((aq (aX _ _ _) R.o).setCell (by show _<=w.heap.size+1;omega) _).setCell (by show _<=w.heap.size+1;omega) _
def JU(r:Value)(a b:BB)(w:World)(hr:r=.agg #[]):
  Cl 390 #[r,ep a,ep b] w (Rb w (.bool (decide (b.1<=a.1)&&decide (a.2<=b.2)))):=by
 subst hr;simp only[ep];by_cases h:b.1<=a.1
 ·go_enter func390,ntmps390
  go_wp2_with fail
  go_ret
  exact⟨by simp[h],cq _ _ _ _⟩
 have o:decide (b.1<=a.1)=false:=by simp;omega
 rw[o,wT];go_enter func390,ntmps390
 go_wp2_with fail
 go_ret
 exact⟨rfl,cq _ _ _ _⟩
def Kl{p:Prop}(h:p:=by
 repeat(first|with_reducible exact aM _ _|with_reducible refine below_drewN ?_ _|with_reducible refine kf ?_|refine rM ?_ (by show _<=_;simp;try omega) _|refine uM ?_ (by first|(simp;done)|(simp;omega)) _)):p:=h
def Bk(r:Value)(a b:BB)(w:World)(hr:r=.agg #[]):
  Cl 395 #[r,ep a,ep b] w fun e I=>e=.returned (.tuple #[ep (n! a b),.bool (decide ((n! a b).1<=(n! a b).2))])/\Bl w I:=by
 subst hr;simp only[ep,n!];go_enter func395,ntmps395;obtain⟨m,C⟩:=Ea (max a.1 b.1);obtain⟨n,J⟩:=Ea (min a.2 b.2)
 go_upto_region 2 with fail
 rw[<-C,<-J];have H:=hid (Aa C J);clear C J
 go_region_law fail
 all_goals
  go_wp2_with fail
  refine aG (v:=.tuple #[ep (m,n),.bool (decide (m<=n))]) (by simp[results,results395,go_sem,ep]) rfl ⟨by rw[H.a,H.A];rfl,?_⟩;exact Kl
def Bn(a b:BB)(w:World):
  Cl 407 #[ep a,ep b] w (Rb w (zk (je a b))):=by
 simp only[ep,zk,je];obtain⟨a1,a2⟩:=a;obtain⟨u,x⟩:=b;by_cases h:a1<=a2
 ·go_enter func407,ntmps407
  go_upto_region 1 with fail
  go_region_held3 (fun I=>I.cell? (Ad w.heap.size 0)=some (Iv a1)/\I.cell? (Ad w.heap.size 1)=some (Iv a2)/\I.cell? (Ad (w.heap.size+1) 0)=some (Iv u)/\I.cell? (Ad (w.heap.size+1) 1)=some (Iv x)) (go_keep) (fail)
  all_goals
   go_wp2_with fail
   refine aG (v:=.tuple #[ep (a1,a2),ep (u,x),.bool (decide (u<=x))]) (by simp[results,results407,go_sem,ep]) rfl ⟨by simp[h,ep],?_⟩;exact Kl
 have o:decide (a1<=a2)=false:=by simp;omega
 clear h;go_enter func407,ntmps407
 go_upto_region 1 with fail
 refine wp_region_held_drew (S:=fun I=>I.cell? (Ad w.heap.size 0)=some (Iv a1)/\I.cell? (Ad w.heap.size 1)=some (Iv a2)/\I.cell? (Ad (w.heap.size+1) 0)=some (Iv u)/\I.cell? (Ad (w.heap.size+1) 1)=some (Iv x)) au (by(try dsimp only);go_keep) (fun l=>?_);refine wpAnyH_take (i:=0) (v:=.agg #[Iv a1,Iv a2]) rfl au au au (fun _ _ _ h=>h) (aJ ⟨by rfl,fun w s=>by obtain⟨L,R,M,U⟩:=s;clear l;go_simp⟩) (i') ?_;refine pt ?_;refine wpAnyH_take (i:=1) (v:=.agg #[Iv u,Iv x]) rfl au au au (fun _ _ _ h=>h) (aJ ⟨by rfl,fun w s=>by obtain⟨L,R,M,U⟩:=s;clear l;go_simp⟩) (i') ?_;refine pt ?_;refine wpAnyH_take (i:=2) (v:=.pointer (cu w.heap.size)) rfl au au au (fun _ _ _ h=>h) (aJ ⟨by rfl,fun w s=>by obtain⟨L,R,M,U⟩:=s;clear l;go_simp⟩) (i') ?_;refine pt ?_;refine wpAnyH_take (i:=3) (v:=Iv a1) rfl au au au (fun _ _ _ h=>h) (aJ ⟨by rfl,fun w s=>by obtain⟨L,R,M,U⟩:=s;clear l;go_simp⟩) (i') ?_;refine pt ?_;refine wpAnyH_take (i:=4) (v:=.pointer (some (Ad w.heap.size 1))) rfl au au au (fun _ _ _ h=>h) (aJ ⟨by rfl,fun w s=>by obtain⟨L,R,M,U⟩:=s;clear l;go_simp⟩) (i') ?_;refine pt ?_;refine wpAnyH_take (i:=5) (v:=Iv a2) rfl au au au (fun _ _ _ h=>h) (aJ ⟨by rfl,fun w s=>by obtain⟨L,R,M,U⟩:=s;clear l;go_simp⟩) (i') ?_;refine pt ?_;refine wpAnyH_take (i:=6) (v:=.bool false) rfl au au au (fun _ _ _ h=>h) (aJ ⟨by rfl,fun w s=>by obtain⟨L,R,M,U⟩:=s;clear l;go_simp⟩) (i') ?_;refine pt ?_;refine wpAnyH_take (i:=7) (v:=.bool false) rfl au au au (fun _ _ _ h=>h) (aJ ⟨by rfl,fun w s=>by obtain⟨L,R,M,U⟩:=s;clear l;go_simp⟩) (i') ?_;refine pt ?_;refine wpAnyH_take (i:=8) (v:=undef) rfl au au au (fun _ _ _ h=>h) (aI ⟨au,rfl⟩) (i') ?_;refine pt ?_;refine wpAnyH_take (i:=9) (v:=undef) rfl au au au (fun _ _ _ h=>h) (aI ⟨au,rfl⟩) (i') ?_;refine pt ?_;refine wpAnyH_take (i:=10) (v:=undef) rfl au au au (fun _ _ _ h=>h) (aI ⟨au,rfl⟩) (i') ?_;refine pt ?_;refine wpAnyH_take (i:=11) (v:=undef) rfl au au au (fun _ _ _ h=>h) (aI ⟨au,rfl⟩) (i') ?_;refine pt ?_;refine wpAnyH_take (i:=12) (v:=undef) rfl au au au (fun _ _ _ h=>h) (aI ⟨au,rfl⟩) (i') ?_;refine pt ?_;refine wpAnyH_take (i:=13) (v:=.bool false) rfl au au au (fun _ _ _ h=>h) (aJ ⟨by rfl,fun w s=>by obtain⟨L,R,M,U⟩:=s;clear l;go_simp⟩) (i') ?_;refine pt ?_;refine r1 14 (h:=fun K A=>?_)
 go_simp
 refine A.out _ _ (by(try dsimp only);go_keep) (fun l=>?_);clear A K;refine pt ?_;refine r1 15 (h:=fun K A=>?_)
 go_simp
 refine A.out _ _ (by(try dsimp only);go_keep) (fun l=>?_);clear A K;refine pt ?_;refine tz 16 (.bool false) (y:=aJ ⟨by rfl,fun w s=>by go_simp⟩) (h:=?_);refine wpAnyH_done au ?_ _
 go_wp2_with fail
 refine aG (v:=.tuple #[ep (a1,a2),ep (u,x),.bool false]) (by simp[results,results407,go_sem,ep]) rfl ⟨by simp only[o,ep,wT],?_⟩;exact Kl
def LZ(a b:BB)(ok:Bool)(w:World):
  Cl 397 #[ep a,ep b,.bool ok] w (Rb w (zk (b,a,ok))):=by
 simp only[ep,zk];go_enter func397,ntmps397
 go_upto_region 1 with fail
 go_region_law fail
 all_goals
  go_wp2_with fail
  refine aG (v:=zk (b,a,ok)) (by simp[results,results397,go_sem,ep,zk]) rfl ⟨rfl,?_⟩;exact Kl
def GF(w:World)(a b c d:Obj):((((w.alloc a).alloc b).alloc c).alloc d).heap[w.heap.size+2]?=some c/\((((w.alloc a).alloc b).alloc c).alloc d).heap[w.heap.size+3]?=some d:=by
 have h:=aN ((w.alloc a).alloc b) c d;have z:((w.alloc a).alloc b).heap.size=w.heap.size+2:=ak
 rw[z]at h;exact h
def P0{W:World}{p q t:Nat}{y F e B:Value}(hp:W.heap[p]?=some (.cells #[y,F] t (0,0)))(hq:W.heap[q]?=some (.cells #[e,B] t (0,0)))(P:p≠q)(a b c d:Value):
  ((((W.setCell (Ad p 0) a).setCell (Ad p 1) b).setCell (Ad q 0) c).setCell (Ad q 1) d).heap[p]?=some (.cells #[a,b] t (0,0))/\((((W.setCell (Ad p 0) a).setCell (Ad p 1) b).setCell (Ad q 0) c).setCell (Ad q 1) d).heap[q]?=some (.cells #[c,d] t (0,0)):=by
 have G:((W.setCell (Ad p 0) a).setCell (Ad p 1) b).heap[p]?=some (.cells #[a,b] t (0,0)):=by rw[aw (aw hp _) _];rfl
 have O:((W.setCell (Ad p 0) a).setCell (Ad p 1) b).heap[q]?=some (.cells #[e,B] t (0,0)):=((aZ _ _ _ _ P.symm).trans (aZ _ _ _ _ P.symm)).trans hq;exact⟨((aZ _ _ _ _ P).trans (aZ _ _ _ _ P)).trans G,by rw[aw (aw O _) _];rfl⟩
def y7{w W:World}{p q:Nat}{a b c d:Value}(h:Bl w W)(hp:w.heap.size<=p)(hq:w.heap.size<=q):Bl w ((((W.setCell (Ad p 0) a).setCell (Ad p 1) b).setCell (Ad q 0) c).setCell (Ad q 1) d):=(((h.setCell hp _).setCell hp _).setCell hq _).setCell hq _
def vo(a b:BB)(w:World):
  Cl 398 #[ep a,ep b] w (Rb w (zk (lU a b))):=by
 have M:=hid (fun W=>Bn (a.1,min a.2 b.2) (max b.1 a.1,b.2) W);have e:lU a b=je (a.1,min a.2 b.2) (max b.1 a.1,b.2):=rfl;rw[e];obtain⟨⟨⟨r1,X⟩,⟨k,g⟩,c⟩,hr⟩:∃r,r=je (a.1,min a.2 b.2) (max b.1 a.1,b.2):=⟨_,rfl⟩;rw[<-hr]at M⊢;clear e hr;simp only[ep,zk]at M⊢;have p:w.heap.size+2≠w.heap.size+3:=ah
 go_enter func398,ntmps398
 go_wp2_with (go_at_call 407;refine(M.o _).mono ?_;rintro e T ⟨rfl,D⟩;have R:=hid D;clear D;obtain⟨F,y⟩:=ae (aE R.o (GF _ _ _ _ _).1);obtain⟨B,o⟩:=ae (aE R.o (GF _ _ _ _ _).2))
 have A:=P0 (aE R.o (GF _ _ _ _ _).1) (aE R.o (GF _ _ _ _ _).2) ah (Iv r1) (Iv X) (Iv k) (Iv g);refine aG (v:=.tuple #[.agg #[Iv r1,Iv X],.agg #[Iv k,Iv g],.bool c]) (by simp[results,results398,go_sem,(ae A.1).1,(ae A.2).1]) rfl ⟨rfl,y7 (aq (dD _ _ _ _ _) R.o) ah ah⟩
def Xa{p:Prop}(h:p:=by
 clear Z
 go_wp2_with fail
 refine aG (v:=.tuple #[.agg #[Iv 0,Iv 0],.agg #[Iv 0,Iv 0],.bool false]) (by simp[results,results396,go_sem]) rfl ⟨rfl,dD _ _ _ _ _⟩):p:=h
def Bm(a b:BB)(w:World)(ha:dq a)(hb:dq b):
  Cl 396 #[ep a,ep b] w (Rb w (zk (iL a b))):=by
 have H:=ha.lo;have N:=hb.hi;clear ha hb;by_cases Z:b.2=-9223372036854775808∨a.1=9223372036854775807
 ·have e:iL a b=((0,0),(0,0),false):=by unfold iL;rw[aD Z]
  rw[e];simp only[ep,zk];obtain⟨a1,a2⟩:=a;obtain⟨u,x⟩:=b;simp only at Z⊢;clear e H N;go_enter func396,ntmps396;cases G:(x==-9223372036854775808)
  ·have O:(a1==9223372036854775807)=true:=by simp at G⊢;omega
   exact Xa
  exact Xa
 have M:=hid (fun W=>Bn (a.1,min a.2 (b.2-1)) (max b.1 (a.1+1),b.2) W);have e:iL a b=je (a.1,min a.2 (b.2-1)) (max b.1 (a.1+1),b.2):=by unfold iL;rw[aA Z]
 rw[e];obtain⟨⟨⟨r1,X⟩,⟨k,g⟩,c⟩,hr⟩:∃r,r=je (a.1,min a.2 (b.2-1)) (max b.1 (a.1+1),b.2):=⟨_,rfl⟩;rw[<-hr]at M⊢;clear e hr;simp only[ep,zk]at M⊢;obtain⟨a1,a2⟩:=a;obtain⟨u,x⟩:=b;simp only at Z M H N⊢;have G:(x==-9223372036854775808)=false:=by simp;omega
 have O:(a1==9223372036854775807)=false:=by simp;omega
 have f:IntKind.i64.wrap (x-1)=x-1:=by unfold aQ at N;simp only[aS,bm]at N;simp[IntKind.wrap,IntKind.bits,IntKind.signed]at *;omega
 have z:IntKind.i64.wrap (a1+1)=a1+1:=by unfold aQ at H;simp only[aS,bm]at H;simp[IntKind.wrap,IntKind.bits,IntKind.signed]at *;omega
 clear Z H N;have p:w.heap.size+2≠w.heap.size+3:=ah
 go_enter func396,ntmps396
 go_wp2_with (go_at_call 407;refine(M.o _).mono ?_;rintro e T ⟨rfl,hb⟩;have R:=hid hb;clear hb;obtain⟨F,y⟩:=ae (aE R.o (GF _ _ _ _ _).1);obtain⟨B,o⟩:=ae (aE R.o (GF _ _ _ _ _).2))
 have A:=P0 (aE R.o (GF _ _ _ _ _).1) (aE R.o (GF _ _ _ _ _).2) ah (Iv r1) (Iv X) (Iv k) (Iv g);refine aG (v:=.tuple #[.agg #[Iv r1,Iv X],.agg #[Iv k,Iv g],.bool c]) (by simp[results,results396,go_sem,(ae A.1).1,(ae A.2).1]) rfl ⟨rfl,y7 (aq (dD _ _ _ _ _) R.o) ah ah⟩
end Go.Proofs.YtmipbiligijcpaaGreatDoor
