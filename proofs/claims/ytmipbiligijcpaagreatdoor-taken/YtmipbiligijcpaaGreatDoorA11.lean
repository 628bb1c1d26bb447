import Derived.Test.YtmipbiligijcpaaGreatDoorA10
import Derived.Test.YtmipbiligijcpaaGreatDoorA09
namespace Go.Proofs.YtmipbiligijcpaaGreatDoor
set_option linter.all false
set_option maxHeartbeats 4000000
set_option maxRecDepth 100000
open Go.RowKit Go.Proofs Go.Maps
open Go.RowKit Go.Proofs Go.Maps Tryz
def S5:Tryz.prog.cellsOf 247=2:=au
def abx:Tryz.prog.keyTypeAt 5 247=true:=au
def L0{x y:Int}(h:aQ x=true)(p:aQ y=true):Tryz.prog.keyLits 5 247 [.int .i64 x,.int .i64 y]=some [.int .i64 x,.int .i64 y]:=by
 have d:=underlying247;have i:=underlying2;have G:=Q5 h;have O:=Q5 p;simp[Program.keyLits,d,i,S5,adr,G,O]
def abw(a c x y:Int)(ha:aQ a=true)(Z:aQ c=true)(hx:aQ x=true)(T:aQ y=true)(w:World):(binOp .neq 247 (.agg #[Iv a,Iv x]) (.agg #[Iv c,Iv y])).run Tryz.prog w=.ok (.bool (!(a==c&&x==y))) w:=by
 rw[run_neq_struct];obtain⟨r,L,hi⟩:=GQ (P:=Tryz.prog) 9995 5 247 abx w 5 5 (.agg #[Iv a,Iv x]) (.agg #[Iv c,Iv y]) _ _ au au (L0 ha hx) (L0 Z T);have:r=(a==c&&x==y):=by rw[cR,hi];simp
 rw[<-this];simp only[Nat.reduceAdd]at L;rw[L];rfl
def W!{p:Prop}(h:p:=by
 repeat(first|with_reducible exact aM _ _|with_reducible refine below_drewN ?_ _|with_reducible refine kf ?_|refine rM ?_ (by show _<=_;simp;try omega) _|refine uM ?_ (by first|(simp;done)|(simp;omega)) _)):p:=h
def Dp(a b:BB)(w:World)(ha:dq a)(hb:dq b):
  Cl 400 #[ep a,ep b] w (Rb w (zk (eY a b))):=by
 obtain⟨a1,a2⟩:=a;obtain⟨u,x⟩:=b;have k:=fun w=>abw a1 u a2 x ha.lo hb.lo ha.hi hb.hi w
 clear ha hb;simp only[ep,zk,eY];obtain⟨q,hq⟩:=Ea (!(a1==u&&a2==x));simp only[<-hq]at k⊢;clear hq;cases q
 ·go_enter func400,ntmps400
  go_upto_region 1 with fail
  go_region_held3 (fun I=>I.cell? (Ad w.heap.size 0)=some (Iv a1)/\I.cell? (Ad w.heap.size 1)=some (Iv a2)/\I.cell? (Ad (w.heap.size+1) 0)=some (Iv u)/\I.cell? (Ad (w.heap.size+1) 1)=some (Iv x)) (go_keep) (fail)
  all_goals
   go_wp2_with fail
   refine aG (v:=.tuple #[.agg #[Iv a1,Iv a2],.agg #[Iv u,Iv x],.bool (!(a1==a2))]) (by simp[results,results400,go_sem,bne]) rfl ⟨ak,?_⟩;exact W!
 go_enter func400,ntmps400
 go_upto_region 1 with fail
 refine wp_region_held_drew (S:=fun I=>I.cell? (Ad w.heap.size 0)=some (Iv a1)/\I.cell? (Ad w.heap.size 1)=some (Iv a2)/\I.cell? (Ad (w.heap.size+1) 0)=some (Iv u)/\I.cell? (Ad (w.heap.size+1) 1)=some (Iv x)) au (by(try dsimp only);go_keep) (fun l=>?_);refine wpAnyH_take (i:=0) (v:=.agg #[Iv a1,Iv a2]) rfl au au au (fun _ _ _ h=>h) (aJ ⟨by rfl,fun w s=>by obtain⟨L,R,M,U⟩:=s;clear l;go_simp⟩) (i') ?_;refine pt ?_;refine wpAnyH_take (i:=1) (v:=.agg #[Iv u,Iv x]) rfl au au au (fun _ _ _ h=>h) (aJ ⟨by rfl,fun w s=>by obtain⟨L,R,M,U⟩:=s;clear l;go_simp⟩) (i') ?_;refine pt ?_;refine wpAnyH_take (i:=2) (v:=.agg #[Iv a1,Iv a2]) rfl au au au (fun _ _ _ h=>h) (aJ ⟨by rfl,fun w s=>by obtain⟨L,R,M,U⟩:=s;clear l;go_simp⟩) (i') ?_;refine pt ?_;refine wpAnyH_take (i:=3) (v:=.agg #[Iv u,Iv x]) rfl au au au (fun _ _ _ h=>h) (aJ ⟨by rfl,fun w s=>by obtain⟨L,R,M,U⟩:=s;clear l;go_simp⟩) (i') ?_;refine pt ?_;refine wpAnyH_take (i:=4) (v:=.bool true) rfl au au au (fun _ _ _ h=>h) (aJ ⟨by rfl,fun w s=>by obtain⟨L,R,M,U⟩:=s;clear l;go_simp⟩) (i') ?_;refine pt ?_;refine wpAnyH_take (i:=5) (v:=.bool true) rfl au au au (fun _ _ _ h=>h) (aJ ⟨by rfl,fun w s=>by obtain⟨L,R,M,U⟩:=s;clear l;go_simp⟩) (i') ?_;refine pt ?_;refine wpAnyH_take (i:=6) (v:=undef) rfl au au au (fun _ _ _ h=>h) (aI ⟨au,rfl⟩) (i') ?_;refine pt ?_;refine wpAnyH_take (i:=7) (v:=undef) rfl au au au (fun _ _ _ h=>h) (aI ⟨au,rfl⟩) (i') ?_;refine pt ?_;refine wpAnyH_take (i:=8) (v:=undef) rfl au au au (fun _ _ _ h=>h) (aI ⟨au,rfl⟩) (i') ?_;refine pt ?_;refine wpAnyH_take (i:=9) (v:=undef) rfl au au au (fun _ _ _ h=>h) (aI ⟨au,rfl⟩) (i') ?_;refine pt ?_;refine wpAnyH_take (i:=10) (v:=undef) rfl au au au (fun _ _ _ h=>h) (aI ⟨au,rfl⟩) (i') ?_;refine pt ?_;refine wpAnyH_take (i:=11) (v:=.bool true) rfl au au au (fun _ _ _ h=>h) (aJ ⟨by rfl,fun w s=>by obtain⟨L,R,M,U⟩:=s;clear l;go_simp⟩) (i') ?_;refine pt ?_;refine r1 12 (h:=fun K A=>?_)
 go_simp
 refine A.out _ _ (by(try dsimp only);go_keep) (fun l=>?_);clear A K;refine pt ?_;refine r1 13 (h:=fun K A=>?_)
 go_simp
 refine A.out _ _ (by(try dsimp only);go_keep) (fun l=>?_);clear A K;refine pt ?_;refine tz 14 (.bool true) (y:=aJ ⟨by rfl,fun w s=>by go_simp⟩) (h:=?_);refine wpAnyH_done au ?_ _
 go_wp2_with fail
 refine aG (v:=.tuple #[.agg #[Iv a1,Iv a2],.agg #[Iv u,Iv x],.bool true]) (by simp[results,results400,go_sem,bne]) rfl ⟨ak,?_⟩;exact W!
def JS(a b:BB)(w:World):
  Cl 399 #[ep a,ep b] w (Rb w (zk (j8 a b))):=by
 have H:=hid (fun W=>Bk (.agg #[]) a b W rfl);simp only[ep,zk,j8]at H⊢;generalize(n! a b).1=m at H⊢;generalize(n! a b).2=n at H⊢;obtain⟨q,A⟩:=Ea (decide (m<=n));rw[<-A]at H⊢;clear A;go_enter func399,ntmps399
 go_upto_region 2 with(go_at_call 395;refine(H.o _).mono ?_;rintro e T ⟨rfl,D⟩;have R:=hid D;clear D)
 have d:Hd (Bl w (T.alloc (dy m n))/\(T.alloc (dy m n)).heap[w.heap.size+2]?=some uP/\(T.alloc (dy m n)).heap[w.heap.size+3]?=some uP/\d' (T.alloc (dy m n)) T.heap.size #[Iv m,Iv n] 247/\w.heap.size+3<T.heap.size):=by
  have D:=aq R.o (aC T (dy m n));exact⟨aq (dD _ _ _ _ _) D,aE D (GF _ _ _ _ _).1,aE D (GF _ _ _ _ _).2,bf _ _,blt (aE R.o (GF _ _ _ _ _).2)⟩
 have P:=d.D;generalize T.alloc (dy m n)=r at d⊢;generalize T.heap.size=U at d P⊢;clear R H;obtain⟨F,y⟩:=ae d.b;obtain⟨B,f⟩:=ae d.c;obtain⟨x,z⟩:=ae d.d;have p:w.heap.size+2≠U:=ah
 have V:=p.symm;have i:w.heap.size+3≠U:=ah
 have k:=i.symm;have c:w.heap.size+2≠w.heap.size+3:=ah
 go_region_law fail
 all_goals
  go_wp2_with fail
  have A:=P0 d.b d.c ah (Iv m) (Iv n) (Iv m) (Iv n);have hd:∀(X:World) (o:Addr),X.drew.cell? o=X.cell? o:=fun _ _=>rfl
  refine aG (v:=.tuple #[.agg #[Iv m,Iv n],.agg #[Iv m,Iv n],.bool q]) (by simp[results,results399,go_sem,(ae A.1).1,(ae A.2).1]) rfl ⟨rfl,?_⟩
  first|exact(y7 d.a ah ah).drew|exact y7 d.a ah ah|exact below_drewN (y7 d.a ah ah) _
section
variable {p:Prop}
open Go.RowKit Go.Proofs Go.Maps Tryz
def GD(w:World)(a b c d e:Obj):(((((w.alloc a).alloc b).alloc c).alloc d).alloc e).heap[w.heap.size+3]?=some d/\(((((w.alloc a).alloc b).alloc c).alloc d).alloc e).heap[w.heap.size+4]?=some e:=by
 have h:=GF (w.alloc a) b c d e;have z:(w.alloc a).heap.size=w.heap.size+1:=ak
 rw[z,Nat.add_right_comm,Nat.add_right_comm w.heap.size 1 3]at h;exact h
def Kk(h:p:=by
 have A:=P0 (aE R.o (GD _ _ _ _ _ _).1) (aE R.o (GD _ _ _ _ _ _).2) ah (Iv r1) (Iv X) (Iv k) (Iv g)
 refine aG (v:=.tuple #[.agg #[Iv r1,Iv X],.agg #[Iv k,Iv g],.bool c]) (by simp[results,results389,go_sem,(ae A.1).1,(ae A.2).1]) rfl ⟨rfl,y7 (aq (S4 _ _ _ _ _ _) R.o) ah ah⟩):p:=h
def W?(h:p:=by
 rw[e];have f:=hid (fun W=>Dp a b W ha hb);obtain⟨⟨⟨r1,X⟩,⟨k,g⟩,c⟩,hr⟩:∃r,r=eY a b:=⟨_,rfl⟩;rw[<-hr]at f⊢;clear e hr ha hb;simp only[ep,zk]at f⊢;go_enter func389,ntmps389
 go_wp2_with (go_at_call 400;refine(f.o _).mono ?_;rintro e T ⟨rfl,hb⟩;have R:=hid hb;clear hb;obtain⟨F,y⟩:=ae (aE R.o (GD _ _ _ _ _ _).1);obtain⟨B,o⟩:=ae (aE R.o (GD _ _ _ _ _ _).2))
 exact Kk):p:=h
def WZ(h:p:=by
 rw[e];have f:=hid (fun W=>JS a b W);obtain⟨⟨⟨r1,X⟩,⟨k,g⟩,c⟩,hr⟩:∃r,r=j8 a b:=⟨_,rfl⟩;rw[<-hr]at f⊢;clear e hr ha hb;simp only[ep,zk]at f⊢;go_enter func389,ntmps389
 go_wp2_with (go_at_call 399;refine(f.o _).mono ?_;rintro e T ⟨rfl,hb⟩;have R:=hid hb;clear hb;obtain⟨F,y⟩:=ae (aE R.o (GD _ _ _ _ _ _).1);obtain⟨B,o⟩:=ae (aE R.o (GD _ _ _ _ _ _).2))
 exact Kk):p:=h
def WY(h:p:=by
 have A:=P0 (aE C.o (GD _ _ _ _ _ _).1) (aE C.o (GD _ _ _ _ _ _).2) ah (Iv k) (Iv g) (Iv r1) (Iv X)
 refine aG (v:=.tuple #[.agg #[Iv k,Iv g],.agg #[Iv r1,Iv X],.bool c]) (by simp[results,results389,go_sem,(ae A.1).1,(ae A.2).1]) rfl ⟨rfl,y7 (aq (S4 _ _ _ _ _ _) C.o) ah ah⟩):p:=h
def Gg(r:Value)(D:Int)(s:Bool)(a b:BB)(w:World)(hr:r=.agg #[])(ha:dq a)(hb:dq b):
  Cl 389 #[r,Iv D,.bool s,ep a,ep b] w (Rb w (zk (cL D s a b))):=by
 subst hr;have p:w.heap.size+3≠w.heap.size+4:=ah
 have V:=p.symm;cases m:(D==0);rotate_left
 ·cases s
  ·have e:cL D false a b=Mj (lU b a):=by unfold cL;simp at *;simp[*]
   rw[e];have f:=hid (fun W=>vo b a W);obtain⟨⟨⟨r1,X⟩,⟨k,g⟩,c⟩,hr⟩:∃r,r=lU b a:=⟨_,rfl⟩;rw[<-hr]at f⊢;have j:=hid (fun W=>LZ (r1,X) (k,g) c W);clear e hr ha hb;simp only[ep,zk,Mj]at f j⊢;go_enter func389,ntmps389
   go_wp2_with (first|(have _:=R;go_at_call 397;refine(j.o _).mono ?_;rintro e l ⟨rfl,N⟩;have C:=hid (aq R.o N);clear N;obtain⟨F,y⟩:=ae (aE C.o (GD _ _ _ _ _ _).1);obtain⟨B,o⟩:=ae (aE C.o (GD _ _ _ _ _ _).2))|(go_at_call 398;refine(f.o _).mono ?_;rintro e T ⟨rfl,hb⟩;have R:=hid hb;clear hb))
   exact WY
  have e:cL D true a b=iL a b:=by unfold cL;simp at *;simp[*]
  rw[e];have f:=hid (fun W=>Bm a b W ha hb);obtain⟨⟨⟨r1,X⟩,⟨k,g⟩,c⟩,hr⟩:∃r,r=iL a b:=⟨_,rfl⟩;rw[<-hr]at f⊢;clear e hr ha hb;simp only[ep,zk]at f⊢;go_enter func389,ntmps389
  go_wp2_with (go_at_call 396;refine(f.o _).mono ?_;rintro e T ⟨rfl,hb⟩;have R:=hid hb;clear hb;obtain⟨F,y⟩:=ae (aE R.o (GD _ _ _ _ _ _).1);obtain⟨B,o⟩:=ae (aE R.o (GD _ _ _ _ _ _).2))
  exact Kk
 cases G:(D==1);rotate_left
 ·cases s
  ·have e:cL D false a b=Mj (iL b a):=by unfold cL;simp at *;simp[*]
   rw[e];have f:=hid (fun W=>Bm b a W hb ha);obtain⟨⟨⟨r1,X⟩,⟨k,g⟩,c⟩,hr⟩:∃r,r=iL b a:=⟨_,rfl⟩;rw[<-hr]at f⊢;have j:=hid (fun W=>LZ (r1,X) (k,g) c W);clear e hr ha hb;simp only[ep,zk,Mj]at f j⊢;go_enter func389,ntmps389
   go_wp2_with (first|(have _:=R;go_at_call 397;refine(j.o _).mono ?_;rintro e l ⟨rfl,N⟩;have C:=hid (aq R.o N);clear N;obtain⟨F,y⟩:=ae (aE C.o (GD _ _ _ _ _ _).1);obtain⟨B,o⟩:=ae (aE C.o (GD _ _ _ _ _ _).2))|(go_at_call 396;refine(f.o _).mono ?_;rintro e T ⟨rfl,hb⟩;have R:=hid hb;clear hb))
   exact WY
  have e:cL D true a b=lU a b:=by unfold cL;simp at *;simp[*]
  rw[e];have f:=hid (fun W=>vo a b W);obtain⟨⟨⟨r1,X⟩,⟨k,g⟩,c⟩,hr⟩:∃r,r=lU a b:=⟨_,rfl⟩;rw[<-hr]at f⊢;clear e hr ha hb;simp only[ep,zk]at f⊢;go_enter func389,ntmps389
  go_wp2_with (go_at_call 398;refine(f.o _).mono ?_;rintro e T ⟨rfl,hb⟩;have R:=hid hb;clear hb;obtain⟨F,y⟩:=ae (aE R.o (GD _ _ _ _ _ _).1);obtain⟨B,o⟩:=ae (aE R.o (GD _ _ _ _ _ _).2))
  exact Kk
 cases O:(D==2)
 ·cases s
  ·have e:cL D false a b=j8 a b:=by unfold cL;simp at *;simp[*]
   exact WZ
  have e:cL D true a b=eY a b:=by unfold cL;simp at *;simp[*]
  exact W?
 cases s
 ·have e:cL D false a b=eY a b:=by unfold cL;simp at *;simp[*]
  exact W?
 have e:cL D true a b=j8 a b:=by unfold cL;simp at *;simp[*]
 exact WZ
end
section
variable {p:Prop} {a b:Int}
open Go.RowKit Go.Proofs Go.Maps Tryz
def f64{x:Int}:aQ x=true↔(-9223372036854775808<=x/\x<=9223372036854775807):=by unfold aQ;simp
def WW(h:p:=by
 have d:=k;rw[f64]at k;rw[mF]at d
 rw[d,eT h,eS (by unfold wrap64;omega)];rfl):p:=h
def WV(h:p:=by
 have d:=k;rw[f64]at k;rw[mF]at d
 rw[d,eS h,eT (by unfold wrap64;omega)];rfl):p:=h
def Ud(ha:aQ a=true)(hb:aQ b=true):(decide (wrap64 (a+b)<a)==decide (b<0))=aQ (a+b):=by
 rw[f64]at ha hb;by_cases h:b<0
 ·by_cases k:aQ (a+b)=true
  ·rw[k,cD k,eT h,eT ah];rfl
  exact WW
 by_cases k:aQ (a+b)=true
 ·rw[k,cD k,eS h,eS ah];rfl
 exact WV
def V7(ha:aQ a=true)(hb:aQ b=true):(decide (a<wrap64 (a-b))==decide (b<0))=aQ (a-b):=by
 rw[f64]at ha hb;by_cases h:b<0
 ·by_cases k:aQ (a-b)=true
  ·rw[k,cD k,eT h,eT ah];rfl
  exact WW
 by_cases k:aQ (a-b)=true
 ·rw[k,cD k,eS h,eS ah];rfl
 exact WV
def vd(ha:a≠0)(hb:b≠0):decide (a*b<0)=(decide (a<0) !=decide (b<0)):=by
 rcases Int.lt_or_gt_of_ne ha with G|G<;>rcases Int.lt_or_gt_of_ne hb with O|O
 ·have:=Int.mul_pos_of_neg_of_neg G O
  rw[eS ah,eT G,eT O];rfl
 ·have:=Int.mul_neg_of_neg_of_pos G O
  rw[eT this,eT G,eS ah];rfl
 ·have:=Int.mul_neg_of_pos_of_neg G O
  rw[eT this,eS ah,eT O];rfl
 have:=Int.mul_pos G O;rw[eS ah,eS ah,eS ah];rfl
def UT(ha:aQ a=true)(hb:aQ b=true)(h0:a≠0)(h1:b≠0):(wrap64 ((wrap64 (a*b)).tdiv b)==a&&(decide (wrap64 (a*b)<0)==(decide (a<0) !=decide (b<0))))=aQ (a*b):=by
 by_cases C:b=-1;rotate_left
 ·rw[M! hb h1 C]
  by_cases k:aQ (a*b)=true
  ·rw[k,cD k,vd h0 h1];simp
  rw[mF]at k;rw[k];rfl
 subst C;rw[f64]at ha;have e:a*-1=-a:=ah
 rw[e];by_cases E:a=-9223372036854775808
 ·subst E
  have z:wrap64 (- -9223372036854775808)=-9223372036854775808:=by unfold wrap64;omega
  have I:aQ (- -9223372036854775808)=false:=by rw[uL,ne_eq,f64];omega
  rw[z,I];simp
 have k:aQ (-a)=true:=by rw[f64];omega
 have q:(-a).tdiv (-1)=a:=by rw[Int.tdiv_neg,Int.tdiv_one];omega
 rw[k,cD k,q,cD (by rw[f64];exact ha)];have:=vd (a:=a) (b:=-1) h0 aj;rw[e]at this;rw[this];simp
def VR(x:Int):Value:=.agg #[Iv (wrap64 x),.bool (aQ x)]
def Gd(a b:Int)(w:World)(ha:aQ a=true)(hb:aQ b=true):
  Cl 402 #[Iv a,Iv b] w (Rb w (VR (a+b))):=by
 have D:=hid (Ud ha hb);clear ha hb;go_enter func402,ntmps402
 go_wp2_with fail
 refine aG (v:=.agg #[Iv (wrap64 (a+b)),.bool (decide (wrap64 (a+b)<a)==decide (b<0))]) (by simp[results,results402,go_sem]) rfl ⟨by rw[D.o];rfl,aC _ _⟩
def Gf(a b:Int)(w:World)(ha:aQ a=true)(hb:aQ b=true):
  Cl 408 #[Iv a,Iv b] w (Rb w (VR (a-b))):=by
 have D:=hid (V7 ha hb);clear ha hb;go_enter func408,ntmps408
 go_wp2_with fail
 refine aG (v:=.agg #[Iv (wrap64 (a-b)),.bool (decide (a<wrap64 (a-b))==decide (b<0))]) (by simp[results,results408,go_sem]) rfl ⟨by rw[D.o];rfl,aC _ _⟩
def WX(h:p:=by
 go_enter func404,ntmps404
 go_wp2_with fail
 refine aG (v:=.agg #[Iv 0,.bool true]) (by simp[results,results404,go_sem]) rfl ⟨by rw[e];unfold VR;rw[WH];rfl,aC _ _⟩):p:=h
def qe(a b:Int)(w:World)(ha:aQ a=true)(hb:aQ b=true):
  Cl 404 #[Iv a,Iv b] w (Rb w (VR (a*b))):=by
 cases o:(a==0);rotate_left
 ·obtain rfl:a=0:=by simpa using o
  have e:0*b=0:=Int.zero_mul b;exact WX
 cases G:(b==0);rotate_left
 ·obtain rfl:b=0:=by simpa using G
  have e:a*0=0:=Int.mul_zero a;exact WX
 have a0:a≠0:=by simpa using o
 have k:b≠0:=by simpa using G
 have V:=UT ha hb a0 k;clear ha hb a0;obtain⟨n,J⟩:=Ea (wrap64 (a*b));obtain⟨q,A⟩:=Ea ((wrap64 (n.tdiv b)==a));rw[<-J,<-A]at V;have D:=hid V;have K:=hid A;clear V A;go_enter func404,ntmps404;cases q
 ·have s:(wrap64 (n.tdiv b)==a)=false:=K.o.symm
  clear K;rw[J]at s
  go_wp2_with fail
  rw[<-J];refine aG (v:=.agg #[Iv n,.bool false]) (by simp[results,results404,go_sem]) rfl ⟨by unfold VR;rw[<-J,<-D.o];rfl,aC _ _⟩
 have s:(wrap64 (n.tdiv b)==a)=true:=K.o.symm;clear K;rw[J]at s
 go_wp2_with fail
 rw[<-J];refine aG (v:=.agg #[Iv n,.bool (decide (n<0)==(decide (a<0) !=decide (b<0)))]) (by simp[results,results404,go_sem,bne]) rfl ⟨by unfold VR;rw[<-J,<-D.o,fj],aC _ _⟩
abbrev EX:=Int×Bool
def abQ(w:World)(ao:Option Addr)(es:List EX):Prop:=∀j e,es[j]?=some e->∃b o,ao=some (Ad b o)/\w.cell? (Ad b (o+j*2))=some (Iv e.1)/\w.cell? (Ad b (o+j*2+1))=some (.bool e.2)
def TI(s:Int×Int×Bool)(e:EX):Int×Int×Bool:=(min s.1 e.1,max s.2.1 e.1,s.2.2&&e.2)
def arR(s:Int×Int×Bool):BB:=if s.2.2 then(s.1,s.2.1) else(-9223372036854775808,9223372036854775807)
def Bc{α β:Type}(f:β->α->β)(s:β){l:List α}{k:Nat}{x:α}(h:l[k]?=some x):(l.take (k+1)).foldl f s=f ((l.take k).foldl f s) x:=by
 have hl:=(bn.1 h).1;rw[dS hl,(bn.1 h).2];simp
def ph(x:EX)(es:List EX)(A:Option Addr)(c:Nat)(w:World)(h:abQ w A es)(hl:es.length<=100):
  Cl 401 #[.agg #[Iv x.1,.bool x.2],.slice A es.length c] w fun e I=>e=.returned (ep (arR (es.foldl TI (x.1,x.1,x.2))))/\Below w.heap.size w I:=by
 obtain⟨g,u⟩:=x;have Q:=hid h;clear h;obtain⟨k,X⟩:=Ea es.length;rw[<-X]at hl⊢;have m:=hid X;clear X;have v:=hid y8;simp only[ep]at v⊢;go_enter func401,ntmps401
 go_upto_region 3 with fail
 have R:Hd (Below w.heap.size w (((w.alloc (mG g u)).alloc fZ).alloc (.cells #[Iv g,Iv g] 247))/\(((w.alloc (mG g u)).alloc fZ).alloc (.cells #[Iv g,Iv g] 247)).heap[w.heap.size+1]?=some uP/\(((w.alloc (mG g u)).alloc fZ).alloc (.cells #[Iv g,Iv g] 247)).heap[w.heap.size+2]?=some (.cells #[Iv g,Iv g] 247 (0,0))):=by
  have h:=aN (w.alloc (mG g u)) fZ (.cells #[Iv g,Iv g] 247);have z:(w.alloc (mG g u)).heap.size=w.heap.size+1:=ak
  rw[z]at h;exact⟨cq _ _ _ _,h.1,h.2⟩
 generalize((w.alloc (mG g u)).alloc fZ).alloc (.cells #[Iv g,Iv g] 247)=W0 at R⊢
 go_wp2_with fail
 go_loopw[6,18] (fun fv p wr=>∃(j:Nat) (lo hi:Int) (f:Bool),j<=k/\p=Iv j/\fv=.bool f/\Hd ((lo,hi,f)=(es.take j).foldl TI (g,g,u)/\Below w.heap.size w wr/\wr.heap[w.heap.size+1]?=some uP/\wr.heap[w.heap.size+2]?=some (.cells #[Iv lo,Iv hi] 247 (0,0)))) (fun _ p _=>k-(intOf p).toNat)
 case atStart=>exact⟨0,g,g,u,bB _,rfl,rfl,rfl,R.a,R.b,R.B⟩
 obtain⟨j,lo,hi,f,U,rfl,rfl,M⟩:=hrel;by_cases J:j<k;rotate_left
 ·have s:¬(j:Int)<k:=ah
  have r:j=k:=ah
  have n:Hd ((lo,hi,f)=es.foldl TI (g,g,u)):=by show _=_;rw[M.a,r,m.o,oy]
  cases f
  ·have V:=hid (fun W=>v.o W)
   have E:=M.c
   go_wp2_with (go_at_call 406;refine(v.o _).mono ?_;rintro e T ⟨rfl,D⟩;have q:=hid D;clear D;obtain⟨F,y⟩:=ae (aE q.o M.c))
   have l:=(ae (aw (o:=1) (aw (o:=0) (aE q.o M.c) (Iv (-9223372036854775808))) (Iv 9223372036854775807))).1;refine aG (v:=ep (-9223372036854775808,9223372036854775807)) (by simp[results,results401,go_sem,ep,l]) rfl ⟨by rw[<-n.o];rfl,?_⟩;exact((M.b.trans (q.o.mono M.b.size)).setCell (by show _<=w.heap.size+1;omega) _).setCell (by show _<=w.heap.size+1;omega) _
  obtain⟨F,y⟩:=ae M.c;obtain⟨B,y2⟩:=ae M.C
  go_wp2_with fail
  have l:=(ae (aw (o:=1) (aw (o:=0) M.c (Iv lo)) (Iv hi))).1;refine aG (v:=ep (lo,hi)) (by simp[results,results401,go_sem,ep,l]) rfl ⟨by rw[<-n.o];rfl,?_⟩;exact(M.b.setCell (by show _<=w.heap.size+1;omega) _).setCell (by show _<=w.heap.size+1;omega) _
 have s:(j:Int)<k:=ah
 obtain⟨⟨a,d⟩,H⟩:∃e,es[j]?=some e:=⟨_,bk (by rw[<-m.o];exact J)⟩;obtain⟨b,o,rfl,P,Y⟩:=Q.o j _ H;have t:wr.cell? (Ad b (o+j*2))=some (Iv a):=ax P M.b;have C:wr.cell? (Ad b (o+j*2+1))=some (.bool d):=ax Y M.b;have n:Hd ((min lo a,max hi a,f&&d)=(es.take (j+1)).foldl TI (g,g,u)):=by show _=_;rw[Bc _ _ H,<-M.a];rfl
 clear P Y H;obtain⟨F,y⟩:=ae M.C;have i:=blt M.C;have N:wr.heap.size≠w.heap.size+2:=ah
 have n2:=N.symm
 go_upto_region 7 with fail
 have Z:Hd (Below w.heap.size w (((wr.setCell (Ad (w.heap.size+1+1) 0) (Iv (min lo a))).setCell (Ad (w.heap.size+1+1) 1) (Iv (max hi a))).alloc (mG a d))/\(((wr.setCell (Ad (w.heap.size+1+1) 0) (Iv (min lo a))).setCell (Ad (w.heap.size+1+1) 1) (Iv (max hi a))).alloc (mG a d)).heap[w.heap.size+1]?=some uP/\(((wr.setCell (Ad (w.heap.size+1+1) 0) (Iv (min lo a))).setCell (Ad (w.heap.size+1+1) 1) (Iv (max hi a))).alloc (mG a d)).heap[w.heap.size+2]?=some (.cells #[Iv (min lo a),Iv (max hi a)] 247 (0,0))/\(((wr.setCell (Ad (w.heap.size+1+1) 0) (Iv (min lo a))).setCell (Ad (w.heap.size+1+1) 1) (Iv (max hi a))).alloc (mG a d)).heap[wr.heap.size]?=some (.cells #[Iv a,.bool d] 502 (0,0))):=by
  have D:=aC ((wr.setCell (Ad (w.heap.size+1+1) 0) (Iv (min lo a))).setCell (Ad (w.heap.size+1+1) 1) (Iv (max hi a))) (mG a d);have G:Below w.heap.size w ((wr.setCell (Ad (w.heap.size+1+1) 0) (Iv (min lo a))).setCell (Ad (w.heap.size+1+1) 1) (Iv (max hi a))):=(M.b.setCell (by show _<=w.heap.size+1+1;omega) _).setCell (by show _<=w.heap.size+1+1;omega) _;have O:((wr.setCell (Ad (w.heap.size+1+1) 0) (Iv (min lo a))).setCell (Ad (w.heap.size+1+1) 1) (Iv (max hi a))).heap[w.heap.size+1]?=some uP:=((aZ _ _ _ _ (by show w.heap.size+1≠w.heap.size+1+1;omega)).trans (aZ _ _ _ _ (by show w.heap.size+1≠w.heap.size+1+1;omega))).trans M.c;have S:((wr.setCell (Ad (w.heap.size+1+1) 0) (Iv (min lo a))).setCell (Ad (w.heap.size+1+1) 1) (Iv (max hi a))).heap[w.heap.size+2]?=some (.cells #[Iv (min lo a),Iv (max hi a)] 247 (0,0)):=by rw[aw (aw M.C _) _];rfl
  have K:((wr.setCell (Ad (w.heap.size+1+1) 0) (Iv (min lo a))).setCell (Ad (w.heap.size+1+1) 1) (Iv (max hi a))).heap.size=wr.heap.size:=ak
  refine⟨aq G D,aE D O,aE D S,?_⟩;have L:=bf ((wr.setCell (Ad (w.heap.size+1+1) 0) (Iv (min lo a))).setCell (Ad (w.heap.size+1+1) 1) (Iv (max hi a))) (mG a d);rw[K]at L;exact L
 generalize(((wr.setCell (Ad (w.heap.size+1+1) 0) (Iv (min lo a))).setCell (Ad (w.heap.size+1+1) 1) (Iv (max hi a))).alloc (mG a d))=T at Z⊢;clear F y t C;obtain⟨F,y⟩:=ae Z.C;cases f
 ·go_wp2_with fail
  go_roundw
  case rel=>exact⟨j+1,_,_,false,J,h',rfl,n.o,Z.a,Z.b,Z.c⟩
  simp[intOf];omega
 go_wp2_with fail
 go_roundw
 case rel=>exact⟨j+1,_,_,d,J,h',rfl,n.o,Z.a,Z.b,Z.c⟩
 simp[intOf];omega
end
section
variable {w:World} {q:Nat}
open Go.RowKit Go.Proofs Go.Maps Tryz
def bQ(v:VV):BB:=(v.lo,v.hi)
def Wo(a b:VV):arR (TI (wrap64 (a.lo+b.lo),wrap64 (a.lo+b.lo),aQ (a.lo+b.lo)) (wrap64 (a.hi+b.hi),aQ (a.hi+b.hi)))=bQ (DA a b):=by
 unfold arR TI DA Ol bQ;by_cases G:aQ (a.lo+b.lo)=true;rotate_left
 ·rw[mF]at G
  simp[G,VV.all]
 by_cases O:aQ (a.hi+b.hi)=true
 ·simp only[G,O,cD G,cD O,Bt,dx]
  generalize a.lo+b.lo=x;generalize a.hi+b.hi=y;simp[oq,VV.one];constructor<;>(repeat' split)<;>omega
 rw[mF]at O;simp[O,VV.all]
def Wk(a b:VV):arR (TI (wrap64 (a.lo-b.hi),wrap64 (a.lo-b.hi),aQ (a.lo-b.hi)) (wrap64 (a.hi-b.lo),aQ (a.hi-b.lo)))=bQ (r9 a b):=by
 unfold arR TI r9 Ol bQ;by_cases G:aQ (a.lo-b.hi)=true;rotate_left
 ·rw[mF]at G
  simp[G,VV.all]
 by_cases O:aQ (a.hi-b.lo)=true
 ·simp only[G,O,cD G,cD O,Bt,dx]
  generalize a.lo-b.hi=x;generalize a.hi-b.lo=y;simp[oq,VV.one];constructor<;>(repeat' split)<;>omega
 rw[mF]at O;simp[O,VV.all]
def Wn(a b:VV):arR ([(wrap64 (a.lo*b.hi),aQ (a.lo*b.hi)),(wrap64 (a.hi*b.lo),aQ (a.hi*b.lo)),(wrap64 (a.hi*b.hi),aQ (a.hi*b.hi))].foldl TI (wrap64 (a.lo*b.lo),wrap64 (a.lo*b.lo),aQ (a.lo*b.lo)))=bQ (CO a b):=by
 unfold arR CO Ol bQ;simp only[gx,wG,TI];by_cases G:aQ (a.lo*b.lo)=true;rotate_left
 ·rw[mF]at G
  simp[G,VV.all]
 by_cases O:aQ (a.lo*b.hi)=true;rotate_left
 ·rw[mF]at O
  simp[O,VV.all]
 by_cases Y:aQ (a.hi*b.lo)=true;rotate_left
 ·rw[mF]at Y
  simp[Y,VV.all]
 by_cases K:aQ (a.hi*b.hi)=true;rotate_left
 ·rw[mF]at K
  simp[K,VV.all]
 simp only[G,O,Y,K,cD G,cD O,cD Y,cD K,Bt,dx];generalize a.lo*b.lo=x;generalize a.lo*b.hi=y;generalize a.hi*b.lo=z;generalize a.hi*b.hi=u;simp[oq,VV.one];constructor<;>(repeat' split)<;>omega
def Sd{n:Int}{f:Bool}(h0:w.cell? (Ad q 0)=some (Iv n))(h1:w.cell? (Ad q 1)=some (.bool f)):abQ w (some (Ad q 0)) [(n,f)]:=by
 intro j e hj
 match j,hj with
 |0,hj=>simp at hj;subst hj;exact⟨q,0,rfl,by simp[h0],by simp[h1]⟩
 |j+1,hj=>simp at hj
def VQ{p V i:Int}{m S u:Bool}(h0:w.cell? (Ad q 0)=some (Iv p))(h1:w.cell? (Ad q 1)=some (.bool m))(h2:w.cell? (Ad q 2)=some (Iv V))(h3:w.cell? (Ad q 3)=some (.bool S))(K:w.cell? (Ad q 4)=some (Iv i))(H:w.cell? (Ad q 5)=some (.bool u)):abQ w (some (Ad q 0)) [(p,m),(V,S),(i,u)]:=by
 intro j e hj
 match j,hj with
 |0,hj=>simp at hj;subst hj;exact⟨q,0,rfl,by simp[h0],by simp[h1]⟩
 |1,hj=>simp at hj;subst hj;exact⟨q,0,rfl,by simp[h2],by simp[h3]⟩
 |2,hj=>simp at hj;subst hj;exact⟨q,0,rfl,by simp[K],by simp[H]⟩
 |j+3,hj=>simp at hj
def Gi(w:World)(a b c:Obj):(((w.alloc a).alloc b).alloc c).heap[w.heap.size]?=some a/\(((w.alloc a).alloc b).alloc c).heap[w.heap.size+1]?=some b/\(((w.alloc a).alloc b).alloc c).heap[w.heap.size+2]?=some c:=by
 have h:=aN (w.alloc a) b c;have z:(w.alloc a).heap.size=w.heap.size+1:=ak
 rw[z]at h;exact⟨aE (aX _ _ _) (bf _ _),h.1,h.2⟩
def yZ(a b:VV)(w:World)(ha:dq (bQ a))(hb:dq (bQ b)):
  Cl 403 #[ep (bQ a),ep (bQ b)] w (Rb w (ep (bQ (r9 a b)))):=by
 obtain⟨k,a1,a2⟩:=a;obtain⟨B,u,x⟩:=b;have X:=hid (Wk ⟨k,a1,a2⟩ ⟨B,u,x⟩);have E:=hid (fun W=>Gf a1 x W ha.lo hb.hi);have C:=hid (fun W=>Gf a2 u W ha.hi hb.lo);have j:=hid (fun W q h=>ph (wrap64 (a1-x),aQ (a1-x)) [(wrap64 (a2-u),aQ (a2-u))] (some (Ad q 0)) 1 W h ak);simp only[gx,wG,gL]at j;simp only at X;rw[X.o]at j;clear X ha hb;simp only[VR]at E C;generalize r9 ⟨k,a1,a2⟩ ⟨B,u,x⟩=s at j⊢;generalize wrap64 (a1-x)=p at E j;generalize wrap64 (a2-u)=y at C j;generalize aQ (a1-x)=f1 at E j;generalize aQ (a2-u)=S at C j;obtain⟨z,P,m⟩:=s;simp only[ep,bQ]at j⊢;go_enter func403,ntmps403
 go_upto_region 1 with fail
 obtain⟨o,f,r⟩:=Gi w (dy a1 a2) (dy u x) fZ;have H:=hid (Aa o (Aa f (Aa r (cq w (dy a1 a2) (dy u x) fZ))));clear o f r;generalize((w.alloc (dy a1 a2)).alloc (dy u x)).alloc fZ=V at H⊢;have n:Hd (∀W,Bl V W->e' W w.heap.size 0 (Iv a1)/\e' W w.heap.size 1 (Iv a2)/\e' W (w.heap.size+1) 0 (Iv u)/\e' W (w.heap.size+1) 1 (Iv x)):=by
  intro W U;have l:=(ae (aE U H.a)).1;have t:=(ae (aE U H.b)).1;exact⟨l 0,l 1,t 0,t 1⟩
 obtain⟨s0,i,c,s3⟩:=n.o V (aM _ _);have p:w.heap.size≠w.heap.size+1+1:=ah
 have y:=p.symm
 go_region_held3 (fun I=>I.cell? (Ad w.heap.size 0)=some (Iv a1)/\I.cell? (Ad w.heap.size 1)=some (Iv a2)/\I.cell? (Ad (w.heap.size+1) 0)=some (Iv u)/\I.cell? (Ad (w.heap.size+1) 1)=some (Iv x)) (go_keep) (first|(have _:=J;go_at_call 401;refine(j.o _ _ (Sd ak ak)).mono ?_;rintro e F ⟨rfl,Y⟩;have L:Bl V F:=aq (aq J.o ay) Y;have D:=hid L;obtain⟨m0,m1,M,Z⟩:=n.o F L;obtain⟨g1,g2⟩:=ae (aE L H.c);clear Y L)|(have _:=g;go_at_call 408;refine(C.o _).mono ?_;rintro e O ⟨rfl,N⟩;have L:Bl V O:=aq (aq g.o ay) N;have J:=hid L;obtain⟨o0,v,T,d⟩:=n.o O L;clear N L)|(go_at_call 408;refine(E.o _).mono ?_;rintro e G ⟨rfl,A⟩;have L:Bl V G:=aq ay A;have g:=hid L;obtain⟨K,Q,p2,R⟩:=n.o G L;clear A L))
 all_goals
  go_wp2_with fail
  have l:=(ae (aw (o:=1) (aw (o:=0) (aE D.o H.c) (Iv P)) (Iv m))).1;refine aG (v:=.agg #[Iv P,Iv m]) (by simp[results,results403,go_sem,l]) rfl ⟨rfl,?_⟩
  first|exact((aq H.C D.o).setCell (by show _<=w.heap.size+1+1;omega) _).setCell (by show _<=w.heap.size+1+1;omega) _|exact(((aq H.C D.o).setCell (by show _<=w.heap.size+1+1;omega) _).setCell (by show _<=w.heap.size+1+1;omega) _).drew
end
section
variable {p:Prop}
open Go.RowKit Go.Proofs Go.Maps Tryz
def OW(op:Int)(a b:VV):Option VV:=if op=0 then some (DA a b) else if op=1 then some (r9 a b) else if op=2 then some (CO a b) else jS a b
def K1:Option VV->Value×Bool
 |none=>(ep (0,0),false)
 |some v=>(ep (bQ v),true)
def sl{x b:Int}(hx:aQ x=true)(h0:b≠0)(h1:b≠-1):IntKind.i64.wrap (x.tdiv b)=x.tdiv b:=by
 have h:=cD (Co hx h0 h1);unfold wrap64 at h;rw[IntKind.wrap_i64];exact h
def Pn(h:p:=by
 repeat(first|with_reducible exact aM _ _|with_reducible refine below_drewN ?_ _|with_reducible refine kf ?_|refine rM ?_ (by show _<=_;simp;try omega) _|refine uM ?_ (by first|(simp;done)|(simp;omega)) _)):p:=h
def WT(h:p:=by
 first|exact((aq (cq _ _ _ _) R.o).setCell (by show _<=w.heap.size+2;omega) _).setCell (by show _<=w.heap.size+2;omega) _|exact(((aq (cq _ _ _ _) R.o).setCell (by show _<=w.heap.size+2;omega) _).setCell (by show _<=w.heap.size+2;omega) _).drew|exact below_drewN (((aq (cq _ _ _ _) R.o).setCell (by show _<=w.heap.size+2;omega) _).setCell (by show _<=w.heap.size+2;omega) _) _):p:=h
def S0(a b:VV)(w:World)(ha:dq (bQ a))(hb:dq (bQ b)):
  Cl 405 #[ep (bQ a),ep (bQ b)] w (Rb w (.tuple #[(K1 (jS a b)).1,.bool (K1 (jS a b)).2])):=by
 have p:w.heap.size≠w.heap.size+1+1:=ah
 have V:=p.symm;cases o:(b.lo==b.hi)
 ·have e:jS a b=some VV.all:=by unfold jS;rw[aD (by simpa using o)]
  rw[e];have j:=hid y8;obtain⟨k,a1,a2⟩:=a;obtain⟨B,u,x⟩:=b;simp only[K1,ep,bQ,VV.all]at j o⊢;clear e ha hb;go_enter func405,ntmps405
  go_wp2_with (go_at_call 406;refine(j.o _).mono ?_;rintro e T ⟨rfl,hb⟩;have R:=hid hb;clear hb;obtain⟨F,y⟩:=ae (aE R.o (Gi _ _ _ _).2.2))
  have l:=(ae (aw (o:=1) (aw (o:=0) (aE R.o (Gi _ _ _ _).2.2) (Iv (-9223372036854775808))) (Iv 9223372036854775807))).1;refine aG (v:=.tuple #[.agg #[Iv (-9223372036854775808),Iv 9223372036854775807],.bool true]) (by simp[results,results405,go_sem,l]) rfl ⟨rfl,?_⟩;exact WT
 have hl:b.lo=b.hi:=by simpa using o
 cases G:(b.lo==0);rotate_left
 ·have i:b.lo=0:=by simpa using G
  have e:jS a b=none:=by unfold jS;rw[aA (by simpa using hl),aD i]
  rw[e];obtain⟨k,a1,a2⟩:=a;obtain⟨B,u,x⟩:=b;simp only[K1,ep,bQ]at *;clear e ha hb hl i;go_enter func405,ntmps405
  go_wp2_with fail
  refine aG (v:=.tuple #[.agg #[Iv 0,Iv 0],.bool false]) (by simp[results,results405,go_sem]) rfl ⟨rfl,?_⟩;exact Pn
 have i:b.lo≠0:=by simpa using G
 by_cases K:0<b.lo
 ·have C:b.lo≠-1:=ah
  have e:jS a b=some ⟨false,a.lo.tdiv b.lo,a.hi.tdiv b.lo⟩:=by unfold jS;rw[aA (by simpa using hl),aA i,aA C,aD K]
  rw[e];have Q:IntKind.i64.wrap (a.lo.tdiv b.lo)=a.lo.tdiv b.lo:=sl ha.lo i C;have z:IntKind.i64.wrap (a.hi.tdiv b.lo)=a.hi.tdiv b.lo:=sl ha.hi i C;obtain⟨k,a1,a2⟩:=a;obtain⟨B,u,x⟩:=b;simp only[K1,ep,bQ]at *;have f:¬u=0:=i;clear e ha hb C hl i;go_enter func405,ntmps405
  go_upto_region 7 with fail
  go_region_held3 (fun I=>I.cell? (Ad w.heap.size 0)=some (Iv a1)/\I.cell? (Ad w.heap.size 1)=some (Iv a2)) (go_keep) (fail)
  all_goals
   go_wp2_with fail
   refine aG (v:=.tuple #[.agg #[Iv (a1.tdiv u),Iv (a2.tdiv u)],.bool true]) (by simp[results,results405,go_sem]) rfl ⟨rfl,?_⟩;exact Pn
 cases C:(b.lo==-1)
 ·have d:b.lo≠-1:=by simpa using C
  have e:jS a b=some ⟨false,a.hi.tdiv b.lo,a.lo.tdiv b.lo⟩:=by unfold jS;rw[aA (by simpa using hl),aA i,aA d,aA K]
  rw[e];have Q:IntKind.i64.wrap (a.lo.tdiv b.lo)=a.lo.tdiv b.lo:=sl ha.lo i d;have z:IntKind.i64.wrap (a.hi.tdiv b.lo)=a.hi.tdiv b.lo:=sl ha.hi i d;obtain⟨k,a1,a2⟩:=a;obtain⟨B,u,x⟩:=b;simp only[K1,ep,bQ]at *;have c:decide (0<u)=false:=by simp;omega
  have f:¬u=0:=i;clear e ha hb d hl i K;go_enter func405,ntmps405
  go_upto_region 10 with fail
  go_region_held3 (fun I=>I.cell? (Ad w.heap.size 0)=some (Iv a1)/\I.cell? (Ad w.heap.size 1)=some (Iv a2)) (go_keep) (fail)
  all_goals
   go_wp2_with fail
   refine aG (v:=.tuple #[.agg #[Iv (a2.tdiv u),Iv (a1.tdiv u)],.bool true]) (by simp[results,results405,go_sem]) rfl ⟨rfl,?_⟩;exact Pn
 have d:b.lo=-1:=by simpa using C
 have e:jS a b=some (r9 ⟨false,0,0⟩ a):=by unfold jS;rw[aA (by simpa using hl),aA i,aD d]
 rw[e];have H:=hid (fun W=>yZ ⟨false,0,0⟩ a W ⟨aj,aj⟩ ha);generalize r9 ⟨false,0,0⟩ a=s at H⊢;obtain⟨Y,P,m⟩:=s;obtain⟨k,a1,a2⟩:=a;obtain⟨B,u,x⟩:=b;simp only[K1,ep,bQ]at *;have c:decide (0<u)=false:=by simp;omega
 clear e ha hb d hl i K;go_enter func405,ntmps405
 go_wp2_with (go_at_call 403;refine(H.o _).mono ?_;rintro e T ⟨rfl,hb⟩;have R:=hid hb;clear hb;obtain⟨F,y⟩:=ae (aE R.o (Gi _ _ _ _).2.2))
 have l:=(ae (aw (o:=1) (aw (o:=0) (aE R.o (Gi _ _ _ _).2.2) (Iv P)) (Iv m))).1;refine aG (v:=.tuple #[.agg #[Iv P,Iv m],.bool true]) (by simp[results,results405,go_sem,l]) rfl ⟨rfl,?_⟩;exact WT
def WU(h:p:=by
 first|exact((aq (dD _ _ _ _ _) R.o).setCell (by show _<=w.heap.size+3;omega) _).setCell (by show _<=w.heap.size+3;omega) _|exact(((aq (dD _ _ _ _ _) R.o).setCell (by show _<=w.heap.size+3;omega) _).setCell (by show _<=w.heap.size+3;omega) _).drew|exact below_drewN (((aq (dD _ _ _ _ _) R.o).setCell (by show _<=w.heap.size+3;omega) _).setCell (by show _<=w.heap.size+3;omega) _) _):p:=h
def WS(h:p:=by
 have h:=Gi (w.alloc nR) (dy a1 a2) (dy u x) fZ;have z:(w.alloc nR).heap.size=w.heap.size+1:=ak
 rw[z]at h
 exact⟨h.1,h.2.1,h.2.2,dD _ _ _ _ _⟩):p:=h
def WR(h:p:=by
 intro W U;have l:=(ae (aE U H.a)).1;have t:=(ae (aE U H.b)).1
 exact⟨l 0,l 1,t 0,t 1⟩):p:=h
def Dr(r:Value)(op:Int)(a b:VV)(w:World)(hr:r=.agg #[])(ha:dq (bQ a))(hb:dq (bQ b)):
  Cl 391 #[r,Iv op,ep (bQ a),ep (bQ b)] w (Rb w (.tuple #[(K1 (OW op a b)).1,.bool (K1 (OW op a b)).2])):=by
 subst hr;have p:w.heap.size+1≠w.heap.size+1+1+1:=ah
 have n2:=p.symm;have n3:w.heap.size+1+1≠w.heap.size+1+1+1:=ah
 have n4:=n3.symm;have n5:w.heap.size≠w.heap.size+1+1:=ah
 have n6:=n5.symm;cases o:(op==0);rotate_left
 ·have e:OW op a b=some (DA a b):=by unfold OW;simp at o;simp[o]
  rw[e];have X:=hid (Wo a b);obtain⟨k,a1,a2⟩:=a;obtain⟨B,u,x⟩:=b;have E:=hid (fun W=>Gd a1 u W ha.lo hb.lo);have C:=hid (fun W=>Gd a2 x W ha.hi hb.hi);have j:=hid (fun W q h=>ph (wrap64 (a1+u),aQ (a1+u)) [(wrap64 (a2+x),aQ (a2+x))] (some (Ad q 0)) 1 W h ak);simp only[gx,wG,gL]at j;simp only at X;rw[X.o]at j;clear X ha hb e;simp only[VR]at E C;generalize DA ⟨k,a1,a2⟩ ⟨B,u,x⟩=s at j⊢;generalize wrap64 (a1+u)=A at E j;generalize wrap64 (a2+x)=M at C j;generalize aQ (a1+u)=f1 at E j;generalize aQ (a2+x)=S at C j;obtain⟨Y,P,m⟩:=s;simp only[ep,bQ,K1]at j⊢;go_enter func391,ntmps391
  go_upto_region 3 with fail
  have H:Hd (d' ((((w.alloc nR).alloc (dy a1 a2)).alloc (dy u x)).alloc fZ) (w.heap.size+1) #[Iv a1,Iv a2] 247/\d' ((((w.alloc nR).alloc (dy a1 a2)).alloc (dy u x)).alloc fZ) (w.heap.size+2) #[Iv u,Iv x] 247/\((((w.alloc nR).alloc (dy a1 a2)).alloc (dy u x)).alloc fZ).heap[w.heap.size+3]?=some uP/\Bl w ((((w.alloc nR).alloc (dy a1 a2)).alloc (dy u x)).alloc fZ)):=by
   exact WS
  generalize((((w.alloc nR).alloc (dy a1 a2)).alloc (dy u x)).alloc fZ)=V at H⊢;have n:Hd (∀W,Bl V W->e' W (w.heap.size+1) 0 (Iv a1)/\e' W (w.heap.size+1) 1 (Iv a2)/\e' W (w.heap.size+1+1) 0 (Iv u)/\e' W (w.heap.size+1+1) 1 (Iv x)):=by
   exact WR
  obtain⟨s0,i,s2',s3⟩:=n.o V (aM _ _)
  go_region_held3 (fun W=>W.cell? (Ad (w.heap.size+1) 0)=some (Iv a1)/\W.cell? (Ad (w.heap.size+1) 1)=some (Iv a2)/\W.cell? (Ad (w.heap.size+1+1) 0)=some (Iv u)/\W.cell? (Ad (w.heap.size+1+1) 1)=some (Iv x)) (go_keep) (first|(have _:=J;go_at_call 401;refine(j.o _ _ (Sd ak ak)).mono ?_;rintro e F ⟨rfl,hb⟩;have L:Bl V F:=aq (aq J.o ay) hb;have D:=hid L;obtain⟨x0,x1,y,x3⟩:=n.o F L;obtain⟨g1,g2⟩:=ae (aE L H.c);clear hb L)|(have _:=g;go_at_call 402;refine(C.o _).mono ?_;rintro e O ⟨rfl,hb⟩;have L:Bl V O:=aq (aq g.o ay) hb;have J:=hid L;obtain⟨o0,o1,N,d⟩:=n.o O L;clear hb L)|(go_at_call 402;refine(E.o _).mono ?_;rintro e X1 ⟨rfl,hb⟩;have L:Bl V X1:=aq ay hb;have g:=hid L;obtain⟨p0,p1,p2,p3⟩:=n.o X1 L;clear hb L))
  all_goals
   go_wp2_with fail
   have l:=(ae (aw (o:=1) (aw (o:=0) (aE D.o H.c) (Iv P)) (Iv m))).1;refine aG (v:=.tuple #[.agg #[Iv P,Iv m],.bool true]) (by simp[results,results391,go_sem,l]) rfl ⟨rfl,?_⟩
   first|exact((aq H.C D.o).setCell (by show _<=w.heap.size+3;omega) _).setCell (by show _<=w.heap.size+3;omega) _|exact(((aq H.C D.o).setCell (by show _<=w.heap.size+3;omega) _).setCell (by show _<=w.heap.size+3;omega) _).drew|exact below_drewN (((aq H.C D.o).setCell (by show _<=w.heap.size+3;omega) _).setCell (by show _<=w.heap.size+3;omega) _) _
 cases G:(op==1);rotate_left
 ·have e:OW op a b=some (r9 a b):=by unfold OW;simp at o G;simp[o,G]
  rw[e];have HM:=hid (fun W=>yZ a b W ha hb);generalize r9 a b=s at HM⊢;obtain⟨Y,P,m⟩:=s;obtain⟨k,a1,a2⟩:=a;obtain⟨B,u,x⟩:=b;simp only[K1,ep,bQ]at HM⊢;clear e ha hb;go_enter func391,ntmps391
  go_wp2_with (go_at_call 403;refine(HM.o _).mono ?_;rintro e T ⟨rfl,hb⟩;have R:=hid hb;clear hb;obtain⟨x1,y⟩:=ae (aE R.o (GF _ _ _ _ _).2))
  have l:=(ae (aw (o:=1) (aw (o:=0) (aE R.o (GF _ _ _ _ _).2) (Iv P)) (Iv m))).1;refine aG (v:=.tuple #[.agg #[Iv P,Iv m],.bool true]) (by simp[results,results391,go_sem,l]) rfl ⟨rfl,?_⟩;exact WU
 cases h2:(op==2)
 ·have e:OW op a b=jS a b:=by unfold OW;simp at o G h2;simp[o,G,h2]
  rw[e];have K:=hid (fun W=>S0 a b W ha hb);have Z:∃P m f,(K1 (jS a b)).1=.agg #[Iv P,Iv m]/\(K1 (jS a b)).2=f:=by
   cases jS a b with
   |none=>exact⟨0,0,false,rfl,rfl⟩
   |some v=>exact⟨v.lo,v.hi,true,rfl,rfl⟩
  obtain⟨P,m,f,Q,hf2⟩:=Z;rw[Q,hf2]at K⊢;obtain⟨k,a1,a2⟩:=a;obtain⟨B,u,x⟩:=b;simp only[ep,bQ]at K⊢;clear e ha hb Q hf2;go_enter func391,ntmps391
  go_wp2_with (go_at_call 405;refine(K.o _).mono ?_;rintro e T ⟨rfl,hb⟩;have R:=hid hb;clear hb;obtain⟨x1,y⟩:=ae (aE R.o (GF _ _ _ _ _).2))
  have l:=(ae (aw (o:=1) (aw (o:=0) (aE R.o (GF _ _ _ _ _).2) (Iv P)) (Iv m))).1;refine aG (v:=.tuple #[.agg #[Iv P,Iv m],.bool f]) (by simp[results,results391,go_sem,l]) rfl ⟨rfl,?_⟩;exact WU
 have e:OW op a b=some (CO a b):=by unfold OW;simp at o G h2;simp[o,G,h2]
 rw[e];have X:=hid (Wn a b);obtain⟨k,a1,a2⟩:=a;obtain⟨B,u,x⟩:=b;have E:=hid (fun W=>qe a1 u W ha.lo hb.lo);have C:=hid (fun W=>qe a1 x W ha.lo hb.hi);have H3:=hid (fun W=>qe a2 u W ha.hi hb.lo);have I:=hid (fun W=>qe a2 x W ha.hi hb.hi);have j:=hid (fun W q h=>ph (wrap64 (a1*u),aQ (a1*u)) [(wrap64 (a1*x),aQ (a1*x)),(wrap64 (a2*u),aQ (a2*u)),(wrap64 (a2*x),aQ (a2*x))] (some (Ad q 0)) 3 W h ak);simp only[bT,eI,ct,Nat.reduceAdd]at j;simp only at X;rw[X.o]at j;clear X ha hb e;simp only[VR]at E C H3 I;generalize CO ⟨k,a1,a2⟩ ⟨B,u,x⟩=s at j⊢;generalize wrap64 (a1*u)=A at E j;generalize wrap64 (a1*x)=M at C j;generalize wrap64 (a2*u)=m3 at H3 j;generalize wrap64 (a2*x)=m4 at I j;generalize aQ (a1*u)=f1 at E j;generalize aQ (a1*x)=S at C j;generalize aQ (a2*u)=f3 at H3 j;generalize aQ (a2*x)=f4 at I j;obtain⟨Y,P,m⟩:=s;simp only[ep,bQ,K1]at j⊢;go_enter func391,ntmps391
 go_upto_region 7 with fail
 have H:Hd (d' ((((w.alloc nR).alloc (dy a1 a2)).alloc (dy u x)).alloc fZ) (w.heap.size+1) #[Iv a1,Iv a2] 247/\d' ((((w.alloc nR).alloc (dy a1 a2)).alloc (dy u x)).alloc fZ) (w.heap.size+2) #[Iv u,Iv x] 247/\((((w.alloc nR).alloc (dy a1 a2)).alloc (dy u x)).alloc fZ).heap[w.heap.size+3]?=some uP/\Bl w ((((w.alloc nR).alloc (dy a1 a2)).alloc (dy u x)).alloc fZ)):=by
  exact WS
 generalize((((w.alloc nR).alloc (dy a1 a2)).alloc (dy u x)).alloc fZ)=V at H⊢;have n:Hd (∀W,Bl V W->e' W (w.heap.size+1) 0 (Iv a1)/\e' W (w.heap.size+1) 1 (Iv a2)/\e' W (w.heap.size+1+1) 0 (Iv u)/\e' W (w.heap.size+1+1) 1 (Iv x)):=by
  exact WR
 obtain⟨s0,i,s2',s3⟩:=n.o V (aM _ _)
 go_region_held3 (fun W=>W.cell? (Ad (w.heap.size+1) 0)=some (Iv a1)/\W.cell? (Ad (w.heap.size+1) 1)=some (Iv a2)/\W.cell? (Ad (w.heap.size+1+1) 0)=some (Iv u)/\W.cell? (Ad (w.heap.size+1+1) 1)=some (Iv x)) (go_keep) (first|(have _:=HX4;go_at_call 401;refine(j.o _ _ (VQ ak ak ak ak ak ak)).mono ?_;rintro e X5 ⟨rfl,hb⟩;have L:Bl V X5:=aq (aq HX4.o ay) hb;have c:=hid L;obtain⟨z0,z1,z2,z3⟩:=n.o X5 L;obtain⟨g1,g2⟩:=ae (aE L H.c);clear hb L)|(have _:=D;go_at_call 404;refine(I.o _).mono ?_;rintro e X4 ⟨rfl,hb⟩;have L:Bl V X4:=aq (aq D.o ay) hb;have HX4:=hid L;obtain⟨y0,y1,y2,y3⟩:=n.o X4 L;clear hb L)|(have _:=J;go_at_call 404;refine(H3.o _).mono ?_;rintro e F ⟨rfl,hb⟩;have L:Bl V F:=aq (aq J.o ay) hb;have D:=hid L;obtain⟨x0,x1,y,x3⟩:=n.o F L;clear hb L)|(have _:=g;go_at_call 404;refine(C.o _).mono ?_;rintro e O ⟨rfl,hb⟩;have L:Bl V O:=aq (aq g.o ay) hb;have J:=hid L;obtain⟨o0,o1,N,d⟩:=n.o O L;clear hb L)|(go_at_call 404;refine(E.o _).mono ?_;rintro e X1 ⟨rfl,hb⟩;have L:Bl V X1:=aq ay hb;have g:=hid L;obtain⟨p0,p1,p2,p3⟩:=n.o X1 L;clear hb L))
 all_goals
  go_wp2_with fail
  have l:=(ae (aw (o:=1) (aw (o:=0) (aE c.o H.c) (Iv P)) (Iv m))).1;refine aG (v:=.tuple #[.agg #[Iv P,Iv m],.bool true]) (by simp[results,results391,go_sem,l]) rfl ⟨rfl,?_⟩
  first|exact((aq H.C c.o).setCell (by show _<=w.heap.size+3;omega) _).setCell (by show _<=w.heap.size+3;omega) _|exact(((aq H.C c.o).setCell (by show _<=w.heap.size+3;omega) _).setCell (by show _<=w.heap.size+3;omega) _).drew|exact below_drewN (((aq H.C c.o).setCell (by show _<=w.heap.size+3;omega) _).setCell (by show _<=w.heap.size+3;omega) _) _
end
section
open Go.RowKit Go.Proofs Go.Maps Tryz
variable {i b t:Nat} {w:World} {cs:List Value}
structure PE where
  r:Bool
  a0:VV
  a1:VV
  a2:VV
  a3:VV
  a4:VV
  a5:VV
  a6:VV
  a7:VV
def VV.z:VV:=⟨false,0,0⟩
def PE.zero:PE:=⟨false,VV.z,VV.z,VV.z,VV.z,VV.z,VV.z,VV.z,VV.z⟩
def PE.at(e:PE)(i:Nat):VV:=if i=0 then e.a0 else if i=1 then e.a1 else if i=2 then e.a2 else if i=3 then e.a3 else if i=4 then e.a4 else if i=5 then e.a5 else if i=6 then e.a6 else if i=7 then e.a7 else VV.z
def PE.put(e:PE)(i:Nat)(x:VV):PE:=⟨e.r,if i=0 then x else e.a0,if i=1 then x else e.a1,if i=2 then x else e.a2,if i=3 then x else e.a3,if i=4 then x else e.a4,if i=5 then x else e.a5,if i=6 then x else e.a6,if i=7 then x else e.a7⟩
def KC.qv(x:VV):Value:=.agg #[.bool x.any,Iv x.lo]
def KB.qv(x:VV):Value:=.agg #[Iv x.lo,Iv x.hi]
def KC.aH(e:PE):List Value:=[.bool e.r,.bool e.a0.any,Iv e.a0.lo,.bool e.a1.any,Iv e.a1.lo,.bool e.a2.any,Iv e.a2.lo,.bool e.a3.any,Iv e.a3.lo,.bool e.a4.any,Iv e.a4.lo,.bool e.a5.any,Iv e.a5.lo,.bool e.a6.any,Iv e.a6.lo,.bool e.a7.any,Iv e.a7.lo]
def KB.aH(e:PE):List Value:=[.bool e.r,Iv e.a0.lo,Iv e.a0.hi,Iv e.a1.lo,Iv e.a1.hi,Iv e.a2.lo,Iv e.a2.hi,Iv e.a3.lo,Iv e.a3.hi,Iv e.a4.lo,Iv e.a4.hi,Iv e.a5.lo,Iv e.a5.hi,Iv e.a6.lo,Iv e.a6.hi,Iv e.a7.lo,Iv e.a7.hi]
def QX(h:i<8):i=0∨i=1∨i=2∨i=3∨i=4∨i=5∨i=6∨i=7:=ah
def KC.iJ(e:PE)(h:i<8):(KC.aH e)[1+i*2]?=some (.bool (e.at i).any)/\(KC.aH e)[1+i*2+1]?=some (Iv (e.at i).lo):=by
 rcases QX h with rfl|rfl|rfl|rfl|rfl|rfl|rfl|rfl<;>exact⟨rfl,rfl⟩
def KC.sn(e:PE)(h:i<8)(x:VV):((KC.aH e).toArray.setIfInBounds (1+i*2) (.bool x.any)).setIfInBounds (1+i*2+1) (Iv x.lo)=(KC.aH (e.put i x)).toArray:=by
 rcases QX h with rfl|rfl|rfl|rfl|rfl|rfl|rfl|rfl<;>rfl
def WQ{p:Prop}(h:p:=by
 rcases t with rfl|rfl|rfl|rfl|rfl|rfl|rfl|rfl|rfl|rfl|rfl|rfl|rfl|rfl|rfl|rfl|rfl<;>rfl):p:=h
def KC.pL(e:PE):∀v∈KC.aH e,v.oneCell'=true:=by
 intro v t;simp only[KC.aH,cQ,gM,ga]at t;exact WQ
def KC.a!(e:PE):(KC.aH e).toArray.all (·.oneCell')=true:=all_oneCell_toArray (KC.pL e)
def KC.KR(e:PE):(KC.aH e).length=17:=rfl
def KB.iJ(e:PE)(h:i<8):(KB.aH e)[1+i*2]?=some (Iv (e.at i).lo)/\(KB.aH e)[1+i*2+1]?=some (Iv (e.at i).hi):=by
 rcases QX h with rfl|rfl|rfl|rfl|rfl|rfl|rfl|rfl<;>exact⟨rfl,rfl⟩
def KB.sn(e:PE)(h:i<8)(x:VV):((KB.aH e).toArray.setIfInBounds (1+i*2) (Iv x.lo)).setIfInBounds (1+i*2+1) (Iv x.hi)=(KB.aH (e.put i x)).toArray:=by
 rcases QX h with rfl|rfl|rfl|rfl|rfl|rfl|rfl|rfl<;>rfl
def KB.pL(e:PE):∀v∈KB.aH e,v.oneCell'=true:=by
 intro v t;simp only[KB.aH,cQ,gM,ga]at t;exact WQ
def KB.a!(e:PE):(KB.aH e).toArray.all (·.oneCell')=true:=all_oneCell_toArray (KB.pL e)
def KB.KR(e:PE):(KB.aH e).length=17:=rfl
def PE.jy(e:PE){j:Nat}(h:i<8)(x:VV):(e.put i x).at j=if j=i then x else e.at j:=by
 by_cases U:j<8
 ·rcases QX h with rfl|rfl|rfl|rfl|rfl|rfl|rfl|rfl<;>rcases QX U with rfl|rfl|rfl|rfl|rfl|rfl|rfl|rfl<;>rfl
 have:∀e:PE,e.at j=VV.z:=fun e=>by unfold PE.at;repeat rw[aA ah]
 rw[this,this,aA ah]
def iY(e:PE)(o:ot):VV:=if o.isVar then e.at o.var.toNat else VV.one o.const
def Gh(w:World)(a b c d:Obj):((((w.alloc a).alloc b).alloc c).alloc d).heap[w.heap.size]?=some a/\((((w.alloc a).alloc b).alloc c).alloc d).heap[w.heap.size+1]?=some b/\((((w.alloc a).alloc b).alloc c).alloc d).heap[w.heap.size+2]?=some c/\((((w.alloc a).alloc b).alloc c).alloc d).heap[w.heap.size+3]?=some d:=by
 have h:=Gi (w.alloc a) b c d;have z:(w.alloc a).heap.size=w.heap.size+1:=ak
 rw[z]at h;exact⟨aE (cq _ _ _ _) (bf _ _),h.1,h.2.1,h.2.2⟩
def aT(h:w.heap[b]?=some (cJ cs.toArray t)):w.rangeAt b 0 cs:=fun j v a=>by
 rw[ct,(ae h).1]
 simpa using a
def bO{n:Nat}{cs:Array Value}(h:w.heap[b]?=some (cJ cs t))(hn:cs.size=n):w.there b 0 n:=fun j U=>by
 rw[ct];refine⟨?_,(ae h).2 j⟩;rw[(ae h).1,qH ah];rfl
def dc(b:Nat):∀(vs:List Value) (o:Nat) (w:World) (k:Nat),k≠b->(w.setCells b o vs).heap[k]?=w.heap[k]?
 |[],_,_,_,_=>rfl
 |v :: r,o,w,k,h=>(dc b r (o+1) _ k h).trans (aZ _ _ _ _ h)
def aY{B:Nat}{V:World}(b:Nat)(hb:B<=b):∀(vs:List Value) (o:Nat) (w:World),Below B V w->Below B V (w.setCells b o vs)
 |[],_,_,h=>h
 |v :: r,o,w,h=>aY b hb r (o+1) _ (h.setCell hb _)
def KD(b t:Nat):∀(vs pre a:List Value) (w:World) (o:Nat),o=pre.length->w.heap[b]?=some (.cells (pre++a).toArray t (0,0))->a.length=vs.length->(w.setCells b o vs).heap[b]?=some (.cells (pre++vs).toArray t (0,0))
 |[],pre,a,w,o,_,h,hl=>by
  have:a=[]:=List.eq_nil_of_length_eq_zero hl;subst this;exact h
 |v :: r,pre,[],w,o,_,h,hl=>by simp at hl
 | v :: r,pre,d :: a,w,o,g,h,hl=>by
  have G:(w.setCell (Ad b o) v).heap[b]?=some (.cells ((pre++[v])++a).toArray t (0,0)):=by
   rw[aw h,g];simp
  have O:=KD b t r (pre++[v]) a _ (o+1) (by simp[g]) G (by simpa using hl);rw[dj]at O;exact O
def bX{vs:List Value}(h:w.heap[b]?=some (cJ cs.toArray t))(hl:cs.length=vs.length):(w.setCells b 0 vs).heap[b]?=some (cJ vs.toArray t):=by
 have:=KD b t vs [] cs w 0 rfl h hl
 simpa using this
def KC.Cr:True:=trivial
abbrev KC.dp(x:VV):Value:=.bool x.any
abbrev KC.dn(x:VV):Value:=Iv x.lo
abbrev KB.dp(x:VV):Value:=Iv x.lo
abbrev KB.dn(x:VV):Value:=Iv x.hi
abbrev KC.pK:List Value:=[.bool false,.bool false,Iv 0,.bool false,Iv 0,.bool false,Iv 0,.bool false,Iv 0,.bool false,Iv 0,.bool false,Iv 0,.bool false,Iv 0,.bool false,Iv 0]
abbrev KB.pK:List Value:=[.bool false,Iv 0,Iv 0,Iv 0,Iv 0,Iv 0,Iv 0,Iv 0,Iv 0,Iv 0,Iv 0,Iv 0,Iv 0,Iv 0,Iv 0,Iv 0,Iv 0]
abbrev KC.Gr:Array Value:=uN
abbrev KB.Gr:Array Value:=#[Iv 0,Iv 0]
abbrev KC.dE:Array Value:=tY
abbrev KB.dE:Array Value:=tX
abbrev KC.fH:=@underlying228
abbrev KC.qF1:=@func309
abbrev KC.qN2:=@ntmps309
abbrev KC.aV:Nat:=228
abbrev KC.g! : Nat:=225
abbrev KC.qF7:=@func340
abbrev KC.qN8:=@ntmps340
abbrev KC.qF9:=@func313
abbrev KC.acS:=@ntmps313
abbrev KC.gj:Nat:=328
abbrev KC.ac7:=@func315
abbrev KC.acR:=@ntmps315
abbrev KC.ac6:=@func308
abbrev KC.acQ:=@ntmps308
abbrev KC.vu:Nat:=381
abbrev KC.ac5:=@func311
abbrev KC.acP:=@ntmps311
abbrev KC.ac4:=@func312
abbrev KC.acO:=@ntmps312
abbrev KC.ac3:=@func316
abbrev KC.acN:=@ntmps316
abbrev KC.ac2:=@func317
abbrev KC.acM:=@ntmps317
abbrev KC.Io:Nat:=376
abbrev KC.ac1:=@func314
abbrev KC.acL:=@ntmps314
abbrev KC.MN:=@func274
abbrev KC.ML:=@ntmps274
abbrev KC.UB:Nat:=316
abbrev KC.Ip:Nat:=317
abbrev KC.UA:Nat:=314
abbrev KC.Uz:Nat:=312
abbrev KC.Uy:Nat:=311
abbrev KC.Ux:Nat:=308
abbrev KC.adf:=@Tryz.call308
abbrev KC.ade:=@Tryz.call311
abbrev KC.adb:=@Tryz.call312
abbrev KC.ada:=@Tryz.call314
abbrev KC.ac9:=@Tryz.call316
abbrev KC.Uu:=@underlying226
abbrev KC.ac0:=@func273
abbrev KC.acK:=@ntmps273
abbrev KC.Uw:Nat:=226
abbrev KC.acZ:=@func271
abbrev KC.acJ:=@ntmps271
abbrev KC.acY:=@func270
abbrev KC.acI:=@ntmps270
abbrev KC.acX:=@func272
abbrev KC.acH:=@ntmps272
abbrev KC.acW:=@func235
abbrev KC.acG:=@ntmps235
abbrev KC.Il:Nat:=222
abbrev KC.ZH:Nat:=233
abbrev KC.ab6:=@underlying229
abbrev KC.ab5:=@underlying373
abbrev KC.acV:=@func212
abbrev KC.acF:=@ntmps212
abbrev KC.acC:Nat:=274
abbrev KC.xY:Nat:=270
abbrev KC.xX:Nat:=272
abbrev KC.ab8:Nat:=229
abbrev KC.qh:Nat:=375
abbrev KC.mL:Nat:=378
abbrev KC.ab7:Nat:=373
abbrev KC.ZG:=@underlying375
abbrev KC.ZF:=@underlying222
abbrev KC.acU:=@func210
abbrev KC.acE:=@ntmps210
abbrev KC.acT:=@func163
abbrev KC.acD:=@ntmps163
abbrev KC.ac8:=@Tryz.call235
abbrev KC.ZJ:Nat:=210
abbrev KC.ZI:Nat:=235
abbrev KB.fH:=@underlying250
abbrev KB.qF1:=@func319
abbrev KB.qN2:=@ntmps319
abbrev KB.aV:Nat:=250
abbrev KB.g! : Nat:=247
abbrev KB.qF7:=@func341
abbrev KB.qN8:=@ntmps341
abbrev KB.qF9:=@func323
abbrev KB.acS:=@ntmps323
abbrev KB.gj:Nat:=331
abbrev KB.ac7:=@func325
abbrev KB.acR:=@ntmps325
abbrev KB.ac6:=@func318
abbrev KB.acQ:=@ntmps318
abbrev KB.vu:Nat:=386
abbrev KB.ac5:=@func321
abbrev KB.acP:=@ntmps321
abbrev KB.ac4:=@func322
abbrev KB.acO:=@ntmps322
abbrev KB.ac3:=@func326
abbrev KB.acN:=@ntmps326
abbrev KB.ac2:=@func327
abbrev KB.acM:=@ntmps327
abbrev KB.Io:Nat:=338
abbrev KB.ac1:=@func324
abbrev KB.acL:=@ntmps324
abbrev KB.MN:=@func279
abbrev KB.ML:=@ntmps279
abbrev KB.UB:Nat:=326
abbrev KB.Ip:Nat:=327
abbrev KB.UA:Nat:=324
abbrev KB.Uz:Nat:=322
abbrev KB.Uy:Nat:=321
abbrev KB.Ux:Nat:=318
abbrev KB.adf:=@Tryz.call318
abbrev KB.ade:=@Tryz.call321
abbrev KB.adb:=@Tryz.call322
abbrev KB.ada:=@Tryz.call324
abbrev KB.ac9:=@Tryz.call326
abbrev KB.Uu:=@underlying248
abbrev KB.ac0:=@func278
abbrev KB.acK:=@ntmps278
abbrev KB.Uw:Nat:=248
abbrev KB.acZ:=@func276
abbrev KB.acJ:=@ntmps276
abbrev KB.acY:=@func275
abbrev KB.acI:=@ntmps275
abbrev KB.acX:=@func277
abbrev KB.acH:=@ntmps277
abbrev KB.acW:=@func239
abbrev KB.acG:=@ntmps239
abbrev KB.Il:Nat:=244
abbrev KB.ZH:Nat:=242
abbrev KB.ab6:=@underlying238
abbrev KB.ab5:=@underlying335
abbrev KB.acV:=@func213
abbrev KB.acF:=@ntmps213
abbrev KB.acC:Nat:=279
abbrev KB.xY:Nat:=275
abbrev KB.xX:Nat:=277
abbrev KB.ab8:Nat:=238
abbrev KB.qh:Nat:=337
abbrev KB.mL:Nat:=340
abbrev KB.ab7:Nat:=335
abbrev KB.ZG:=@underlying337
abbrev KB.ZF:=@underlying244
abbrev KB.acU:=@func216
abbrev KB.acE:=@ntmps216
abbrev KB.acT:=@func166
abbrev KB.acD:=@ntmps166
abbrev KB.ac8:=@Tryz.call239
abbrev KB.ZJ:Nat:=216
abbrev KB.ZI:Nat:=239
end
section
open Go.RowKit Go.Proofs Go.Maps Tryz
def qs1{p:Prop}(h:p:=by
 have U:(k:Int)<8:=ah
 simp only[KC.qv,KB.qv];go_enter qF1,qN2
 go_upto_region 1 with fail
 have H:Hd ((((w.alloc (.cells (aH e).toArray aV)).alloc (.cells #[(dp x),(dn x)] g!)).alloc (.cells dE aV)).heap[w.heap.size]?=some (.cells (aH e).toArray aV (0,0))/\(((w.alloc (.cells (aH e).toArray aV)).alloc (.cells #[(dp x),(dn x)] g!)).alloc (.cells dE aV)).heap[w.heap.size+1]?=some (.cells #[(dp x),(dn x)] g! (0,0))/\(((w.alloc (.cells (aH e).toArray aV)).alloc (.cells #[(dp x),(dn x)] g!)).alloc (.cells dE aV)).heap[w.heap.size+2]?=some (.cells (pK).toArray aV (0,0))/\Below w.heap.size w (((w.alloc (.cells (aH e).toArray aV)).alloc (.cells #[(dp x),(dn x)] g!)).alloc (.cells dE aV))):=by
  obtain⟨L,f,Y⟩:=Gi w (.cells (aH e).toArray aV) (.cells #[(dp x),(dn x)] g!) (.cells dE aV);exact⟨L,f,Y,cq _ _ _ _⟩
 generalize(((w.alloc (.cells (aH e).toArray aV)).alloc (.cells #[(dp x),(dn x)] g!)).alloc (.cells dE aV))=V at H⊢;obtain⟨F,y⟩:=ae H.a;obtain⟨B,o⟩:=ae H.b;have t:V.cell? (Ad w.heap.size (1+k*2))=some (dp (e.at k)):=by rw[F];exact(de ..).trans (iJ e hk).1
 have C:V.cell? (Ad w.heap.size (1+k*2+1))=some (dn (e.at k)):=by rw[F];exact(de ..).trans (iJ e hk).2
 clear F
 go_upto_region 2 with fail
 have Z:Hd (((V.setCell (Ad w.heap.size (1+k*2)) (dp x)).setCell (Ad w.heap.size (1+k*2+1)) (dn x)).heap[w.heap.size]?=some (.cells (aH (e.put k x)).toArray aV (0,0))/\((V.setCell (Ad w.heap.size (1+k*2)) (dp x)).setCell (Ad w.heap.size (1+k*2+1)) (dn x)).heap[w.heap.size+2]?=some (.cells (pK).toArray aV (0,0))/\Below w.heap.size w ((V.setCell (Ad w.heap.size (1+k*2)) (dp x)).setCell (Ad w.heap.size (1+k*2+1)) (dn x))):=by
  refine⟨?_,((aZ _ _ _ _ (by show w.heap.size+2≠w.heap.size;omega)).trans (aZ _ _ _ _ (by show w.heap.size+2≠w.heap.size;omega))).trans H.c,(H.C.setCell (aF _) _).setCell (aF _) _⟩;rw[aw (aw H.a _) _,sn e hk]
 generalize((V.setCell (Ad w.heap.size (1+k*2)) (dp x)).setCell (Ad w.heap.size (1+k*2+1)) (dn x))=W at Z⊢;obtain⟨Q,b⟩:=Ea (e.put k x);rw[<-b]at Z;have n:=hid b;clear y B o t C H b;have a:=aT Z.a;have N:=bO (n:=17) Z.b rfl
 go_wp2_with (first|(refine wpList_load_mid rfl aV (.tmp 3) rfl w.heap.size 0 rfl (aH Q) _ a fH rfl au ?_)|(refine wpList_store_mid rfl aV (.tmp 6) (.tmp 11) rfl (w.heap.size+1+1) 0 (aH Q).toArray rfl rfl N au (a! _) ?_))
 have A:=bX Z.b (vs:=aH Q) rfl;have E:=run_loadVar_mid (P:=Tryz.prog) (W.setCells (w.heap.size+1+1) 0 (aH Q)) (w.heap.size+1+1) 0 aV (aH Q) _ (aT A) fH rfl au
 refine aG (v:=.agg (aH Q).toArray) (by simp[results,results309,results319,E,Act.put,asAddr]) rfl ⟨by rw[n.o],aY _ ah _ _ _ Z.B⟩):p:=h
open KC in
def KC.kD(e:PE)(k:Nat)(x:VV)(w:World)(hk:k<8):
 Cl 309 #[.agg (KC.aH e).toArray,Iv k,KC.qv x] w (Rb w (.agg (KC.aH (e.put k x)).toArray)):=by exact qs1
open KB in
def KB.kD(e:PE)(k:Nat)(x:VV)(w:World)(hk:k<8):
 Cl 319 #[.agg (KB.aH e).toArray,Iv k,KB.qv x] w (Rb w (.agg (KB.aH (e.put k x)).toArray)):=by exact qs1
end
open Go.RowKit Go.Proofs Go.Maps Tryz
def KC.uX (w : World) : (nilAhead 605 328 (.agg #[]) "warrant/rules.compute").run Tryz.prog w = .ok (some false) w := by kernel_rfl
def KB.uX (w : World) : (nilAhead 605 331 (.agg #[]) "warrant/rules.compute").run Tryz.prog w = .ok (some false) w := by kernel_rfl
def KC.xW (w : World) : (nilAhead 605 328 (.agg #[]) "warrant/rules.assume").run Tryz.prog w = .ok (some false) w := by kernel_rfl
def KB.xW (w : World) : (nilAhead 605 331 (.agg #[]) "warrant/rules.assume").run Tryz.prog w = .ok (some false) w := by kernel_rfl
def KC.EF (w : World) : (nilAhead 605 328 (.agg #[]) "warrant/rules.meet").run Tryz.prog w = .ok (some false) w := by kernel_rfl
def KB.EF (w : World) : (nilAhead 605 331 (.agg #[]) "warrant/rules.meet").run Tryz.prog w = .ok (some false) w := by kernel_rfl
def KC.EG (w : World) : (nilAhead 605 328 (.agg #[]) "warrant/rules.join").run Tryz.prog w = .ok (some false) w := by kernel_rfl
def KB.EG (w : World) : (nilAhead 605 331 (.agg #[]) "warrant/rules.join").run Tryz.prog w = .ok (some false) w := by kernel_rfl
def KC.AI (w : World) : (nilAhead 605 328 (.agg #[]) "warrant/rules.below").run Tryz.prog w = .ok (some false) w := by kernel_rfl
def KB.AI (w : World) : (nilAhead 605 331 (.agg #[]) "warrant/rules.below").run Tryz.prog w = .ok (some false) w := by kernel_rfl
def KC.nu (w : World) : (method 605 328 (.agg #[]) "warrant/rules.constant").run Tryz.prog w = .ok (385, .agg #[]) w := by kernel_rfl
def KB.nu (w : World) : (method 605 331 (.agg #[]) "warrant/rules.constant").run Tryz.prog w = .ok (392, .agg #[]) w := by kernel_rfl
def KC.AJ (w : World) : (method 605 328 (.agg #[]) "warrant/rules.input").run Tryz.prog w = .ok (386, .agg #[]) w := by kernel_rfl
def KB.AJ (w : World) : (method 605 331 (.agg #[]) "warrant/rules.input").run Tryz.prog w = .ok (393, .agg #[]) w := by kernel_rfl
def KC.uY (w : World) : (method 605 328 (.agg #[]) "warrant/rules.compute").run Tryz.prog w = .ok (384, .agg #[]) w := by kernel_rfl
def KB.uY (w : World) : (method 605 331 (.agg #[]) "warrant/rules.compute").run Tryz.prog w = .ok (391, .agg #[]) w := by kernel_rfl
def KC.xZ (w : World) : (method 605 328 (.agg #[]) "warrant/rules.assume").run Tryz.prog w = .ok (382, .agg #[]) w := by kernel_rfl
def KB.xZ (w : World) : (method 605 331 (.agg #[]) "warrant/rules.assume").run Tryz.prog w = .ok (389, .agg #[]) w := by kernel_rfl
def KC.EH (w : World) : (method 605 328 (.agg #[]) "warrant/rules.meet").run Tryz.prog w = .ok (388, .agg #[]) w := by kernel_rfl
def KB.EH (w : World) : (method 605 331 (.agg #[]) "warrant/rules.meet").run Tryz.prog w = .ok (395, .agg #[]) w := by kernel_rfl
def KC.EI (w : World) : (method 605 328 (.agg #[]) "warrant/rules.join").run Tryz.prog w = .ok (387, .agg #[]) w := by kernel_rfl
def KB.EI (w : World) : (method 605 331 (.agg #[]) "warrant/rules.join").run Tryz.prog w = .ok (394, .agg #[]) w := by kernel_rfl
def KC.AK (w : World) : (method 605 328 (.agg #[]) "warrant/rules.below").run Tryz.prog w = .ok (383, .agg #[]) w := by kernel_rfl
def KB.AK (w : World) : (method 605 331 (.agg #[]) "warrant/rules.below").run Tryz.prog w = .ok (390, .agg #[]) w := by kernel_rfl
def WO{p:Prop}(h:p:=by
 exact((aq (cq _ _ _ _) R.o).setCell (by show _<=w.heap.size+2;omega) _).setCell (by show _<=w.heap.size+2;omega) _):p:=h
def KC.jo(e:PE)(o:ot)(w:World)(g:o.isVar=true->0<=o.var/\o.var<8):
  Cl 310 #[.iface 328 (.agg #[]),.agg (KC.aH e).toArray,.agg #[.bool o.isVar,Iv o.var,Iv o.const]] w (Rb w (KC.qv (iY e o))):=by
 obtain⟨p,var,c⟩:=o;simp only[iY]at g⊢;cases p
 ·have f:=hid (fun W=>I! (.agg #[]) c W rfl)
  have C:=KC.nu;go_enter func310,ntmps310
  go_wp2_with (go_at_call 385;refine(f.o _).mono ?_;rintro r T ⟨rfl,D⟩;have R:=hid D;clear D;obtain⟨F,y⟩:=ae (aE R.o (Gi _ _ _ _).2.2))
  have l:=(ae (aw (o:=1) (aw (o:=0) (aE R.o (Gi _ _ _ _).2.2) (.bool (VV.one c).any)) (Iv (VV.one c).lo))).1;simp only[VV.one]at l;refine aG (v:=KC.qv (VV.one c)) (by simp[results,results310,go_sem,l,KC.qv,VV.one]) rfl ⟨ak,?_⟩;exact WO
 obtain⟨k,rfl⟩:∃k:Nat,var=(k:Int):=⟨var.toNat,by have:=(g rfl).1;omega⟩;have X:k<8:=by have:=(g rfl).2;omega
 have U:(k:Int)<8:=ah
 clear g;go_enter func310,ntmps310
 go_upto_region 2 with fail
 have H:=hid (Aa (Gi w (.cells (KC.aH e).toArray 228) (qp k c) (.cells uN 225)) (cq w (.cells (KC.aH e).toArray 228) (qp k c) (.cells uN 225)));generalize((w.alloc (.cells (KC.aH e).toArray 228)).alloc (qp k c)).alloc (.cells uN 225)=V at H⊢;obtain⟨F,y⟩:=ae H.a.1;obtain⟨B,a⟩:=ae H.a.2.1;obtain⟨x,z⟩:=ae H.a.2.2;have t:V.cell? (Ad w.heap.size (1+k*2))=some (.bool (e.at k).any):=by rw[F];exact(de ..).trans (KC.iJ e X).1
 have b:V.cell? (Ad w.heap.size (1+k*2+1))=some (Iv (e.at k).lo):=by rw[F];exact(de ..).trans (KC.iJ e X).2
 clear F
 go_wp2_with fail
 have l:=(ae (aw (o:=1) (aw (o:=0) H.a.2.2 (.bool (e.at k).any)) (Iv (e.at k).lo))).1;refine aG (v:=KC.qv (e.at k)) (by simp[results,results310,go_sem,l,KC.qv]) rfl ⟨ak,?_⟩;exact(H.A.setCell (by show _<=w.heap.size+2;omega) _).setCell (by show _<=w.heap.size+2;omega) _
def KB.jo(e:PE)(o:ot)(w:World)(g:o.isVar=true->0<=o.var/\o.var<8):
  Cl 320 #[.iface 331 (.agg #[]),.agg (KB.aH e).toArray,.agg #[.bool o.isVar,Iv o.var,Iv o.const]] w (Rb w (KB.qv (iY e o))):=by
 obtain⟨p,var,c⟩:=o;simp only[iY]at g⊢;cases p
 ·have f:=hid (fun W=>JT (.agg #[]) c W rfl)
  have C:=KB.nu;simp only[ep]at f;go_enter func320,ntmps320
  go_wp2_with (go_at_call 392;refine(f.o _).mono ?_;rintro r T ⟨rfl,D⟩;have R:=hid D;clear D;obtain⟨F,y⟩:=ae (aE R.o (Gi _ _ _ _).2.2))
  have l:=(ae (aw (o:=1) (aw (o:=0) (aE R.o (Gi _ _ _ _).2.2) (Iv (VV.one c).lo)) (Iv (VV.one c).hi))).1;simp only[VV.one]at l;refine aG (v:=KB.qv (VV.one c)) (by simp[results,results320,go_sem,l,KB.qv,VV.one]) rfl ⟨ak,?_⟩;exact WO
 obtain⟨k,rfl⟩:∃k:Nat,var=(k:Int):=⟨var.toNat,by have:=(g rfl).1;omega⟩;have X:k<8:=by have:=(g rfl).2;omega
 have U:(k:Int)<8:=ah
 clear g;go_enter func320,ntmps320
 go_upto_region 2 with fail
 have H:=hid (Aa (Gi w (.cells (KB.aH e).toArray 250) (qp k c) fZ) (cq w (.cells (KB.aH e).toArray 250) (qp k c) fZ));generalize((w.alloc (.cells (KB.aH e).toArray 250)).alloc (qp k c)).alloc fZ=V at H⊢;obtain⟨F,y⟩:=ae H.a.1;obtain⟨B,a⟩:=ae H.a.2.1;obtain⟨x,z⟩:=ae H.a.2.2;have t:V.cell? (Ad w.heap.size (1+k*2))=some (Iv (e.at k).lo):=by rw[F];exact(de ..).trans (KB.iJ e X).1
 have b:V.cell? (Ad w.heap.size (1+k*2+1))=some (Iv (e.at k).hi):=by rw[F];exact(de ..).trans (KB.iJ e X).2
 clear F
 go_wp2_with fail
 have l:=(ae (aw (o:=1) (aw (o:=0) H.a.2.2 (Iv (e.at k).lo)) (Iv (e.at k).hi))).1;refine aG (v:=KB.qv (e.at k)) (by simp[results,results320,go_sem,l,KB.qv]) rfl ⟨ak,?_⟩;exact(H.A.setCell (by show _<=w.heap.size+2;omega) _).setCell (by show _<=w.heap.size+2;omega) _
section
variable {W':World} {rb:Nat} {s:ByteArray} {e:Ending}
open Go.RowKit Go.Proofs Go.Maps Tryz
def iE(p g:Int)(_:Unit)(l:List UInt8):Option ((Vl×Unit)×List UInt8):=match (if p=6 then sk l else lk g l)with
 |some (v,r)=>some ((v,()),r)
 |none=>none
def po(sb xb rb:Nat)(p g:Int)(W:World):Prop:=W.heap[sb]?=some (nU p g)/\Tb xb rb W
def KL{W:World}{sb xb:Nat}{bad:Bool}{p g:Int}{q:List UInt8->Option (Vl×List UInt8)}(hq:∀l,(if p=6 then sk l else lk g l)=q l)(hs:sb≠rb)(hx:xb≠rb)(N:po sb xb rb p g W)(h:RdP W' rb s (dJ bad q s) jk (fun z=>∃v,z=jk v) e)(m:W.grownBy W' (some rb)):
  Ou W' rb s (dJ bad (iE p g ()) s) jk (fun z=>∃x,z=jk x) (fun W (_:Unit)=>po sb xb rb p g W) (po sb xb rb p g) e/\Fr (fun j=>j≠rb/\¬(j=sb∨j=xb)) W W':=by
 have a:po sb xb rb p g W':=⟨(m.block sb (bq.1 N.1).1 (by simpa using hs)).trans N.1,(m.block xb (bq.1 N.2).1 (by simpa using hx)).trans N.2⟩;refine⟨?_,Fr.dr m (fun j _ U=>by simpa using U.1)⟩;rcases h with⟨v,C,G,O,Y,K⟩|⟨G,z,C,O,Y,K,H⟩
 ·obtain⟨D,i⟩:=eA G
  subst D;refine aJ ⟨v,(),C,?_,O,Y,K,a⟩;unfold dJ iE;simp only[bN,bR];rw[hq,i]
 refine aI ⟨?_,z,C,O,Y,K,H,a⟩;apply rq;rcases mT G with r|⟨_,r⟩
 ·exact aJ r
 right
 unfold iE;rw[hq,r]
def KJ{res:Option (Vl×List UInt8)}(h:RdP W' rb s res jk (fun z=>∃v,z=jk v) e):∃v,e=.returned (jk v):=by
 rcases h with⟨v,C,G,O,Y,K⟩|⟨G,z,C,⟨v,t⟩,Y,K,H⟩
 ·exact⟨v,Y⟩
 exact⟨v,by rw[Y,t]⟩
def AE{U:World}{res:Option (Vl×List UInt8)}(h:RdP W' rb s res jk (fun z=>∃v,z=jk v) e)(a:∀C b,cT W' rb C b->cT U rb C b):RdP U rb s res jk (fun z=>∃v,z=jk v) e:=by
 rcases h with⟨v,C,G,O,Y,K⟩|⟨G,z,C,O,Y,K,H⟩
 ·exact aJ ⟨v,C,G,O,Y,a _ _ K⟩
 exact aI ⟨G,z,C,O,Y,K,a _ _ H⟩
def KK{res:Option (Vl×List UInt8)}(h:RdP W' rb s res jk (fun z=>∃v,z=jk v) e):∃C b,cT W' rb C b:=by
 rcases h with⟨v,C,G,O,Y,K⟩|⟨G,z,C,O,Y,K,H⟩
 ·exact⟨_,_,K⟩
 exact⟨_,_,H⟩
def MV(sb xb rb:Nat)(p g:Int)(hs:sb≠rb)(hx:xb≠rb)(W:World)(s:ByteArray)(bad:Bool)(N:po sb xb rb p g W)(h:cT W rb s bad)(c:s.size<=60000):
  Cl 293 (nk sb xb) W fun e i=>Ou i rb s (dJ bad (iE p g ()) s) jk (fun z=>∃x,z=jk x) (fun W (_:Unit)=>po sb xb rb p g W) (po sb xb rb p g) e/\Fr (fun j=>j≠rb/\¬(j=sb∨j=xb)) W i:=by
 have k:=(bq.1 N.1).1;have Q:=(bq.1 N.2).1;have P:=h.lt;have w:=(show Hd _ from Aa N h);clear N h;by_cases K:p=6
 ·have m:(p==6)=true:=by rw[eJ];exact K
  have a:=(show Hd _ from K);clear K;go_enter func293,ntmps293
  go_upto_region 1 with(fail)
  obtain⟨d,M⟩:=Ea ((W.alloc (.cells iB 73)));rw[<-M];have r:Bl W d:=by rw[M];exact aC _ _
  have A:=(r.block sb k).trans w.a.1;have J:=(r.block xb Q).trans w.a.2;have I:d' d W.heap.size iB 73:=by rw[M];exact bf _ _
  have f:cT d rb s bad:=by rw[M];exact w.A.alloc _
  have Z:=EP rb s bad d f c;have H:=(show Hd _ from Aa Z (Aa I (Aa r M)));obtain⟨F,y⟩:=ae A;obtain⟨B,o⟩:=ae J;clear A J I f r M Z
  go_wp2_with fail
  refine bA H.a ?_;rintro e T ⟨G,u⟩;obtain⟨v,rfl⟩:=KJ G;have R:=(u.block W.heap.size (bq.1 H.b).1 (by simp;omega)).trans H.b;have D:W.grownBy T (some rb):=by have:=H.C;subst this;exact iQ u
  have E:=(show Hd _ from Aa G D);clear F y B o G u D;obtain⟨F,y⟩:=ae R;clear R;simp only[jk]
  go_wp2_with fail
  refine aG (v:=jk v) (by simp[results,results293,go_sem,F,jk]) rfl ?_;obtain⟨n,L,q⟩:=KK E.a;have t:=fun C b h=>gO (rb:=rb) (s:=C) (bad:=b) E.A h (aF W.heap.size) ah (Iv v.kind) (Iv v.lo) (Iv v.hi) (.bool v.early) (Iv v.first) (Iv v.rank)
  exact KL (fun l=>aD a.o) hs hx w.a (AE E.a (fun C b h=>(t C b h).1)) (t _ _ q).2
 have m:(p==6)=false:=by rw[er];exact K
 have a:=(show Hd _ from K);clear K;go_enter func293,ntmps293
 go_upto_region 1 with(fail)
 obtain⟨d,M⟩:=Ea ((W.alloc (.cells iB 73)));rw[<-M];have r:Bl W d:=by rw[M];exact aC _ _
 have A:=(r.block sb k).trans w.a.1;have J:=(r.block xb Q).trans w.a.2;have I:d' d W.heap.size iB 73:=by rw[M];exact bf _ _
 have f:cT d rb s bad:=by rw[M];exact w.A.alloc _
 have Z:=Iu rb s bad p g d f c;have H:=(show Hd _ from Aa Z (Aa I (Aa r M)));obtain⟨F,y⟩:=ae A;obtain⟨B,o⟩:=ae J;clear A J I f r M Z
 go_wp2_with fail
 refine bA H.a ?_;rintro e T ⟨G,u⟩;obtain⟨v,rfl⟩:=KJ G;have R:=(u.block W.heap.size (bq.1 H.b).1 (by simp;omega)).trans H.b;have D:W.grownBy T (some rb):=by have:=H.C;subst this;exact iQ u
 have E:=(show Hd _ from Aa G D);clear F y B o G u D;obtain⟨F,y⟩:=ae R;clear R;simp only[jk]
 go_wp2_with fail
 refine aG (v:=jk v) (by simp[results,results293,go_sem,F,jk]) rfl ?_;obtain⟨n,L,q⟩:=KK E.a;have t:=fun C b h=>gO (rb:=rb) (s:=C) (bad:=b) E.A h (aF W.heap.size) ah (Iv v.kind) (Iv v.lo) (Iv v.hi) (.bool v.early) (Iv v.first) (Iv v.rank)
 exact KL (fun l=>aA a.o) hs hx w.a (AE E.a (fun C b h=>(t C b h).1)) (t _ _ q).2
end
section
variable {σ:Type} {w W' W:World} {rb n B i A rk:Nat} {s C:ByteArray} {bad m:Bool} {P:Nat->Prop} {t:Option Addr} {p g:Int} {vv:Value}
open Go.RowKit Go.Proofs Go.Maps Tryz
def lE(g:Int)(l:List UInt8):Option (Nat×List UInt8):=if g=1 then kC 100000 l else some (0,l)
def uh (p g:Int) (l:List UInt8):Option (Nd×List UInt8):=match lE g l with
  | some (rk,l1)=>(match kC 8 l1 with
    | some (k,l2)=>(match bI (iE p g) k () l2 with
      |some ((vs,_),l3)=>some (⟨[],[],true,(rk:Int),vs⟩,l3)
      |none=>none)
    |none=>none)
  |none=>none
def Wu(W':World)(B n:Nat)(s:ByteArray)(bad:Bool)(step:σ->List UInt8->Option ((Vl×σ)×List UInt8))(st:σ)(la:Option Addr)(ll lc:Nat)(s':ByteArray)(b':Bool):Prop:=
 s'.size<=s.size/\((b'=false/\ll=n/\∃xs Mm,dJ bad (bI step n st) s=some ((xs,Mm),s'.data.toList)/\W'.ownsRow B 73 6 (.slice la n lc) n (ie xs))∨(b'=true/\(bad=true∨dJ bad (bI step n st) s=none)/\la=none/\ll=0/\lc=0))
def S!.one{step:σ->List UInt8->Option ((Vl×σ)×List UInt8)}{st:σ}{Inv:World->σ->Prop}{fW:World->Prop}{e:Ending}(h:S! w W' rb n s bad step st Inv fW e)(N:∀W st,Inv W st->fW W):
  ∃t i A C m,e=.returned (.slice t i A)/\Wu W' w.heap.size n s bad step st t i A C m/\cT W' rb C m/\fW W':=by
 rcases h with⟨M,f,C,t,A,G,O,rfl,Y,K,H,E⟩|⟨G,rfl,C,O,Y,K⟩
 ·exact⟨t,n,A,C,false,rfl,⟨O,aJ ⟨rfl,rfl,M,f,G,K⟩⟩,H,N _ _ E⟩
 exact⟨none,0,0,C,true,rfl,⟨O,aI ⟨rfl,G,rfl,rfl,rfl⟩⟩,Y,K⟩
def Wu.fr{w':World}{step:σ->List UInt8->Option ((Vl×σ)×List UInt8)}{st:σ}(h:Wu w B n s bad step st t i A C m)(hf:Fr P w w')(hp:∀k,(Value.slice t i A).ownBlock=some k->P k):Wu w' B n s bad step st t i A C m:=by
 refine⟨h.1,?_⟩;rcases h.2 with⟨G,O,M,f,Y,K⟩|h
 ·subst O
  exact aJ ⟨G,rfl,M,f,Y,hf.own K hp⟩
 exact aI h
def Wu.lt{step:σ->List UInt8->Option ((Vl×σ)×List UInt8)}{st:σ}(h:Wu w B n s bad step st t i A C m):∀k,(Value.slice t i A).ownBlock=some k->B<=k/\k<w.heap.size:=by
 rcases h.2 with⟨G,O,M,f,Y,K⟩|⟨_,_,Y,K,H⟩
 ·subst O
  exact K.lt
 intro k X;rw[Y]at X;simp[Value.ownBlock]at X
def px(W:World)(w:World)(rb:Nat)(p g:Int)(rk:Nat)(vv:Value):Prop:=W.heap[w.heap.size]?=some (.cells (bE rb) 274 (0,0))/\W.heap[w.heap.size+1]?=some (nU p g)/\W.heap[w.heap.size+2]?=some (.cells lf 96 (0,0))/\W.heap[w.heap.size+3]?=some (.cells #[.slice none 0 0,.slice none 0 0,.bool true,Iv rk,vv] 96 (0,0))/\w.heap.size+4<=W.heap.size
def px.fr(h:px W w rb p g rk vv)(hf:Fr P W W')(hp:∀j,w.heap.size<=j->j<w.heap.size+4->P j):px W' w rb p g rk vv:=
 ⟨hf.box h.1 (hp _ ah ah),hf.box h.2.1 (hp _ ah ah),hf.box h.2.2.1 (hp _ ah ah),hf.box h.2.2.2.1 (hp _ ah ah),bw h.2.2.2.2 hf.size⟩
def px.set{b:Nat}{a:Value}(h:px W w rb p g rk vv)(o:Nat)(v:Value)(he:#[Value.slice none 0 0,.slice none 0 0,.bool true,Iv rk,vv].setIfInBounds o v=#[.slice none 0 0,.slice none 0 0,.bool true,Iv b,a]):px (W.setCell (Ad (w.heap.size+3) o) v) w rb p g b a:=by
 have V:=FU W (w.heap.size+3) o v;refine⟨V.box h.1 (by show _≠_;omega),V.box h.2.1 (by show _≠_;omega),V.box h.2.2.1 (by show _≠_;omega),?_,bw h.2.2.2.2 V.size⟩;rw[eC h.2.2.2.1,he]
def RkK(s:ByteArray)(bad:Bool)(g:Int)(rk:Nat)(s':ByteArray)(b:Bool):Prop:=s'.size<=s.size/\((b=false/\dJ bad (lE g) s=some (rk,s'.data.toList))∨(b=true/\dJ bad (lE g) s=none))
def VX{k j vc:Nat}{s1 s2 l:ByteArray}{u x S:Bool}{va:Option Addr}(h1:RkK s bad g rk s1 u)(h2:Y4 s1 u 8 k s2 x)(h3:Wu W B k s2 x (iE p g) () va j vc l S)(f:w.heap.size<=B)(hr:cT W rb l S):
  S? w W rb s (dJ bad (uh p g) s) (.returned (.agg #[.slice none 0 0,.slice none 0 0,.bool true,Iv rk,.slice va j vc])):=by
 have R:l.size<=s.size:=bw h3.1 (bw h2.1 h1.1);cases S with
 | true=>
  refine aI ⟨?_,⟨none,0,none,0,va,vc,⟨[],[],true,(rk:Int),List.replicate j DX⟩⟩,l,by simp[v8],R,hr⟩;apply rq;cases D:bad with
  |true=>exact aJ rfl
  |false=>
   right
   subst D;unfold uh;rcases h1.2 with⟨A,Q⟩|⟨A,Q⟩;rotate_left
   ·rw[show lE g s.data.toList=none from Q]
   rw[show lE g s.data.toList=some (rk,s1.data.toList)from Q];simp only;subst A;rcases h2.2 with⟨N,z,_⟩|⟨N,z,_⟩;rotate_left
   ·rw[show kC 8 s1.data.toList=none from z]
   rw[show kC 8 s1.data.toList=some (k,s2.data.toList)from z];simp only;subst N;rcases h3.2 with⟨Y,_⟩|⟨_,I,_⟩
   ·cases Y
   rcases I with I|I
   ·cases I
   rw[show bI (iE p g) k () s2.data.toList=none from I]
 |false=>
  rcases h3.2 with⟨_,O,vs,c,I,d⟩|⟨Y,_⟩;rotate_left
  ·cases Y
  obtain⟨N,h⟩:=eA I;subst N;rcases h2.2 with⟨_,z,_⟩|⟨N,_⟩;rotate_left
  ·cases N
  obtain⟨A,a⟩:=eA z;subst A;rcases h1.2 with⟨_,Q⟩|⟨A,_⟩;rotate_left
  ·cases A
  obtain⟨r,i⟩:=eA Q;subst r;have T:=eo _ _ _ _ _ _ _ h;subst O;refine aJ ⟨⟨none,0,none,0,va,vc,⟨[],[],true,(rk:Int),vs⟩⟩,l,?_,R,by simp[v8,T],⟨dF _ _ _ _,dF _ _ _ _,?_,aJ rfl⟩,hr⟩;rotate_left
  ·simpa[N5.vv,T]using bJ d f
  unfold dJ uh;simp only[bN,bR];rw[i];simp only;rw[a];simp only;rw[h]
def PI{p:Prop}(h:p:=by
 obtain⟨rk,s1,u,A,FL,z,hf1⟩:=HA.o;have Lv:w.heap.size+4<=T.heap.size:=A.2.2.2.2;have Z:=fun(V:World) (hV:cT V rb s1 u)=>ny rb s1 u 8 V hV (by have:=FL.1;omega) ⟨ah,ah⟩
 have hcl:=fun(V:World) (k:Nat) (m:ByteArray) (x:Bool) (f:m.size<=60000) (X:k<=8) (hV:cT V rb m x) (hI:po (w.heap.size+1) w.heap.size rb p g V) (c:∀j,(j=w.heap.size+1∨j=w.heap.size)->j<V.heap.size)=>IA (iE p g) (fun W (_:Unit)=>po (w.heap.size+1) w.heap.size rb p g W) (po (w.heap.size+1) w.heap.size rb p g) (fun j=>j=w.heap.size+1∨j=w.heap.size) (w.heap.size+1) w.heap.size rb k m x () V
  (fun W st s bad G O Y=>MV _ _ _ p g ah ah W s bad G O Y)
  (fun W W' st G O=>⟨(O _ (aJ rfl)).trans G.1,(O _ (aI rfl)).trans G.2⟩)
  (fun W W' G O=>⟨(O _ (aJ rfl)).trans G.1,(O _ (aI rfl)).trans G.2⟩)
  (fun W st G=>G) c hV hI f ah
 have HP:=(show Hd _ from Aa Z (Aa hcl (Aa A (Aa FL (Aa z hf1)))));obtain⟨x1,y⟩:=ae A.1;clear Z hcl A FL z hf1 HA
 go_cut [] from 12 (fun wx=>∃(va:Option Addr) (vl vc k:Nat) (m s3:ByteArray) (x b3:Bool),Hd (px wx w rb p g rk (.slice va vl vc)/\Y4 s1 u 8 k m x/\Wu wx T.heap.size k m x (iE p g) () va vl vc s3 b3/\cT wx rb s3 b3/\Fr (fun j=>j≠rb) w wx/\T.heap.size<=wx.heap.size))
 case first=>
  go_region_law (first|(have _:=I;go_simp;refine(HP.b _ k m x f hk8 (by exact I.b) (by exact⟨I.c.2.1,I.c.1⟩) (by intro j U;have h9:=I.c.2.2.2.2;rcases U with rfl|rfl<;>(show _<W4.heap.size;omega))).mono ?_;rintro e W5 ⟨H,f5⟩;obtain⟨va,vl,vc,s3,b3,rfl,OM,hr5,hi5⟩:=H.one (fun W st G=>G);have L:=f5.box I.c.2.2.2.1 (show _/\_ from⟨ah,ah⟩);obtain⟨z1,z2⟩:=ae L;have H5:=(show Hd _ from Aa OM (Aa hr5 (Aa hi5 (Aa f5 L))));clear OM hr5 hi5 f5 H L)|(go_simp;refine(HP.a _ (by exact HP.e)).mono ?_;rintro e W4 ⟨k,m,x,rfl,X,Ly,D⟩;have hf4:Fr (fun j=>j≠rb) T W4:=Fr.trans (Fr.aR (P:=fun j=>j≠rb) (by repeat(first|with_reducible exact aM _ _|with_reducible refine below_drewN ?_ _|with_reducible refine kf ?_))) (Fr.dr D (fun j _ U=>by simpa using U)) (fun _ _ U=>U);have v:=HP.c.fr hf4 (fun j U _=>by show j≠rb;omega);have f:m.size<=60000:=(by have:=X.1;have:=HP.d.1;omega);have hk8:k<=8:=(by rcases X.2 with⟨_,_,q⟩|⟨_,_,q⟩<;>omega);obtain⟨B,o⟩:=ae v.1;have I:=(show Hd _ from Aa X (Aa Ly (Aa v hf4)));clear X Ly v hf4 D))
  all_goals
   go_wp2_with fail
   go_meet
   obtain⟨k1,k2,k3,k4,k5⟩:=H5.o;have Vk:=k4.size;have NK:=I.C;have zJ:=NK.size;have LC:px W5 w rb p g rk (.slice none 0 0):=⟨k3.2,k3.1,k4.box I.c.2.2.1 (show _/\_ from⟨ah,ah⟩),k5,bw (bw Lv zJ) Vk⟩;have t:=FU W5 (w.heap.size+3) 4 (.slice va vl vc);refine⟨va,vl,vc,k,m,s3,x,b3,LC.set 4 _ rfl,I.a,?_,k2.fr t (by show rb≠_;omega),?_,bw (bw zJ Vk) t.size⟩
   ·have hl:Wu W5 T.heap.size k m x (iE p g) () va vl vc s3 b3:=by
     refine⟨k1.1,?_⟩;rcases k1.2 with⟨G,O,xs,Mm,Y,h4⟩|h
     ·exact aJ ⟨G,O,xs,Mm,Y,bJ h4 zJ⟩
     exact aI h
    exact hl.fr t (fun j U=>by have:=(hl.lt j U).1;show j≠_;omega)
   have f6:Fr (fun j=>j≠rb/\j<w.heap.size) W4 W5:=Fr.trans (Fr.aR (P:=fun j=>j≠rb/\j<w.heap.size) (by repeat(first|with_reducible exact aM _ _|with_reducible refine below_drewN ?_ _|with_reducible refine kf ?_))) (k4.mono (fun j _ (U:j≠rb/\j<w.heap.size)=>⟨U.1,ah⟩)) (fun _ _ h=>h);exact Fr.trans (Fr.trans (Fr.trans HP.E NK (fun _ _ h=>h)) f6 (fun j G O=>⟨O,G⟩)) t (fun j G _=>by show j≠_;omega)
 obtain⟨va,vl,vc,k,m,s3,x,b3,HC⟩:=hcut
 rename World=>W6
 clear x1 y;obtain⟨x1,y⟩:=ae HC.a.2.2.2.1;obtain⟨B,o⟩:=ae HC.a.2.2.1
 go_wp2_with fail
 refine aG (v:=.agg #[.slice none 0 0,.slice none 0 0,.bool true,Iv rk,.slice va vl vc]) (by simp[results,results233,go_sem,B]) rfl ?_;have F:=YQ W6 (w.heap.size+1+1) (.slice none 0 0) (.slice none 0 0) (.bool true) (Iv rk) (.slice va vl vc);refine⟨VX HP.d HC.b (HC.c.fr F (fun j U=>by have:=(HC.c.lt j U).1;show j≠_;omega)) ah (HC.d.fr F (by show rb≠_;omega)),?_⟩
 exact Fr.trans HC.e F (fun j G O=>by show j≠_;omega)):p:=h
def MR(rb:Nat)(p g:Int)(s:ByteArray)(bad:Bool)(w:World)(h:cT w rb s bad)(hs:s.size<=60000):
  Cl 233 #[.pointer (some (Ad rb 0)),.agg #[Iv p,Iv g]] w fun e W'=>S? w W' rb s (dJ bad (uh p g) s) e/\Fr (fun j=>j≠rb) w W':=by
 have J:=h.lt;have HR:=(show Hd (cT w rb s bad)from h);clear h;go_enter func233,ntmps233
 go_upto_region 2 with(fail)
 obtain⟨V0,M⟩:=Ea (((((w.alloc (.cells (bE rb) 274)).alloc (df p g)).alloc (.cells lf 96)).alloc O9));rw[<-M];have OS:px V0 w rb p g 0 (.slice none 0 0):=by
  rw[M];refine⟨?_,?_,?_,?_,ak⟩
  ·rw[ch _ _ _ (by first|(simp;done)|(simp;omega)),ch _ _ _ (by first|(simp;done)|(simp;omega)),ch _ _ _ ak,bf]
  ·rw[ch _ _ _ (by first|(simp;done)|(simp;omega)),ch _ _ _ ak]
   exact(aN w _ _).2
  ·have:=(aN ((w.alloc (.cells (bE rb) 274)).alloc (df p g)) (.cells lf 96) O9).1
   simpa using this
  have:=(aN ((w.alloc (.cells (bE rb) 274)).alloc (df p g)) (.cells lf 96) O9).2
  simpa using this
 have Jl:cT V0 rb s bad:=by rw[M];exact(((HR.o.alloc _).alloc _).alloc _).alloc _
 have hf0:Fr (fun j=>j≠rb) w V0:=by rw[M];exact Fr.aR (dD _ _ _ _ _)
 have H0:=(show Hd _ from Aa OS (Aa Jl hf0));obtain⟨x1,y⟩:=ae OS.2.1;clear OS Jl hf0 M;have aaB:∃b:Bool,decide (g=1)=b:=⟨_,rfl⟩;obtain⟨bg,E⟩:=aaB;cases bg
 ·go_wp2_with fail
  refine(cg _ _ _).mono ?_;rw[E];rintro e T ⟨rfl,RM⟩;have Jr:Fr (fun _=>True) V0 T:=Fr.aR (by rw[RM];exact aC _ _);have HA:Hd (∃rk s1 u,px T w rb p g rk (.slice none 0 0)/\RkK s bad g rk s1 u/\cT T rb s1 u/\Fr (fun j=>j≠rb) w T):=by
   refine⟨0,s,bad,H0.a.fr Jr (fun _ _ _=>trivial),⟨aF _,?_⟩,H0.b.fr Jr trivial,Fr.trans H0.B Jr (fun _ _ _=>trivial)⟩;have hg:¬g=1:=l5 E;cases bad with
   |true=>exact aI ⟨rfl,rfl⟩
   |false=>exact aJ ⟨rfl,by unfold dJ lE;simp only[bN,bR];rw[aA hg]⟩
  clear RM Jr x1 y
  go_upto_region 4 with(fail)
  exact PI
 go_wp2_with fail
 refine(cg _ _ _).mono ?_;rw[E];rintro e V3 ⟨rfl,RM⟩;have Jr:Fr (fun _=>True) V0 V3:=Fr.aR (by rw[RM];exact aC _ _);have Js:=H0.a.fr Jr (fun _ _ _=>trivial);have Yx:=H0.b.fr Jr trivial;have Z:=pN rb s bad V3 Yx hs;have R:=(show Hd _ from Aa Z (Aa Js (Fr.trans H0.B Jr (fun _ _ _=>trivial))));clear x1 y RM Jr Yx Z;obtain⟨x1,y⟩:=ae Js.1;clear Js
 go_wp2_with fail
 refine bA R.a ?_;rintro e W2 ⟨O,g2⟩;have hf2:Fr (fun j=>j≠rb) V3 W2:=Fr.dr g2 (fun j _ U=>by simpa using U);have N:=R.b.fr hf2 (fun j U _=>by show j≠rb;omega);obtain⟨rk,s1,u,rfl,FL,z⟩:∃(rk:Nat) (s1:ByteArray) (u:Bool),e=.returned (Iv rk)/\RkK s bad g rk s1 u/\cT W2 rb s1 u:=by
  have hg:g=1:=G2 E;have hq:∀l,lE g l=kC 100000 l:=fun l=>by unfold lE;rw[aD hg]
  rcases O with⟨n,C,r1,r2,r3,r4⟩|⟨r1,r3,C,r2,r4⟩
  ·obtain⟨hb,r1'⟩:=eA r1
   subst hb;exact⟨n,C,false,r3,⟨r2,aJ ⟨rfl,by unfold dJ;simp only[bN,bR];rw[hq,r1']⟩⟩,r4⟩
  refine⟨0,C,true,r3,⟨r2,aI ⟨rfl,rq ?_⟩⟩,r4⟩;rcases mT r1 with r|⟨_,r⟩
  ·exact aJ r
  right;rw[hq,r]
 have HB:Hd (∀T,T=W2.setCell (Ad (w.heap.size+3) 3) (Iv rk)->∃rk s1 u,px T w rb p g rk (.slice none 0 0)/\RkK s bad g rk s1 u/\cT T rb s1 u/\Fr (fun j=>j≠rb) w T):=by
  intro T LD;subst LD;exact⟨rk,s1,u,N.set 3 _ rfl,FL,z.fr (FU _ _ _ _) (by show rb≠_;omega),Fr.trans (Fr.trans R.B hf2 (fun _ _ h=>h)) (FU _ _ _ _) (fun j G _=>by show j≠_;omega)⟩
 clear x1 y;obtain⟨x1,y⟩:=ae N.2.2.2.1;clear hf2 N O g2 FL z
 go_upto_region 4 with(fail)
 obtain⟨T,LD⟩:=Ea (W2.setCell (Ad (w.heap.size+1+1+1) 3) (Iv rk));rw[<-LD];have HA:=(show Hd _ from HB.o T LD);clear LD HB x1 y;exact PI
end
section
variable {most g p:Int} {n:Nd} {v:Vl}
def sG:Nd:=⟨[],[],false,0,[]⟩
def jL(p g:Int)(l:List UInt8):Option (Nd×List UInt8):=if p<=4 then uc g l else match gY l with
 |some (true,r)=>uh p g r
 |some (false,r)=>some (sG,r)
 |none=>none
def f?(p g:Int)(_:Unit)(l:List UInt8):Option ((Nd×Unit)×List UInt8):=match jL p g l with
 |some (n,r)=>some ((n,()),r)
 |none=>none
def gZ (l:List UInt8):Option (Ct×List UInt8):=match l with
  | b :: c :: q=>if known (b.toNat:Int) (c.toNat:Int)=true then(match kC 60 q with
      | some (k,q2)=>(match bI (f? (b.toNat:Int) (c.toNat:Int)) k () q2 with
        |some ((ns,_),q3)=>some (⟨(b.toNat:Int),(c.toNat:Int),ns⟩,q3)
        |none=>none)
      |none=>none) else none
  |_=>none
def dec(l:List UInt8):Option Ct:=match l with
  |87 :: 67 :: 1 :: r=>if l.length<=60000 then(match gZ r with
      |some (c,[])=>if kq c=true then some c else none
      |_=>none) else none
  |_=>none
def lD(most:Int)(l:List UInt8)(n:Nat)(r:List UInt8)(hm:most<18446744073709551616):kC most l=some (n,r)↔l=ik n++r/\(n:Int)<=most:=by
 unfold kC;constructor;rotate_left
 ·rintro⟨G,O⟩
  rw[(j3 l n r).2 ⟨G,ah⟩];simp only;rw[aD O]
 intro h;cases Z:rc l with
 |none=>rw[Z]at h;cases h
 | some p=>
  obtain⟨m,q⟩:=p;rw[Z]at h;simp only at h;split at h
  ·rename_i W
   simp at h;obtain⟨rfl,rfl⟩:=h;exact⟨((j3 _ _ _).1 Z).1,W⟩
  cases h
def B7{n:Nat}(r:List UInt8)(hm:most<18446744073709551616)(h:(n:Int)<=most):kC most (ik n++r)=some (n,r):=(lD most _ n r hm).2 ⟨rfl,h⟩
def sc{x:Int}(r:List UInt8)(hm:most<18446744073709551616)(h0:0<=x)(h:x<=most):kC most (cO x++r)=some (x.toNat,r):=B7 r hm ah
def T?(x:Int):Mf (DQ x)=x:=by
 unfold Mf DQ;by_cases h:0<=x
 ·rw[aD h,aD ah];omega
 rw[aA h,aA ah];omega
def TT(n:Nat):DQ (Mf n)=n:=by
 unfold Mf DQ;by_cases h:n % 2=0
 ·rw[aD h,aD ah];omega
 rw[aA h,aA ah];omega
def kO(l:List UInt8)(x:Int)(r:List UInt8):oJ l=some (x,r)↔l=zp x++r/\eX x:=by
 unfold oJ zp;constructor;rotate_left
 ·rintro⟨G,O⟩
  obtain⟨Y,K⟩:=O;rw[(j3 l (DQ x) r).2 ⟨G,by unfold DQ;split<;>omega⟩];simp only[T?]
 intro h;cases Z:rc l with
 |none=>rw[Z]at h;cases h
 |some p=>
  obtain⟨m,q⟩:=p;rw[Z]at h;simp at h;obtain⟨rfl,rfl⟩:=h;obtain⟨G,O⟩:=(j3 _ _ _).1 Z;rw[TT];refine⟨G,?_⟩;unfold Mf eX;split<;>omega
def LA(lo:Int)(n:Nat)(hl:eX lo):Jo lo n=(lo+(n:Int)+9223372036854775808) % 18446744073709551616-9223372036854775808:=by
 obtain⟨G,O⟩:=hl;simp only[Jo,wrap64,IntKind.wrap,IntKind.bits,IntKind.signed];simp
def Ii{l r:List UInt8}(h:sk l=some (v,r))(W:v.lo<=v.hi):l=(zp v.lo++ik (v.hi-v.lo).toNat)++r:=by
 unfold sk at h;cases J:oJ l with
 |none=>rw[J]at h;cases h
 | some p=>
  obtain⟨lo,q⟩:=p;rw[J]at h;simp only at h;cases Z:rc q with
  |none=>rw[Z]at h;cases h
  |some I=>
   obtain⟨n,t⟩:=I;rw[Z]at h;simp at h;obtain⟨rfl,rfl⟩:=h;obtain⟨G,O⟩:=(kO _ _ _).1 J;obtain⟨Y,K⟩:=(j3 _ _ _).1 Z;simp only at W⊢;rw[LA lo n O]at W⊢;obtain⟨H,E⟩:=O;have:((lo+(n:Int)+9223372036854775808) % 18446744073709551616-9223372036854775808-lo).toNat=n:=ah
   rw[this,G,Y];simp
def zA{r:List UInt8}(hk:v.kind=3)(he:v.early=false)(hf:v.first=0)(hr:v.rank=0)(W:v.lo<=v.hi)(d:za v):sk ((zp v.lo++ik (v.hi-v.lo).toNat)++r)=some (v,r):=by
 obtain⟨kind,lo,hi,early,first,rank⟩:=v;simp only at hk he hf hr W;subst hk he hf hr;have hl:=d.lo;have T:=d.hi;simp only at hl T⊢;unfold sk;rw[(kO _ lo (ik (hi-lo).toNat++r)).2 ⟨ak,hl⟩];simp only;obtain⟨G,O⟩:=hl;obtain⟨Y,K⟩:=T;rw[(j3 _ (hi-lo).toNat r).2 ⟨rfl,ah⟩];simp only;rw[LA lo _ ⟨G,O⟩]
 congr 3
 omega
def PO{b:UInt8}(h:b.toNat=1):b=1:=by apply G0;rw[h];rfl
def Zo{b:UInt8}(h:b.toNat=2):b=2:=by apply G0;rw[h];rfl
def T!{b:UInt8}(h:b.toNat=0):b=0:=by apply G0;rw[h];rfl
def uf{l r:List UInt8}{f:Bool}(h:gY l=some (f,r)):l=(if f then 1 else 0) :: r:=by
 unfold gY at h;cases l with
 |nil=>cases h
 |cons b q=>
  simp only at h;split at h;rotate_left
  ·cases h
  rename_i D
  simp at h;obtain⟨rfl,rfl⟩:=h;by_cases G:b.toNat=1
  ·rw[PO G];rfl
  have o:b.toNat=0:=ah
  rw[T! o];rfl
def Hs{l r:List UInt8}(hp:p≠6)(h:lk g l=some (v,r)):l=eN p g v++r:=by
 unfold lk at h;cases l with
 |nil=>cases h
 | cons b q=>
  simp only at h;by_cases G:b.toNat=1
  ·rw[aD G]at h
   cases J:oJ q with
   |none=>rw[J]at h;cases h
   |some pp=>
    obtain⟨x,t⟩:=pp;rw[J]at h;simp at h;obtain⟨rfl,rfl⟩:=h;rw[((kO _ _ _).1 J).1,PO G];simp[eN,hp]
  rw[aA G]at h;by_cases O:b.toNat=2;rotate_left
  ·rw[aA O]at h;cases h
  rw[aD O]at h;rw[Zo O];by_cases m:g=1;rotate_left
  ·rw[aA m]at h
   simp at h;obtain⟨rfl,rfl⟩:=h;simp[eN,hp,m]
  rw[aD m]at h;cases V:gY q with
  |none=>rw[V]at h;cases h
  | some pp=>
   obtain⟨f,t⟩:=pp;rw[V]at h;simp only at h;rw[uf V];cases f with
   | true=>
    simp only[dx]at h⊢;unfold ui at h;cases J:oJ t with
    |none=>rw[J]at h;cases h
    | some R=>
     obtain⟨x,y⟩:=R;rw[J]at h;simp only at h;cases z:kC 100000 y with
     |none=>rw[z]at h;cases h
     |some M=>
      obtain⟨k,Q⟩:=M;rw[z]at h;simp at h;obtain⟨rfl,rfl⟩:=h;rw[((kO _ _ _).1 J).1,((lD _ _ _ _ ah).1 z).1];simp[eN,hp,m,cO]
   |false=>
    simp at h;obtain⟨rfl,rfl⟩:=h;simp[eN,hp,m]
def zq{rk:Int}{r:List UInt8}(hp:p≠6)(u:ew p g rk v=true)(A:0<=rk)(d:za v):lk g (eN p g v++r)=some (v,r):=by
 obtain⟨kind,lo,hi,early,first,rank⟩:=v;unfold ew at u;rw[aA hp]at u;have hl:=d.lo;have V:=d.first
 simp only at u hl V;cases early with
 |true=>
  simp[nF]at u;obtain⟨⟨⟨⟨⟨m,G⟩,O⟩,rfl⟩,rfl⟩,rfl⟩:=u;subst m;simp only[eN,hp,dx,bR];rw[aA aj];simp only[dw,lk,gY,ui];rw[aA aj,aD aj,aD trivial,aD aj];simp only[show decide ((1:UInt8).toNat=1)=true from rfl,dx];rw[(kO _ first (cO rank++r)).2 ⟨ak,V⟩];simp only;rw[sc r ah ah ah];simp only
  congr 3
  omega
 | false=>
  simp at u;rcases u with⟨⟨⟨rfl,rfl⟩,rfl⟩,rfl⟩|⟨⟨⟨⟨rfl,rfl⟩,rfl⟩,rfl⟩,rfl⟩
  ·simp only[eN,hp,dx,bR,dw,lk]
   rw[aD aj,(kO _ lo r).2 ⟨rfl,hl⟩]
  simp only[eN,hp,bR];rw[aA aj];by_cases m:g=1
  ·simp only[m,dx,bN,bR,dw,dT,lk,gY]
   rw[aA aj,aD aj,aD aj];rfl
  simp only[m,bR,dw,dT,lk];rw[aA aj,aD aj]
def lF{α:Type}(step:Unit->List UInt8->Option ((α×Unit)×List UInt8))(B:α->List UInt8)(P:α->Prop)(h:∀l x u r,step () l=some ((x,u),r)->P x->l=B x++r):∀(n:Nat) (l:List UInt8) (M:List α) (u:Unit) (r:List UInt8),bI step n () l=some ((M,u),r)->(∀x∈M,P x)->l=M.flatMap B++r
 |0,l,M,u,r,L,hP=>by
  simp[bI]at L;obtain⟨rfl,rfl⟩:=L;rfl
 | n+1,l,M,u,r,L,hP=>by
  rw[bI]at L;cases z:step () l with
  |none=>rw[z]at L;cases L
  | some p=>
   obtain⟨⟨x,d⟩,q⟩:=p;rw[z]at L;simp only at L;cases A:bI step n d q with
   |none=>rw[A]at L;cases L
   |some I=>
    obtain⟨⟨g,i⟩,t⟩:=I;rw[A]at L;simp at L;obtain⟨rfl,rfl⟩:=L;have G:=lF step B P h n q g i t A (fun y T=>hP y (by simp[T]));rw[h l x d q z (hP x ak),G];simp
def iG{α:Type}(step:Unit->List UInt8->Option ((α×Unit)×List UInt8))(B:α->List UInt8):∀(M:List α) (r:List UInt8),(∀x∈M,∀r,step () (B x++r)=some ((x,()),r))->bI step M.length () (M.flatMap B++r)=some ((M,()),r)
 |[],r,_=>rfl
 |x :: M,r,h=>by
  rw[bT,bI,bY,dj,h x ak];simp only;rw[iG step B M r (fun y T=>h y (by simp[T]))]
def vh:∀(n U:Nat) (l:List UInt8) (fs:List Int) (st:Nat) (r:List UInt8),bI iF n U l=some ((fs,st),r)->l=(c! (U:Int) fs).flatMap cO++r/\cw (U:Int) fs=true
 |0,U,l,fs,st,r,h=>by
  simp[bI]at h;obtain⟨⟨rfl,_⟩,rfl⟩:=h;exact⟨rfl,rfl⟩
 | n + 1,U,l,fs,st,r,h=>by
  rw[bI]at h;cases z:iF U l with
  |none=>rw[z]at h;cases h
  | some p=>
   obtain⟨⟨x,c⟩,q⟩:=p;rw[z]at h;simp only at h;cases A:bI iF n c q with
   |none=>rw[A]at h;cases h
   | some I=>
    obtain⟨⟨g,b⟩,t⟩:=I;rw[A]at h;simp at h;obtain⟨⟨rfl,_⟩,rfl⟩:=h;unfold iF at z;cases hm:kC (100000-(U:Int)) l with
    |none=>rw[hm]at z;cases z
    | some R=>
     obtain⟨m,y⟩:=R;rw[hm]at z;simp only[dG,fE]at z;obtain⟨⟨rfl,rfl⟩,rfl⟩:=z;obtain⟨G,O⟩:=(lD _ _ _ _ ah).1 hm;obtain⟨Y,K⟩:=vh n (U+m+1) _ _ _ _ A;have e:((U+m+1:Nat):Int)=((U+m:Nat):Int)+1:=ah
     rw[e]at Y K;refine⟨?_,?_⟩
     ·have d:cO (((U+m:Nat):Int)-(U:Int))=ik m:=by
       unfold cO
       congr 1
       omega
      rw[G,Y];simp only[c!,bY,dj,d]
     simp only[cw,K,w7,aS,bm];omega
def pf:∀(fs:List Int) (U:Nat) (r:List UInt8),cw (U:Int) fs=true->∃st,bI iF fs.length U ((c! (U:Int) fs).flatMap cO++r)=some ((fs,st),r)
 |[],U,r,_=>⟨U,rfl⟩
 | f :: fs,U,r,h=>by
  simp only[cw,aS,bm]at h;obtain⟨⟨G,O⟩,Y⟩:=h;have e:f+1=((U+(f-U).toNat+1:Nat):Int):=ah
  rw[e]at Y;obtain⟨st,t⟩:=pf fs _ r Y;refine⟨st,?_⟩;rw[bT,bI];simp only[c!,bY,dj];have z:iF U (cO (f-(U:Int))++((c! (f+1) fs).flatMap cO++r))=some ((f,U+(f-U).toNat+1),(c! (f+1) fs).flatMap cO++r):=by
   unfold iF;rw[sc _ ah ah ah];simp only
   congr 3
   omega
  rw[z];simp only;rw[e,t]
def Eb:∀(l:List UInt8) (x:Int) (u:Unit) (r:List UInt8),kh () l=some ((x,u),r)->True->l=cO x++r:=by
 intro l x u r h _;unfold kh at h;cases C:kC 100000 l with
 |none=>rw[C]at h;cases h
 |some p=>
  obtain⟨m,q⟩:=p;rw[C]at h;simp at h;obtain⟨rfl,rfl⟩:=h;rw[((lD _ _ _ _ ah).1 C).1];simp[cO]
def Ec:∀(n:Nat) (l:List UInt8) (M:List Int) (u:Unit) (r:List UInt8),bI kh n () l=some ((M,u),r)->M.all rk=true
 |0,l,M,u,r,h=>by
  simp[bI]at h;rw[h.1];rfl
 | n + 1,l,M,u,r,h=>by
  rw[bI]at h;cases z:kh () l with
  |none=>rw[z]at h;cases h
  | some p=>
   obtain⟨⟨x,d⟩,q⟩:=p;rw[z]at h;simp only at h;cases A:bI kh n d q with
   |none=>rw[A]at h;cases h
   | some I=>
    obtain⟨⟨g,i⟩,t⟩:=I;rw[A]at h;simp at h;obtain⟨rfl,rfl⟩:=h;have G:=Ec n q g i t A;unfold kh at z;cases C:kC 100000 l with
    |none=>rw[C]at z;cases z
    |some R=>
     obtain⟨m,y⟩:=R;rw[C]at z;simp at z;obtain⟨rfl,_⟩:=z;have:=((lD _ _ _ _ ah).1 C).2;rw[Ae,G,w7];simp[rk];omega
def xF{l r:List UInt8}(h:uc g l=some (n,r)):l=setB n++r/\eO g n=true/\n.facts.length<=l.length/\n.aO.length<=n.facts.length:=by
 unfold uc at h;cases hm:kC (l.length:Int) l with
 |none=>rw[hm]at h;cases h
 | some p=>
  obtain⟨k,q⟩:=p;rw[hm]at h;simp only at h;have d:(k:Int)<=l.length:=ub hm;have x:l=ik k++q:=by
   unfold kC at hm;cases Z:rc l with
   |none=>rw[Z]at hm;cases hm
   | some pp=>
    obtain⟨m,b⟩:=pp;rw[Z]at hm;simp only at hm;split at hm
    ·simp at hm
     obtain⟨rfl,rfl⟩:=hm;exact((j3 _ _ _).1 Z).1
    cases hm
  cases V:bI iF k 0 q with
  |none=>rw[V]at h;cases h
  | some I=>
   obtain⟨⟨fs,st⟩,t⟩:=I;rw[V]at h;simp only at h;obtain⟨G,O⟩:=vh k 0 q fs st t V;have Y:=eo _ _ _ _ _ _ _ V;by_cases c:g=1;rotate_left
   ·rw[aA c]at h
    simp at h;obtain⟨rfl,rfl⟩:=h;refine⟨?_,?_,?_,?_⟩
    ·rw[x,G]
     simp[setB,Y]
    ·have v:cw 0 fs=true:=O
     simp[eO,ey,c,v]
    ·simp only;omega
    simp
   rw[aD c]at h;cases L:bI kh k () t with
   |none=>rw[L]at h;cases h
   | some R=>
    obtain⟨⟨rs,u⟩,y⟩:=R;rw[L]at h;simp at h;obtain⟨rfl,rfl⟩:=h;have K:=lF kh cO (fun _=>True) Eb _ _ _ _ _ L (fun _ _=>trivial);have H:=eo _ _ _ _ _ _ _ L;refine⟨?_,?_,?_,?_⟩
    ·rw[x,G,K]
     simp[setB,Y]
    ·have E:=Ec _ _ _ _ _ L
     have v:cw 0 fs=true:=O;simp only[eO,ey,c,dx,v,E,Y,H];simp
    ·simp only;omega
    simp only;omega
def C6(f:Int->List UInt8)(h:∀x,1<=(f x).length):∀(l:List Int),l.length<=(l.flatMap f).length
 |[]=>ak
 |x :: l=>by
  have G:=C6 f h l;have O:=h x;simp only[bY,bu,bT];omega
def Sy(n:Nat):1<=(ik n).length:=by
 by_cases h:n<128
 ·rw[kH h];simp
 rw[p! h];simp
def zr{r:List UInt8}(h:eO g n=true):uc g (setB n++r)=some (n,r):=by
 obtain⟨fs,rs,f,k,vs⟩:=n;simp only[eO,aS,iu,bm,jI]at h;obtain⟨⟨⟨⟨rfl,rfl⟩,rfl⟩,G⟩,O⟩:=h;unfold uc;simp only[setB,dj];have hl:=pI G;have hm:kC ((ik fs.length++((c! 0 fs).flatMap cO++(rs.flatMap cO++r))).length:Int) (ik fs.length++((c! 0 fs).flatMap cO++(rs.flatMap cO++r)))=some (fs.length,(c! 0 fs).flatMap cO++(rs.flatMap cO++r)):=by
  unfold kC;rw[(j3 _ fs.length _).2 ⟨rfl,ah⟩];simp only;rw[aD];have Y:=C6 cO (fun x=>Sy _) (c! 0 fs);rw[nM]at Y;simp only[bu];omega
 rw[hm];simp only;obtain⟨st,t⟩:=pf fs 0 (rs.flatMap cO++r) G;rw[show((0:Nat):Int)=0 from rfl]at t;rw[t];simp only;unfold ey at O;by_cases m:g=1;rotate_left
 ·rw[aA m]at O⊢
  simp only[jI]at O;subst O;simp
 rw[aD m]at O⊢;simp only[aS,bm]at O
 have K:=iG kh cO rs r (fun x E r=>by
  have H:=bM.1 O.2 x E;simp only[rk,aS,bm]at H;unfold kh;rw[sc r ah ah ah];simp only
  congr 3
  omega)
 rw[O.1]at K;rw[K]
def Hz{l r:List UInt8}(h:uh p g l=some (n,r))(a:eF p g n=true):n.reached=true/\l=nL p g n++r:=by
 unfold uh at h;cases X:lE g l with
 |none=>rw[X]at h;cases h
 | some Q=>
  obtain⟨rk,P⟩:=Q;rw[X]at h;simp only at h;cases C:kC 8 P with
  |none=>rw[C]at h;cases h
  | some I=>
   obtain⟨k,U⟩:=I;rw[C]at h;simp only at h;cases t:bI (iE p g) k () U with
   |none=>rw[t]at h;cases h
   | some R=>
    obtain⟨⟨vs,u⟩,T⟩:=R;rw[t]at h;simp at h;obtain⟨rfl,rfl⟩:=h;refine⟨rfl,?_⟩;simp only[eF,aS]at a;have F:=bM.1 a.2
    have G:=lF (iE p g) (eN p g) (fun v=>ew p g (rk:Int) v=true) (fun l x u r z hP=>by
     unfold iE at z;by_cases E:p=6
     ·rw[aD E]at z
      cases D:sk l with
      |none=>rw[D]at z;cases z
      |some M=>
       obtain⟨v,q⟩:=M;rw[D]at z;simp at z;obtain⟨rfl,rfl⟩:=z;unfold ew at hP;rw[aD E]at hP;simp only[aS,bm]at hP;rw[Ii D hP.2];simp[eN,E]
     ·rw[aA E]at z
      cases D:lk g l with
      |none=>rw[D]at z;cases z
      |some M=>
       obtain⟨v,q⟩:=M;rw[D]at z;simp at z;obtain⟨rfl,rfl⟩:=z
       exact Hs E D) _ _ _ _ _ t (fun v t=>F v t)
    have O:=eo _ _ _ _ _ _ _ t;have Y:=(lD _ _ _ _ ah).1 C;unfold lE at X;by_cases m:g=1
    ·rw[aD m]at X
     have K:=(lD _ _ _ _ ah).1 X;rw[K.1,Y.1,G];simp[nL,m,O,cO]
    rw[aA m]at X;simp at X;obtain⟨rfl,rfl⟩:=X;rw[Y.1,G];simp[nL,m,O]
def zw{r:List UInt8}(u:eF p g n=true)(a:n.reached=true)(d:gD n):uh p g (nL p g n++r)=some (n,r):=by
 obtain⟨fs,rs,f,k,vs⟩:=n;simp only[eF,aS,dO,bm,jI,rk]at u;obtain⟨⟨⟨⟨⟨rfl,rfl⟩,A⟩,X⟩,c⟩,F⟩:=u;simp only at a;subst a;have b:=bM.1 F;unfold uh;simp only[nL,dj];have G:lE g ((if g=1 then cO k else[])++(ik vs.length++(vs.flatMap (eN p g)++r)))=some (k.toNat,ik vs.length++(vs.flatMap (eN p g)++r)):=by
  unfold lE;by_cases m:g=1
  ·rw[aD m,aD m,sc _ ah ah ah]
  rw[aA m,aA m];rcases c with h|h
  ·exact absurd h m
  rw[h];rfl
 rw[G];simp only;rw[B7 _ ah ah];simp only
 rw[iG (iE p g) (eN p g) vs r (fun v t r=>by
  have i:=b v t;have e:=d.vals v t;unfold iE;by_cases E:p=6
  ·rw[aD E]
   unfold ew at i;rw[aD E]at i;simp only[aS,iu,bm]at i;obtain⟨⟨⟨⟨a1,a2⟩,a3⟩,a4⟩,a5⟩:=i;rw[show eN p g v=zp v.lo++ik (v.hi-v.lo).toNat by simp[eN,E],zA a1 a2 a3 a4 a5 e]
  ·rw[aA E,zq E i X.1 e])]
 simp only
 congr 3
 omega
def Em{l r:List UInt8}(h:jL p g l=some (n,r))(u:cy p g n=true):l=di p g n++r:=by
 unfold jL at h;unfold cy at u;by_cases K:p<=4
 ·rw[aD K]at h u
  rw[(xF h).1];simp[di,K]
 rw[aA K]at h u;cases V:gY l with
 |none=>rw[V]at h;cases h
 | some Q=>
  obtain⟨f,q⟩:=Q;rw[V]at h;rw[uf V];cases f with
  | true=>
   simp only at h;have a:n.reached=true:=by
    unfold uh at h;split at h
    ·split at h
     ·split at h
      ·simp at h;rw[<-h.1]
      cases h
     cases h
    cases h
   rw[aD a]at u;obtain⟨_,O⟩:=Hz h u;rw[O];simp[di,K,a]
  |false=>
   simp at h;obtain⟨rfl,rfl⟩:=h;simp[di,K,sG]
def xI{r:List UInt8}(u:cy p g n=true)(d:gD n):jL p g (di p g n++r)=some (n,r):=by
 unfold jL di;unfold cy at u;by_cases K:p<=4
 ·rw[aD K]at u⊢
  rw[aD K];exact zr u
 rw[aA K]at u⊢;rw[aA K];by_cases a:n.reached=true
 ·rw[aD a]at u⊢
  simp only[dw,gY];rw[aD aj];exact zw u a d
 rw[aA a]at u⊢;simp only[dw,dT,gY];rw[aD aj];obtain⟨fs,rs,f,k,vs⟩:=n;simp only[j5,aS,iu,bm,jI]at u;obtain⟨⟨⟨⟨rfl,rfl⟩,rfl⟩,rfl⟩,rfl⟩:=u;rfl
end
section
variable {P:Nat->Prop} {W W' w:World} {rb:Nat} {s:ByteArray} {e:Ending}
open Go.RowKit Go.Proofs Go.Maps Tryz
def fL.fr{B B':Nat}{x:N5}(h:fL W B x)(hf:Fr P W W')(hP:∀j,B<=j->P j)(f:B'<=B):fL W' B' x:=
 ⟨bJ (hf.own h.f (fun k X=>hP k (h.f.lt k X).1)) f,bJ (hf.own h.r (fun k X=>hP k (h.r.lt k X).1)) f,bJ (hf.own h.v (fun k X=>hP k (h.v.lt k X).1)) f,h.ap⟩
def S?.up{V:World}{s0:ByteArray}{res a:Option (Nd×List UInt8)}(h:S? V W rb s0 res e)(M:w.heap.size<=V.heap.size)(hf:Fr P W W')(hP:∀j,V.heap.size<=j->P j)(hr:P rb)(hs:s0.size<=s.size)(o:res=a):S? w W' rb s a e:=by
 subst o;rcases h with⟨x,C,G,O,Y,K,H⟩|⟨G,x,C,O,Y,K⟩
 ·exact aJ ⟨x,C,G,bw O hs,Y,K.fr hf hP M,H.fr hf hr⟩
 exact aI ⟨G,x,C,O,bw Y hs,K.fr hf hr⟩
def CL{res:Option (Nd×List UInt8)}(h:S? w W' rb s res e):∃x:N5,e=.returned (v8 x):=by
 rcases h with⟨x,C,G,O,Y,K,H⟩|⟨G,x,C,O,Y,K⟩
 ·exact⟨x,Y⟩
 exact⟨x,O⟩
def Ix(rb:Nat)(p g:Int)(s:ByteArray)(bad:Bool)(w:World)(h:cT w rb s bad)(hs:s.size<=60000):
  Cl 160 #[.pointer (some (Ad rb 0)),.agg #[Iv p,Iv g]] w fun e i=>S? w i rb s (dJ bad (jL p g) s) e/\Fr (fun j=>j≠rb) w i:=by
 have J:=h.lt;have X:=(show Hd (cT w rb s bad)from h);clear h;go_enter func160,ntmps160
 go_upto_region 1 with(fail)
 obtain⟨d,M⟩:=Ea (((w.alloc (df p g)).alloc (.cells lf 96)));rw[<-M];have D:d.heap.size=w.heap.size+2:=by rw[M];simp
 obtain⟨n,A⟩:=aN w (df p g) (.cells lf 96);rw[<-M]at n A;have f:cT d rb s bad:=by rw[M];exact(X.o.alloc _).alloc _
 have t:Fr (fun j=>j≠rb) w d:=by rw[M];exact Fr.aR (aX _ _ _)
 have G:=(show Hd _ from Aa n (Aa A (Aa f t)));obtain⟨F,y⟩:=ae n;clear n A f t M;obtain⟨I,hL⟩:∃b:Bool,decide (p<=4)=b:=⟨_,rfl⟩;cases I with
 | true=>
  go_wp2_with fail
  refine(eR _ _ _).mono ?_;rw[hL];rintro e W ⟨rfl,a⟩;have Q:Fr (fun _=>True) d W:=Fr.aR (by rw[a];exact aC _ _);have H:=Q.box G.a trivial;have L:=Q.box G.b trivial;have z:=G.c.fr Q trivial;have Lv:=Q.size;have Z:=MP rb p g s bad W z hs;have E:=(show Hd _ from Aa Z (Aa L (Fr.trans G.C Q (fun _ _ _=>trivial))));clear F y;obtain⟨F,y⟩:=ae H;clear H L z Z Q a
  go_wp2_with fail
  refine bA E.a ?_;rintro e T ⟨O,S⟩;obtain⟨x,rfl⟩:=CL O;have L:=S.box E.b (by show _≠_;omega);have C:=(show Hd _ from Aa O S);clear F y O S;obtain⟨F,y⟩:=ae L;clear L;simp only[v8]
  go_wp2_with fail
  refine aG (v:=v8 x) (by simp[results,results160,go_sem,F,v8]) rfl ?_;have fa:=YQ T (w.heap.size+1) (bH x.fa x.n.facts.length x.fc) (bH x.ra x.n.aO.length x.rc) (.bool x.n.reached) (Iv x.n.rank) (bH x.va x.n.vals.length x.vc);refine⟨C.a.up ah fa (fun j U=>by show j≠_;omega) (by show rb≠_;omega) (aF _) ?_,?_⟩
  ·have K:p<=4:=G2 hL
   unfold dJ jL;cases bad with
   |true=>rfl
   |false=>simp only[bN,bR];rw[aD K]
  exact Fr.trans (Fr.trans E.B C.A (fun _ _ h=>h)) fa (fun j h1 O=>by show j≠_;omega)
 | false=>
  have m:Hd ((∀l r,gY l=some (true,r)->jL p g l=uh p g r)/\(∀l r,gY l=some (false,r)->jL p g l=some (sG,r))/\(∀l,gY l=none->jL p g l=none)):=by
   have K:¬p<=4:=l5 hL;refine⟨fun l r h=>?_,fun l r h=>?_,fun l h=>?_⟩<;>(unfold jL;rw[aA K,h])
  go_wp2_with fail
  refine(eR _ _ _).mono ?_;rw[hL];rintro e W ⟨rfl,a⟩;have Q:Fr (fun _=>True) d W:=Fr.aR (by rw[a];exact aC _ _);have H:=Q.box G.a trivial;have L:=Q.box G.b trivial;have z:=G.c.fr Q trivial;have Lv:=Q.size;have Z:=AX rb s bad W z hs;have E:=(show Hd _ from Aa Z (Aa H (Aa L (Fr.trans G.C Q (fun _ _ _=>trivial)))));clear F y H L z Z Q a
  go_wp2_with fail
  refine bA E.a ?_;rintro e T ⟨O,q⟩;have S:Fr (fun j=>j≠rb) W T:=Fr.dr q (fun j _ U=>by simpa using U);have H:=S.box E.b (by show _≠_;omega);have L:=S.box E.c (by show _≠_;omega);have v:=Fr.trans E.C S (fun _ _ h=>h);have mC:=S.size;clear S q;rcases O with⟨b,P,o,c,rfl,N⟩|⟨o,rfl,P,c,N⟩;rotate_left
  ·have B:dJ bad (jL p g) s=none:=by
    apply rq;rcases mT o with h|⟨_,h⟩
    ·exact aJ h
    exact aI (m.B _ h)
   have C:=(show Hd _ from Aa N (Aa v B));obtain⟨F,y⟩:=ae L;clear H L N v o B
   go_wp2_with fail
   refine aG (v:=v8 ⟨none,0,none,0,none,0,sG⟩) (by simp[results,results160,go_sem,F,v8,sG]) rfl ?_;have fa:=YQ T (w.heap.size+1) (.slice none 0 0) (.slice none 0 0) (.bool false) (Iv 0) (.slice none 0 0);exact⟨aI ⟨C.B,⟨none,0,none,0,none,0,sG⟩,P,rfl,c,C.a.fr fa (by show rb≠_;omega)⟩,Fr.trans C.b fa (fun j h1 O=>by show j≠_;omega)⟩
  obtain⟨rfl,k⟩:=eA o;cases b with
  | true=>
   have Z:=MR rb p g P false T N ah;have C:=(show Hd _ from Aa Z (Aa L (Aa v k)));obtain⟨F,y⟩:=ae H;clear H L N Z v o k
   go_wp2_with fail
   refine bA C.a ?_;rintro e W3 ⟨Y,u⟩;obtain⟨x,rfl⟩:=CL Y;have L:=u.box C.b (by show _≠_;omega);have R:=(show Hd _ from Aa Y u);clear F y Y u;obtain⟨F,y⟩:=ae L;clear L;simp only[v8]
   go_wp2_with fail
   refine aG (v:=v8 x) (by simp[results,results160,go_sem,F,v8]) rfl ?_;have fa:=YQ W3 (w.heap.size+1) (bH x.fa x.n.facts.length x.fc) (bH x.ra x.n.aO.length x.rc) (.bool x.n.reached) (Iv x.n.rank) (bH x.va x.n.vals.length x.vc);refine⟨R.a.up ah fa (fun j U=>by show j≠_;omega) (by show rb≠_;omega) c ?_,?_⟩
   ·unfold dJ
    simp only[bN,bR];rw[m.a _ _ C.C]
   exact Fr.trans (Fr.trans C.c R.A (fun _ _ h=>h)) fa (fun j h1 O=>by show j≠_;omega)
  |false=>
   have C:=(show Hd _ from Aa N (Aa v k));obtain⟨F,y⟩:=ae L;clear H L N v o k
   go_wp2_with fail
   refine aG (v:=v8 ⟨none,0,none,0,none,0,sG⟩) (by simp[results,results160,go_sem,F,v8,sG]) rfl ?_;have fa:=YQ T (w.heap.size+1) (.slice none 0 0) (.slice none 0 0) (.bool false) (Iv 0) (.slice none 0 0);refine⟨aJ ⟨⟨none,0,none,0,none,0,sG⟩,P,?_,c,rfl,⟨dF _ _ _ _,dF _ _ _ _,dF _ _ _ _,aJ rfl⟩,C.a.fr fa (by show rb≠_;omega)⟩,Fr.trans C.b fa (fun j h1 O=>by show j≠_;omega)⟩;unfold dJ;simp only[bN,bR];rw[m.b _ _ C.B]
end
section
variable {n:Nd} {x g p:Int} {v:Vl} {u:Unit} {c:Ct}
def vR{most:Int}{l r:List UInt8}{n:Nat}(h:kC most l=some (n,r)):r.length<=l.length/\n<18446744073709551616:=by
 unfold kC at h;cases Z:rc l with
 |none=>rw[Z]at h;cases h
 | some p=>
  obtain⟨m,q⟩:=p;rw[Z]at h;simp only at h;split at h
  ·simp at h
   obtain⟨rfl,rfl⟩:=h;obtain⟨G,O⟩:=(j3 _ _ _).1 Z;rw[G];exact⟨ak,O⟩
  cases h
def xH{l r:List UInt8}(h:oJ l=some (x,r)):r.length<=l.length/\eX x:=by
 obtain⟨G,O⟩:=(kO _ _ _).1 h;rw[G];exact⟨ak,O⟩
def Fz(h:0<=x)(h2:x<=100):eX x:=⟨ah,ah⟩
def hZ:eX 0:=⟨ah,ah⟩
def adu(x:Int):eX (wrap64 x):=⟨by unfold wrap64;omega,by unfold wrap64;omega⟩
def Ut{l r:List UInt8}(h:sk l=some (v,r)):r.length<=l.length/\za v:=by
 unfold sk at h;cases J:oJ l with
 |none=>rw[J]at h;cases h
 | some p=>
  obtain⟨lo,q⟩:=p;rw[J]at h;simp only at h;cases Z:rc q with
  |none=>rw[Z]at h;cases h
  |some I=>
   obtain⟨n,t⟩:=I;rw[Z]at h;simp at h;obtain⟨rfl,rfl⟩:=h;have G:=xH J;have O:t.length<=q.length:=by rw[((j3 _ _ _).1 Z).1];simp
   exact⟨ah,Fz (x:=3) ah ah,G.2,adu _,hZ,hZ⟩
def AB{l r:List UInt8}{f:Bool}(h:gY l=some (f,r)):r.length<=l.length:=by
 rw[uf h];simp
def Uk{l r:List UInt8}(h:lk g l=some (v,r)):r.length<=l.length/\za v:=by
 unfold lk at h;cases l with
 |nil=>cases h
 | cons b q=>
  simp only at h;by_cases G:b.toNat=1
  ·rw[aD G]at h
   cases J:oJ q with
   |none=>rw[J]at h;cases h
   |some pp=>
    obtain⟨x,t⟩:=pp;rw[J]at h;simp at h;obtain⟨rfl,rfl⟩:=h;have:=xH J;exact⟨by simp;omega,Fz (x:=1) ah ah,this.2,hZ,hZ,hZ⟩
  rw[aA G]at h;by_cases O:b.toNat=2;rotate_left
  ·rw[aA O]at h;cases h
  rw[aD O]at h;by_cases m:g=1;rotate_left
  ·rw[aA m]at h
   simp at h;obtain⟨rfl,rfl⟩:=h;exact⟨ak,Fz (x:=2) ah ah,hZ,hZ,hZ,hZ⟩
  rw[aD m]at h;cases V:gY q with
  |none=>rw[V]at h;cases h
  | some pp=>
   obtain⟨f,t⟩:=pp;rw[V]at h;simp only at h;have Z:=AB V;cases f with
   | true=>
    simp only[dx]at h;unfold ui at h;cases J:oJ t with
    |none=>rw[J]at h;cases h
    | some R=>
     obtain⟨x,y⟩:=R;rw[J]at h;simp only at h;cases z:kC 100000 y with
     |none=>rw[z]at h;cases h
     |some M=>
      obtain⟨k,Q⟩:=M;rw[z]at h;simp at h;obtain⟨rfl,rfl⟩:=h;have a1:=xH J;have a2:=vR z;have a3:=ub z;exact⟨by simp;omega,Fz (x:=2) ah ah,hZ,hZ,a1.2,⟨by simp only;omega,by simp only;omega⟩⟩
   |false=>
    simp at h;obtain⟨rfl,rfl⟩:=h;exact⟨by simp;omega,Fz (x:=2) ah ah,hZ,hZ,hZ,hZ⟩
def PY{l r:List UInt8}(h:iE p g () l=some ((v,u),r)):r.length<=l.length/\za v:=by
 unfold iE at h;by_cases E:p=6
 ·rw[aD E]at h
  cases D:sk l with
  |none=>rw[D]at h;cases h
  |some M=>
   obtain⟨j,q⟩:=M;rw[D]at h;simp at h;obtain⟨rfl,rfl⟩:=h;exact Ut D
 rw[aA E]at h;cases D:lk g l with
 |none=>rw[D]at h;cases h
 |some M=>
  obtain⟨j,q⟩:=M;rw[D]at h;simp at h;obtain⟨rfl,rfl⟩:=h;exact Uk D
def xJ{α:Type}(step:Unit->List UInt8->Option ((α×Unit)×List UInt8))(P:α->Prop)(h:∀l x u r,l.length<=60000->step () l=some ((x,u),r)->r.length<=l.length/\P x):∀(n:Nat) (l:List UInt8) (M:List α) (u:Unit) (r:List UInt8),l.length<=60000->bI step n () l=some ((M,u),r)->r.length<=l.length/\∀x∈M,P x
 |0,l,M,u,r,hl,hr=>by
  simp[bI]at hr;obtain⟨rfl,rfl⟩:=hr;exact⟨aF _,fun x E=>by cases E⟩
 | n+1,l,M,u,r,hl,hr=>by
  rw[bI]at hr;cases z:step () l with
  |none=>rw[z]at hr;cases hr
  | some p=>
   obtain⟨⟨x,d⟩,q⟩:=p;rw[z]at hr;simp only at hr;cases A:bI step n d q with
   |none=>rw[A]at hr;cases hr
   |some I=>
    obtain⟨⟨g,i⟩,t⟩:=I;rw[A]at hr;simp at hr;obtain⟨rfl,rfl⟩:=hr;have G:=h l x d q hl z;have O:=xJ step P h n q g i t ah A;refine⟨ah,?_⟩;intro y T;rcases cQ.1 T with rfl|T
    ·exact G.2
    exact O.2 y T
def Et:∀(fs:List Int) (U:Int),0<=U->cw U fs=true->∀f∈fs,eX f
 |[],_,_,_,f,hf=>by cases hf
 |a :: fs,U,o,h,f,hf=>by
  simp only[cw,aS,bm]at h;rcases cQ.1 hf with rfl|hf
  ·exact⟨ah,ah⟩
  exact Et fs (a+1) ah h.2 f hf
def Ul{l r:List UInt8}(hl:l.length<=60000)(h:uc g l=some (n,r)):r.length<=l.length/\gD n:=by
 obtain⟨G,O,Y,K⟩:=xF h;simp only[eO,aS,bm,jI]at O;obtain⟨⟨⟨⟨a1,a2⟩,a3⟩,a4⟩,a5⟩:=O;refine⟨(by rw[G];simp),Et _ 0 ah a4,?_,(by rw[a2];exact hZ),(fun v t=>by rw[a3]at t;cases t),ah,ah,(by rw[a3];simp)⟩;intro f V;unfold ey at a5;by_cases m:g=1
 ·rw[aD m]at a5
  simp only[aS]at a5;have:=bM.1 a5.2 f V;simp only[rk,aS,bm]at this;exact⟨ah,ah⟩
 rw[aA m]at a5;simp only[jI]at a5;rw[a5]at V;cases V
def Up{l r:List UInt8}(hl:l.length<=60000)(h:uh p g l=some (n,r)):r.length<=l.length/\gD n:=by
 unfold uh at h;cases X:lE g l with
 |none=>rw[X]at h;cases h
 | some Q=>
  obtain⟨rk,P⟩:=Q;rw[X]at h;simp only at h;have L:P.length<=l.length/\rk<=100000:=by
   unfold lE at X;by_cases m:g=1
   ·rw[aD m]at X
    have:=ub X;exact⟨(vR X).1,ah⟩
   rw[aA m]at X;simp at X;obtain⟨rfl,rfl⟩:=X;exact⟨aF _,ah⟩
  cases C:kC 8 P with
  |none=>rw[C]at h;cases h
  | some I=>
   obtain⟨k,U⟩:=I;rw[C]at h;simp only at h;have i:=vR C;have S:=ub C;cases t:bI (iE p g) k () U with
   |none=>rw[t]at h;cases h
   |some R=>
    obtain⟨⟨vs,u⟩,T⟩:=R;rw[t]at h;simp at h;obtain⟨rfl,rfl⟩:=h;have G:=xJ (iE p g) za (fun l x u r _ z=>PY z) _ _ _ _ _ ah t;have O:=eo _ _ _ _ _ _ _ t;exact⟨ah,(fun f V=>by cases V),(fun f V=>by cases V),⟨by simp only;omega,by simp only;omega⟩,G.2,ak,ak,by simp only;omega⟩
def Z7:gD sG:=⟨(fun f V=>by cases V),(fun f V=>by cases V),hZ,(fun f V=>by cases V),by simp[sG],by simp[sG],by simp[sG]⟩
def P9{l r:List UInt8}(hl:l.length<=60000)(h:jL p g l=some (n,r)):r.length<=l.length/\gD n:=by
 unfold jL at h;by_cases K:p<=4
 ·rw[aD K]at h
  exact Ul hl h
 rw[aA K]at h;cases V:gY l with
 |none=>rw[V]at h;cases h
 | some Q=>
  obtain⟨f,q⟩:=Q;have A:=AB V;rw[V]at h;cases f with
  |true=>
   simp only at h;have:=Up ah h;exact⟨ah,this.2⟩
  |false=>
   simp at h;obtain⟨rfl,rfl⟩:=h;exact⟨A,Z7⟩
def xu{l r:List UInt8}(h:f? p g () l=some ((n,u),r)):jL p g l=some (n,r):=by
 unfold f? at h;cases D:jL p g l with
 |none=>rw[D]at h;cases h
 |some M=>
  obtain⟨j,q⟩:=M;rw[D]at h;simp at h;obtain⟨rfl,rfl⟩:=h;rfl
def AF{l r:List UInt8}(h:gZ l=some (c,r)):∃(b d:UInt8) (q t:List UInt8) (k:Nat) (u:Unit),l=b :: d :: q/\known (b.toNat:Int) (d.toNat:Int)=true/\kC 60 q=some (k,t)/\c.problem=(b.toNat:Int)/\c.bK=(d.toNat:Int)/\bI (f? (b.toNat:Int) (d.toNat:Int)) k () t=some ((c.nodes,u),r):=by
 unfold gZ at h;split at h;rotate_left
 ·cases h
 rename_i b d q
 split at h;rotate_left
 ·cases h
 rename_i X
 cases C:kC 60 q with
 |none=>rw[C]at h;cases h
 | some p=>
  obtain⟨k,t⟩:=p;rw[C]at h;simp only at h;cases hl:bI (f? (b.toNat:Int) (d.toNat:Int)) k () t with
  |none=>rw[hl]at h;cases h
  |some I=>
   obtain⟨⟨B,u⟩,y⟩:=I;rw[hl]at h;simp at h;obtain⟨rfl,rfl⟩:=h;exact⟨b,d,q,t,k,u,rfl,X,C,rfl,rfl,hl⟩
def ED{l r:List UInt8}(hl:l.length<=60000)(h:gZ l=some (c,r)):py c:=by
 obtain⟨b,d,q,t,k,u,rfl,X,C,G,O,a⟩:=AF h;have D:=rR b;have hd:=rR d;have i:=vR C;have S:=ub C;simp only[bT]at hl;have Y:=xJ (f? (b.toNat:Int) (d.toNat:Int)) gD (fun l x u r hl z=>P9 hl (xu z)) _ _ _ _ _ ah a;have K:=eo _ _ _ _ _ _ _ a;exact⟨by rw[G];exact⟨ah,ah⟩,by rw[O];exact⟨ah,ah⟩,Y.2,ah⟩
def EC{l r:List UInt8}(h:gZ l=some (c,r))(e:kq c=true):[87,67,1]++l=ij c++r:=by
 obtain⟨b,d,q,t,k,u,rfl,X,C,G,O,a⟩:=AF h;obtain⟨p,g,B⟩:=c;simp only at G O;subst G O;simp only[kq,aS,bm]at e;have Y:=lF (f? (b.toNat:Int) (d.toNat:Int)) (di (b.toNat:Int) (d.toNat:Int)) (fun n=>cy (b.toNat:Int) (d.toNat:Int) n=true) (fun l x u r z hP=>Em (xu z) hP) _ _ _ _ _ a (bM.1 e.2);have K:=eo _ _ _ _ _ _ _ a;rw[((lD _ _ _ _ ah).1 C).1,Y];simp only at K;simp[ij,ob,K]
def LX(h:0<=x)(h2:x<=255):((UInt8.ofNat x.toNat).toNat:Int)=x:=by
 simp only[DM];omega
def xT(r:List UInt8)(u:kq c=true)(d:py c):∃l,ij c++r=[87,67,1]++l/\gZ l=some (c,r):=by
 obtain⟨p,g,B⟩:=c;simp only[kq,aS,bm]at u;obtain⟨⟨X,f⟩,a⟩:=u;have V:=X;simp only[known,aS,dO,bm]at V;have K:((UInt8.ofNat p.toNat).toNat:Int)=p:=LX ah ah;have m:((UInt8.ofNat g.toNat).toNat:Int)=g:=by
  refine LX ?_ ?_
  ·rcases V.2 with h|h
   ·omega
   have:=h.1;omega
  rcases V.2 with h|h
  ·omega
  have:=h.1;omega
 refine⟨UInt8.ofNat p.toNat :: UInt8.ofNat g.toNat :: (ik B.length++(B.flatMap (di p g)++r)),by simp[ij,ob],?_⟩;unfold gZ;simp only[K,m];rw[aD X,B7 _ ah ah];simp only
 rw[iG (f? p g) (di p g) B r (fun n J r=>by
  unfold f?
  rw[xI (bM.1 a n J) (d.nodes n J)])]
def uF{l:List UInt8}(h:dec l=some c):kq c=true/\ij c=l/\l.length<=60000/\py c:=by
 unfold dec at h;split at h;rotate_left
 ·cases h
 rename_i r
 split at h;rotate_left
 ·cases h
 rename_i d
 split at h;rotate_left
 ·cases h
 rename_i a Z
 split at h;rotate_left
 ·cases h
 rename_i u
 simp at h;subst h;have:=EC Z u;rw[gi]at this;exact⟨u,this.symm,d,ED (by simp only[bT]at d;omega) Z⟩
def Di(u:kq c=true)(d:py c)(hlen:(ij c).length<=60000):dec (ij c)=some c:=by
 obtain⟨l,G,O⟩:=xT [] u d;rw[gi]at G;rw[G]at hlen⊢;unfold dec;simp only[dw,dT]at hlen⊢;rw[aD hlen,O];simp only;rw[aD u]
end
def Uj(n:Nd):n.facts.length<=(setB n).length:=by
 have Y:=C6 cO (fun x=>Sy _) (c! 0 n.facts);rw[nM]at Y;simp only[setB,bu];omega
def FX{α:Type}(f:α->List UInt8):∀(l:List α) (x:α),x∈l->(f x).length<=(l.flatMap f).length
 |[],x,h=>by cases h
 |a :: l,x,h=>by
  simp only[bY,bu];rcases cQ.1 h with rfl|h
  ·omega
  have:=FX f l x h;omega
def IZ{p g:Int}{n:Nd}(u:cy p g n=true)(hl:(di p g n).length<=60000):n.facts.length<=70000/\n.aO.length<=70000/\n.vals.length<=70000:=by
 unfold cy at u;unfold di at hl;by_cases K:p<=4
 ·rw[aD K]at u hl
  have G:=Uj n;simp only[eO,aS,bm,jI]at u;obtain⟨⟨⟨⟨_,_⟩,t⟩,_⟩,L⟩:=u;rw[t];unfold ey at L;by_cases m:g=1
  ·rw[aD m]at L
   simp only[aS,bm]at L;refine⟨ah,ah,ak⟩
  rw[aA m]at L;simp only[jI]at L;rw[L];refine⟨ah,ak,ak⟩
 rw[aA K]at u;by_cases a:n.reached=true
 ·rw[aD a]at u
  simp only[eF,aS,bm,jI]at u;obtain⟨⟨⟨⟨⟨G,O⟩,Y⟩,_⟩,_⟩,_⟩:=u;rw[G,O];exact⟨ak,ak,ah⟩
 rw[aA a]at u;simp only[j5,aS,bm,jI]at u;obtain⟨⟨⟨⟨_,_⟩,G⟩,O⟩,Y⟩:=u;rw[G,O,Y];simp
def N8{s:List UInt8}{c:Ct}(h:dec s=some c):c.nodes.length<=60/\∀n∈c.nodes,gD n/\n.facts.length<=70000/\n.aO.length<=70000/\n.vals.length<=70000:=by
 obtain⟨G,O,Y,K⟩:=uF h;obtain⟨L,R,M⟩:=AY G;refine⟨R,fun n J=>⟨K.nodes n J,IZ (M n J) ?_⟩⟩;have:=FX (di c.problem c.bK) c.nodes n J;rw[<-O]at Y;simp only[ij,bu]at Y;omega
end Go.Proofs.YtmipbiligijcpaaGreatDoor
