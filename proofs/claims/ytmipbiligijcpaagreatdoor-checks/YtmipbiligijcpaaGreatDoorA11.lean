import Derived.Test.YtmipbiligijcpaaGreatDoorA01
import Derived.OpenShut
import Derived.ShutString
import Derived.Lay
import Derived.HandedShaped
import Derived.Shelf.Vars
import Derived.Lib.LaidU8
import Derived.SevenTiedAt
import Derived.Test.YtmipbiligijcpaaGreatDoorA03
namespace Go.Proofs.YtmipbiligijcpaaGreatDoor
set_option linter.all false
set_option maxRecDepth 99999
set_option maxHeartbeats 0
open Go.ChangeShapes Go.WideShapes Go.ChangeAt Go.RowKit Go.Proofs Go.Maps Tryz List open List renaming length→ζ open _root_.Array renaming size→δ open World renaming cell?→χ open Value renaming slice→i',bool→j',agg→l' open Obj renaming cells→k' open Ending renaming returned→p' open Option renaming some→B' open Bool renaming true→O',false→P'
variable {p:Prop}
section
variable {W:World}
open Go.ChangeMaps (open_string shut_string)
theorem BY:ownKnob Tryz.prog.godebug=none:=by kernel_rfl
theorem CW{e:Type}{enc:TypeId×Value->e}{a:Assume}{C:Checked}{u:Os}{f:FuncId}{g:Func}{s:ChangeSpec}{z:List PathCond}{b r h q:Bool}{X:World->Array Value->Prop}
    (P:∀(w d:World) (c:Array Value),w.heap=d.heap->X w c->X d c)
    (B:ownKnob C.prog.godebug=none) (l:u.Started) (D:C.prog.inits.idxOf? f=none) (E:C.prog.funcs[f]?=some g)
    (o:∃(w:World) (d:Tape) (i:Input),w.os=u/\(w.forCall d i).Shaped C.prog/\i.vars=[]/\Input.okWide C.prog (w.forCall d i) .any w.heap.size f i /\
      ((s.pre enc C.prog g z b (w.forCall d i).memory i.args/\X (w.forCall d i).memory i.args)/\sizedMet enc C.prog g (OpenSpec.ofChange s) b (w.forCall d i).memory i.args)/\a.holds C.prog (lone (Frame.enter C.prog f i.args .normal) [] (w.forCall d i)))
    (p:∀(W:World) (k:Nat) (c:Array Value) (y T:List (DataW e)) (x:List MemPlace),
      (∀(j:Nat) t v,g.params[j]?=some t->c[j]?=some v->Value.okWide C.prog W .any k t v) ->
      DataW.Whole enc C.prog g.params.toList s.vars b W c.toList y T x ->
      X W c->W.ShapedOpen C.prog ->
      Calls C.prog f c W λe j=>∃v,e=.returned v/\s.post enc C.prog g b r h q W c v j):
    ReturnsInHanded a C u f .any (λw c=>(s.pre enc C.prog g z b w c/\X w c)/\sizedMet enc C.prog g (OpenSpec.ofChange s) b w c) (s.post enc C.prog g b r h q):=by
  refine returnsInHanded_of_calls B l D o ?_;intro w d i _ b _ o K _;obtain⟨_,_,_,N,a,_,_,_,_,u⟩:=o;have e:N=g:=Option.some.inj (a.symm.trans E);subst e;obtain⟨⟨⟨y,T,x,B,_⟩,F⟩,_⟩:=K;have L:=DataW.Whole.of_heap (w':=w.forCall d i) (by rfl) B;refine(p (w.forCall d i) w.heap.size i.args y T x u L (P _ _ _ (by rfl) F) b).mono λe j ⟨v,l,U⟩=>?_;subst l;exact ChangeSpec.post_blind U
theorem iface_of_trod{P:Program}{w:World}{a:Nat}{t:TypeId}{L:List Value}{nm:String}{x:DataW Unit}{p:List MemPlace}{b:Array (String×TypeId)}(C:P.underlying t=some (.interface b))(h:DataW.trod (λ_=>()) P w 0 (λ_=>true) false a t L=some (.iface nm x,p)):∃u v,L=[.iface u v]:=by
 cases a with
 |zero=>simp[DataW.trod]at h
 |succ f=>unfold DataW.trod at h;rw[C]at h;split at h<;>simp_all
theorem G7(b:laidMetH Tryz.prog Rows.checksRow.laid W):∃i z,W.cell? ⟨5,0,none⟩=some (.iface i z):=by rw [MakeChecks.laidMetH_plain _ _ _ (by kernel_rfl)] at b;obtain ⟨g, t, L, a, p, C, a, N, d⟩ := Lib.laidMet.reads b (n := "strconv.ErrRange") (d := Rows.laid_strconv_ErrRange) (by simp [Rows.checksRow]);obtain rfl := Option.some.inj ((show Tryz.prog.globalNamed "strconv.ErrRange" = some 5 by kernel_rfl).symm.trans C);obtain rfl := Option.some.inj ((show (Tryz.prog.globals[5]?).map (·.type) = some 161 by kernel_rfl).symm.trans a);obtain⟨u,v,a⟩:=iface_of_trod Tryz.underlying161 d;have:=World.var?_cell C N 0;obtain⟨l⟩:=L;obtain rfl:l=[.iface u v]:=a;exact⟨u,v,this⟩
theorem AT(C:laidMetH Tryz.prog Rows.checksRow.laid W):∀j,j<64->W.cell? ⟨0,j,none⟩=some (.int .u8 ((Lib.deBruijn64tab.getD j 0:Nat):Int)):=by rw [MakeChecks.laidMetH_plain _ _ _ (by kernel_rfl)] at C;obtain ⟨g, t, L, a, p, a, b, N, d⟩ := Lib.laidMet.reads C (n := "math/bits.deBruijn64tab") (d := Rows.laid_math_bits_deBruijn64tab) (by simp [Rows.checksRow]);obtain rfl := Option.some.inj ((show Tryz.prog.globalNamed "math/bits.deBruijn64tab" = some 0 by kernel_rfl).symm.trans a);obtain rfl := Option.some.inj ((show (Tryz.prog.globals[0]?).map (·.type) = some 405 by kernel_rfl).symm.trans b);have Q:(Rows.laid_math_bits_deBruijn64tab:DataW Unit)=Lib.tabData .u8 (Lib.deBruijn64tab.map Int.ofNat):=rfl;rw[Q]at d;have T:=Lib.cells_of_tab Tryz.underlying405 Tryz.underlying5 (by kernel_rfl) (by kernel_rfl) d;intro j f;have:=World.var?_cell a N j;rw[this,<-Array.getElem?_toList,T];have X:Lib.deBruijn64tab.length=64:=rfl;simp[List.getD,X,f]
theorem O8(h:W.ShapedOpen Tryz.prog):∃m,W.cell? ⟨1,0,none⟩=some (.int .i64 m):=
 cell_of_shapedOpen_int (zero:=#[.int .i64 0]) h (of_decide_eq_true (by kernel_rfl)) (by kernel_rfl) rfl (by kernel_rfl) (by kernel_rfl) Tryz.underlying3
def Walk:Prop:=∀(s t:ByteArray) (w:World),(∃te pe,w.cell? ⟨5,0,none⟩=some (.iface te pe))->(∃m,w.cell? ⟨1,0,none⟩=some (.int .i64 m))->(∀j,j<64->w.cell? ⟨0,j,none⟩=some (.int .u8 ((Lib.deBruijn64tab.getD j 0:Nat):Int)))->Calls Tryz.prog 5 #[.string s,.string t] w λe w'=>e=.returned (.bool true)/\Below w.heap.size w w'
theorem Ay(B:Walk)(f:Os)(e:f.Started)(b:Type)(enc:TypeId×Value->b):
    ReturnsInHanded {} Tryz.checked f 5 .any (λw c=>(Rows.checksSpec.pre enc Tryz.prog Tryz.f5 [] false w c/\laidMetH Tryz.prog Rows.checksRow.laid w)/\sizedMet enc Tryz.prog Tryz.f5 (OpenSpec.ofChange Rows.checksSpec) false w c)
      (Rows.checksSpec.post enc Tryz.prog Tryz.f5 false true false false):=by
  refine CW (C:=Tryz.checked) (X:=λw _=>laidMetH Tryz.prog Rows.checksRow.laid w) (λ_ _ _ V h=>h.of_heap V) BY e (by kernel_rfl) Tryz.func5
    (ChangeSpec.witness_shaped (enc:=enc) (C:=Tryz.checked) (os:=f) (X:=λw _=>laidMetH Tryz.prog Rows.checksRow.laid w) false (World.laidAll Tryz.prog f Rows.checksRow.laid) #[.string ByteArray.empty,.string ByteArray.empty] 8 (World.laidAll_os _ _ _)
      (World.shaped_of_ZipB (by kernel_rfl) (by kernel_rfl)) (by kernel_rfl) (by kernel_rfl) (by kernel_rfl)
      (by rw[MakeChecks.laidMetH_plain _ _ _ (by kernel_rfl)];exact laidMet_laidAll _ (by kernel_rfl) (by kernel_rfl))) ?_
  intro W k c y T x f b C e;have u:∀(j:Nat) t v,Tryz.f5.params[j]?=some t->c[j]?=some v->Value.okWide Tryz.prog W .any k t v:=f;have j:=b;obtain⟨p,q,o,g,rfl,_,_⟩:=b;have s:DataW.TrodAll enc Tryz.prog W 0 (λ_=>true) true Tryz.f5.params.toList c.toList y p:=o;rw[Tryz.params5]at s u;obtain⟨L,_,t,_,_,r,z,rfl,rfl,D,b2⟩:=trodAll_cons s;obtain⟨K2,X,Y,_,F,R,rfl,rfl,rfl,M2,r1⟩:=trodAll_cons b2;obtain⟨rfl,rfl,rfl⟩:=trodAll_nil r1;obtain rfl:c=#[L,K2]:=by cases c;simp_all
  obtain⟨rfl,rfl⟩:=trodVars_none g;obtain⟨U,rfl,rfl,rfl,w0⟩:=open_string Tryz.underlying9 (u 0 9 L rfl rfl) D;obtain⟨N,rfl,rfl,rfl,w1⟩:=open_string Tryz.underlying9 (u 1 9 K2 rfl rfl) M2;clear o f;refine(B U N W (G7 C) (O8 e) (AT C)).mono λe c ⟨l,c⟩=>?_;subst l;exact⟨_,rfl,_,_,_,[],_,[],j,trodAll_mk1 (shut_bool Tryz.underlying4 _),(trodAll_cons_mk (shut_string Tryz.underlying9 w0) (trodAll_cons_mk (shut_string Tryz.underlying9 w1) trodAll_mk0)),rfl,c.frame _,λh=>by cases h⟩
theorem Hp(B:Walk):Rows.ChecksSaid:=
 OpenClaim.holds_of_wide 5 Tryz.f5 rfl rfl rfl rfl rfl rfl rfl ⟨rfl,rfl,rfl,rfl,rfl⟩ rfl rfl rfl rfl rfl B? Tryz.func5 D3
  (of_decide_eq_true (by kernel_rfl)) (by unfold Func.isWrapper;first|(rw[if_pos (by decide +kernel)];kernel_rfl)|(rw[if_neg (by decide +kernel)];exact⟨rfl,rfl⟩))
  (λc b a enc _=>Ay B c b a enc)
theorem PJ:OpenClaim.wfByText (OpenSpec.ofChange Rows.checksSpec) Rows.checksRow=true:=by kernel_rfl
theorem Hq:Tryz.pinned.checked.prog.mainIs=some (Rows.checksCard.stood.harness.fst,Rows.checksCard.stood.harness.snd.toList):=by kernel_rfl
theorem D2:true=Tryz.pinned.checked.prog.looks []:=by kernel_rfl
theorem Ax:([9,9].all λu=>!Tryz.prog.wantsStandIn u)=true:=by kernel_rfl
theorem Hr:false=Rows.checksRow.goesBy Tryz.pinned.checked.prog:=by kernel_rfl
theorem Hs (h:Rows.ChecksSaid):Rows.ChecksCardSaid:=
  Claim7.holds_tied_plain_at .later [] [.data,.data,.data,.data,.sentinel,.sentinel,.pinned] true Rows.checksCard.stood.harness true
    h (λ_ h=>by cases h) PJ (λ_ h=>by cases h) checks_row_tie rfl ⟨rfl,rfl⟩ Hq rfl
    (λf g Y E=>by
      obtain rfl:f=5:=Option.some.inj (B?.symm.trans Y) |>.symm;obtain rfl:g=Tryz.f5:=(Option.some.inj (Tryz.func5.symm.trans E)).symm
      exact⟨D2,λj t U=>by
        rw[Tryz.params5]at U;have d:t∈[9,9]:=by simpa using Array.mem_of_getElem? U
        have R:([9,9].all λu=>!Tryz.prog.wantsStandIn u)=true:=Ax
        exact(show Tryz.prog.wantsStandIn t=false by simpa using List.all_eq_true.1 R t d)⟩)
    Hr
end
def Oj(x:Int)(w:u'):Cl 178 #[G x] w λe a=>e=p' (j' (rk x))/\a=w:=by
 go_enter func178,ntmps178;go_wp2
 all_goals
  go_ret;refine⟨aN ?_,rfl⟩;unfold rk
  first|(simp;omega)|(simp;try omega)
def kj{a b}:=@Oj a b
def Y7(h:p:=by
 have y:(k:Int)<(ζ d:Int):=I;obtain⟨x,F⟩:=La L;obtain⟨b1,o1,S,Q⟩:=(s.a.below b.o) k x F;have R:=hid F;cases v:rk x with
 |false=>
  subst S;clear F;go_wp2_with (go_at_call 178;refine kj.mono ?_;rw[v];rintro e W ⟨rfl,rfl⟩);go_quiet (fail);go_wp2;go_ret;refine⟨aN ?_,below_drewN b.o _⟩;rw[V.o AN.o,T.o,jt R.o];have:¬(Y<=x/\x<=100000):=by intro h;unfold rk at v;simp at v;omega
  rw[show(decide (Y<=x)&&decide (x<=100000))=P' by rw[kJ];simp;omega];rfl
 |true=>
  have C:0<=x/\x<=100000:=by unfold rk at v;simpa using v
  rcases Cy k with D|D
  ·subst D;subst S;obtain rfl:=N.a rfl;have c0:χ wr (O b1 o1)=B' (G x):=Q;clear F Q;go_wp2_with (go_at_call 178;refine kj.mono ?_;rw[v];rintro e W ⟨rfl,rfl⟩);go_quiet (fail);go_wp2;go_roundw
   ·
    refine⟨1,x+1,I,f',I,⟨λh=>I,λj h=>?_⟩,below_drewN K.o _,?_⟩
    ·obtain rfl:j=0:=I;rw[R.o];congr 1;omega
    show _=_;rw[T.o,jt R.o];simp[C.1,C.2]
   exact G'
  obtain⟨k,rfl⟩:∃j,k=j+1:=⟨k-1,I⟩;have a:=N.A k rfl;obtain⟨o,f,h2,p⟩:=(s.a.below b.o) k (Y-1) a;rw[S]at h2;simp at h2;obtain⟨rfl,rfl⟩:=h2;subst S;clear F a;have hk0:decide (0<((k+1:Nat):Int))=O':=by rw[bq];omega
  have hkm:((k+1:Nat):Int)-1=(k:Int):=I;by_cases hxf:x<=Y-1
  ·go_wp2_with (go_at_call 178;refine kj.mono ?_;rw[v];rintro e W ⟨rfl,rfl⟩);go_quiet (fail);go_wp2;go_ret;refine⟨aN ?_,below_drewN b.o _⟩;rw[V.o AN.o,T.o,jt R.o,show(decide (Y<=x)&&decide (x<=100000))=P' by rw[kJ];simp;omega];rfl
  go_wp2_with (go_at_call 178;refine kj.mono ?_;rw[v];rintro e W ⟨rfl,rfl⟩);go_quiet (fail);go_wp2;go_roundw
  ·
   refine⟨k+1+1,x+1,I,f',I,⟨λh=>I,λj h=>?_⟩,below_drewN K.o _,?_⟩
   ·obtain rfl:j=k+1:=I;rw[R.o];congr 1;omega
   show _=_;rw[T.o,jt R.o];have hq:Y<=x:=I;simp[C.2,hq]
  exact G'):p:=h
def Y6(h:p:=by
 go_wp2;clear E r;go_loopw[8] (λi wx=>∃(k:Nat),k<=ζ c/\i=G k/\J (Bl t wx)/\J (c.all rk=(c.drop k).all rk)) (λi _=>ζ c-(intOf i).toNat)
 ·exact⟨0,bj,rfl,K,by show _=_;simp⟩
 rename_i wx _ _;obtain⟨k,hk,rfl,K,T⟩:=hrel;have E:=M ((K.o.block _ (aY.1 U.A).1).trans U.A);have b:=hid (H U.a K.o);by_cases L:k<ζ c;rotate_left
 ·obtain rfl:k=ζ c:=I;have y:¬(ζ c:Int)<(ζ c:Int):=I;go_wp2;go_ret;exact⟨aN (by rw[X.o,T.o];simp),b.o⟩
 have y:(k:Int)<(ζ c:Int):=I;obtain⟨x,F⟩:=La L;obtain⟨b1,o1,rfl,Q⟩:=(s.A.below b.o) k x F;have R:=hid F;clear F;cases v:rk x with
 |false=>go_wp2_with (go_at_call 178;refine kj.mono ?_;rw[v];rintro e W ⟨rfl,rfl⟩);go_ret;refine⟨aN ?_,b.o⟩;rw[X.o,T.o,fR R.o,v];rfl
 |true=>
  go_wp2_with (go_at_call 178;refine kj.mono ?_;rw[v];rintro e W ⟨rfl,rfl⟩);refine⟨⟨k+1,I,f',K,?_⟩,by simp[intOf];omega⟩;show _=_;rw[T.o,fR R.o,v]
  rfl):p:=h
def sI(g:Int)(fa l z:x')(q rc vc:Nat)(n:Nd)(w:u')(h:nT w fa l z q rc vc n)(K:dY n):
  Cl 110 #[l' #[i' fa (ζ n.facts) q,i' l (ζ n.aW) rc,j' n.aD,G n.rank,i' z (ζ n.vals) vc],G g] w (Rb w (j' (dV g n))):=by
 obtain⟨d,c,y,a,P⟩:=n;have s:J (cE w fa d/\cE w l c):=⟨h.facts,h.aW⟩;have W:=K.Qg;have Y:=K.rsz;clear h K;cases y with
 |true=>
  go_enter func110,ntmps110;go_wp2
  all_goals
   go_ret;exact⟨aN (by simp[dV]),bf⟩
 |false=>
 by_cases b:a=0;rotate_left
 ·have f:(a !=0)=O':=by rw[kK];exact b
  go_enter func110,ntmps110;go_wp2
  all_goals
   go_ret;exact⟨aN (by simp[dV,b]),bf⟩
 subst b;by_cases R:ζ P=0;rotate_left
 ·have b:=nO R;go_enter func110,ntmps110;go_wp2
  all_goals
   go_ret;exact⟨aN (by simp[dV,f?,R]),bf⟩
 have b:((ζ P:Int) !=0)=P':=by simp[R]
 have u:=hid R;clear R;by_cases hg:g=1
 ·subst hg;have V:J (∀(he:ζ c=ζ d),dV 1 ⟨d,c,P',0,P⟩=(cU 0 d&&c.all rk)):=by intro he;simp[dV,eD,f?,u.o,he]
  by_cases TD:ζ c=ζ d;rotate_left
  ·have B:((ζ c:Int) !=(ζ d:Int))=O':=by rw[kK];omega
   go_enter func110,ntmps110;go_wp2
   all_goals
    go_ret;refine⟨aN ?_,bf⟩;simp[dV,eD,TD]
  have B:((ζ c:Int) !=(ζ d:Int))=P':=by rw[Cx];omega
  have AN:=hid TD;clear TD;go_enter func110,ntmps110;go_wp2;generalize hW:w.alloc (k' #[i' fa (ζ d) q,i' l (ζ c) rc,j' P',G 0,i' z (ζ P) vc] 96)=t;have U:J (Bl w t/\d' t w.1.size #[i' fa (ζ d) q,i' l (ζ c) rc,j' P',G 0,i' z (ζ P) vc] 96):=by subst hW;exact⟨bf,cv w _⟩
  clear hW;go_loopw[6] (λi wr=>∃(k:Nat) (Y:Int),k<=ζ d/\i=G k/\0<=Y/\J ((k=0->Y=0)/\(∀j,k=j+1->d[j]?=B' (Y-1)))/\J (Bl t wr)/\J (cU 0 d=cU Y (d.drop k))) (λi _=>ζ d-(intOf i).toNat)
  ·exact⟨0,0,bj,rfl,I,⟨λ_=>rfl,λj h=>I⟩,aQ,by show _=_;simp⟩
  obtain⟨k,Y,hk,rfl,AS,N,K,T⟩:=hrel;have r:=(K.o.block _ (aY.1 U.A).1).trans U.A;have E:=M r;have b:=hid (H U.a K.o);by_cases L:k<ζ d;rotate_left
  ·obtain rfl:k=ζ d:=I;have y:¬(ζ d:Int)<(ζ d:Int):=I;have X:J (dV 1 ⟨d,c,P',0,P⟩=c.all rk):=by show _=_;rw[V.o AN.o,T.o];simp[cU]
   exact Y6
  exact Y7
 have hgb:(g==1)=P':=by simp[hg]
 have V:J (∀(he:ζ c=0),dV g ⟨d,c,P',0,P⟩=(cU 0 d&&c.all rk)):=by intro he;rw[dV,eD,aA hg];simp[f?,u.o,du.1 he]
 by_cases TD:ζ c=0;rotate_left
 ·have B:((ζ c:Int) !=0)=O':=by rw[kK];omega
  go_enter func110,ntmps110;go_wp2
  all_goals
   go_ret;refine⟨aN ?_,bf⟩;rw[dV,eD,aA hg];simp[f?,TD]
 have B:((ζ c:Int) !=0)=P':=by rw[Cx];omega
 have AN:=hid TD;clear TD;go_enter func110,ntmps110;go_wp2;generalize hW:w.alloc (k' #[i' fa (ζ d) q,i' l (ζ c) rc,j' P',G 0,i' z (ζ P) vc] 96)=t;have U:J (Bl w t/\d' t w.1.size #[i' fa (ζ d) q,i' l (ζ c) rc,j' P',G 0,i' z (ζ P) vc] 96):=by subst hW;exact⟨bf,cv w _⟩
 clear hW hg;go_loopw[6] (λi wr=>∃(k:Nat) (Y:Int),k<=ζ d/\i=G k/\0<=Y/\J ((k=0->Y=0)/\(∀j,k=j+1->d[j]?=B' (Y-1)))/\J (Bl t wr)/\J (cU 0 d=cU Y (d.drop k))) (λi _=>ζ d-(intOf i).toNat)
 ·exact⟨0,0,bj,rfl,I,⟨λ_=>rfl,λj h=>I⟩,aQ,by show _=_;simp⟩
 obtain⟨k,Y,hk,rfl,AS,N,K,T⟩:=hrel;have r:=(K.o.block _ (aY.1 U.A).1).trans U.A;have E:=M r;have b:=hid (H U.a K.o);by_cases L:k<ζ d;rotate_left
 ·obtain rfl:k=ζ d:=I;have y:¬(ζ d:Int)<(ζ d:Int):=I;have X:J (dV g ⟨d,c,P',0,P⟩=c.all rk):=by show _=_;rw[V.o AN.o,T.o];simp[cU]
  exact Y6
 exact Y7
section
variable {x:Int}
def Mh(h:rk x=O'):0<=x/\x<=100000:=by unfold rk at h;simpa using h
def Fk(h:rk x=P'):¬(0<=x/\x<=100000):=by
 intro a;have:rk x=O':=by simp[rk,a.1,a.2]
 rw[this]at h;cases h
def ZI(h:p:=by
 go_wp2_with (go_at_call 178;refine kj.mono ?_;rw[hK];rintro e w2 ⟨rfl,rfl⟩);refine acv (F:=Code.wp _ _ _ _) λt U=>?_;go_loopw[8] (λi wr=>∃(k:Nat),k<=ζ vals/\i=G k/\J (Bl t wr)/\J (vals.all (V rank)=(vals.drop k).all (V rank))) (λi _=>ζ vals-(intOf i).toNat)
 ·exact⟨0,bj,rfl,aQ,by show _=_;simp⟩
 obtain⟨k,a,rfl,d,T⟩:=hrel;have E:=M ((d.o.block _ (aY.1 U.a).1).trans U.a);have b:=hid (H U.A d.o);have a:=mG (aY.1 U.a).1 d.o.size;by_cases L:k<ζ vals;rotate_left
 ·obtain rfl:k=ζ vals:=I;have a:¬(ζ vals:Int)<(ζ vals:Int):=I;go_wp2;go_ret;exact⟨aN (by rw[HQ.o,T.o];simp),b.o⟩
 have a:(k:Int)<(ζ vals:Int):=I;obtain⟨v,o⟩:=La L;obtain⟨a,a,rfl,l,Q,a,f,P,g⟩:=(HH.o.below b.o) k v o;have B:=hid o;clear o;obtain⟨x,j,S,bJ,first,c⟩:=v;simp only at l Q a f P g;have l:(c==0)=O'->rk c=O':=λq=>by rw[bT.1 q];rfl
 cases N:(c==0)<;>cases v:rk c
 rotate_right
 rotate_right
 ·rw[l N]at v;cases v
 all_goals
  clear l
  first|have C:=Mh v|have C:=Fk v
  go_wp2_with (go_at_call 178;refine kj.mono ?_;rw[v];rintro e w2 ⟨rfl,rfl⟩)
  all_goals try first
   | (
    refine⟨⟨k+1,I,f',H d.o bf,?_⟩,by simp[intOf];omega⟩;show _=_;rw[T.o,fR B.o];have a:V rank ⟨x,j,S,bJ,first,c⟩=O':=by
     rw[HVV.o]
     try simp only[kK,ne_eq,Cx,bT,b?,gW,Bool.not_eq_false',cR,bq]at *
     unfold eM nL
     first|(simp[*];done)|(simp[*];omega)
    simp[a])
   | (
    go_ret
    refine⟨aN ?_,H b.o bf⟩;rw[HQ.o,T.o,fR B.o];have a:V rank ⟨x,j,S,bJ,first,c⟩=P':=by
     rw[HVV.o]
     try simp only[kK,ne_eq,Cx,bT,b?,gW,Bool.not_eq_false',cR,bq]at *
     rw[kJ];unfold eM nL
     first|(simp[*];done)|(simp[*];omega)
    simp[a])):p:=h
def Di{p g:Int}(U:¬p<=4)(a:Int)(P:List Vl)(b:rk a=O')(R:ζ P<=8)(f:g=1\/a=0):bA p g ⟨[],[],O',a,P⟩=P.all (eM p g a):=by rw[bA,eN,aA U];rcases f with rfl|rfl<;>simp[b,R]
def Sj(h:p:=by
 obtain⟨V,hV⟩:=hV;rw[<-hV]at hO;obtain⟨d,c,y,rank,vals⟩:=n;have HH:=hid h.vals;have s:=hn.vsz;have r:=hid (hO rank vals);have HVV:=hid hV;clear h hn hV hO;go_enter func111,ntmps111;by_cases Y:ζ d=0;rotate_left
 ·have s:=nO Y;go_wp2_with (go_at_call 178;refine kj.mono ?_;rintro e w2 ⟨rfl,rfl⟩)
  all_goals
   go_ret;refine⟨aN ?_,bf⟩;unfold bA eN fX;cases y<;>simp[f?,Y]
 by_cases l:ζ c=0;rotate_left
 ·have s:=nO l;go_wp2_with (go_at_call 178;refine kj.mono ?_;rintro e w2 ⟨rfl,rfl⟩)
  all_goals
   go_ret;refine⟨aN ?_,bf⟩;unfold bA eN fX;cases y<;>simp[f?,l]
 obtain rfl:d=[]:=du.1 Y;obtain rfl:c=[]:=du.1 l;simp only[gN];cases hK:rk rank
 ·have g:=Fk hK;go_wp2_with (go_at_call 178;refine kj.mono ?_;rw[hK];rintro e w2 ⟨rfl,rfl⟩);go_ret;refine⟨aN ?_,bf⟩;unfold bA eN fX;cases y<;>simp[hK]
  omega
 have g:=Mh hK;by_cases R:ζ vals<=8;rotate_left
 ·have o:¬((ζ vals:Int)<=8):=I;go_wp2_with (go_at_call 178;refine kj.mono ?_;rw[hK];rintro e w2 ⟨rfl,rfl⟩);go_ret;refine⟨aN ?_,bf⟩;have j:¬ζ vals=0:=I;unfold bA eN fX;cases y<;>simp[R,f?,j]
 have o:(ζ vals:Int)<=8:=I;cases y
 ·by_cases f:rank=0;rotate_left
  ·have C:(rank !=0)=O':=by rw[kK];exact f
   go_wp2_with (go_at_call 178;refine kj.mono ?_;rw[hK];rintro e w2 ⟨rfl,rfl⟩)
   all_goals
     go_ret;refine⟨aN ?_,bf⟩;simp[bA,fX,f]
  subst f;by_cases b:ζ vals=0;rotate_left
  ·have z:=nO b;go_wp2_with (go_at_call 178;refine kj.mono ?_;rw[hK];rintro e w2 ⟨rfl,rfl⟩);go_ret;refine⟨aN ?_,bf⟩;simp[bA,fX,f?,b]
  obtain rfl:vals=[]:=du.1 b;simp only[gN];go_wp2_with (go_at_call 178;refine kj.mono ?_;rw[hK];rintro e w2 ⟨rfl,rfl⟩);go_loopw[8] (λi wr=>i=G 0/\wr=w.alloc (k' #[i' fa 0 fc,i' ra 0 rc,j' P',G 0,i' va 0 vc] 96)) (λ_ _=>0)
  ·exact⟨rfl,rfl⟩
  obtain⟨rfl,rfl⟩:=hrel;go_wp2;go_ret;exact⟨aN aj,bf⟩
 cases C:(rank !=0)
 ·have HQ:=hid (r.o hK R (aK (I' C)));exact ZI
 first
  | (
    have HQ:=hid (r.o hK R (aI rfl))
    exact ZI)
  | (
    go_wp2_with (go_at_call 178;refine kj.mono ?_;rw[hK];rintro e w2 ⟨rfl,rfl⟩)
    all_goals
      go_ret;refine⟨aN ?_,bf⟩;unfold bA eN
      simp[kK.1 C])):p:=h
def JT(fa ra va:x')(fc rc vc:Nat)(n:Nd)(w:u')(h:nT w fa ra va fc rc vc n)(hn:dY n):
  Cl 111 #[l' #[i' fa (ζ n.facts) fc,i' ra (ζ n.aW) rc,j' n.aD,G n.rank,i' va (ζ n.vals) vc],G 6,G 2] w (Rb w (j' (bA 6 2 n))):=by
 have hO:=Di (p:=6) (g:=2) aj;have hV:∃V,V=eM 6 2:=⟨_,rfl⟩;exact Sj
end
def JV(fa ra va:x')(fc rc vc:Nat)(n:Nd)(w:u')(h:nT w fa ra va fc rc vc n)(hn:dY n):
  Cl 111 #[l' #[i' fa (ζ n.facts) fc,i' ra (ζ n.aW) rc,j' n.aD,G n.rank,i' va (ζ n.vals) vc],G 5,G 1] w (Rb w (j' (bA 5 1 n))):=by
 have hO:=Di (p:=5) (g:=1) aj;have hV:∃V,V=eM 5 1:=⟨_,rfl⟩;exact Sj
def JU(fa ra va:x')(fc rc vc:Nat)(n:Nd)(w:u')(h:nT w fa ra va fc rc vc n)(hn:dY n):
  Cl 111 #[l' #[i' fa (ζ n.facts) fc,i' ra (ζ n.aW) rc,j' n.aD,G n.rank,i' va (ζ n.vals) vc],G 5,G 2] w (Rb w (j' (bA 5 2 n))):=by
 have hO:=Di (p:=5) (g:=2) aj;have hV:∃V,V=eM 5 2:=⟨_,rfl⟩;exact Sj
def sT(p g:Int)(b:known p g=O')(U:¬p<=4)(a l z:x')(q rc x:Nat)(n:Nd)(w:u')(h:nT w a l z q rc x n)(K:dY n):
  Cl 111 #[l' #[i' a (ζ n.facts) q,i' l (ζ n.aW) rc,j' n.aD,G n.rank,i' z (ζ n.vals) x],G p,G g] w (Rb w (j' (bA p g n))):=by
 have N:(p=5/\g=1)\/(p=5/\g=2)\/(p=6/\g=2):=by unfold known at b;simp at b;omega
 rcases N with⟨rfl,rfl⟩|⟨rfl,rfl⟩|⟨rfl,rfl⟩
 ·exact JV a l z q rc x n w h K
 ·exact JU a l z q rc x n w h K
 exact JT a l z q rc x n w h K
theorem Rc(h:p:=by
 refine⟨⟨k+1,by omega,by go_num,H (H v.o bf) X,?_⟩,by simp[intOf];omega⟩;show _=_;rw[T.o,fR B.o.1,c]
 rfl):p:=h
theorem Ra(h:p:=by
 go_ret
 exact⟨aN (by rw[V.o,T.o,fR B.o.1,c];rfl),H (H b.o bf) X⟩):p:=h
def Y5(h:p:=by
 have d:¬(k:Int)<(ζ P:Int):=I;obtain rfl:k=ζ P:=I;go_wp2_with fail;go_ret
 exact⟨aN (by rw[V.o,T.o];simp),b.o⟩):p:=h
def y7(na:x')(nc:Nat)(c:Ct)(w:u')(h:b9 w na c.nodes)(T:zM c):
  Cl 66 #[l' #[G c.aE,G c.grade,i' na (ζ c.nodes) nc]] w (Rb w (j' (jz c))):=by
 obtain⟨p,g,P⟩:=c;have s:J (b9 w na P/\∀n∈P,dY n):=⟨h,T.nodes⟩;have y:ζ P*88<=140737488355328:=T.sz;clear h T;simp only;cases y:known p g with
 |false=>
  have V:J (jz ⟨p,g,P⟩=P'/\known p g=P'):=⟨by simp[jz,y],y⟩;clear y;go_enter func66,ntmps66;go_wp2
  all_goals first
   | (
     go_ret
     exact⟨aN V.a.symm,bf⟩)
   | (
     exfalso;have a:=V.A;unfold known at a;simp at a
     omega)
 |true=>
  have o:1<=p/\p<=6/\1<=g/\g<=2/\(p=6->g=2):=by have a:=y;unfold known at a;simp at a;omega
  obtain⟨Y,W,a,q,a⟩:=o;have E:p=6->(g==1)=P':=by intro h;have:=a h;subst this;rfl
  have h:J (known p g=O'/\(p=6->g=2)):=⟨y,a⟩;clear y a;by_cases d:ζ P<=60;rotate_left
  ·have V:J (jz ⟨p,g,P⟩=P'):=by show _=_;simp[jz,d]
   have K:60<(ζ P:Int):=I;go_enter func66,ntmps66;go_wp2
   all_goals
    go_ret;exact⟨aN V.o.symm,bf⟩
  have V:J (jz ⟨p,g,P⟩=P.all (bA p g)):=by show _=_;simp[jz,h.a,d]
  have K:¬(60<(ζ P:Int)):=I;by_cases R:p=6
  ·subst R;obtain rfl:=h.A rfl;go_enter func66,ntmps66;go_wp2;generalize j:w.alloc (k' #[G 6,G 2,i' na (ζ P) nc] 51)=t;have U:J (Bl w t/\d' t w.1.size #[G 6,G 2,i' na (ζ P) nc] 51):=by subst j;exact⟨bf,cv w _⟩
   clear j;go_loopw[3] (λi wr=>∃k:Nat,k<=ζ P/\i=G k/\J (Bl t wr)/\J (P.all (bA 6 2)=(P.drop k).all (bA 6 2))) (λi _=>ζ P-(intOf i).toNat)
   ·exact⟨0,bj,rfl,aQ,by show _=_;simp⟩
   obtain⟨k,y,rfl,v,T⟩:=hrel;have y1:=M ((v.o.block _ (aY.1 U.A).1).trans U.A);have b:=hid (H U.a v.o);have S:=(aY.1 U.A).1;have r:=v.o.size;have u:δ w.1<δ wr.1:=I;clear S r;by_cases L:k<ζ P;rotate_left
   ·exact Y5
   have d:(k:Int)<(ζ P:Int):=I;obtain⟨n,C⟩:=La L;obtain⟨b1,o1,a,l,z,q,rc,x,rfl,c0,Q,c2,c3,c4,W⟩:=(s.a.below b.o) k n C;have B:J (P[k]?=B' n/\dY n/\nT wr a l z q rc x n):=⟨C,s.A n (aT C),W⟩;clear C W;have D:¬(6:Int)<=4:=I;cases c:bA 6 2 n with
   |true=>go_wp2_with (go_at_call 111;refine(sT 6 2 h.a D a l z q rc x n _ (B.B.below bf) B.b).mono ?_;rw[c];rintro e F ⟨rfl,X⟩);exact Rc
   |false=>go_wp2_with (go_at_call 111;refine(sT 6 2 h.a D a l z q rc x n _ (B.B.below bf) B.b).mono ?_;rw[c];rintro e F ⟨rfl,X⟩);exact Ra
  have K:(p==6)=P':=by simp[R]
  have Y:decide (p<1)=P':=by rw[cR];omega
  have f:decide (6<p)=P':=by rw[cR];omega
  have N:decide (g<1)=P':=by rw[cR];omega
  have o:decide (2<g)=P':=by rw[cR];omega
  go_enter func66,ntmps66;go_wp2;clear R K Y f N o E;generalize j:w.alloc (k' #[G p,G g,i' na (ζ P) nc] 51)=t;have U:J (Bl w t/\d' t w.1.size #[G p,G g,i' na (ζ P) nc] 51):=by subst j;exact⟨bf,cv w _⟩
  clear j;go_loopw[3] (λi wr=>∃k:Nat,k<=ζ P/\i=G k/\J (Bl t wr)/\J (P.all (bA p g)=(P.drop k).all (bA p g))) (λi _=>ζ P-(intOf i).toNat)
  ·exact⟨0,bj,rfl,aQ,by show _=_;simp⟩
  obtain⟨k,y,rfl,v,T⟩:=hrel;have y1:=M ((v.o.block _ (aY.1 U.A).1).trans U.A);have b:=hid (H U.a v.o);have S:=(aY.1 U.A).1;have r:=v.o.size;have u:δ w.1<δ wr.1:=I;clear S r;by_cases L:k<ζ P;rotate_left
  ·exact Y5
  have d:(k:Int)<(ζ P:Int):=I;obtain⟨n,C⟩:=La L;obtain⟨b1,o1,a,l,z,q,rc,x,rfl,c0,Q,c2,c3,c4,W⟩:=(s.a.below b.o) k n C;have B:J (P[k]?=B' n/\dY n/\nT wr a l z q rc x n):=⟨C,s.A n (aT C),W⟩;clear C W;by_cases D:p<=4
  ·cases c:bA p g n with
   |true=>
    have u:dV g n=bA p g n:=by rw[bA,aB D]
    go_wp2_with (go_at_call 110;refine(sI g a l z q rc x n _ (B.B.below bf) B.b).mono ?_;rw[u,c];rintro e F ⟨rfl,X⟩);exact Rc
   |false=>
    have u:dV g n=bA p g n:=by rw[bA,aB D]
    go_wp2_with (go_at_call 110;refine(sI g a l z q rc x n _ (B.B.below bf) B.b).mono ?_;rw[u,c];rintro e F ⟨rfl,X⟩);exact Ra
  cases c:bA p g n with
  |true=>go_wp2_with (go_at_call 111;refine(sT p g h.a D a l z q rc x n _ (B.B.below bf) B.b).mono ?_;rw[c];rintro e F ⟨rfl,X⟩);exact Rc
  |false=>go_wp2_with (go_at_call 111;refine(sT p g h.a D a l z q rc x n _ (B.B.below bf) B.b).mono ?_;rw[c];rintro e F ⟨rfl,X⟩);exact Ra
