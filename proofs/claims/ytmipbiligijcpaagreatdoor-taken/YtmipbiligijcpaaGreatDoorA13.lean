import Derived.Test.YtmipbiligijcpaaGreatDoorA01
import Derived.OpenShut
import Derived.ShutString
import Derived.Lay
import Derived.HandedShaped
import Derived.Shelf.Vars
import Derived.Lib.LaidU8
import Derived.SevenTiedAt
import Derived.Test.YtmipbiligijcpaaGreatDoorA12
namespace Go.Proofs.YtmipbiligijcpaaGreatDoor
set_option linter.all false
set_option maxRecDepth 100000
set_option maxHeartbeats 4000000
open Go.ChangeShapes Go.WideShapes Go.ChangeAt Go.RowKit
section
variable {H:Type} {C m len:Nat} {t:TypeId} {W:World}
open Go.ChangeMaps (open_string shut_string)
theorem Zw:ownKnob Tryz.prog.godebug=none:=by kernel_rfl
theorem B?{enc:TypeId×Value->H}{a:Assume}{C:Checked}{os:Os}{f:FuncId}{fn:Func}{s:ChangeSpec}{l:List PathCond}{c n d h:Bool}{X:World->Array Value->Prop}
    (T:∀(w I:World) (b:Array Value),w.heap=I.heap->X w b->X I b)
    (own:ownKnob C.prog.godebug=none) (y:os.Started) (p:C.prog.inits.idxOf? f=none) (o:C.prog.funcs[f]?=some fn)
    (m:∃(w:World) (tape:Tape) (i:Input),w.os=os/\(w.forCall tape i).Shaped C.prog/\i.vars=[]/\Input.okWide C.prog (w.forCall tape i) .any w.heap.size f i ∧
      ((s.pre enc C.prog fn l c (w.forCall tape i).memory i.args/\X (w.forCall tape i).memory i.args)/\sizedMet enc C.prog fn (OpenSpec.ofChange s) c (w.forCall tape i).memory i.args)/\a.holds C.prog (lone (Frame.enter C.prog f i.args .normal) [] (w.forCall tape i)))
    (g:∀(W:World) (F:Nat) (b:Array Value) (A B:List (DataW H)) (z:List MemPlace),
      (∀(j:Nat) t v,fn.params[j]?=some t->b[j]?=some v->Value.okWide C.prog W .any F t v) →
      DataW.Whole enc C.prog fn.params.toList s.vars c W b.toList A B z →
      X W b->W.ShapedOpen C.prog →
      Calls C.prog f b W fun e J=>∃v,e=.returned v/\s.post enc C.prog fn c n d h W b v J):
    ReturnsInHanded a C os f .any (fun w b=>(s.pre enc C.prog fn l c w b/\X w b)/\sizedMet enc C.prog fn (OpenSpec.ofChange s) c w b) (s.post enc C.prog fn c n d h):=by
  refine returnsInHanded_of_calls own y p m ?_;intro w tape i _ k _ u q _;obtain⟨_,_,_,D,x,_,_,_,_,r⟩:=u;have e:D=fn:=Option.some.inj (x.symm.trans o);subst e;obtain⟨⟨⟨A,B,z,M,_⟩,E⟩,_⟩:=q;have G:=DataW.Whole.of_heap (w':=w.forCall tape i) (by rfl) M;refine(g (w.forCall tape i) w.heap.size i.args A B z r G (T _ _ _ (by rfl) E) k).mono fun e J ⟨v,L,K⟩=>?_
  subst L;exact ChangeSpec.post_blind K
theorem iface_of_trod{P:Program}{w:World}{cs:List Value}{nm:String}{x:DataW Unit}{p:List MemPlace}{a:Array (String×TypeId)}(E:P.underlying t=some (.interface a))(h:DataW.trod (fun _=>()) P w 0 (fun _=>true) false m t cs=some (.iface nm x,p)):∃u v,cs=[.iface u v]:=by
 cases m with
 |zero=>simp[DataW.trod]at h
 |succ f=>
  unfold DataW.trod at h;rw[E]at h;split at h<;>simp_all
theorem F2(E:laidMetH Tryz.prog Rows.takenRow.laid W):∃j n,W.cell? ⟨5,0,none⟩=some (.iface j n):=by
 rw [MakeChecks.laidMetH_plain _ _ _ (by kernel_rfl)] at E;obtain ⟨g, t, cs, m, p, G, O, Y, K⟩ := Lib.laidMet.reads E (n := "strconv.ErrRange") (d := Rows.laid_strconv_ErrRange) (by simp [Rows.takenRow]);obtain rfl := Option.some.inj ((show Tryz.prog.globalNamed "strconv.ErrRange" = some 5 by kernel_rfl).symm.trans G);obtain rfl := Option.some.inj ((show (Tryz.prog.globals[5]?).map (·.type) = some 161 by kernel_rfl).symm.trans O)
 obtain⟨u,v,b⟩:=iface_of_trod Tryz.underlying161 K;have:=World.var?_cell G Y 0;obtain⟨l⟩:=cs;obtain rfl:l=[.iface u v]:=b;exact⟨u,v,this⟩
theorem Zr(E:laidMetH Tryz.prog Rows.takenRow.laid W):∀j,j<64->W.cell? ⟨0,j,none⟩=some (.int .u8 ((Lib.deBruijn64tab.getD j 0:Nat):Int)):=by
 rw [MakeChecks.laidMetH_plain _ _ _ (by kernel_rfl)] at E;obtain ⟨g, t, cs, m, p, G, O, Y, K⟩ := Lib.laidMet.reads E (n := "math/bits.deBruijn64tab") (d := Rows.laid_math_bits_deBruijn64tab) (by simp [Rows.takenRow]);obtain rfl := Option.some.inj ((show Tryz.prog.globalNamed "math/bits.deBruijn64tab" = some 0 by kernel_rfl).symm.trans G);obtain rfl := Option.some.inj ((show (Tryz.prog.globals[0]?).map (·.type) = some 405 by kernel_rfl).symm.trans O)
 have hd:(Rows.laid_math_bits_deBruijn64tab:DataW Unit)=Lib.tabData .u8 (Lib.deBruijn64tab.map Int.ofNat):=rfl;rw[hd]at K;have Z:=Lib.cells_of_tab Tryz.underlying405 Tryz.underlying5 (by kernel_rfl) (by kernel_rfl) K;intro j U;have:=World.var?_cell G Y j;rw[this,<-Array.getElem?_toList,Z];have hl:Lib.deBruijn64tab.length=64:=rfl;simp[List.getD,hl,U]
theorem Na(h:W.ShapedOpen Tryz.prog):∃m,W.cell? ⟨1,0,none⟩=some (.int .i64 m):=
 cell_of_shapedOpen_int (zero:=#[.int .i64 0]) h (of_decide_eq_true (by kernel_rfl)) (by kernel_rfl) rfl (by kernel_rfl) (by kernel_rfl) Tryz.underlying3
def OB(w:World)(qa:Option Addr)(ps:List Int):Prop:=ps.length<=maxLen/\∀j x,ps[j]?=some x->(Lit.int .i64 x).wf=true/\∃b o,qa=some ⟨b,o,none⟩/\w.cell? ⟨b,o+j,none⟩=some (.int .i64 x)
theorem SL{x:Addr}{g:List Int}(hl:len<=C)(hm:C<=maxLen)(R:g.length=C)(Z:∀i,i<g.length->W.cell? (x.add i)=some (.int .i64 (g.getD i 0)))(p:∀n∈g,(Lit.int .i64 n).wf=true):(g.take len).length=len/\OB W (some x) (g.take len):=by
 have d:(g.take len).length=len:=by simp;omega
 refine⟨d,by omega,fun j y U=>?_⟩;have f:=(List.getElem?_eq_some_iff.1 U).1;rw[d]at f;have c:=Z 0 ah;have z:x.spot=none:=by
  have:=World.cell?_spot c
  simpa[Addr.add]using this
 obtain⟨b,o,q⟩:=x;simp only at z;subst z;have a:=Z j ah;rw[Addr.add_lit]at a;rw[List.getElem?_take,if_pos f]at U;have hd:g.getD j 0=y:=by simp[List.getD,U]
 rw[hd]at a;exact⟨p y (List.mem_of_getElem? U),b,o,rfl,a⟩
theorem LW{enc:TypeId×Value->H}{e:TypeId}{q:Nat->Bool}{a:Option Addr}{x:DataW H×List MemPlace}{held:Bool}(d:∀k,q k=true)(N:Tryz.prog.underlying t=some (.slice e))(he:Tryz.prog.underlying e=some (.int .i64))(Z:Tryz.prog.cellsOf e=1)(h:DataW.trod enc Tryz.prog W 0 q held m t (Value.slice a len C).cells.toList=some x):∃ps:List Int,ps.length=len/\OB W a ps:=by
 rcases open_ints N he Z h with⟨b,_⟩|⟨x,l,c,g,b,_,hl,f,R,_,T,p⟩
 ·simp[Value.cells]at b
  obtain⟨rfl,rfl,rfl⟩:=b;exact⟨[],rfl,by simp,fun j x U=>by simp at U⟩
 simp[Value.cells]at b;obtain⟨rfl,rfl,rfl⟩:=b;exact⟨g.take len,SL hl f (by simpa[d]using R) T p⟩
def Walk:Prop:=∀(s t:ByteArray) (qa ta:Option Addr) (qc tc:Nat) (ps ts:List Int) (pr nr:Int) (w:World),(∃te pe,w.cell? ⟨5,0,none⟩=some (.iface te pe))->(∃m,w.cell? ⟨1,0,none⟩=some (.int .i64 m))->(∀j,j<64->w.cell? ⟨0,j,none⟩=some (.int .u8 ((Lib.deBruijn64tab.getD j 0:Nat):Int)))->OB w qa ps->OB w ta ts->(Lit.int .i64 pr).wf=true->(Lit.int .i64 nr).wf=true->Calls Tryz.prog 7 #[.string s,.int .i64 pr,.slice qa ps.length qc,.slice ta ts.length tc,.int .i64 nr,.string t] w fun e w'=>e=.returned (.bool true)/\Below w.heap.size w w'
theorem KF:laidOutB Tryz.prog=true:=by kernel_rfl
theorem BZ(M:Walk)(os:Os)(y:os.Started)(H:Type)(enc:TypeId×Value->H):
    ReturnsInHanded {} Tryz.checked os 7 .any (fun w b=>(Rows.takenSpec.pre enc Tryz.prog Tryz.f7 [] false w b/\laidMetH Tryz.prog Rows.takenRow.laid w)/\sizedMet enc Tryz.prog Tryz.f7 (OpenSpec.ofChange Rows.takenSpec) false w b)
      (Rows.takenSpec.post enc Tryz.prog Tryz.f7 false true false false):=by
  refine B? (C:=Tryz.checked) (X:=fun w _=>laidMetH Tryz.prog Rows.takenRow.laid w) (fun _ _ _ T h=>h.of_heap T) Zw y (by kernel_rfl) Tryz.func7
    (ChangeSpec.witness_shaped (enc:=enc) (C:=Tryz.checked) (os:=os) (X:=fun w _=>laidMetH Tryz.prog Rows.takenRow.laid w) false (World.laidAll Tryz.prog os Rows.takenRow.laid) #[.string ByteArray.empty,.int .i64 0,.slice none 0 0,.slice none 0 0,.int .i64 0,.string ByteArray.empty] 8 (World.laidAll_os _ _ _)
      (World.shaped_of_ZipB (by kernel_rfl) (by kernel_rfl)) (by kernel_rfl) (by kernel_rfl) (by kernel_rfl)
      (by rw[MakeChecks.laidMetH_plain _ _ _ (by kernel_rfl)];exact laidMet_laidAll _ (by kernel_rfl) (by kernel_rfl))) ?_
  intro W F b A gs z Yo U E k;have r:∀(j:Nat) t v,Tryz.f7.params[j]?=some t->b[j]?=some v->Value.okWide Tryz.prog W .any F t v:=Yo;have f:=U;obtain⟨p,q,hA0,g,rfl,u,vD⟩:=U;have L:DataW.TrodAll enc Tryz.prog W 0 (fun _=>true) true Tryz.f7.params.toList b.toList A p:=hA0;rw[Tryz.params7]at L r;obtain⟨B,vs0,d0,ds0,p0,q0,aeW,rfl,rfl,o,s⟩:=trodAll_cons L;obtain⟨n,vs1,d1,ds1,p1,l,rfl,rfl,rfl,G,r1⟩:=trodAll_cons s;obtain⟨v2,vs2,d2,ds2,I,q2,rfl,rfl,rfl,O,X⟩:=trodAll_cons r1;obtain⟨v3,vs3,d3,ds3,R,q3,rfl,rfl,rfl,Y,r3⟩:=trodAll_cons X;obtain⟨v4,vs4,d4,ds4,p4,q4,rfl,rfl,rfl,h4,r4⟩:=trodAll_cons r3;obtain⟨c,vs5,N,ds5,p5,q5,rfl,rfl,rfl,h5,r5⟩:=trodAll_cons r4;obtain⟨rfl,rfl,rfl⟩:=trodAll_nil r5;obtain rfl:b=#[B,n,v2,v3,v4,c]:=by cases b;simp_all
  obtain⟨rfl,rfl⟩:=trodVars_none g;obtain⟨a0,rfl,rfl,rfl,V⟩:=open_string Tryz.underlying9 (r 0 9 B rfl rfl) o;obtain⟨a1,rfl,rfl,rfl,w1⟩:=open_int Tryz.underlying3 (r 1 3 n rfl rfl) G;obtain⟨a2,ael,aeI,rfl⟩:=okWide_slice Tryz.underlying36 (r 2 36 v2 rfl rfl);obtain⟨a3,aek,aeH,rfl⟩:=okWide_slice Tryz.underlying23 (r 3 23 v3 rfl rfl);obtain⟨a4,rfl,rfl,rfl,J⟩:=open_int Tryz.underlying3 (r 4 3 v4 rfl rfl) h4;obtain⟨a5,rfl,rfl,rfl,Z⟩:=open_string Tryz.underlying9 (r 5 9 c rfl rfl) h5;have lt2:∀x∈I,x.block<W.heap.size:=by obtain⟨m,C⟩:=O;exact DataW.trod_lt m _ _ _ C
  have lt3:∀x∈R,x.block<W.heap.size:=by obtain⟨m,C⟩:=Y;exact DataW.trod_lt m _ _ _ C
  have k2:=O;have k3:=Y;obtain⟨ps,rfl,c2⟩:∃ps:List Int,ps.length=ael/\OB W a2 ps:=by obtain⟨m,C⟩:=O;exact LW (fun _=>rfl) Tryz.underlying36 Tryz.underlying3 (by kernel_rfl) C
  obtain⟨D,rfl,c3⟩:∃D:List Int,D.length=aek/\OB W a3 D:=by obtain⟨m,C⟩:=Y;exact LW (fun _=>rfl) Tryz.underlying23 Tryz.underlying2 (by kernel_rfl) C
  clear hA0 Yo;refine(M a0 a5 a2 a3 aeI aeH ps D a1 a4 W (F2 E) (Na k) (Zr E) c2 c3 w1 J).mono fun e W' ⟨he,bel⟩=>?_
  subst he;exact⟨_,rfl,_,_,_,[],_,[],f,trodAll_mk1 (shut_bool Tryz.underlying4 _),(trodAll_cons_mk (shut_string Tryz.underlying9 V) (trodAll_cons_mk (shut_int Tryz.underlying3 w1) (trodAll_cons_mk (Below.trod KF (by kernel_rfl) (of_decide_eq_true (by kernel_rfl)) k2 bel lt2) (trodAll_cons_mk (Below.trod KF (by kernel_rfl) (of_decide_eq_true (by kernel_rfl)) k3 bel lt3) (trodAll_cons_mk (shut_int Tryz.underlying3 J) (trodAll_cons_mk (shut_string Tryz.underlying9 Z) trodAll_mk0)))))),rfl,bel.frame _,fun h=>by cases h⟩
theorem Hk(M:Walk):Rows.TakenSaid:=
 OpenClaim.holds_of_wide 7 Tryz.f7 rfl rfl rfl rfl rfl rfl rfl ⟨rfl,rfl,rfl,rfl,rfl⟩ rfl rfl rfl rfl rfl D7 Tryz.func7 D8
  (of_decide_eq_true (by kernel_rfl)) (by unfold Func.isWrapper;first|(rw[if_pos (by decide +kernel)];kernel_rfl)|(rw[if_neg (by decide +kernel)];exact⟨rfl,rfl⟩))
  (fun os y H enc _=>BZ M os y H enc)
theorem PS:OpenClaim.wfByText (OpenSpec.ofChange Rows.takenSpec) Rows.takenRow=true:=by kernel_rfl
theorem Hl:Tryz.pinned.checked.prog.mainIs=some (Rows.takenCard.stood.harness.fst,Rows.takenCard.stood.harness.snd.toList):=by kernel_rfl
theorem D6:true=Tryz.pinned.checked.prog.looks []:=by kernel_rfl
theorem BX:([9,3,36,23,3,9].all fun u=>!Tryz.prog.wantsStandIn u)=true:=by kernel_rfl
theorem Hm:false=Rows.takenRow.goesBy Tryz.pinned.checked.prog:=by kernel_rfl
theorem Hn (h:Rows.TakenSaid):Rows.TakenCardSaid:=
  Claim7.holds_tied_plain_at .later [] [.data,.data,.data,.data,.sentinel,.sentinel,.pinned] true Rows.takenCard.stood.harness true
    h (fun _ h=>by cases h) PS (fun _ h=>by cases h) taken_row_tie rfl ⟨rfl,rfl⟩ Hl rfl
    (fun f fn V o=>by
      obtain rfl:f=7:=Option.some.inj (D7.symm.trans V) |>.symm;obtain rfl:fn=Tryz.f7:=(Option.some.inj (Tryz.func7.symm.trans o)).symm
      exact⟨D6,fun j t N=>by
        rw[Tryz.params7]at N;have C:t∈[9,3,36,23,3,9]:=by simpa using Array.mem_of_getElem? N
        have Z:([9,3,36,23,3,9].all fun u=>!Tryz.prog.wantsStandIn u)=true:=BX
        exact(show Tryz.prog.wantsStandIn t=false by simpa using List.all_eq_true.1 Z t C)⟩)
    Hm
end
open Go.RowKit Go.Proofs Go.Maps Tryz
def i6(n:SN):Key:=(Ns n.a,n.op,Ns n.b)
def JC(n:SN):Bool:=n.kind==1&&(n.a.isVar||n.b.isVar)
def Da(n:SN):Bf n=if JC n then some (i6 n) else none:=by
 unfold Bf JC i6;by_cases h:n.kind=1/\(n.a.isVar=true∨n.b.isVar=true)
 ·rw[aD h,aD (by simp[h.1];exact h.2)]
 rw[aA h,aA (by simpa using h)]
def abu{X:World}{q t:Nat}{c0 c1 c2 c3 c4 c5 c6:Value}(h:X.heap[q]?=some (.cells #[c0,c1,c2,c3,c4,c5,c6] t (0,0)))(B n j b a c d:Value):(((((((X.setCell (Ad q 0) B).setCell (Ad q 1) n).setCell (Ad q 2) j).setCell (Ad q 3) b).setCell (Ad q 4) a).setCell (Ad q 5) c).setCell (Ad q 6) d).heap[q]?=some (.cells #[B,n,j,b,a,c,d] t (0,0)):=by
 have G:=aw (o:=0) h B;have O:=aw (o:=1) G n;have Y:=aw (o:=2) O j;have K:=aw (o:=3) Y b;have H:=aw (o:=4) K a;have E:=aw (o:=5) H c;have U:=aw (o:=6) E d;rw[U];simp only[cS,dm,cU]
def F0(bj:ByteArray)(wv ev:Value)(n:SN)(w:World):
  Cl 330 #[.agg (aK bj wv n ev)] w fun e I=>e=.returned (.tuple #[.agg (tD (i6 n)),.bool (JC n)])/\Below w.heap.size w I:=by
 obtain⟨kind,var,op,test,⟨g,av,ac⟩,⟨D,bv,bc⟩,goal⟩:=n;obtain⟨d,hd⟩:=Ea (JC ⟨kind,var,op,test,⟨g,av,ac⟩,⟨D,bv,bc⟩,goal⟩);rw[<-hd];have p:Hd (d=(kind==1&&(g||D))):=hd;clear hd;simp only[aK,tD,i6,Ns];go_enter func330,ntmps330
 go_upto_region 2 with(fail)
 generalize U:((w.alloc (.cells #[.string bj,wv,Iv kind,Iv var,Iv op,Iv test,.bool g,Iv av,Iv ac,.bool D,Iv bv,Iv bc,ev,.string goal] 152)).alloc (.cells DR 430)).alloc (.cells #[.bool g,Iv av,Iv ac,Iv op,.bool D,Iv bv,Iv bc] 430)=H;have R:Hd (Below w.heap.size w H/\d' H w.heap.size #[.string bj,wv,Iv kind,Iv var,Iv op,Iv test,.bool g,Iv av,Iv ac,.bool D,Iv bv,Iv bc,ev,.string goal] 152/\d' H (w.heap.size+1) DR 430/\d' H (w.heap.size+1+1) #[.bool g,Iv av,Iv ac,Iv op,.bool D,Iv bv,Iv bc] 430):=by
  subst U;obtain⟨S,Q,z,_⟩:=qf w (.cells #[.string bj,wv,Iv kind,Iv var,Iv op,Iv test,.bool g,Iv av,Iv ac,.bool D,Iv bv,Iv bc,ev,.string goal] 152) (.cells DR 430) (.cells #[.bool g,Iv av,Iv ac,Iv op,.bool D,Iv bv,Iv bc] 430) (.cells #[] 0);rw[ch _ _ _ (by simp;try omega)]at S Q z;exact⟨cq _ _ _ _,S,Q,z⟩
 clear U;obtain⟨F,y⟩:=ae R.b;obtain⟨B,o⟩:=ae R.c;obtain⟨x,j⟩:=ae R.C;have h:w.heap.size≠w.heap.size+1:=ah
 have V:w.heap.size+1+1≠w.heap.size+1:=ah
 have i:=h.symm;have k:=V.symm;have W:w.heap.size<=w.heap.size+1:=ah
 generalize Value.agg #[.string bj,wv,Iv kind,Iv var,Iv op,Iv test,.bool g,Iv av,Iv ac,.bool D,Iv bv,Iv bc,ev,.string goal]=f;cases X:(kind==1)
 ·obtain rfl:d=false:=by rw[p.o,X];rfl
  go_region
  all_goals
   go_wp2_with fail
   have a:=abu R.c (.bool g) (Iv av) (Iv ac) (Iv op) (.bool D) (Iv bv) (Iv bc);have b:Below w.heap.size w (((((((H.setCell (Ad (w.heap.size+1) 0) (.bool g)).setCell (Ad (w.heap.size+1) 1) (Iv av)).setCell (Ad (w.heap.size+1) 2) (Iv ac)).setCell (Ad (w.heap.size+1) 3) (Iv op)).setCell (Ad (w.heap.size+1) 4) (.bool D)).setCell (Ad (w.heap.size+1) 5) (Iv bv)).setCell (Ad (w.heap.size+1) 6) (Iv bc)):=by(iterate 7 refine rM ?_ W _);exact R.a
   generalize(((((((H.setCell (Ad (w.heap.size+1) 0) (.bool g)).setCell (Ad (w.heap.size+1) 1) (Iv av)).setCell (Ad (w.heap.size+1) 2) (Iv ac)).setCell (Ad (w.heap.size+1) 3) (Iv op)).setCell (Ad (w.heap.size+1) 4) (.bool D)).setCell (Ad (w.heap.size+1) 5) (Iv bv)).setCell (Ad (w.heap.size+1) 6) (Iv bc))=Y at a b⊢;have c:=(ae a).1;refine aG (v:=.tuple #[.agg #[.bool g,Iv av,Iv ac,Iv op,.bool D,Iv bv,Iv bc],.bool false]) (by simp[results,results330,go_sem,c]) rfl ⟨rfl,b.drew⟩
 cases g
 ·obtain rfl:d=D:=by rw[p.o,X];simp
  go_region
  all_goals
   go_wp2_with fail
   have a:=abu R.c (.bool false) (Iv av) (Iv ac) (Iv op) (.bool d) (Iv bv) (Iv bc);have b:Below w.heap.size w (((((((H.setCell (Ad (w.heap.size+1) 0) (.bool false)).setCell (Ad (w.heap.size+1) 1) (Iv av)).setCell (Ad (w.heap.size+1) 2) (Iv ac)).setCell (Ad (w.heap.size+1) 3) (Iv op)).setCell (Ad (w.heap.size+1) 4) (.bool d)).setCell (Ad (w.heap.size+1) 5) (Iv bv)).setCell (Ad (w.heap.size+1) 6) (Iv bc)):=by(iterate 7 refine rM ?_ W _);exact R.a
   generalize(((((((H.setCell (Ad (w.heap.size+1) 0) (.bool false)).setCell (Ad (w.heap.size+1) 1) (Iv av)).setCell (Ad (w.heap.size+1) 2) (Iv ac)).setCell (Ad (w.heap.size+1) 3) (Iv op)).setCell (Ad (w.heap.size+1) 4) (.bool d)).setCell (Ad (w.heap.size+1) 5) (Iv bv)).setCell (Ad (w.heap.size+1) 6) (Iv bc))=Y at a b⊢;have c:=(ae a).1;refine aG (v:=.tuple #[.agg #[.bool false,Iv av,Iv ac,Iv op,.bool d,Iv bv,Iv bc],.bool d]) (by simp[results,results330,go_sem,c]) rfl ⟨rfl,b.drew⟩
 obtain rfl:d=true:=by rw[p.o,X];rfl
 go_region
 all_goals
  go_wp2_with fail
  have a:=abu R.c (.bool true) (Iv av) (Iv ac) (Iv op) (.bool D) (Iv bv) (Iv bc);have b:Below w.heap.size w (((((((H.setCell (Ad (w.heap.size+1) 0) (.bool true)).setCell (Ad (w.heap.size+1) 1) (Iv av)).setCell (Ad (w.heap.size+1) 2) (Iv ac)).setCell (Ad (w.heap.size+1) 3) (Iv op)).setCell (Ad (w.heap.size+1) 4) (.bool D)).setCell (Ad (w.heap.size+1) 5) (Iv bv)).setCell (Ad (w.heap.size+1) 6) (Iv bc)):=by(iterate 7 refine rM ?_ W _);exact R.a
  generalize(((((((H.setCell (Ad (w.heap.size+1) 0) (.bool true)).setCell (Ad (w.heap.size+1) 1) (Iv av)).setCell (Ad (w.heap.size+1) 2) (Iv ac)).setCell (Ad (w.heap.size+1) 3) (Iv op)).setCell (Ad (w.heap.size+1) 4) (.bool D)).setCell (Ad (w.heap.size+1) 5) (Iv bv)).setCell (Ad (w.heap.size+1) 6) (Iv bc))=Y at a b⊢;have c:=(ae a).1;refine aG (v:=.tuple #[.agg #[.bool true,Iv av,Iv ac,Iv op,.bool D,Iv bv,Iv bc],.bool true]) (by simp[results,results330,go_sem,c]) rfl ⟨rfl,b.drew⟩
section
variable {a b k:Key} {ks:List Key}
open Go.RowKit Go.Proofs Go.Maps Tryz
structure nh(k:Key):Prop where
  av:(Lit.int .i64 k.1.2.1).wf=true
  ac:(Lit.int .i64 k.1.2.2).wf=true
  op:(Lit.int .i64 k.2.1).wf=true
  bv:(Lit.int .i64 k.2.2.2.1).wf=true
  bc:(Lit.int .i64 k.2.2.2.2).wf=true
def kxL(k:Key):List Lit:=[.bool k.1.1,.int .i64 k.1.2.1,.int .i64 k.1.2.2,.int .i64 k.2.1,.bool k.2.2.1,.int .i64 k.2.2.2.1,.int .i64 k.2.2.2.2]
def U! : kxL a=kxL b↔a=b:=by
 obtain⟨⟨a1,a2,a3⟩,a4,a5,a6,a7⟩:=a;obtain⟨⟨u,x,S⟩,O,d,e,c⟩:=b;simp[kxL,and_assoc]
def SF:Tryz.prog.cellsOf 430=7:=au
def SG:Tryz.prog.cellsOf 150=3:=au
def SH:Tryz.prog.cellsOf 147=1:=au
def abm:Tryz.prog.cellsOf 4=1:=au
def abn:Tryz.prog.cellsOf 3=1:=au
def abo:Tryz.prog.cellsOf 2=1:=au
def Ll(h:nh k):Tryz.prog.keyLits 5 430 (tD k).toList=some (kxL k):=by
 obtain⟨⟨a1,a2,a3⟩,a4,a5,a6,a7⟩:=k;obtain⟨G,O,Y,K,H⟩:=h;have d:=underlying430;have a:=underlying147;have u5:=underlying150;have f:=underlying4;have n:=underlying3;have i:=underlying2;simp only at G O Y K H;simp[Program.keyLits,tD,kxL,d,a,u5,f,n,i,SF,SG,SH,abm,abn,abo,G,O,Y,K,H];rw[aD aj,aD aj];rfl
def aaq:Tryz.prog.keyTypeAt 5 430=true:=au
def ad0(ha:nh a)(hb:nh b)(w:World):(binOp .eql 430 (.agg (tD a)) (.agg (tD b))).run Tryz.prog w=.ok (.bool (decide (a=b))) w:=by
 rw[run_eql_struct];obtain⟨r,L,hi⟩:=GQ (P:=Tryz.prog) 9995 5 430 aaq w 5 5 (.agg (tD a)) (.agg (tD b)) _ _ au au (Ll ha) (Ll hb);rw[U!]at hi;have:r=decide (a=b):=by rw[cR,hi];simp
 rw[<-this];simp only[Nat.reduceAdd]at L;rw[L];rfl
def Gk(w:World)(ao:Option Addr)(ks:List Key):Prop:=∀j k,ks[j]?=some k->∃b o,ao=some (Ad b o)/\∀i v,(tD k)[i]?=some v->w.cell? (Ad b (o+j*7+i))=some v
def Gk.below{w w':World}{Z:Option Addr}(h:Gk w Z ks)(hb:Bl w w'):Gk w' Z ks:=by
 intro j k U;obtain⟨b,o,e,c⟩:=h j k U;exact⟨b,o,e,fun i v hi=>ax (c i v hi) hb⟩
def zH(ks:List Key)(k:Key):Int:=if k∈ks then(ks.idxOf k:Nat) else -1
def Vh{j:Nat}(hn:k∉ks.take j)(hj:ks[j]?=some k):zH ks k=j:=by
 unfold zH;have hl:=(bn.1 hj).1;rw[aD (aL hj)]
 congr 1
 have e:ks=ks.take j++ks.drop j:=(wY j ks).symm;rw[e,J4,aA hn];have z:ks.drop j=k :: ks.drop (j+1):=by rw[oC hl,(bn.1 hj).2]
 rw[z,List.idxOf_cons_self,dL];omega
def Bg(a:Option Addr)(c:Nat)(ks:List Key)(k:Key)(w:World)(h:Gk w a ks)(hk:nh k)(r:∀x∈ks,nh x)(hl:ks.length<=100):
  Cl 332 #[.slice a ks.length c,.agg (tD k)] w (Rb w (Iv (zH ks k))):=by
 have l:=hid (Aa h (Aa hk r));clear h hk r;simp only[tD];go_enter func332,ntmps332
 go_wp2_with fail
 have R:Hd (Bl w (w.alloc (.cells (xd k.1.1 k.1.2.1 k.1.2.2 k.2.1 k.2.2.1 k.2.2.2.1 k.2.2.2.2) 430))/\d' (w.alloc (.cells (xd k.1.1 k.1.2.1 k.1.2.2 k.2.1 k.2.2.1 k.2.2.2.1 k.2.2.2.2) 430)) w.heap.size (xd k.1.1 k.1.2.1 k.1.2.2 k.2.1 k.2.2.1 k.2.2.2.1 k.2.2.2.2) 430):=⟨aC _ _,bf _ _⟩;generalize w.alloc (.cells (xd k.1.1 k.1.2.1 k.1.2.2 k.2.1 k.2.2.1 k.2.2.2.1 k.2.2.2.2) 430)=m at R⊢
 go_loopw[8] (fun p wr=>∃j:Nat,j<=ks.length/\p=Iv j/\Hd (k∉ks.take j/\Bl m wr)) (fun p _=>ks.length-(intOf p).toNat)
 case atStart=>exact⟨0,bB _,rfl,ak,aM _ _⟩
 obtain⟨j,U,rfl,M⟩:=hrel;by_cases J:j<ks.length;rotate_left
 ·have s:¬(j:Int)<(ks.length:Int):=ah
  have n:Hd (zH ks k=-1):=by
   have G:=M.a;rw[cP ah]at G;show _=_;unfold zH;rw[aA G]
  go_wp2_with fail
  go_ret
  exact⟨by rw[n.o];rfl,aq R.a M.A⟩
 have s:(j:Int)<(ks.length:Int):=ah
 obtain⟨x,E⟩:=La J;obtain⟨b,o,rfl,L⟩:=(l.a.below (aq R.a M.A)) j x E;have P:e' wr b (o+j*7) (.bool x.1.1):=L 0 _ rfl;have Y:e' wr b (o+j*7+1) (Iv x.1.2.1):=L 1 _ rfl;have t:e' wr b (o+j*7+2) (Iv x.1.2.2):=L 2 _ rfl;have X:e' wr b (o+j*7+3) (Iv x.2.1):=L 3 _ rfl;have q:e' wr b (o+j*7+4) (.bool x.2.2.1):=L 4 _ rfl;have u:e' wr b (o+j*7+5) (Iv x.2.2.2.1):=L 5 _ rfl;have i:e' wr b (o+j*7+6) (Iv x.2.2.2.2):=L 6 _ rfl;obtain⟨F,y⟩:=ae (aE M.A R.A);have A:=fun w=>ad0 l.b (l.B x (aL E)) w
 simp only[tD]at A;have g:Tryz.prog.eqGuardType Tryz.prog.depth 430=false:=au
 have f:=hid E;clear L E;by_cases H:k=x
 ·rw[eT H]at A
  have n:Hd (zH ks k=j):=Vh M.a (by rw[H];exact f.o);have d:=hid H;clear H
  go_wp2_with fail
  go_region
  all_goals
   go_wp2_with fail
   go_ret
   exact⟨by rw[n.o];rfl,(aq R.a M.A).drew⟩
 rw[eS H]at A;have d:=hid H;clear H
 go_wp2_with fail
 go_region
 all_goals
  go_wp2_with fail
  go_roundw
  case rel=>
   refine⟨j+1,J,h',?_,M.A.drew⟩;rw[dS J,(bn.1 f.o).2];simp only[jH,ja,not_or];exact⟨M.a,d.o⟩
  simp[intOf];omega
def N3(a:Option Addr)(c:Nat)(ks:List Key)(k:Key)(w:World)(h:Gk w a ks)(hk:nh k)(r:∀x∈ks,nh x)(hl:ks.length<=100):
  Cl 331 #[.slice a ks.length c,.agg (tD k)] w (Rb w (.bool (decide (k∈ks)))):=by
 have f:Hd (∀W,Bl w W->Cl 332 #[.slice a ks.length c,.agg (tD k)] W (Rb W (Iv (zH ks k)))):=fun W U=>Bg a c ks k W (h.below U) hk r hl
 clear h hk r;obtain⟨d,hd⟩:=Ea (zH ks k);have p:Hd (decide (k∈ks)=decide (0<=d)):=by
  show _=_;rw[hd];unfold zH;split<;>simp_all
 rw[<-hd]at f;clear hd;simp only[tD]at f⊢;go_enter func331,ntmps331
 go_wp2_with (go_at_call 332;refine(f.o _ (aC _ _)).mono ?_;rintro e T ⟨rfl,A⟩;have R:=hid A;clear A)
 go_ret
 exact⟨by rw[p.o];rfl,aq (aC _ _) R.o⟩
end
open Go.RowKit Go.Proofs Go.Maps Tryz
def aeG(e:PE)(w:World):(Instr.field 228 (.agg (KC.aH e).toArray) 1).run Tryz.prog w=.ok (.agg (KC.aH e).tail.toArray) w:=by
 have E:=underlying228;simp[Instr.field,tK E,go_sem,KC.aH,asAgg]
def aeF(q:Bool)(l:Int)(w:World):(Instr.field 225 (.agg #[.bool q,Iv l]) 0).run Tryz.prog w=.ok (.bool q) w:=by
 have E:=underlying225;simp[Instr.field,tK E,go_sem,asAgg]
def YS(vs:List Vl)(said:Int->PE)(i:Nat):Bool:=match vs[i]? with|some v=>!v.early||((said v.rank).at i).any|none=>true
def zO(va:Option Addr)(vc fk:Nat)(caps:Array Value)(vs:List Vl)(said:Int->PE)(w:World)(h:jA w va vs)(hn:vs.length<=8)(E:∀n w,(callFunc fk n).run Tryz.prog w=.ok (.enter fk n) w)
  (T:∀v∈vs,v.early=true->∀W,Bl w W->Cl fk (#[Iv v.rank]++caps) W (Rb W (.agg (KC.aH (said v.rank)).toArray))):
  Cl 238 #[.slice va vs.length vc,.func (.func fk) #[] caps] w (Rb w (.bool ((List.range vs.length).all (YS vs said)))):=by
 have l:=hid (Aa h T);clear h T;go_enter func238,ntmps238
 go_wp2_with fail
 go_loopw[9] (fun p wr=>∃i:Nat,i<=vs.length/\p=Iv i/\Hd ((List.range i).all (YS vs said)=true/\Bl w wr)) (fun p _=>vs.length-(intOf p).toNat)
 case atStart=>exact⟨0,bB _,rfl,rfl,aM _ _⟩
 obtain⟨i,hi,rfl,M⟩:=hrel;by_cases J:i<vs.length;rotate_left
 ·have s:¬(i:Int)<(vs.length:Int):=ah
  have a:i=vs.length:=ah
  go_wp2_with fail
  go_ret
  exact⟨by have G:=M.a;rw[a]at G;rw[G];rfl,M.A⟩
 have s:(i:Int)<(vs.length:Int):=ah
 have B:i<8:=ah
 obtain⟨v,t⟩:=La J;obtain⟨b,o,rfl,P,Y,c,X,k,u⟩:=l.a i v t;have z:=ax P M.A;have C:=ax Y M.A;have j:=ax c M.A;have K:=ax X M.A;have m:=ax k M.A;have N:=ax u M.A;have R:Hd (YS vs said i=(!v.early||((said v.rank).at i).any)):=by show _=_;unfold YS;rw[t]
 have f:=hid (l.A v (aL t));clear P Y c X k u t;obtain⟨kind,lo,x,early,first,rank⟩:=v;simp only at z C j K m N R f;generalize said rank=e at R f;cases early
 ·go_wp2_with fail
  go_roundw
  case rel=>exact⟨i+1,J,h',by rw[d!,M.a,R.o];rfl,M.A.alloc M.A.size _⟩
  simp[intOf];omega
 have H:=fun W=>aeG e W
 have L:=fun W=>KC.Qn e B W
 have F:=fun q W=>aeF q (e.at i).lo W
 have d:=hid (f.o rfl);obtain⟨q,A⟩:=Ea ((e.at i).any);rw[<-A]at R;simp only[<-A]at L;clear A;cases q
 ·go_wp2_with (refine(d.o _ (M.A.alloc M.A.size _)).mono ?_;rintro r y ⟨rfl,D⟩;have g:=hid (aq (M.A.alloc M.A.size _) D);clear D;simp only[Act.put,cS,dm,cU])
  go_ret
  exact⟨by rw[fS R.o J];rfl,g.o⟩
 go_wp2_with (refine(d.o _ (M.A.alloc M.A.size _)).mono ?_;rintro r y ⟨rfl,D⟩;have g:=hid (aq (M.A.alloc M.A.size _) D);clear D;simp only[Act.put,cS,dm,cU])
 go_roundw
 case rel=>exact⟨i+1,J,h',by rw[d!,M.a,R.o];rfl,g.o⟩
 simp[intOf];omega
section
variable {F:World->Prop} {w:World} {a b:Obj} {R:RS} {N B:Nat}
open Go.RowKit Go.Shelf Go.Proofs Go.Maps Tryz
attribute [local go_sem] Oper.semAt_some
structure SnS{σ:Type}(R:RS)(N:Nat)(rd:List BS)(nx:σ->Nat->BS->BS->σ)(Inv:σ->List BS->BS->Prop)(s0:σ):Prop where
  start:Inv s0 (List.replicate N (0,0)) (jK N)
  skip:∀s hs wt x,Inv s hs wt->OY N hs wt->x∈c8 wt->zS (eH (jU R (cn hs) x) (cn hs x))=true->Inv s hs (eH wt (cH [x]))
  step:∀s hs wt x,Inv s hs wt->OY N hs wt->x∈c8 wt->zS (eH (jU R (cn hs) x) (cn hs x))=false->Inv (nx s x (cn hs x) (eP (cn hs x) (jU R (cn hs) x))) (hs.set x (eP (cn hs x) (jU R (cn hs) x))) (eP (eH wt (cH [x])) (rd.getD x (0,0)))
structure ChS{σ:Type}(S:Nat->Prop)(C:σ->World->Prop)(w:World)(R:RS)(N fk pb:Nat)(caps:Array Value)(nx:σ->Nat->BS->BS->σ)(Inv:σ->List BS->BS->Prop):Prop where
  low:∀k,S k->k<w.heap.size
  cel:∀s W k o,C s W->S k->W.heap[k]?=some o->o.isCells=true
  L6:∀s W W',C s W->(∀k,S k->W'.heap[k]?=W.heap[k]?)->C s W'
  tab:¬S 0
  pk:¬S pb
  pbl:pb<w.heap.size
  fn:∀xs w,(callFunc fk xs).run Tryz.prog w=.ok (.enter fk xs) w
  call:∀s hs wt W x,Inv s hs wt->OY N hs wt->x∈c8 wt->zS (eH (jU R (cn hs) x) (cn hs x))=false->C s W->kB W->Cl fk (#[Iv x,b! (cn hs x),b! (eP (cn hs x) (jU R (cn hs) x))]++caps) W fun e w'=>e=.returned (b! (eP (cn hs x) (jU R (cn hs) x)))/\C (nx s x (cn hs x) (eP (cn hs x) (jU R (cn hs) x))) w'/\Kx S W w'
def gnB(h:∀V,Hd (Bl w V/\V.heap[w.heap.size]?=some a/\V.heap[w.heap.size+1]?=some b/\V.heap.size=w.heap.size+1+1)->F V):F ((w.alloc a).alloc b):=h _ ⟨aX _ _ _,(aN _ _ _).1,(aN _ _ _).2,ak⟩
def gnD{c d:Obj}(h:∀V,Hd (Bl w V/\V.heap[w.heap.size]?=some a/\V.heap[w.heap.size+1]?=some b/\V.heap[w.heap.size+1+1]?=some c/\V.heap[w.heap.size+1+1+1]?=some d/\V.heap.size=w.heap.size+1+1+1+1)->F V):F ((((w.alloc a).alloc b).alloc c).alloc d):=h _ (by obtain⟨G,O,Y,K⟩:=qf w a b c d;exact⟨dD _ _ _ _ _,G,O,Y,K,ak⟩)
def LH(h:∀V,Hd (V.heap[w.heap.size]?=some a/\Bl w V)->F V):F (w.alloc a).drew:=h _ ⟨bf w a,(aC w a).drew⟩
def qA(h:∀V,Hd (Bl w V/\V.heap[w.heap.size]?=some a/\V.heap.size=w.heap.size+1)->F V):F (w.alloc a):=h _ ⟨aC _ _,bf _ _,ak⟩
abbrev Qi(R:RS)(N:Nat):List BS:=tA (R.map fun r=>r.2.map (·.1)) N N
def Ck(h:N<=60)(x:Nat):bF ((Qi R N).getD x (0,0)):=xS _ N N ah x
def Uq(h:DB R N)(x:Nat):∀y∈c8 ((Qi R N).getD x (0,0)),y<N:=fun y T=>by
 have C:=h.most;obtain⟨G,O⟩:=(cA _ (Ck C x) y).1 T;rw[Dq _ N x y G (fun m f V=>?_) N ah,aS]at O
 ·simpa using O.1
 rw[cx,bG]at V;cases L:R[m]? with
 |none=>rw[L]at V;simp at V
 |some r=>
  rw[L]at V;simp at V;obtain⟨b,D⟩:=V;exact((h.each r (aL L)).2.2 _ D).2
section
variable {σ H:Type} (Rs:σ->H->World->Prop) (ab pb qb:Nat) (Inv:σ->H->BS->Prop) (Sh:H->BS->Prop) (mu:H->BS->Nat)
def O1(τ:σ×H×BS)(W:World):Prop:=∃pv,Rs τ.1 τ.2.1 W/\W.heap[ab]?=some (zW τ.2.2 pv)/\jB W pb pv/\Inv τ.1 τ.2.1 τ.2.2/\Sh τ.2.1 τ.2.2
def Y8(τ:σ×H×BS)(W:World):Prop:=Rs τ.1 τ.2.1 W/\Inv τ.1 τ.2.1 (0,0)/\Sh τ.2.1 (0,0)
def Y7(x:Nat)(τ:σ×H×BS)(W:World):Prop:=∃pv,Rs τ.1 τ.2.1 W/\W.heap[ab]?=some (zW (eH τ.2.2 (cH [x])) pv)/\jB W pb pv/\Inv τ.1 τ.2.1 τ.2.2/\Sh τ.2.1 τ.2.2/\x∈c8 τ.2.2
def ltS(a b:σ×H×BS):Prop:=mu a.2.1 a.2.2<mu b.2.1 b.2.2
def L3{W:World}{ab:Nat}{s t:BS}{p q:Value}(h:W.heap[ab]?=some (zW s p))(k:W.heap[ab]?=some (zW t q)):s=t/\p=q:=by
 rw[h]at k;simp only[zW,dG,Obj.cells.injEq]at k;have G:=k.1;simp at G;exact⟨Prod.ext (J3 G.1) (J3 G.2.1),G.2.2⟩
structure RsK:Prop where
  keep:∀s hs W W' X,Rs s hs W->Kx X W W'->(∀k,X k->k=ab∨qb<k)->(∀k o,X k->W.heap[k]?=some o->o.isCells=false∨∃c f,o=.cells c 323 f)->Rs s hs W'
  tab:∀s hs W,Rs s hs W->kB W
  box:∀s hs W,Rs s hs W->W.heap[qb]?=some (.cells (bE ab) 379 (0,0))
variable {Rs ab pb qb Inv Sh mu}
def XU{p:Prop}(h:p:=by
 intro τ W i row z m L;obtain⟨Q,G,O,Y,K⟩:=z;have E:Kx (fun k=>row=some k) W i:=⟨m.os,m.tape,m.output,m.size,fun k X J=>m.block k X fun e=>J e.symm⟩;have J:∀k,k<B->¬row=some k:=fun k X e=>by have:=(L k e).1;omega
 exact⟨Q,h.keep _ _ _ _ _ G E (fun k e=>by have:=(L k e).1;omega) (fun k o e g=>by obtain⟨_,f,G,O⟩:=L k e;rw[G]at g;cases g;exact aJ O),E.box O (J _ ha),Y.keep fun o u Z=>E.cell Z (J _ hb),K⟩):p:=h
def O1.own(h:RsK Rs ab qb)(hb:pb<B)(hq:qb<B)(ha:ab<B):OwnFrom B (O1 Rs ab pb Inv Sh):=by
 exact XU
def Y8.own(h:RsK Rs ab qb)(hq:qb<B):OwnFrom B (Y8 Rs Inv Sh):=by
 intro τ W i row z m L;have E:Kx (fun k=>row=some k) W i:=⟨m.os,m.tape,m.output,m.size,fun k X J=>m.block k X fun e=>J e.symm⟩;exact⟨h.keep _ _ _ _ _ z.1 E (fun k e=>by have:=(L k e).1;omega) (fun k o e g=>by obtain⟨_,f,G,O⟩:=L k e;rw[G]at g;cases g;exact aJ O),z.2⟩
def Y7.own(h:RsK Rs ab qb)(hb:pb<B)(hq:qb<B)(ha:ab<B)(x:Nat):OwnFrom B (Y7 Rs ab pb Inv Sh x):=by
 exact XU
def O1.it(h:RsK Rs ab qb)(b:∀h c,Sh h c->bF c)(n:Nat)(hn:1<=n)(P:ab≠pb)(a:ab≠qb)(s0:σ×H×BS)(l:Nat)(K:World->Prop)(W:World)(u:∀A B,K A->KeepsOthers A B->K B)
  (p:∀s x T,Y7 Rs ab pb Inv Sh x s T->K T->YieldAt Fence.wide (n-1) Tryz.prog l #[Iv x] T fun e i=>e=.returned (.bool true)/\(∃C,ltS mu C s/\O1 Rs ab pb Inv Sh C i)/\K i) (h0:O1 Rs ab pb Inv Sh s0 W) (m:K W):
  CallsIn Fence.wide n Tryz.prog 268 (#[.func (.yield l) #[] #[]]++(bE qb)) W fun e i=>(∃v,e=.returned v)/\(∃s,Y8 Rs Inv Sh s i)/\K i:=by
 refine M9 n hn ab pb qb (O1 Rs ab pb Inv Sh) (Y8 Rs Inv Sh) (Y7 Rs ab pb Inv Sh) (fun τ=>mu τ.2.1 τ.2.2) P a ?_ ?_ ?_ s0 l K W u p h0 m
 ·rintro τ W ⟨Q,G,O,Y,_,q⟩
  exact⟨_,Q,O,Y,b _ _ q,h.tab _ _ _ G,h.box _ _ _ G⟩
 ·rintro⟨s,z,c⟩ W Q ⟨d,G,O,Y,r,q⟩ R
  obtain⟨rfl,_⟩:=L3 O R;exact⟨G,r,q⟩
 rintro⟨s,z,c⟩ W j Q x d i ⟨f,G,O,Y,r,q⟩ y E D t X;obtain⟨rfl,_⟩:=L3 O y.ag;exact⟨d,h.keep _ _ _ _ _ G X (fun k e=>aJ e) (fun k o e g=>by subst e;rw[y.ag]at g;cases g;exact aI ⟨_,_,rfl⟩),D,t,r,q,E⟩
end
def MC{σ:Type}(S:Nat->Prop)(C:σ->World->Prop)(rb B N fk pb:Nat)(R:RS)(caps:Array Value)(pa:Option Addr)(pl pc:Nat)(w:World)(nx:σ->Nat->BS->BS->σ)(Inv:σ->List BS->BS->Prop)(s0:σ)
  (YM:∀W,Kx S w W->nO W B rb R) (hI:DB R N) (hN1:1<=N) (hP:SnS R N (Qi R N) nx Inv s0) (hH:ChS S C w R N fk pb caps nx Inv) (J:kB w) (A?:jB w pb (.slice pa pl pc)) (VB:C s0 w):
  Cl 151 #[cK rb N,.slice pa pl pc,.func (.func fk) #[] caps] w fun e I=>∃s hs,e=.returned (.slice (eD w.heap.size) N N)/\I.heap[w.heap.size+1+1]?=some (.cells (cG hs).toArray 267 (0,0))/\C s I/\Kx S w I/\Inv s hs (0,0)/\hs.length=N/\∀s∈hs,bF s:=by
 have hm:=hI.most;refine(fX (n:=6)).1 ?_;refine callsIn_of_wp_marks func151 rfl trivial ?_ rfl;simp only[cK,ntmps151,kd,bT,eI,Nat.reduceAdd,Nat.reduceSub,rQ,rP,rO,rN,dT,dw];have O:Hd (∀W,Cl 208 #[Iv N] W (Rb W (b! (jK N)))):=fun W=>oF N W ah
 have HR:Hd (∀W,Kx S w W->Cl 225 #[cK rb N] W fun e I=>∃g,e=.returned (b? g N)/\W.heap.size<=g/\I.heap[g]?=some (.cells (cG (Qi R N)).toArray 267 (0,0))/\Bl W I):=by
  intro W hW;obtain⟨rl,h1,h2⟩:=YM W hW;have hl:rl.length=N:=by have:=dv List.length h2;simp[Ht]at this;rw[this,hI.len]
  have NK:C5 rl=R.map fun r=>r.2.map (·.1):=by
   have:=dv (List.map fun r=>r.2.map (·.1)) h2
   simpa[Ht,C5,kJ,wH]using this
  refine(B! rb B N rl W h1 hl hm (fun r hr=>?_)).mono ?_;rotate_left
  ·rintro e I ⟨g,rfl,a,b,c⟩
   rw[NK]at b;exact⟨g,rfl,a,b,c⟩
  obtain⟨k,hk⟩:=i!.1 hr;have h3:=dv (fun l=>l[k]?) h2;simp only[Ht,bG,hk,kI]at h3;cases hq:R[k]? with
  |none=>rw[hq]at h3;simp at h3
  |some q=>
   rw[hq]at h3;simp at h3;have tF:=hI.each q (aL hq);refine⟨by rw[h3.2];simp;exact tF.2.1,⟨q.1,h3.1⟩,fun e he=>?_⟩;rw[h3.2]at he;obtain⟨x,hx,rfl⟩:=bP.1 he;exact⟨(tF.2.2 x hx).2,_,_,_,rfl⟩
 obtain⟨i1,hi,lu,Lv,mC⟩:=cY pU;have HJ:Hd (_/\_/\_/\_):=⟨hi,lu,Lv,mC⟩;have G:=hid (Aa YM (Aa hI (Aa hP (Aa hH (Aa J (Aa A? VB))))));clear hi lu Lv mC YM hI hP hH J A? VB;simp only[b!,cK]at O HR;refine rL.2 ?_
 go_upto_region 1 with(fail)
 refine gnB (F:=Code.wp _ _ _ _) fun W0 HB=>?_
 obtain⟨F,x2⟩:=ae HB.b;have lu:=HB.C
 go_upto_region 2 with(at_make;refine il _ rfl (.tmp 15) (.tmp 15) 264 rfl W0.heap.size 267 i1 _ 2 underlying264 HJ.a HJ.b HJ.c .i64 .i64 N N N rfl rfl rfl rfl (by rw[HJ.C];omega) (by unfold maxLen;omega) ak ?_;intro W1 h! Y;have HO:=hid (Aa h! Y);clear h! Y)
 have HM:Hd (W1.heap[w.heap.size+1+1]?=some (.cells (cG (List.replicate N (0,0))).toArray 267 (0,0))/\Bl W0 W1):=by
  have h1:=HO.a;rw[dX _ 2 (by simp[Value.cells]) N]at h1;refine⟨?_,(aM _ _).grown HO.A (aF _) (fun q e=>by cases e)⟩;rw[<-lu,(e? h1).1,<-wq];rfl
 clear HO F x2;refine qA (F:=Code.wp _ _ _ _) fun W2 ni=>?_
 go_upto_region 3 with(fail)
 refine qA (F:=Code.wp _ _ _ _) fun W3 t=>?_
 have mC:=ni.B;have hbl:w.heap.size+1+1<W1.heap.size:=blt HM.a;have L2:=aq ni.a t.a;have OX:=aq HM.A L2;have f6:=t.b;have f7:=t.B;rw[mC]at f6 f7;have H3:=hid (Aa (aq HB.a OX) (Aa (aE OX HB.b) (Aa (aE OX HB.c) (Aa (aE L2 HM.a) (Aa (aE t.a ni.b) (Aa f6 f7))))));rw[mC];clear HB HM ni t lu mC L2 OX f6 f7;generalize W1.heap.size=bx at *;obtain⟨F,x2⟩:=ae H3.b
 go_upto_region 4 with(go_at_call 225;refine(HR.o _ (Kx.of H3.a)).mono ?_;rintro e W4 ⟨g,rfl,h1,h2,h3⟩;have H4:=hid (Aa h1 (Aa h2 h3));clear h1 h2 h3 F x2)
 refine qA (F:=Code.wp _ _ _ _) fun W5 Gl=>?_
 have S6:=aq H4.B Gl.a;obtain⟨F,x2⟩:=ae (aE S6 H3.b)
 go_upto_region 5 with(go_at_call 208;refine(O.o _).mono ?_;rintro e W6 ⟨rfl,h1⟩;have H6:=hid h1;clear h1 F x2)
 refine qA (F:=Code.wp _ _ _ _) fun W7 wE=>?_
 have HN:Hd (∀W,Cl 209 (bE W6.heap.size) W fun e I=>e=.returned (.func (.func 268) #[] (bE W.heap.size))/\I=W.alloc (.cells (bE W6.heap.size) 379)):=fun W=>vr _ W
 go_wp2_with (go_at_call 209;refine(HN.o _).mono ?_;rintro e W8 ⟨rfl,rfl⟩)
 refine qA (F:=Code.wp _ _ _ _) fun W8 Br=>?_
 have hzq:W6.heap.size<W7.heap.size:=by rw[wE.B];omega
 have zV:=aq S6 (aq H6.o (aq wE.a Br.a));have hab:W5.heap.size<=W6.heap.size:=H6.o.size;have hrx:=Gl.B;have DJ:=blt H4.b;have hg2:=H4.a;have Jp:=H3.F;have f8:=Br.b
 have H8:Hd (Y5 S C w rb N fk caps (Qi R N) bx g W4.heap.size W7.heap.size W6.heap.size s0 (List.replicate N (0,0)) W8/\W8.heap[W6.heap.size]?=some (zW (jK N) (.slice pa pl pc))/\W8.heap.size=W7.heap.size+1):=
  ⟨⟨Kx.of (aq H3.a zV),G.d.L6 _ _ _ G.F (fun k hk=>(aq H3.a zV).block k (G.d.low k hk)),G.e.below (aq H3.a zV),aE zV H3.b,aE zV H3.c,aE zV H3.d,aE zV H3.e,aE zV H3.f,aE (aq Gl.a (aq H6.o (aq wE.a Br.a))) H4.b,aE (aq H6.o (aq wE.a Br.a)) Gl.b,f8,hbl,ah,DJ,ah,ah⟩,aE Br.a wE.b,Br.B⟩
 have aep:=G.d.pbl;have hw8:=H3.a.size;have hP8:Hd (jB W8 pb (.slice pa pl pc)):=G.f.keep fun o u h=>ax h (aq H3.a zV)
 have l1:bx+1<g:=ah
 have l2:W4.heap.size<W6.heap.size:=ah
 clear Gl wE Br H6 H4 H3 S6 zV HN HR O f8 hrx Jp hg2 hab;generalize W4.heap.size=Ih at *;generalize W6.heap.size=ab at *;generalize W7.heap.size=qb at *;obtain⟨Rs,VF⟩:=Ea (Y5 S C w rb N fk caps (Qi R N) bx g Ih qb ab);rw[<-VF]at H8;have M:Hd (RsK Rs ab qb):=by
  rw[VF];exact⟨fun s hs W W' X h hk hX _=>h.keep G.d.low G.d.L6 (dQ (G.e 0 aj)) hk hX,fun s hs W h=>h.tab,fun s hs W h=>h.box⟩
 have WA:=hid VF;have hz8:qb<W8.heap.size:=by rw[H8.B];omega
 clear VF;refine(rL (n:=6)).1 ?_
 refine KO (σ:=σ×List BS×BS) (α:=Nat) rfl ah (gf:=268) (lb:=(bE qb)) rfl trivial (fun xs w=>Tryz.call268 xs w) (N4:=fun x=>#[Iv x]) (fun _=>rfl)
  (O1 Rs ab pb Inv (OY N)) (Y8 Rs Inv (OY N)) (Y7 Rs ab pb Inv (OY N)) (ltS Z9) (O1.own M.o ah ah ah) (Y8.own M.o ah) (Y7.own M.o ah ah ah) (s0:=(s0,List.replicate N (0,0),jK N)) ⟨_,H8.a,H8.b,hP8.o,G.c.start,⟨ak,fun s hs=>by rw[ji hs];exact⟨aj,aj⟩,oG N ah,Ko ah⟩⟩
  (O1.it M.o (fun _ _ h=>h.wi) 5 ah ah ah _)
  (fun x=>{tmps:=#[Value.agg (bV rb N),.slice pa pl pc,.func (.func fk) #[] caps,.pointer (cu w.heap.size),undef,.pointer (cM w.heap.size),.slice none 0 0,.pointer (some (Ad bx 0)),.pointer (cM bx),.pointer (some (Ad Ih 0)),.pointer (some (Ad ab 0)),Iv x,undef,.pointer (cu w.heap.size),.slice (some (Ad rb 0)) N N,Iv N,.slice (eD w.heap.size) N N,.func (.func 224) #[] (bE bx),.agg (bV rb N),.slice (some (Ad g 0)) N N,.pointer (cu w.heap.size),.slice (some (Ad rb 0)) N N,Iv N,.agg #[Uv ((jK N).1:Int),Uv ((jK N).2:Int)],.slice pa pl pc,.agg #[Uv ((jK N).1:Int),Uv ((jK N).2:Int),.slice pa pl pc],.func (.func 268) #[] (bE qb),Iv x,undef,undef,undef,undef,undef,undef,undef,undef,undef,undef,undef,undef,undef,undef,undef,undef,undef,undef,undef,undef,undef,undef,undef,undef,undef,undef,undef,undef,undef,undef,undef,undef,undef,undef,undef,undef,undef],defers:=[]}) ?assign ?body ?done
 case assign=>
  intro l x W K hK
  gi_wp2
  exact hK
 case body=>
  rintro l ⟨s,hs,wt⟩ x W ⟨pv,h1,h2,h3,h4,h5,E⟩;simp only at h1 h2 h3 h4 h5 E;rw[WA.o]at h1;have Rn:=h5.low x E;have hxi:(x:Int)<N:=ah
  have hhi:=eW h5.each x;have Vm:=xE G.b (eW h5.each) x;have HSy:Hd (∀W',Bl W W'->Cl 226 #[cK rb N,Iv x,.func (.func 224) #[] (bE bx)] W' (Rb W' (b! (jU R (cn hs) x)))):=by
   intro W' hW;refine t? rb B N x _ R _ (cn hs) W' (G.a W' (h1.k.trans (Kx.of hW))) G.b Rn (eW h5.each) (fun xs w=>Tryz.call224 xs w) fun m hm' W2 T=>?_
   exact zv bx m _ N N hs W2 (aE T (aE hW h1.eB)) h5.len hm hm' (Ge (aE T (aE hW h1.held)))
  have HPa:Hd (∀W',Cl 296 #[b! (jU R (cn hs) x),b! (cn hs x)] W' (Rb W' (.bool (zS (eH (jU R (cn hs) x) (cn hs x)))))):=fun W'=>ri _ _ W' Vm hhi
  have Ow:Hd (∀(X:World) b,X.cell? (Ad b 0)=some (Uv ((cn hs x).1:Int))->X.cell? (Ad b 1)=some (Uv ((cn hs x).2:Int))->X.cell? (Ad b 2)=some (Uv ((jU R (cn hs) x).1:Int))->X.cell? (Ad b 3)=some (Uv ((jU R (cn hs) x).2:Int))->Cl 267 (oE b) X (Rb X (b! (eP (cn hs x) (jU R (cn hs) x))))):=fun X b c0 c1 c2 c3=>e8 X b _ _ hhi Vm c0 c1 c2 c3
  have HCh:=hid (fun(hb:zS (eH (jU R (cn hs) x) (cn hs x))=false) W' (Z:C s W') (J:kB W')=>G.d.call s hs wt W' x h4 h5 E hb Z J);have Ze:Hd (∀W' UD,W'.heap[ab]?=some (zW (eH wt (cH [x])) UD)->Cl 211 #[.pointer (some (Ad ab 0)),b! ((Qi R N).getD x (0,0))] W' fun e I=>(∃v,e=.returned v)/\I.heap[ab]?=some (zW (eP (eH wt (cH [x])) ((Qi R N).getD x (0,0))) UD)/\Kx (·=ab) W' I):=fun W' UD h=>L4 ab _ _ UD W' h (jj _ _) (Ck hm x)
  have HSk:=hid (G.c.skip s hs wt x h4 h5 E);have HSt:=hid (G.c.step s hs wt x h4 h5 E);have HMu:=hid (fun h=>Le (hs:=hs) (x:=x) (said:=jU R (cn hs) x) (by rw[h5.len];exact Rn) hhi h);have f:=hid (Aa h1 (Aa h2 (Aa h3 (Aa h5 (Aa E (Aa hhi Vm))))));obtain⟨c0,c1,c2,c3⟩:=gT h1.held (k:=x) (by rw[h5.len];exact Rn);rw[show hs.getD x (0,0)=cn hs x from rfl]at c0 c1;obtain⟨F,x2⟩:=ae h1.sys;obtain⟨y1,y2⟩:=ae h1.hold;clear h1 h2 h3 h4 h5 E hhi Vm c2 c3;simp only[b!,cK]at HSy HPa Ow Ze HCh
  gi_wp2_with (refine⟨trivial,?_⟩;gi_at_call 226;refine(CallsIn.inRound l (fX.2 (HSy.o _ (aM _ _)))).mono ?_;rintro e W1 ⟨rfl,A⟩;have j?:=hid A;clear A c0 c1 F x2 y1 y2)
  refine qA (F:=fun V=>Code.wpIn _ _ _ _ _ _ V) fun U O=>?_
  have Td:=hid (fun W' (zM:Bl U W')=>Aa (aE zM (aE O.a (aE j?.o f.a.sys))) (Aa (aE zM (aE O.a (aE j?.o f.a.eB))) (Aa (aE zM (aE O.a (aE j?.o f.a.held))) (aE zM O.b))));have HCe:Hd (∀W':World,W'.heap[w.heap.size+1+1]?=some (.cells (cG hs).toArray 267 (0,0))->W'.cell? (Ad (w.heap.size+1+1) (x*2))=some (Uv ((cn hs x).1:Int))/\W'.cell? (Ad (w.heap.size+1+1) (x*2+1))=some (Uv ((cn hs x).2:Int))/\W'.frozen? (Ad (w.heap.size+1+1) (x*2))=false/\W'.frozen? (Ad (w.heap.size+1+1) (x*2+1))=false):=fun W' h=>gT h (k:=x) (by rw[f.d.len];exact Rn)
  refine Zu (l:=l) (fun W'=>Bl U W') 8 (hS:=(aM _ _).drew) (h:=fun aB=>?_);refine tt 0 (.pointer (some (Ad w.heap.size 2))) (h:=?_);refine tt 1 mI (y:=fun W' aU=>by have L:=(ae (Td.o _ aU).1).1;clear aB aU;go_simp) (h:=?_);refine tt 2 (.agg #[Uv ((jU R (cn hs) x).1:Int),Uv ((jU R (cn hs) x).2:Int)]) (y:=fun W' aU=>by have L:=(ae (Td.o _ aU).2.2.2).1;clear aB aU;go_simp) (h:=?_);refine tt 3 (.slice (eD w.heap.size) N N) (y:=fun W' aU=>by have L:=(ae (Td.o _ aU).2.1).1;clear aB aU;go_simp) (h:=?_);refine tt 4 (Iv x) (h:=?_);refine tt 5 (.pointer (some (Ad (w.heap.size+1+1) (x*2)))) (h:=?_);refine tt 6 (.agg #[Uv ((cn hs x).1:Int),Uv ((cn hs x).2:Int)]) (y:=fun W' aU=>by obtain⟨L,k2,_,_⟩:=HCe.o _ (Td.o _ aU).2.2.1;clear aB aU;go_simp) (h:=?_);refine rt 7 (h:=fun K hK=>?_)
  go_simp
  refine bA (HPa.o _) ?_;rintro e W2 ⟨rfl,uz⟩;have ni:Hd (Bl U W2):=aq aB uz;clear uz aB;refine hK.out _ _ (fun _=>ni.o) ?_;clear hK K;refine pt ?_;refine dt (h:=?_);have pq:=hid (aq j?.o (aq O.a ni.o));cases o?:zS (eH (jU R (cn hs) x) (cn hs x))with
  |true=>
   gi_wp2
   refine⟨du pq.o,s,hs,(eH wt (cH [x])).1,(eH wt (cH [x])).2,?_,pv,M.o.keep _ _ _ _ (fun _=>False) (by rw[WA.o];exact f.a) (Kx.of pq.o) (fun _ h=>h.elim) (fun _ _ h=>h.elim),aE pq.o f.b,f.c.keep fun o u h=>ax h pq.o,HSk.o o?,f.d.skip x ah⟩;have:=WI f.d.wi f.e;show Z9 hs (eH wt (cH [x]))<Z9 hs wt;unfold Z9;omega
  | false=>
   have pw:Hd (∀k,w.heap.size<=k->¬S k):=fun k h e=>by have:=G.d.low k e;omega
   have wC:=hid (fun W' (zM:Kx S W2 W')=>Aa (zM.box (aE pq.o f.a.sys) (pw.o _ ah)) (Aa (zM.box (aE pq.o f.a.chg) (pw.o _ ah)) (Aa (zM.box (aE pq.o f.a.held) (pw.o _ ah)) (Aa (zM.box (aE pq.o f.a.eB) (pw.o _ ah)) (zM.box (aE ni.o O.b) (pw.o _ (by have:=f.a.k.size;have:=j?.o.size;omega)))))));have Tj:Hd (∀W',Bl W W'->C s W'/\kB W'):=fun W' h=>⟨G.d.L6 _ _ _ f.a.c (fun k hk=>h.block k (fD (G.d.low k hk) f.a.k.size)),f.a.tab.below h⟩
   have TP:=hid (fun W' (h:Bl W W')=>HCh.o o? W' (Tj.o W' h).1 (Tj.o W' h).2);have abM:=hid (HSt.o o?);have abN:=hid (HMu.o o?);have hcf:=G.d.fn;have HZi:=hid (gp f.f f.F);clear HCh HSt HMu HSk Td HPa HSy o? Tj;generalize jU R (cn hs) x=sa at *;generalize cn hs x=ho at *;generalize eP ho sa=z at *
   gi_wp2
   refine Zu (l:=l) (fun W'=>Kx S W2 W') 18 (hS:=(Kx.refl _ _).drewN 1) (h:=fun aB=>?_);refine tt 0 (.slice (eD w.heap.size) N N) (y:=fun W' aU=>by have L:=(ae (wC.o _ aU).2.2.2.1).1;clear aB aU;go_simp) (h:=?_);refine tt 1 (Iv x) (h:=?_);refine tt 2 (.func (.func fk) #[] caps) (y:=fun W' aU=>by have L:=(ae (wC.o _ aU).2.1).1;clear aB aU;go_simp) (h:=?_);refine tt 3 (Iv x) (h:=?_);refine tt 4 (.slice (eD w.heap.size) N N) (y:=fun W' aU=>by have L:=(ae (wC.o _ aU).2.2.2.1).1;clear aB aU;go_simp) (h:=?_);refine tt 5 (Iv x) (h:=?_);refine tt 6 (.pointer (some (Ad (w.heap.size+1+1) (x*2)))) (h:=?_);refine tt 7 (kM ho.1 ho.2) (y:=fun W' aU=>by obtain⟨L,k2,_,_⟩:=HCe.o _ (wC.o _ aU).2.2.1;clear aB aU;go_simp) (h:=?_);refine tt 8 (.pointer (some (Ad w.heap.size 1))) (h:=?_);refine tt 9 iz (y:=fun W' aU=>by have L:=(ae (wC.o _ aU).1).1;clear aB aU;go_simp) (h:=?_);refine tt 10 (.slice (eD w.heap.size) N N) (y:=fun W' aU=>by have L:=(ae (wC.o _ aU).2.2.2.1).1;clear aB aU;go_simp) (h:=?_);refine tt 11 (Iv x) (h:=?_);refine tt 12 (.pointer (some (Ad (w.heap.size+1+1) (x*2)))) (h:=?_);refine tt 13 (kM ho.1 ho.2) (y:=fun W' aU=>by obtain⟨L,k2,_,_⟩:=HCe.o _ (wC.o _ aU).2.2.1;clear aB aU;go_simp) (h:=?_);refine tt 14 (kM sa.1 sa.2) (y:=fun W' aU=>by have L:=(ae (wC.o _ aU).2.2.2.2).1;clear aB aU;go_simp) (h:=?_);refine rt 15 (h:=fun K hK=>?_)
   go_simp
   refine hK.out _ _ (fun _=>aB.trans (Kx.of (aC _ _))) ?_;clear hK K;refine pt ?_;refine rt 16 (h:=fun K hK=>?_)
   go_simp
   refine bA (Ow.o _ _ ak ak ak ak) ?_;rintro e W3 ⟨rfl,Js⟩;have t:Hd (Bl W2 W3):=aq (aq (aM _ _).drew (aC _ _)) Js;clear Js aB;refine hK.out _ _ (fun _=>Kx.of t.o) ?_;clear hK K;refine pt ?_;refine rt 17 (h:=fun K hK=>?_)
   go_simp
   refine bA (TP.o _ (aq pq.o t.o)) ?_;rintro e W4 ⟨rfl,hc4,Vv⟩;have H4:=hid (Aa hc4 ((Kx.of (S:=S) t.o).trans Vv));clear hc4 Vv;refine hK.out _ _ (fun _=>H4.A) ?_;clear hK K;refine pt ?_;refine rt 18 (h:=fun K hK=>?_)
   go_simp
   refine hK.out _ _ (fun h=>absurd h aj) ?_;clear hK K;refine pt ?_;refine rt 19 (h:=fun K hK=>?_);obtain⟨k0,L,k2,k3⟩:=HCe.o _ (wC.o _ H4.A).2.2.1
   go_simp
   refine hK.out _ _ (fun h=>absurd h aj) ?_;clear hK K k0 L k2 k3;refine pt ?_;refine dt (h:=?_);have Vt:Kx S W W4:=(Kx.of pq.o).trans H4.A;generalize NS:(W4.setCell (Ad (w.heap.size+1+1) (x*2)) (Uv z.1)).setCell (Ad (w.heap.size+1+1) (x*2+1)) (Uv z.2)=W5;have Vu:Kx (fun k=>S k∨k=w.heap.size+1+1∨k=ab) W W5:=by
    rw[<-NS];refine Kx.set (Kx.set (Vt.mono fun k _ h=>aJ h) ?_ _ _) ?_ _ _<;>exact aJ (aI (aJ rfl))
   have Vr:∀q,w.heap.size<=q->q≠w.heap.size+1+1->∀o,W.heap[q]?=some o->W5.heap[q]?=some o:=fun q h1 h2 o h=>by
    rw[<-NS,aZ _ _ _ _ h2,aZ _ _ _ _ h2];exact Vt.box h (pw.o q h1)
   have hl5:=f.a.hl;have H5:=hid (Aa (show W5.heap[w.heap.size+1+1]?=some (.cells (cG (hs.set x z)).toArray 267 (0,0))by rw[<-NS];exact wB (s:=z) (wC.o _ H4.A).2.2.1 (k:=x) (by rw[f.d.len];exact Rn)) (Aa Vu (Aa (G.d.L6 _ _ W5 H4.a (fun k hk=>by have:=G.d.low k hk;have hkk:k≠w.heap.size+1+1:=ah;rw[<-NS,aZ _ _ _ _ hkk,aZ _ _ _ _ hkk])) (Aa (Vr ab ah ah _ f.b) (Aa (Vr Ih ah ah _ f.a.rbc) (Aa (Vr g ah ah _ f.a.rdr) (f.c.keep (w':=W5) fun o u h=>by rw[<-NS];exact(dC (by have hkk:pb≠w.heap.size+1+1:=ah;rw[aZ _ _ _ _ hkk,aZ _ _ _ _ hkk])).trans (Vt.cell h G.d.pk))))))));have Tw:(Qi R N).length=N:=pJ _ _ _;obtain⟨k0,L,_,_⟩:=gT H5.f (k:=x) (by rw[Tw];exact Rn);obtain⟨y1,y2⟩:=ae H5.e;have HRd:=hid (Aa (Ck (R:=R) hm x) (Uq G.b x));generalize(Qi R N).getD x (0,0)=rx at *;clear NS Vu Vr Vt Tw TP Ow wC
   gi_wp2_with (refine⟨trivial,?_⟩;gi_at_call 211;refine(CallsIn.inRound l (fX.2 (Ze.o _ _ H5.d))).mono ?_;rintro e W6 ⟨⟨v,rfl⟩,ha6,FK⟩;have H6:=hid (Aa ha6 FK);clear ha6 FK)
   have FK:Kx (fun k=>S k∨k=w.heap.size+1+1∨k=ab) W W6:=H5.b.trans (H6.A.mono fun k _ h=>aI (aI h));refine⟨FK.others ?_,nx s x ho z,hs.set x z,(eP (eH wt (cH [x])) rx).1,(eP (eH wt (cH [x])) rx).2,?_,pv,?_,H6.a,?_,abM.o,f.d.step x ah HZi.o HRd.a HRd.A⟩
   ·rintro k o (h|h|h) hk
    ·exact G.d.cel s W k o f.a.c h hk
    ·subst h;rw[f.a.held]at hk;cases hk;rfl
    subst h;rw[f.b]at hk;cases hk;rfl
   ·have:=nJ (eP (eH wt (cH [x])) rx)
    have h7:=abN.o;show Z9 (hs.set x z) (eP (eH wt (cH [x])) rx)<Z9 hs wt;unfold Z9;omega
   ·rw[WA.o]
    refine f.a.Mg G.d.low G.d.tab FK (G.d.L6 _ _ _ H5.c fun k hk=>?_) (dQ (G.e 0 aj)) (H6.A.box H5.a ah);have:=G.d.low k hk;exact H6.A.keep k (by have:=H5.b.size;have:=f.a.k.size;omega) ah
   exact H5.F.keep fun o u h=>H6.A.cell h ah
 rintro D ⟨s,hs,wt⟩ W hD ⟨h1,h2,h3⟩ hK;simp only at h1 h2 h3;rw[WA.o]at h1;have hd:D≠bx:=by have:=h1.gl;have:=h1.rl;have:=h1.al;have:=h1.ql;omega
 obtain⟨F,x2⟩:=ae h1.eB
 go_wp2_with fail
 refine⟨ak,.inl ⟨_,_,rfl,run_takeDeferred hK,?_⟩⟩;have hg:=grownBy_putObj' W D (.deferred none);have hx:Kx (fun k=>k=D) W (W.putObj D (.deferred none)):=⟨hg.os,hg.tape,hg.output,hg.size,fun k hk hn=>hg.block k hk fun e=>hn (by cases e;rfl)⟩;have h1':=h1.keep G.d.low G.d.L6 (dQ (G.e 0 aj)) hx (fun k e=>by subst e;right;omega);exact⟨.slice (eD w.heap.size) N N,by simp[results,results151,go_sem],s,hs,rfl,h1'.held,h1'.c,h1'.k,h2,h3.len,h3.each⟩
end
open Go.RowKit Go.Proofs Go.Maps Tryz
def DW(s:ByteArray)(w:World):Cl 22 #[.string s] w fun e i=>DcR w i s e/\Bl w i:=by
 go_enter func22,ntmps22
 go_wp2_with fail
 obtain⟨d,M⟩:=Ea (w.alloc (.cells iA 51));rw[<-M];have r:Bl w d:=by rw[M];exact aC _ _
 have D:d.heap.size=w.heap.size+1:=by rw[M];simp
 have n:d' d w.heap.size iA 51:=by rw[M];exact bf _ _
 refine(u0 s d).mono ?_;rintro e T ⟨G,u⟩;have H:=(u.block _ ah).trans n;have A:=r.trans (u.mono ah);have O:=u.size;clear M n r;obtain⟨F,y⟩:=ae H;rcases G with⟨c,R,t,a,Q,z,rfl,N,m,b⟩|⟨Q,rfl⟩
 ·have f:=(show Hd _ from Aa Q (Aa z (Aa N (Aa m (Aa b A)))))
  clear Q z N m b A H u
  go_wp2_with fail
  refine aG (v:=.tuple #[.agg #[Iv c.problem,Iv c.bK,.slice t c.nodes.length a],Iv 0]) (by simp[results,results22,go_sem,F]) rfl ?_;have fa:=YR T w.heap.size (Iv c.problem) (Iv c.bK) (bH t c.nodes.length a);refine⟨aJ ⟨c,R,t,a,f.a,f.b,rfl,bJ (fa.own f.c (fun k X=>by have:=(f.c.lt k X).1;show k≠_;omega)) ah,fun x E=>(f.d x E).fr fa (fun j U=>by show j≠_;omega) ah,f.e⟩,f.E.trans (fa.below ah (fun k X=>by show k≠_;omega))⟩
 have f:=(show Hd _ from Aa Q A);clear Q A H u
 go_wp2_with fail
 refine aG (v:=.tuple #[.agg iA,Iv 5]) (by simp[results,results22,go_sem,F]) rfl ?_;have fa:=YR T w.heap.size (Iv 0) (Iv 0) (.slice none 0 0);exact⟨aI ⟨f.a,rfl⟩,f.A.trans (fa.below ah (fun k X=>by show k≠_;omega))⟩
def PJ{p:Prop}(h:p:=by
 clear E
 go_wp2_with fail
 go_quiet (fail)
 go_wp2_with fail
 go_roundw
 case rel=>exact⟨k+1,ah,h',below_drewN M.o _⟩
 simp[intOf];omega):p:=h
def zG(r L G F D b:Option Addr)(Q W V a z g:Nat)(n:Nd)(w:World)(h1:rJ w r L G Q W V n)(h2:rJ w F D b a z g n)(hn:gD n):
  Cl 47 #[.agg #[.slice r n.facts.length Q,.slice L n.aO.length W,.bool n.reached,Iv n.rank,.slice G n.vals.length V],.agg #[.slice F n.facts.length a,.slice D n.aO.length z,.bool n.reached,Iv n.rank,.slice b n.vals.length g]] w (Rb w (.bool true)):=by
 have l:=(show Hd _ from Aa h1 (Aa h2 hn));have A:n.facts.length*8<=140737488355328:=hn.fsz;have q:n.aO.length*8<=140737488355328:=hn.rsz;have f:n.vals.length*48<=140737488355328:=hn.vsz;clear h1 h2 hn;have P:(n.reached !=n.reached)=false:=ak
 have l2:(n.rank !=n.rank)=false:=ak
 have T:((n.vals.length:Int) !=(n.vals.length:Int))=false:=ak
 have O:((n.facts.length:Int) !=(n.facts.length:Int))=false:=ak
 have S:((n.aO.length:Int) !=(n.aO.length:Int))=false:=ak
 go_enter func47,ntmps47
 go_wp2_with fail
 generalize U:(w.alloc (.cells #[.slice r n.facts.length Q,.slice L n.aO.length W,.bool n.reached,Iv n.rank,.slice G n.vals.length V] 96)).alloc (.cells #[.slice F n.facts.length a,.slice D n.aO.length z,.bool n.reached,Iv n.rank,.slice b n.vals.length g] 96)=H;have R:Hd (Bl w H/\d' H w.heap.size #[.slice r n.facts.length Q,.slice L n.aO.length W,.bool n.reached,Iv n.rank,.slice G n.vals.length V] 96/\d' H (w.heap.size+1) #[.slice F n.facts.length a,.slice D n.aO.length z,.bool n.reached,Iv n.rank,.slice b n.vals.length g] 96):=by
  subst U;exact⟨aX _ _ _,(aN w _ _).1,(aN w _ _).2⟩
 clear U
 go_loopw[5] (fun i wr=>∃k:Nat,k<=n.facts.length/\i=Iv k/\Hd (Bl H wr)) (fun i _=>n.facts.length-(intOf i).toNat)
 case atStart=>exact⟨0,bB _,rfl,aM _ _⟩
 obtain⟨k,X,rfl,M⟩:=hrel;obtain⟨Z,y⟩:=ae ((M.o.block _ (bq.1 R.b).1).trans R.b);obtain⟨B,o⟩:=ae ((M.o.block _ (bq.1 R.B).1).trans R.B);have d:Hd (Bl w wr):=aq R.a M.o;by_cases J:k<n.facts.length
 ·have s:(k:Int)<(n.facts.length:Int):=ah
  obtain⟨v,E⟩:=La J;obtain⟨u,o1,rfl,Y⟩:=(l.a.facts.below d.o) k v E;obtain⟨x,N,rfl,c⟩:=(l.b.facts.below d.o) k v E;exact PJ
 have s:¬(k:Int)<(n.facts.length:Int):=ah
 obtain rfl:k=n.facts.length:=ah
 go_wp2_with fail
 have h:=M;clear Z y B o M d
 go_loopw[6] (fun i wr=>∃k:Nat,k<=n.aO.length/\i=Iv k/\Hd (Bl H wr)) (fun i _=>n.aO.length-(intOf i).toNat)
 case atStart=>exact⟨0,bB _,rfl,h⟩
 obtain⟨k,X,rfl,M⟩:=hrel;obtain⟨Z,y⟩:=ae ((M.o.block _ (bq.1 R.b).1).trans R.b);obtain⟨B,o⟩:=ae ((M.o.block _ (bq.1 R.B).1).trans R.B);have d:Hd (Bl w wr):=aq R.a M.o;by_cases J:k<n.aO.length
 ·have s:(k:Int)<(n.aO.length:Int):=ah
  obtain⟨v,E⟩:=La J;obtain⟨u,o1,rfl,Y⟩:=(l.a.aO.below d.o) k v E;obtain⟨x,N,rfl,c⟩:=(l.b.aO.below d.o) k v E;exact PJ
 have s:¬(k:Int)<(n.aO.length:Int):=ah
 obtain rfl:k=n.aO.length:=ah
 go_wp2_with fail
 have p:=M;clear Z y B o M d
 go_loopw[7] (fun i wr=>∃k:Nat,k<=n.vals.length/\i=Iv k/\Hd (Bl H wr)) (fun i _=>n.vals.length-(intOf i).toNat)
 case atStart=>exact⟨0,bB _,rfl,p⟩
 obtain⟨k,X,rfl,M⟩:=hrel;obtain⟨Z,y⟩:=ae ((M.o.block _ (bq.1 R.b).1).trans R.b);obtain⟨B,o⟩:=ae ((M.o.block _ (bq.1 R.B).1).trans R.B);have d:Hd (Bl w wr):=aq R.a M.o;by_cases J:k<n.vals.length;rotate_left
 ·have s:¬(k:Int)<(n.vals.length:Int):=ah
  obtain rfl:k=n.vals.length:=ah
  go_wp2_with fail
  go_ret
  exact⟨rfl,d.o⟩
 have s:(k:Int)<(n.vals.length:Int):=ah
 obtain⟨v,E⟩:=La J;obtain⟨u,o1,rfl,c0,Y,c,c3,c4,c5⟩:=(l.a.vals.below d.o) k v E;obtain⟨x,N,rfl,t,C,j,K,m,d5⟩:=(l.b.vals.below d.o) k v E;exact PJ
end Go.Proofs.YtmipbiligijcpaaGreatDoor
