import Derived.OpenShut
import Derived.ShutString
import Derived.Lay
import Derived.HandedShaped
import Derived.Shelf.Vars
import Derived.Lib.LaidU8
import Derived.SevenTiedAt
import Derived.Test.YtmipbiligijcpaaGreatDoorA03
import Derived.Test.YtmipbiligijcpaaGreatDoorA02
import Derived.Deep.CutRange
namespace Go.Proofs.YtmipbiligijcpaaGreatDoor
set_option linter.all false
set_option maxRecDepth 99999
set_option maxHeartbeats 0
open Go.ChangeShapes Go.WideShapes Go.ChangeAt Go.RowKit Go.Proofs Go.Maps Tryz List Go.Shelf open List renaming length->ζ,toArray->θ open _root_.Array renaming size->δ open World renaming setCell->κ,ownsRow->ρ,cell?->χ,grownBy->ξ open Value renaming ownBlock->φ open Value renaming slice->h',bool->i',agg->k',string->m',pointer->n',tuple->p' open Obj renaming cells->j' open Ending renaming returned->o' open Option renaming some->C',none->D' open Bool renaming true->P',false->Q'
variable {B g i k m:Nat}{F P l:List Int}{L:Array A'}{W w:t'}{a:Act}{f y:A'}{p:Prop}{t:TypeId}
section
variable {a:Option Addr}{c:Nat}{b:Bool}{q:Nat->Bool}{e:TypeId}{W:World}
open Go.ChangeMaps (open_string shut_string)
theorem abV:ownKnob Tryz.prog.godebug=none:=by kernel_rfl
theorem DA{j:Type}{enc:TypeId×Value->j}{a:Assume}{C:Checked}{m:Os}{f:FuncId}{g:Func}{s:ChangeSpec}{z:List PathCond}{r h q:Bool}{X:World->Array Value->Prop}
    (R:∀(w k:World)(c:Array Value),w.heap=k.heap->X w c->X k c)
    (F:ownKnob C.prog.godebug=none) (o:m.Started) (D:C.prog.inits.idxOf? f=none) (E:C.prog.funcs[f]?=some g)
    (B:∃(w:World)(d:Tape)(i:Input),w.os=m/\(w.forCall d i).Shaped C.prog/\i.vars=[]/\Input.okWide C.prog (w.forCall d i) .any w.heap.size f i /\
      ((s.pre enc C.prog g z b (w.forCall d i).memory i.args/\X (w.forCall d i).memory i.args)/\sizedMet enc C.prog g (OpenSpec.ofChange s) b (w.forCall d i).memory i.args)/\a.holds C.prog (lone (Frame.enter C.prog f i.args .normal) []<|w.forCall d i))
    (p:∀(W:World)(k:Nat)(c:Array Value)(y T:List<|DataW j)(x:List MemPlace),
      (∀(j:Nat) t v,g.params[j]?=some t->c[j]?=some v->Value.okWide C.prog W .any k t v) ->
      DataW.Whole enc C.prog g.params.toList s.vars b W c.toList y T x ->
      X W c->W.ShapedOpen C.prog ->
      Calls C.prog f c W λe Q=>∃v,e=.returned v/\s.post enc C.prog g b r h q W c v Q):
    ReturnsInHanded a C m f .any (λw c=>(s.pre enc C.prog g z b w c/\X w c)/\sizedMet enc C.prog g (OpenSpec.ofChange s) b w c) (s.post enc C.prog g b r h q):=by
  refine returnsInHanded_of_calls F o D B ?_;intro w d i _ P _ o K _;obtain⟨_,_,_,N,a,_,_,_,_,u⟩:=o;have e:N=g:=Option.some.inj<|a.symm.trans E;subst e;obtain⟨⟨⟨y,T,x,B,_⟩,F⟩,_⟩:=K;have L:=DataW.Whole.of_heap (w':=w.forCall d i) (by rfl) B;refine(p (w.forCall d i) w.heap.size i.args y T x u L (R _ _ _ (by rfl) F) P).mono λe Q ⟨v,l,U⟩=>?_;subst l;exact ChangeSpec.post_blind U
theorem iface_of_trod{P:Program}{w:World}{L:List Value}{nm:String}{x:DataW Unit}{p:List MemPlace}{b:Array (String×TypeId)}(C:P.underlying t=some (.interface b))(h:DataW.trod (λ_=>()) P w 0 (λ_=>true) false m t L=some (.iface nm x,p)):∃u v,L=[.iface u v]:=by
 cases m with
 |zero=>simp[DataW.trod]at h
 |succ f=>unfold DataW.trod at h;rw[C]at h;split at h<;>simp_all
theorem Ig(b:laidMetH Tryz.prog Rows.heldRow.laid W):∃i z,W.cell? ⟨5,0,none⟩=some (.iface i z):=by rw [MakeChecks.laidMetH_plain _ _ _<|by kernel_rfl] at b;obtain ⟨g, t, L, m, p, C, c, N, d⟩ := Lib.laidMet.reads b (n := "strconv.ErrRange") (d := Rows.laid_strconv_ErrRange) (by simp [Rows.heldRow]);obtain rfl := Option.some.inj<|(show Tryz.prog.globalNamed "strconv.ErrRange" = some 5 by kernel_rfl).symm.trans C;obtain rfl := Option.some.inj<|(show (Tryz.prog.globals[5]?).map (·.type) = some 161 by kernel_rfl).symm.trans c;obtain⟨u,v,a⟩:=iface_of_trod Tryz.underlying161 d;have:=World.var?_cell C N 0;obtain⟨l⟩:=L;obtain rfl:l=[.iface u v]:=a;exact⟨u,v,this⟩
theorem abM(C:laidMetH Tryz.prog Rows.heldRow.laid W):∀j,j<64->W.cell? ⟨0,j,none⟩=some (.int .u8 ((Lib.deBruijn64tab.getD j 0:Nat):Int)):=by rw [MakeChecks.laidMetH_plain _ _ _<|by kernel_rfl] at C;obtain ⟨g, t, L, m, p, a, b, N, d⟩ := Lib.laidMet.reads C (n := "math/bits.deBruijn64tab") (d := Rows.laid_math_bits_deBruijn64tab) (by simp [Rows.heldRow]);obtain rfl := Option.some.inj<|(show Tryz.prog.globalNamed "math/bits.deBruijn64tab" = some 0 by kernel_rfl).symm.trans a;obtain rfl := Option.some.inj<|(show (Tryz.prog.globals[0]?).map (·.type) = some 405 by kernel_rfl).symm.trans b;have Q:(Rows.laid_math_bits_deBruijn64tab:DataW Unit)=Lib.tabData .u8 (Lib.deBruijn64tab.map Int.ofNat):=rfl;rw[Q]at d;have T:=Lib.cells_of_tab Tryz.underlying405 Tryz.underlying5 (by kernel_rfl) (by kernel_rfl) d;intro j f;have:=World.var?_cell a N j;rw[this,<-Array.getElem?_toList,T];have X:Lib.deBruijn64tab.length=64:=rfl;simp[List.getD,X,f]
theorem PS(h:W.ShapedOpen Tryz.prog):∃m,W.cell? ⟨1,0,none⟩=some (.int .i64 m):=
 cell_of_shapedOpen_int (zero:=#[.int .i64 0]) h (of_decide_eq_true<|by kernel_rfl) (by kernel_rfl) rfl (by kernel_rfl) (by kernel_rfl) Tryz.underlying3
def Ay(w:World)(qa:Option Addr)(ps:List Int):Prop:=ps.length<=maxLen/\∀j x,ps[j]?=some x->(Lit.int .i64 x).wf=true/\∃b o,qa=some ⟨b,o,none⟩/\w.cell? ⟨b,o+j,none⟩=some (.int .i64 x)
theorem Iz{x:Addr}{len a:Nat}{c:List Int}(X:len<=a)(d:a<=maxLen)(d:c.length=a)(T:∀i,i<c.length->W.cell? (x.add i)=some (.int .i64<|c.getD i 0))(e:∀n∈c,(Lit.int .i64 n).wf=true):(c.take len).length=len/\Ay W (some x) (c.take len):=by
 have L:(c.take len).length=len:=by simp;omega
 refine⟨L,by omega,λj y f=>?_⟩;have r:=(List.getElem?_eq_some_iff.1 f).1;rw[L]at r;have D:=T 0 I;have g:x.spot=none:=by have:=World.cell?_spot D;simpa[Addr.add]using this
 obtain⟨b,o,q⟩:=x;simp only at g;subst g;have a:=T j I;rw[Addr.add_lit]at a;rw[List.getElem?_take,if_pos r]at f;have Q:c.getD j 0=y:=by simp[List.getD,f]
 rw[Q]at a;exact⟨e y<|List.mem_of_getElem? f,b,o,rfl,a⟩
theorem Og{j:Type}{enc:TypeId×Value->j}{x:DataW j×List MemPlace}(p:∀k,q k=true)(U:Tryz.prog.underlying t=some (.slice e))(l:Tryz.prog.underlying e=some (.int .i64))(T:Tryz.prog.cellsOf e=1)(h:DataW.trod enc Tryz.prog W 0 q b m t (Value.slice a i c).cells.toList=some x):∃S:List Int,S.length=i/\Ay W a S:=by
 rcases open_ints U l T h with⟨g,_⟩|⟨x,l,c,r,g,_,X,d,f,_,Y,o⟩
 .simp[Value.cells]at g;obtain⟨rfl,rfl,rfl⟩:=g;exact⟨[],rfl,by simp,λj x a=>by simp at a⟩
 simp[Value.cells]at g;obtain⟨rfl,rfl,rfl⟩:=g;exact⟨r.take i,Iz X d (by simpa[p]using f) Y o⟩
theorem Vu{j:Type}{enc:TypeId×Value->j}{x:DataW j×List MemPlace}(p:∀k,q k=true)(U:Tryz.prog.underlying t=some (.slice e))(l:Tryz.prog.underlying e=some (.int .i64))(T:Tryz.prog.cellsOf e=1)(h:DataW.trod enc Tryz.prog W 0 q b m t (Value.slice a i c).cells.toList=some x):∃S:List Int,S.length=i/\Ay W a S/\i<=c/\c<=maxLen:=by
 rcases open_ints U l T h with⟨g,_⟩|⟨x,l,c,r,g,_,X,d,f,_,Y,o⟩
 .simp[Value.cells]at g;obtain⟨rfl,rfl,rfl⟩:=g;exact⟨[],rfl,⟨by simp,λj x a=>by simp at a⟩,Nat.le_refl _,Nat.zero_le _⟩
 simp[Value.cells]at g;obtain⟨rfl,rfl,rfl⟩:=g;obtain⟨R,F⟩:=Iz (len:=i) X d (by simpa[p]using f) Y o;exact⟨r.take i,R,F,X,d⟩
def Ŝ:Prop:=∀(s t:ByteArray)(qa ta ia:Option Addr)(qc tc ic:Nat)(ps ts ins:List Int)(pr nr fu:Int)(w:World),(∃te pe,w.cell? ⟨5,0,none⟩=some (.iface te pe))->(∃m,w.cell? ⟨1,0,none⟩=some (.int .i64 m))->(∀j,j<64->w.cell? ⟨0,j,none⟩=some (.int .u8 ((Lib.deBruijn64tab.getD j 0:Nat):Int)))->Ay w qa ps->Ay w ta ts->(Ay w ia ins/\ins.length<=ic/\ic<=maxLen)->(Lit.int .i64 pr).wf=true->(Lit.int .i64 nr).wf=true->(Lit.int .i64 fu).wf=true->Calls Tryz.prog 8 #[.string s,.int .i64 pr,.slice qa ps.length qc,.slice ta ts.length tc,.int .i64 nr,.string t,.slice ia ins.length ic,.int .i64 fu] w λe w'=>e=.returned (.bool true)/\Below w.heap.size w w'
theorem Dw:laidOutB Tryz.prog=true:=by kernel_rfl
theorem Hr(B:Ŝ)(q:Os)(k:q.Started)(j:Type)(enc:TypeId×Value->j):
    ReturnsInHanded {} Tryz.checked q 8 .any (λw c=>(Rows.heldSpec.pre enc Tryz.prog Tryz.f8 [] false w c/\laidMetH Tryz.prog Rows.heldRow.laid w)/\sizedMet enc Tryz.prog Tryz.f8 (OpenSpec.ofChange Rows.heldSpec) false w c)
      (Rows.heldSpec.post enc Tryz.prog Tryz.f8 false true false false):=by
  refine DA (C:=Tryz.checked) (X:=λw _=>laidMetH Tryz.prog Rows.heldRow.laid w) (λ_ _ _ V h=>h.of_heap V) abV k (by kernel_rfl) Tryz.func8
    (ChangeSpec.witness_shaped (enc:=enc) (C:=Tryz.checked) (os:=q) (X:=λw _=>laidMetH Tryz.prog Rows.heldRow.laid w) false (World.laidAll Tryz.prog q Rows.heldRow.laid) #[.string ByteArray.empty,.int .i64 0,.slice none 0 0,.slice none 0 0,.int .i64 0,.string ByteArray.empty,.slice none 0 0,.int .i64 0] 8 (World.laidAll_os _ _ _)
      (World.shaped_of_ZipB (by kernel_rfl)<|by kernel_rfl) (by kernel_rfl) (by kernel_rfl) (by kernel_rfl)
      (by rw[MakeChecks.laidMetH_plain _ _ _<|by kernel_rfl];exact laidMet_laidAll _ (by kernel_rfl)<|by kernel_rfl)) ?_
  intro W k c y T x f b C cd;have u:∀(j:Nat) t v,Tryz.f8.params[j]?=some t->c[j]?=some v->Value.okWide Tryz.prog W .any k t v:=f;have Q! := b;obtain⟨p,q,o,hV,rfl,r,z⟩:=b;have s:DataW.TrodAll enc Tryz.prog W 0 (λ_=>true) true Tryz.f8.params.toList c.toList y p:=o;rw[Tryz.params8]at s u;obtain⟨L,j,t,j,j,r,z,rfl,rfl,D,r0⟩:=trodAll_cons s;obtain⟨v1,X,j,j,j,j,rfl,rfl,rfl,h1,r1⟩:=trodAll_cons r0;obtain⟨v2,j,j,j,p2,j,rfl,rfl,rfl,g,r2⟩:=trodAll_cons r1;obtain⟨b,j,j,j,p3,j,rfl,rfl,rfl,N,r3⟩:=trodAll_cons r2;obtain⟨E,j,j,j,j,j,rfl,rfl,rfl,h4,r4⟩:=trodAll_cons r3;obtain⟨v5,j,j,j,j,y,rfl,rfl,rfl,l,r5⟩:=trodAll_cons r4;obtain⟨v6,j,j,j,p6,j,rfl,rfl,rfl,h6,r6⟩:=trodAll_cons r5;obtain⟨v7,j,j,j,j,j,rfl,rfl,rfl,h7,r7⟩:=trodAll_cons r6;obtain⟨rfl,rfl,rfl⟩:=trodAll_nil r7;obtain rfl:c=#[L,v1,v2,b,E,v5,v6,v7]:=by cases c;simp_all
  obtain⟨rfl,rfl⟩:=trodVars_none hV;obtain⟨a0,rfl,rfl,rfl,w0⟩:=open_string Tryz.underlying9 (u 0 9 L rfl rfl) D;obtain⟨a1,rfl,rfl,rfl,w1⟩:=open_int Tryz.underlying3 (u 1 3 v1 rfl rfl) h1;obtain⟨a2,ed,ck,rfl⟩:=okWide_slice Tryz.underlying36<|u 2 36 v2 rfl rfl;obtain⟨a3,ee,dd,rfl⟩:=okWide_slice Tryz.underlying23<|u 3 23 b rfl rfl;obtain⟨a4,rfl,rfl,rfl,Y⟩:=open_int Tryz.underlying3 (u 4 3 E rfl rfl) h4;obtain⟨a5,rfl,rfl,rfl,w5⟩:=open_string Tryz.underlying9 (u 5 9 v5 rfl rfl) l;obtain⟨U,ar,ae,rfl⟩:=okWide_slice Tryz.underlying23<|u 6 23 v6 rfl rfl;obtain⟨e,rfl,rfl,rfl,w7⟩:=open_int Tryz.underlying3 (u 7 3 v7 rfl rfl) h7;have bl:∀x∈p6,x.block<W.heap.size:=by obtain⟨m,hm⟩:=h6;exact DataW.trod_lt m _ _ _ hm
  have k6:=h6;have cc:∀x∈p2,x.block<W.heap.size:=by obtain⟨m,hm⟩:=g;exact DataW.trod_lt m _ _ _ hm
  have bo:∀x∈p3,x.block<W.heap.size:=by obtain⟨m,hm⟩:=N;exact DataW.trod_lt m _ _ _ hm
  have k2:=g;have k3:=N;obtain⟨ps,rfl,c2⟩:∃ps:List Int,ps.length=ed/\Ay W a2 ps:=by obtain⟨m,hm⟩:=g;exact Og (λ_=>rfl) Tryz.underlying36 Tryz.underlying3 (by kernel_rfl) hm
  obtain⟨R,rfl,c3⟩:∃R:List Int,R.length=ee/\Ay W a3 R:=by obtain⟨m,hm⟩:=N;exact Og (λ_=>rfl) Tryz.underlying23 Tryz.underlying2 (by kernel_rfl) hm
  obtain⟨F,rfl,g⟩:∃F:List Int,F.length=ar/\Ay W U F/\ar<=ae/\ae<=maxLen:=by obtain⟨m,hm⟩:=h6;exact Vu (λ_=>rfl) Tryz.underlying23 Tryz.underlying2 (by kernel_rfl) hm
  clear o f;refine(B a0 a5 a2 a3 U ck dd ae ps R F a1 a4 e W (Ig C) (PS cd) (abM C) c2 c3 g w1 Y w7).mono λe b ⟨o,f⟩=>?_;subst o;exact⟨_,rfl,_,_,_,[],_,[],Q!,trodAll_mk1<|shut_bool Tryz.underlying4 _,(trodAll_cons_mk (shut_string Tryz.underlying9 w0)<|trodAll_cons_mk (shut_int Tryz.underlying3 w1)<|trodAll_cons_mk (Below.trod Dw (by kernel_rfl) (of_decide_eq_true<|by kernel_rfl) k2 f cc)<|trodAll_cons_mk (Below.trod Dw (by kernel_rfl) (of_decide_eq_true<|by kernel_rfl) k3 f bo)<|trodAll_cons_mk (shut_int Tryz.underlying3 Y)<|trodAll_cons_mk (shut_string Tryz.underlying9 w5)<|trodAll_cons_mk (Below.trod Dw (by kernel_rfl) (of_decide_eq_true<|by kernel_rfl) k6 f bl)<|trodAll_cons_mk (shut_int Tryz.underlying3 w7) trodAll_mk0),rfl,f.frame _,λh=>by cases h⟩
end
def ve(n:Int)(a:u')(c:Nat)(D:List Int)(w:t')(h:b7 w a D)(X:ζ D*8<=140737488355328):
  Cl 102 #[G n,h' a (ζ D) c] w λe a=>e=o' (i' (decide (n∈D)))/\a=w:=by
 have s:=ſ h;clear h;go_enter func102,ntmps102;go_wp2
 go_loop [5] (λi=>∃k:Nat,k<=ζ D/\i=G k/\J (∀(j:Nat)(x:Int),D[j]?=C' x->j<k->x≠n)) (λi=>ζ D-(intOf i).toNat)
 case atStart=>exact⟨0,bq _,rfl,λj x _ h=>I⟩
 obtain⟨k,a,rfl,g⟩:=hrel;by_cases L:k<ζ D;rotate_left
 .have a:¬(k:Int)<(ζ D:Int):=I;have K:J (n∉D):=λd=>by obtain⟨j,f⟩:=dN.1 d;exact g.o j n f (L'<|(aV.1 f).1) rfl
  go_wp2;go_ret;exact⟨aZ (di K.o).symm,rfl⟩
 have a:(k:Int)<(ζ D:Int):=I;obtain⟨x,F⟩:=La L;obtain⟨a,a,rfl,Q⟩:=s.o k x F;have m:=ſ F;clear F;cases b:(x==n)with
 |true=>
  have K:J (n∈D):=by have:=eo.1 b;subst this;exact aK m.o
  go_wp2;go_ret;exact⟨aZ (dM K.o).symm,rfl⟩
 |false=>
  have K:J (∀(j:Nat)(y:Int),D[j]?=C' y->j<k+1->y≠n):=λj y f p=>by
   by_cases e:j=k
   .subst e;rw[m.o]at f;cases f;exact dO.1 b
   exact g.o j y f I
  go_wp2
  go_round
  case rel=>exact⟨k+1,I,f',K.o⟩
  exact H'
structure HL where
  lM:Int
  us:List Int
  own:Int
def VU(w:t')(tb:Nat)(ls:List HL)(nv:Nat)(is:List<|List Int):Prop:=
 ∃(la va ea ia:u')(lc vc ec ic:Nat),w.1[tb]?=C' (j' #[h' la (ζ ls) lc,h' va nv vc,h' ea (ζ is) ec,h' ia (ζ is) ic] 103 (0,0)) /\
  (∀j x,ls[j]?=C' x->∃b o ha hl hc ua uc,la=C' (O b o)/\χ w (O b<|o+j*4)=C' (h' ha hl hc)/\χ w (O b<|o+j*4+1)=C' (G x.lM)/\χ w (O b<|o+j*4+2)=C' (bk ua (ζ x.us) uc)/\χ w (O b<|o+j*4+3)=C' (G x.own)/\b7 w ua x.us) /\
  ∀j l,is[j]?=C' l->∃b o ua uc,ia=C' (O b o)/\χ w (O b<|o+j)=C' (bk ua (ζ l) uc)/\b7 w ua l
def VU.below{w b:t'}{a Q:Nat}{d:List HL}{T:List (List Int)}(h:VU w a d Q T)(c:Bl w b):VU b a d Q T:=by
 obtain⟨i,z,a,m,R,x,B,V,C,g,N⟩:=h;refine⟨i,z,a,m,R,x,B,V,aF c C,λj x f=>?_,λj l f=>?_⟩
 .obtain⟨b,o,h,X,i,a,d,e,T,Q,p,m,P⟩:=g j x f;exact⟨b,o,h,X,i,a,d,e,aA T c,aA Q c,aA p c,aA m c,P.below c⟩
 obtain⟨b,o,a,d,e,T,P⟩:=N j l f;exact⟨b,o,a,d,e,aA T c,P.below c⟩
def zN(a i e Q:Nat)(c:List HL)(T:List<|List Int)(x:HL)(l:List Int)(w:t')(h:VU w a c Q T)(S:c[i]?=C' x)(f:T[e]?=C' l)(X:ζ l<=2):
  Cl 103 #[n'<|C'<|O a 0,G i,G e] w λr a=>r=o' (i' (decide (0<=x.lM)&&decide (x.lM∈l)))/\a=w:=by
 obtain⟨a,z,a,a,R,a,B,V,C,k,N⟩:=h;obtain⟨b,o,_,_,_,a,d,rfl,q,s,p,m,_⟩:=k i x S;obtain⟨X,b,j,g,rfl,t,Y⟩:=N e l f;have h:=ſ<|ve x.lM j g l w Y I;have a:=A C;have d:(i:Int)<(ζ c:Int):=by have:=(aV.1 S).1;omega
 have K:(e:Int)<(ζ T:Int):=by have:=(aV.1 f).1;omega
 clear C k N S f Y;generalize ζ c=N at *;generalize ζ T=a at *;generalize ζ l=K at *;generalize x.lM=t at *;go_enter func103,ntmps103;cases U:decide (0<=t)with
 |true=>go_wp2_with (go_at_call 102;refine h.o.mono ?_;rintro r W ⟨rfl,rfl⟩);go_ret;exact⟨ak,rfl⟩
 |false=>go_wp2_with fail;go_ret;exact⟨ak,rfl⟩
section
variable {fuel:Nat}{listed:Array Bool}{d:Option Tmp}{op:Op}{ty:TypeId}{ps:String}{af:Array Edge}{gd:Option (Nat×Bool)}
section
variable {P:Program}{ops:Array Oper}{Q:Exit->Act->t'->Prop}{md:Region.Mode}{S:t'->Prop}{k:Nat}
def pX(P:Program)(md:Region.Mode)(ops:Array Oper)(Q:Exit->Act->t'->Prop)(S:t'->Prop)(k:Nat):Nat->Array Bool->Act->t'->Prop
 |0,listed,a,w=>Region.ready md ops listed=[]/\Q .normal a w
 |fuel+1,listed,a,w=>
  (Region.ready md ops listed=[]->Q .normal a w) /\
  ∀i∈Region.ready md ops listed,wpOp P ops Q i (λa' w'=>(i<k->S w')/\pX P md ops Q S k fuel (listed.setIfInBounds i P') a' w') a w
def Am:∀(b:Nat)(g:Array Bool)(a:Act)(w:t'),pX P md ops Q S k b g a w->wpAny P md ops Q b g a w
 |0,_,_,_,h=>h
 |b+1,_,_,_,h=>⟨h.1,λi c=>wpOp_mono (λz a s=>Am b _ z a s.2)<|h.2 i c⟩
def G8(md:Region.Mode)(ops:Array Oper)(k:Nat):Bool:=(range ops.size).all λj=>decide (j<k)||(range k).all λi=>match ops[j]? with|some o=>o.after.any λe=>Region.binds md e&&e.on==i|none=>P'
def Yj(h:G8 md ops k=P'){g:Array Bool}{j:Nat}(c:i<k)(X:g.getD i P'=Q')(f:j∈Region.ready md ops g):j<k:=by
 obtain⟨_,o,b,R⟩:=rF.1 f;unfold G8 at h;rw[bZ]at h;have C:=h j (by rw[cq];exact(bG.1 b).1);rw[eS,bw]at C;rcases C with C|C
 .exact C
 exfalso;rw[bZ]at C;have a:=C i (by rw[cq];exact c);rw[b]at a;simp only[Array.any_eq_true,aS,eo]at a;obtain⟨n,K,N,d⟩:=a;have l:=R _ (Array.getElem_mem K) N;rw[d]at l;rcases iL i g.size with s|s
 .simp[s]at X l;rw[X]at l;cases l
 simp[xK s]at l
def An{x:Oper}{v:A'}(p:ops[i]?=C' x)(z:i<k)(F:G8 md ops k=P')(E:∀(j:Nat)(o:Oper) L b,ops[j]?=C' o->o.op≠.select L b)
  (W:∀c a w,Q (.panic c) (a.put x.dst v) w->Q (.panic c) a w):
  ∀(d:Nat)(g:Array Bool)(a:Act)(w:t'),
   (∀j T,ops[j]?=C' T->j≠i->g.getD j P'=Q'->(∀e∈T.after,Region.binds md e=P'->e.on≠i)->x.apart ops T=P') ->
   i∈Region.ready md ops g->YieldsIf P ops S x v a->S w ->
   pX P md ops Q S k d (g.setIfInBounds i P') (a.put x.dst v) w->pX P md ops Q S k (d+1) g a w:=by
 intro d;induction d with
 |zero=>
  intro g a w _ o B u c;refine⟨λh=>(by rw[h]at o;cases o),λj f=>?_⟩;by_cases r:j=i
  .subst r;exact B.wpOp p u ⟨λ_=>u,c⟩
  have:=ready_mono f r;rw[c.1]at this;cases this
 |succ d v=>
  intro g a w d o B u c;refine⟨λh=>(by rw[h]at o;cases o),λj f=>?_⟩;by_cases r:j=i
  .subst r;exact B.wpOp p u ⟨λ_=>u,c⟩
  have C:=c.2 j<|ready_mono f r;obtain⟨a,T,c,R⟩:=rF.1 f
  have U:∀e∈T.after,Region.binds md e=P'->e.on≠i:=λe l q h=>by
   have C:=R e l q;have D:=(rF.1 o).1;rw[h]at C;rcases iL i g.size with s|s
   .simp[s]at D C;rw[D]at C;cases C
   simp[xK s]at C
  have h:=wpOp_putIf c (d j T c r a U) (λL b=>E i x L b p) (λL b=>E j T L b c) W B C
  have y:∀k t,ops[k]?=C' t->k≠i->(g.setIfInBounds j P').getD k P'=Q' ->
    (∀e∈t.after,Region.binds md e=P'->e.on≠i)->x.apart ops t=P':=λk t b K V q=>by
   refine d k t b K ?_ q;by_cases p:j=k
   .subst p;exact a
   rw[getD_set_ne P' p]at V;exact V
  have p:=Yj F z (rF.1 o).1 f;refine wpOp_mono (λz a N=>⟨λ_=>N.2.1 p,v (g.setIfInBounds j P') z a y (ready_mono o<|oh r) N.1 (N.2.1 p) ?_⟩) h;rw[Array.setIfInBounds_comm _ _ r];exact N.2.2
def tt{a':Act}(i:Nat)(v:A')(hi:ops[i]?=C' ⟨d,op,ty,ps,af,gd⟩:=by rfl)
  (hk:(decide (i<k)&&G8 md ops k&&Region.noSelect ops&&Region.free md ops listed i&&(Region.ready md ops listed).contains i)=P':=by kernel_rfl)
  (hw:Region.wanted ⟨d,op,ty,ps,af,gd⟩ (yielded ops a.tmps)=P':=by kernel_rfl) (hQ:∀c a w,Q (.panic c) (a.put d v) w->Q (.panic c) a w:=by exact λ_ _ _ h=>h)
  (y:∀w,S w->(execOp a.eval ⟨d,op,ty,ps,af,gd⟩).run P w=.ok (.value v) w:=by intro W' bm;clear aE;go_simp) (hS:S w:=by assumption) (ha:a.put d v=a':=by(try simp only[Act.put,cj,dp,da]);rfl)
  (h:pX P md ops Q S k fuel (listed.setIfInBounds i P') a' w):pX P md ops Q S k (fuel+1) listed a w:=by
 simp only[aS,bw]at hk;obtain⟨⟨⟨⟨h1,h2⟩,h3⟩,h4⟩,h5⟩:=hk;subst ha;exact An hi h1 h2 (Region.noSelect_spec h3) hQ fuel listed a w (Region.free_spec hi h4) (J' h5) (aI ⟨hw,y⟩) hS h
def rt(i:Nat)(hi:ops[i]?=C' ⟨d,op,ty,ps,af,gd⟩:=by rfl)(hr:Region.ready md ops listed=[i]:=by kernel_rfl)
  (h:∀K:Act->t'->Prop,Shut (∀a w,(i<k->S w)->pX P md ops Q S k fuel (listed.setIfInBounds i P') a w->K a w)->if Region.wanted ⟨d,op,ty,ps,af,gd⟩ (yielded ops a.tmps)=P' then Oper.wp P ⟨d,op,ty,ps,af,gd⟩ a w K Q else K (a.put d undef) w):pX P md ops Q S k (fuel+1) listed a w:=by
 refine⟨λh0=>(by rw[hr]at h0;cases h0),λj hj=>?_⟩;rw[hr]at hj;obtain rfl:j=i:=J' hj;exact wpOp_step hi λK' hK=>h K' λa w hS hW=>hK a w ⟨hS,hW⟩
def dt(hr:Region.ready md ops listed=[]:=by kernel_rfl)(h:Q .normal a w):pX P md ops Q S k fuel listed a w:=by
 cases fuel with
 |zero=>exact⟨hr,h⟩
 |succ n=>exact⟨λ_=>h,by rw[hr];simp⟩
def st(S:t'->Prop)(k:Nat){id:Nat}(hm:P.follows .mixedOrders=P':=by kernel_rfl)(hS:S w.drew)(h:S w.drew->pX P .any ops Q S k ops.size (Array.replicate ops.size Q') a w.drew):(Code.region id ops P').wp P Q a w:=
 wp_region_any hm (Am _ _ _ _<|h hS)
end
end
section
variable {o:Oper}{id:Nat}
def qo(ops:Array Oper):Bool:=ops.all λo=>match o.op with | .defer _=>Q'|_=>P'
def zl{ops:Array Oper}(h:qo ops=P'){i:Nat}(S:ops[i]?=C' o):∀c,o.op≠.defer c:=by intro c e;unfold qo at h;rw[Array.all_eq_true]at h;obtain⟨X,rfl⟩:=bG.1 S;have:=h i X;rw[e]at this;cases this
section
variable {P:Program}{ops:Array Oper}{Q:Exit->Act->t'->Prop}{md:Region.Mode}{l n:Nat}
def O7{q:String}{c:Array A'}{R:A'->t'->Prop}(h:Rows P q c w R):RowsIn (Fence.wide.inRound l) n P q c w R:=λc L _=>by obtain⟨v,a,r,s⟩:=h c L;exact⟨v,a,r,stepsIn_wide.2 s⟩
def yc{K i:Act->t'->Prop}(f:∀c,o.op≠.defer c)(g:∀a w,K a w->i a w)(h:o.wp P a w K Q):o.wpIn (Fence.wide.inRound l) n P a w i Q:=by
 refine⟨λ_ _=>trivial,?_⟩;rw[show(Fence.wide.inRound l).round=C' l from rfl,Oper.semAt_some l _ _ f];unfold Oper.wp at h;generalize(execOp a.eval o).run P w=r at h;cases r with
 |ok x k=>
  cases x with
  |enter f b=>exact⟨(λh=>by cases h),CallsIn.inRound l<|gw.2 (bE h λe j d=>by cases e<;>first|exact g _ _ d|exact d)⟩
  |row row b=>exact⟨(λh=>by cases h),O7<|Rows.mono h λv j d=>g _ _ d⟩
  |value v=>exact g _ _ h
  |skip=>exact g _ _ h
  |defer d=>exact g _ _ h
  |_=>exact h.elim
 |halt x k=>cases x<;>first|exact h|exact h.elim
def lS(b:qo ops=P')(W:¬LetsOut Q):∀(m:Nat)(g:Array Bool)(a:Act)(w:t'),wpAny P md ops Q m g a w->wpAnyIn (Fence.wide.inRound l) n P md ops Q m g a w
 |0,_,_,_,h=>h
 |m+1,g,a,w,h=>by
  refine⟨h.1,λi S=>?_⟩;have C:=h.2 i S;unfold wpOp at C;unfold wpOpIn;cases c:ops[i]? with
  |none=>rw[c]at C;exact lS b W m _ _ _ C
  |some o=>
   rw[c]at C;simp only at C|-;split
   .rename_i B;rw[aB B]at C;rcases C with C|C
    .exact yc (zl b c) (λa w=>lS b W m _ a w) C
    exact absurd C.2 W
   rename_i B;rw[ax B]at C;exact⟨λ_ _=>trivial,lS b W m _ _ _ C⟩
theorem á(S:World->Prop)(k:Nat)(hQ:¬LetsOut Q:=by rintro⟨_,_,h⟩;cases h.1)(hm:P.follows .mixedOrders=true:=by kernel_rfl)(tI:qo ops=true:=by kernel_rfl)(hS:S w.drew)(h:S w.drew->pX P .any ops Q S k ops.size (Array.replicate ops.size false) a w.drew):(Code.region id ops true).wpIn (Fence.wide.inRound l) n P Q a w:=
 wpIn_region_any hm (lS tI hQ _ _ _ _<|Am _ _ _ _<|h hS)
def sL(b:qo ops=P')(W:¬LetsOut Q):∀(c:List Oper)(a:Act)(w:t'),(∀o∈c,o∈ops.toList)->wpList P ops Q c a w->wpListIn (Fence.wide.inRound l) n P ops Q c a w
 |[],_,_,_,h=>h
 |o::r,a,w,d,h=>by
  have e:=λa w=>sL b W r a w λx F=>d x (by simp[F]);unfold wpList at h;unfold wpListIn;obtain⟨k,a⟩:=dN.1<|d o ak;have f:=J' a;split
  .rename_i B;rw[aB B]at h;rcases h with h|h
   .exact yc (zl b f) e h
   exact absurd h.2 W
  rename_i B;rw[ax B]at h;exact⟨λ_ _=>trivial,e _ _ h⟩
theorem agS{l':List Oper}(hQ:¬LetsOut Q:=by rintro⟨_,_,h⟩;first|exact h|cases h.1)(tI:qo l'.toArray=true:=by kernel_rfl)(h:wpList P l'.toArray Q l' a w):(Code.region id l'.toArray false).wpIn (Fence.wide.inRound l) n P Q a w:=
 wpIn_region_lit (sL tI hQ l' a w (λ_ h=>h) h)
theorem tu{S:World->Prop}{k fuel:Nat}{listed:Array Bool}{a':Act}(i:Nat)(v:Value){d:Option Tmp}{op:Op}{ty:TypeId}{ps:String}{af:Array Edge}{gd:Option (Nat×Bool)}(hi:ops[i]?=some ⟨d,op,ty,ps,af,gd⟩:=by rfl)
  (hk:(decide (i<k)&&G8 md ops k&&Region.noSelect ops&&Region.free md ops listed i&&(Region.ready md ops listed).contains i)=true:=by kernel_rfl)
  (hQ:∀c a w,Q (.panic c) (a.put d v) w->Q (.panic c) a w:=by exact λ_ _ _ h=>h) (y:YieldsIf P ops S ⟨d,op,ty,ps,af,gd⟩ v a) (hS:S w:=by assumption) (ha:a.put d v=a':=by(try simp only[Act.put,cj,dp,da]);rfl)
  (h:pX P md ops Q S k fuel (listed.setIfInBounds i true) a' w):pX P md ops Q S k (fuel+1) listed a w:=by
 simp only[aS,bw]at hk;obtain⟨⟨⟨⟨h1,h2⟩,h3⟩,h4⟩,h5⟩:=hk;subst ha;exact An hi h1 h2 (Region.noSelect_spec h3) hQ fuel listed a w (Region.free_spec hi h4) (by simpa using h5) y hS h
end
end
def kh(aG:List Int)(o:kE):Int:=if o.aN then aG.getD o.var.toNat 0 else o.bJ
def oD(n:Nat)(o:kE):Prop:=o.aN=P'->0<=o.var/\o.var<n
def qj{w:t'}{B e n:Nat}{v:A'}{D:List A'}(h:ρ w B e 1 v n D)(a:0<n):∃g a,v=h' (C'<|O g 0) n a/\B<=g/\n<=a/\∀j x,D[j]?=C' x->j<n->χ w (O g j)=C' x:=by
 rcases h.2 with⟨_,e⟩|⟨g,a,Y,R,b,c,T,d,y,U⟩
 .omega
 refine⟨g,a,R,b,T,λj x F f=>?_⟩;rw[<-U,xH,aB I]at F;simp only[World.cell?,c];simpa using F
def iu(a B:Nat)(u y f:A')(P:List Int)(o:kE)(w:t')(l:w.1[a]?=C' (j' #[u,y,f] 182 (0,0)))(R:ρ w B 2 1 u (ζ P)<|P.map G)(h:oD (ζ P) o):
  Cl 171 #[n'<|C'<|O a 0,k' #[i' o.aN,G o.var,G o.bJ]] w λe f=>e=o' (G<|kh P o)/\∃n,f=(w.alloc<|j' #[i' o.aN,G o.var,G o.bJ] 150).drewN n:=by
 have L:=A l;obtain⟨b,v,c⟩:=o;cases b with
 |false=>have j:J (kh P ⟨Q',v,c⟩=c):=rfl;go_enter func171,ntmps171;go_wp2;go_ret;rw[j.o];exact⟨rfl,0,rfl⟩
 |true=>
  obtain⟨D,C⟩:=h rfl;simp only at D C;obtain⟨k,rfl⟩:∃k:Nat,v=k:=⟨v.toNat,I⟩;obtain⟨x,F⟩:=La (l:=P) (i:=k) I;have j:J (kh P ⟨P',k,c⟩=x):=by show _=_;simp[kh,getD,F]
  obtain⟨g,b,rfl,d,i,Y⟩:=qj R I;have m:=(R.lt g rfl).2;have h:=(bG.1 l).1;have s:g≠δ w.1:=I;have b:δ w.1≠g:=I;have c:a≠δ w.1:=I;have V:δ w.1≠a:=I;have T:=Y k (G x) (by simp[F]) I;clear Y F;go_enter func171,ntmps171;go_wp2;go_quiet (fail);go_wp2;go_ret;rw[j.o];exact⟨rfl,_,rfl⟩
section
variable {o e size n:Nat}{a b:Option Nat}{u:t'}{D:List A'}
structure VF(sb:Nat)(a b:Option Nat)(w w':t'):Prop where
  os:w'.os=w.os
  tape:w'.tape=w.tape
  output:w'.output=w.output
  size:δ w.1<=δ w'.1
  block:∀k,k<δ w.1->k≠sb->some k≠a->some k≠b->w'.1[k]?=w.1[k]?
def VF.refl(o:Nat)(a b:Option Nat)(w:t'):VF o a b w w:=⟨rfl,rfl,rfl,aD _,λ_ _ _ _ _=>rfl⟩
def VF.aR{c:t'}(h:Bl w c):VF o a b w c:=⟨h.os,h.tape,h.output,h.size,λk a _ _ _=>h.block k a⟩
def VF.then{v:t'}(h:VF o a b u v)(k:Bl v w):VF o a b u w:=
 ⟨k.os.trans h.os,k.tape.trans h.tape,k.output.trans h.output,br h.size k.size,λj f C a N=>(k.block j<|ep f h.size).trans<|h.block j f C a N⟩
def VF.set(h:VF o a b u w){ad:Addr}(d:δ u.1<=ad.block\/ad.block=o\/some ad.block=a\/some ad.block=b)(v:A'):VF o a b u (w.setCell ad v):=
 ⟨h.os,h.tape,h.output,by simpa[World.setCell]using h.size,λk c C a N=>(bh _ _ _ _ (by
  rcases d with e|e|e|e
  .omega
  .intro u;exact C<|u.trans e
  .intro u;exact a (by rw[u,e])
  .intro u;exact N<|by rw[u,e])).trans<|h.block k c C a N⟩
def CP(w:t')(B:Nat)(v:A')(ins:List Int):Prop:=∃ao cap,v=h' ao (ζ ins) cap/\ζ ins<=cap/\cap<=maxLen/\∀j x,ins[j]?=C' x->∃b o,ao=C' (O b o)/\b<B/\χ w (O b<|o+j)=C' (G x)
def CP.mono{a:t'}{v:A'}(h:CP w B v F)(c:∀k,k<B->a.1[k]?=w.1[k]?):CP a B v F:=by obtain⟨q,a,C,b,N,d⟩:=h;refine⟨q,a,C,b,N,λj x f=>?_⟩;obtain⟨b,o,e,L,T⟩:=d j x f;exact⟨b,o,e,L,(bF<|c b L).trans T⟩
structure MS(w:t')(sb B:Nat)(aG ins outs:List Int)(vv iv ov:A'):Prop where
  box:w.1[sb]?=C' (j' #[vv,iv,ov] 182 (0,0))
  low:B<=sb
  aG:ρ w B 2 1 vv (ζ aG) (aG.map G)
  ins:CP w B iv ins
  outs:ρ w B 2 1 ov (ζ outs) (outs.map G)
  ne:φ vv=D'\/φ vv≠φ ov
def MS.lt{u:A'}(h:MS w o B P F l u y f):o<δ w.1:=(bG.1 h.box).1
def MS.below{u:A'}(h:MS w o B P F l u y f)(a:Bl w W):MS W o B P F l u y f:=
 ⟨(a.block _ h.lt).trans h.box,h.low,cS h.aG a,h.ins.mono λk b=>a.block k (by have:=h.lt;have:=h.low;omega),cS h.outs a,h.ne⟩
def nP{a t:Nat}{L:Array A'}(h:ρ w B e size (eu g n a) n D)(a:w.1[o]?=C' (cL L t))(U:e≠t):g≠o:=by rintro rfl;obtain⟨Q,K,C⟩:=eZ h g rfl;rw[C]at a;simp at a;exact U a.2.1
def JV{a:Nat}(h:ρ w B e size (eu g n a) n D):∀o,w.frozen? (O g o)=Q':=by
 rcases h.2 with⟨b,_⟩|⟨a,a,Y,R,a,c,_⟩
 .cases b
 cases R;exact(A c).2
def MS.put{a k:Nat}(h:MS w o B P F l (eu g (ζ P) a) y f)(b:Bl w W)(x:Int):MS (κ W (O g k)<|G x) o B (P.set k x) F l (eu g (ζ P) a) y f/\VF o (C' g) (φ f) w (κ W (O g k)<|G x):=by
 have a:=h.below b;have z:g≠o:=nP h.aG h.box aj;have d:=(h.aG.lt g rfl).1;obtain⟨U,c⟩:=a.aG.stored k<|G x;refine⟨⟨(bh _ _ _ _ λe=>z e.symm).trans a.box,h.low,?_,?_,?_,h.ne⟩,(VF.aR b).set (ad:=(O g k)) (aH<|aH<|aI rfl) _⟩
 .rw[jn,mx];exact U
 .exact a.ins.mono λq b=>bh _ _ _ _ I'
 refine a.outs.kept c ?_;rcases h.ne with e|e
 .cases e
 exact aH (λu=>e<|by rw[u];rfl)
def JE(o B:Nat)(u y f v s:A')(P F l:List Int)(m h:z')(q x c:Int)(a b:kE)(w:t')(j:MS w o B P F l u y f)(C:oD (ζ P) a)(R:0<=q/\q<ζ P):
  Cl 98 #[n'<|C'<|O o 0,k'<|aJ m v ⟨0,q,x,c,a,b,h⟩ s] w λe p=>e=o' (G 0)/\MS p o B (P.set q.toNat<|kh P a) F l u y f/\VF o (φ u) (φ f) w p:=by
 obtain⟨k,rfl⟩:∃k:Nat,q=k:=⟨q.toNat,I⟩;have L:=A j.box;obtain⟨g,t,rfl,d,i,Y⟩:=qj j.aG I;obtain⟨b,z⟩:=La (l:=P) (i:=k) I;have E:=JV j.aG;have T:=Y k (G b) (by simp[z]) I;have m:g<δ w.1:=(j.aG.lt g rfl).2;have h:o<δ w.1:=(bG.1 j.box).1;have d:g≠o:=nP j.aG j.box aj;have b:o≠g:=d.symm;have s:g≠δ w.1:=I;have x:δ w.1≠g:=I;have c:o≠δ w.1:=I;have V:δ w.1≠o:=I;have K:(k:Int)<(ζ P:Int):=R.2;have r:J (MS w o B P F l (eu g (ζ P) t) y f):=j;clear Y j;simp only[aJ];go_enter func98,ntmps98;go_wp2_with fail
 go_region_held3 (λp=>χ p (O o 0)=C' (eu g (ζ P) t)/\χ p (O w.1.size 3)=C' (G k)/\χ p (O w.1.size 6)=C' (i' a.aN)/\χ p (O w.1.size 7)=C' (G a.var)/\χ p (O w.1.size 8)=C' (G a.bJ)) (go_keep) ((go_at_call 171;refine(iu o B (eu g (ζ P) t) y f P a _ (by exact(ch _ _ _ h).trans r.o.box) (by exact r.o.aG.alloc _) C).mono ?_;rintro e b ⟨rfl,nq,rfl⟩))
 go_wp2_with fail;go_ret;exact⟨rfl,r.o.put (k:=k) (below_drewN (((aP _ _).alloc (aD _) _).alloc ak _) _)<|kh P a⟩
end
section
variable {r:List Int}
def Cw(c:k<δ w.1)(a f b:Obj)(n:Nat):((((w.alloc a).alloc f).drewN n).alloc b).1[k]?=w.1[k]?:=
 (ch (((w.alloc a).alloc f).drewN n) b k<|by show k<δ ((w.alloc a).alloc f).1;simp;omega).trans ((ch (w.alloc a) f k I').trans<|ch w a k c)
def Qr(c:k<δ w.1):∀(a f b:Obj)(n j:Nat),χ ((((w.alloc a).alloc f).drewN n).alloc b) (O k j)=χ w (O k j):=λa f b n j=>bF<|Cw c a f b n
def qC(c:k<δ w.1):∀(a f b:Obj)(n j:Nat),((((w.alloc a).alloc f).drewN n).alloc b).frozen? (O k j)=w.frozen? (O k j):=λa f b n j=>by simp only[World.frozen?,Cw c a f b n]
def ţ(h:p:=by
 cases R:φ v with
 |none=>exact aI rfl
 |some k=>
  refine aH λe=>?_;obtain⟨Q,K,C⟩:=eZ h k R;cases e;rw[C]at a
  simp at a):p:=h
def kZ{o B n:Nat}{v:A'}{D:List A'}(h:ρ w B 2 1 v n D)(a:w.1[o]?=C' (j' L 182 (0,0))):φ v=D'\/φ v≠C' o:=by exact ţ
def MS.o{w W g:t'}{o B:Nat}{P F l:List Int}{u i f E:A'}{y:Int}(h:MS w o B P F l u i f)(d:Bl w W)(c:ξ W g<|φ f)(j:ρ g B 2 1 E (ζ l+1)<|l.map G++[G y])(K:φ E=φ f\/φ E=C' W.1.size):VF o (φ u) (φ f) w (κ g (O o 2) E)/\(∃a,MS (κ g (O o 2) E) o B P F (l++[y]) u i a/\(φ a=φ f\/∃q,φ a=C' q/\δ w.1<=q)):=by
 have b:=h.below d;have a:=d.size;have z:=kZ b.outs b.box;have a:some o≠φ f:=by
  rcases z with e|e
  .rw[e];simp
  exact λk=>e k.symm
 have v:=(c.block o b.lt a).trans b.box;have a:=fV g o 2 E;refine⟨⟨c.os.trans d.os,c.tape.trans d.tape,c.output.trans d.output,by have:=c.size;simp[World.setCell];omega,λk f C _ N=>(bh _ _ _ _ C).trans<|(c.block k I N).trans<|d.block k f⟩,E,⟨?_,h.low,?_,?_,?_,?_⟩,?_⟩
 .rw[heap_setCell_same _ _ _ _ _ _ v];rfl
 .have d:=b.aG.kept c h.ne;exact d.kept a<|kZ d v
 .refine b.ins.mono λk f=>(bh _ _ _ _ (by have:=h.low;show k≠o;omega)).trans<|c.block k (by have:=h.low;have:=b.lt;omega) ?_;intro e;have:=(b.outs.lt k e.symm).1;omega
 .rw[aW,eR];exact j.kept a<|kZ j v
 .rcases K with e|e
  .rw[e];exact h.ne
  rw[e];cases R:φ u with
  |none=>exact aI rfl
  |some k=>have:=(h.aG.lt k R).2;exact aH I'
 rcases K with e|e
 .exact aI e
 exact aH ⟨_,e,I⟩
def Uf{g D u:Nat}{x:Int}(h:CP w B (h' (C'<|O g D) (ζ r+1) u)<|x::r):CP w B (h' (C'<|O g<|D+1) (ζ r)<|u-1) r:=by obtain⟨q,a,e,C,a,N⟩:=h;cases e;refine⟨_,_,rfl,by simp at C;omega,I,λj y f=>?_⟩;obtain⟨b,o,e,L,T⟩:=N (j+1) y<|J' f;cases e;exact⟨_,_,rfl,L,by rw[show D+1+j=D+(j+1)by omega];exact T⟩
def Ug{ao:u'}(h:ζ r=0):CP w B (h' ao (ζ r) 0) r:=by refine⟨ao,0,rfl,I,ak,λj y f=>?_⟩;have:=(aV.1 f).1;omega
def MS.take{o B g a k:Nat}{c:A'}(h:MS w o B P F l (eu g (ζ P) a) y f)(x:Int)(S:CP w B c r):VF o (C' g) (φ f) w (κ (κ w (O g k)<|G x) (O o 1) c)/\MS (κ (κ w (O g k)<|G x) (O o 1) c) o B (P.set k x) r l (eu g (ζ P) a) c f:=by
 obtain⟨b,Y⟩:=h.put (k:=k) (aP _ _) x;have a:=fV (κ w (O g k)<|G x) o 1 c;have d:=(h.aG.lt g rfl).1;refine⟨Y.set (ad:=(O o 1)) (aH<|aI rfl) _,⟨?_,h.low,b.aG.kept a<|kZ b.aG b.box,?_,b.outs.kept a<|kZ b.outs b.box,h.ne⟩⟩
 .rw[heap_setCell_same _ _ _ _ _ _ b.box];rfl
 exact S.mono λq a=>(bh _ _ _ _ (by have:=h.low;show q≠o;omega)).trans<|bh _ _ _ _ I'
def Pz{W b:t'}{a:Nat}{u:A'}{t:Nat}(h:MS w a B P F l u y f)(c:Below (δ w.1+1) (w.alloc<|j' L t) W)(K:(w.alloc<|j' L t).1[δ w.1]?=C' (cL L t))(d:ξ W b<|φ f):((∀o,χ b (O a o)=#[u,y,f][o]?)/\∀o,b.frozen? (O a o)=Q')/\(∀o,χ b (O w.1.size o)=L[o]?)/\∀o,b.frozen? (O w.1.size o)=Q':=by
 have f:=c.size;have y:=h.lt;have b:δ (w.alloc<|j' L t).1=δ w.1+1:=ak;refine⟨A (t:=182) ?_,A (t:=t) ?_⟩
 .refine(d.block a I ?_).trans<|(c.block a I).trans<|(ch _ _ _ y).trans h.box;intro e;obtain⟨Q,b,C⟩:=eZ h.outs a e.symm;have a:=h.box;rw[C]at a;simp at a
 refine(d.block w.1.size I ?_).trans<|(c.block _ I).trans K;intro e;have:=(h.outs.lt _ e.symm).2;omega
theorem RY(h:p:=by
 go_wp2_with fail;go_ret
 exact⟨rfl,r.o.below ay,VF.aR ay⟩):p:=h
def RX(h:p:=by
 have r:=ſ h;clear h;simp only[aJ];go_enter func98,ntmps98
 exact RY):p:=h
def RG(o B:Nat)(u y f j e:A')(P F l:List Int)(d g:z')(q i c:Int)(a b:kE)(w:t')(h:MS w o B P F l u y f):
  Cl 98 #[n'<|C'<|O o 0,k'<|aJ d j ⟨4,q,i,c,a,b,g⟩ e] w λe a=>e=o' (G 0)/\MS a o B P F l u y f/\VF o (φ u) (φ f) w a:=by
 exact RX
def JD(o B:Nat)(u y f j e:A')(P F l:List Int)(d g:z')(q i c:Int)(a b:kE)(w:t')(h:MS w o B P F l u y f):
  Cl 98 #[n'<|C'<|O o 0,k'<|aJ d j ⟨5,q,i,c,a,b,g⟩ e] w λe a=>e=o' (G 0)/\MS a o B P F l u y f/\VF o (φ u) (φ f) w a:=by
 exact RX
def Dj(o B:Nat)(u y f j e:A')(P F l:List Int)(d g:z')(q i c:Int)(a b:kE)(w:t')(h:MS w o B P F l u y f):
  Cl 98 #[n'<|C'<|O o 0,k'<|aJ d j ⟨6,q,i,c,a,b,g⟩ e] w λe a=>e=o' (G 1)/\MS a o B P F l u y f/\VF o (φ u) (φ f) w a:=by
 exact RX
def AL(o B:Nat)(u y f t s:A')(P F l:List Int)(j c:z')(q i h:Int)(a b:kE)(w:t')(D:MS w o B P F l u y f)(Q:oD (ζ P) a)(N:oD (ζ P) b)(R:0<=q/\q<ζ P):
  Cl 98 #[n'<|C'<|O o 0,k'<|aJ j t ⟨1,q,i,h,a,b,c⟩ s] w λe p=>e=o' (G<|if qQ i (kh P b) then 0 else 2)/\MS p o B (if qQ i (kh P b) then P.set q.toNat (lA i (kh P a)<|kh P b) else P) F l u y f/\VF o (φ u) (φ f) w p:=by
 obtain⟨k,rfl⟩:∃k:Nat,q=k:=⟨q.toNat,I⟩;obtain⟨g,v,rfl,d,m,Y⟩:=qj D.aG I;obtain⟨c,z⟩:=La (l:=P) (i:=k) I;have E:=JV D.aG;have T:=Y k (G c) (by simp[z]) I;have m:=(D.aG.lt g rfl).2;have t:=Qr m;have c:=qC m;have d:g≠o:=nP D.aG D.box aj;have c:=d.symm;have s:g≠δ w.1:=I;have x:δ w.1≠g:=I;have c:g≠δ w.1+1:=I;have u:δ w.1+1≠g:=I;have c:g≠δ w.1+1+1:=I;have c:δ w.1+1+1≠g:=I;have c:g≠δ w.1+2:=I;have W:δ w.1+2≠g:=I;have K:=R.2;clear Y z;have L:=A D.box;have h:=D.lt;have c:o≠δ w.1:=I;have V:δ w.1≠o:=I;have c:o≠δ w.1+1:=I;have c:δ w.1+1≠o:=I;have c:o≠δ w.1+1+1:=I;have c:δ w.1+1+1≠o:=I;have C:o≠δ w.1+2:=I;have j:δ w.1+2≠o:=I;have K:=Qr h;have c:=qC h;have r:=ſ D;clear D;cases c:qQ i (kh P b)with
 |false=>
  simp only[aJ];go_enter func98,ntmps98;go_wp2_with fail
  go_region_held3 (λp=>χ p (O w.1.size 6)=C' (i' a.aN)/\χ p (O w.1.size 7)=C' (G a.var)/\χ p (O w.1.size 8)=C' (G a.bJ)/\χ p (O w.1.size 9)=C' (i' b.aN)/\χ p (O w.1.size 10)=C' (G b.var)/\χ p (O w.1.size 11)=C' (G b.bJ)/\χ p (O w.1.size 4)=C' (G i)) (go_keep) (first|(go_at_call_of 171 (k' #[i' a.aN,G a.var,G a.bJ]);refine(iu o B (h' (C'<|O g 0) (ζ P) v) y f P a _ (by exact(r.o.below ay).box) (by exact(r.o.below ay).aG) Q).mono ?_;rintro e z ⟨rfl,nq,rfl⟩)|(go_at_call_of 171 (k' #[i' b.aN,G b.var,G b.bJ]);refine(iu o B (h' (C'<|O g 0) (ζ P) v) y f P b _ (by exact(r.o.below ay).box) (by exact(r.o.below ay).aG) N).mono ?_;rintro e z ⟨rfl,nq,rfl⟩)|(go_at_call 172;refine(vw _ _ _ _).mono ?_;rintro e z ⟨rfl,rfl⟩))
  exact RY
 |true=>
  simp only[aJ];go_enter func98,ntmps98;go_wp2_with fail
  go_region_held3 (λp=>χ p (O w.1.size 6)=C' (i' a.aN)/\χ p (O w.1.size 7)=C' (G a.var)/\χ p (O w.1.size 8)=C' (G a.bJ)/\χ p (O w.1.size 9)=C' (i' b.aN)/\χ p (O w.1.size 10)=C' (G b.var)/\χ p (O w.1.size 11)=C' (G b.bJ)/\χ p (O w.1.size 4)=C' (G i)) (go_keep) (first|(go_at_call_of 171 (k' #[i' a.aN,G a.var,G a.bJ]);refine(iu o B (h' (C'<|O g 0) (ζ P) v) y f P a _ (by exact(r.o.below ay).box) (by exact(r.o.below ay).aG) Q).mono ?_;rintro e z ⟨rfl,nq,rfl⟩)|(go_at_call_of 171 (k' #[i' b.aN,G b.var,G b.bJ]);refine(iu o B (h' (C'<|O g 0) (ζ P) v) y f P b _ (by exact(r.o.below ay).box) (by exact(r.o.below ay).aG) N).mono ?_;rintro e z ⟨rfl,nq,rfl⟩)|(go_at_call 172;refine(vw _ _ _ _).mono ?_;rintro e z ⟨rfl,rfl⟩))
  go_wp2_with fail
  go_region_held3 (λp=>χ p (O o 0)=C' (h' (C'<|O g 0) (ζ P) v)/\χ p (O w.1.size 3)=C' (G k)) (go_keep) (fail)
  go_wp2_with fail;go_ret;exact⟨rfl,r.o.put (k:=k) ay _⟩
def AK(o B:Nat)(u y f j h:A')(P F l:List Int)(e g:z')(q i c:Int)(a b:kE)(w:t')(d:MS w o B P F l u y f)(S:F=[]):
  Cl 98 #[n'<|C'<|O o 0,k'<|aJ e j ⟨2,q,i,c,a,b,g⟩ h] w λe a=>e=o' (G 3)/\MS a o B P F l u y f/\VF o (φ u) (φ f) w a:=by
 obtain⟨L,g⟩:=A d.box;have h:=d.lt;have c:o≠δ w.1:=I;have V:δ w.1≠o:=I;have y:o≠δ w.1+1:=I;have r:δ w.1+1≠o:=I;have a:o≠δ w.1+1+1:=I;have a:δ w.1+1+1≠o:=I;have C:o≠δ w.1+2:=I;have j:δ w.1+2≠o:=I;have K:=Qr h;have a:=qC h;obtain⟨k,m,rfl,s,p,N⟩:=d.ins;subst S;have r:=ſ d;clear d N;simp only[de]at L;simp only[aJ];go_enter func98,ntmps98;exact RY
def Fy(o B:Nat)(u y f j s:A')(P F l:List Int)(h c:z')(q m e:Int)(a b:kE)(w:t')(p:MS w o B P F l u y f)(x:Int)(r:List Int)(S:F=x::r)(R:0<=q/\q<ζ P):
  Cl 98 #[n'<|C'<|O o 0,k'<|aJ h j ⟨2,q,m,e,a,b,c⟩ s] w λe Q=>e=o' (G 0)/\VF o (φ u) (φ f) w Q/\∃a,MS Q o B (P.set q.toNat x) r l u a f:=by
 subst S;obtain⟨k,rfl⟩:∃k:Nat,q=k:=⟨q.toNat,I⟩;obtain⟨g,U,rfl,d,i,Y⟩:=qj p.aG I;obtain⟨F,z⟩:=La (l:=P) (i:=k) I;have E:=JV p.aG;have T:=Y k (G F) (by simp[z]) I;have m:=(p.aG.lt g rfl).2;have t:=Qr m;have a:=qC m;have d:g≠o:=nP p.aG p.box aj;have a:=d.symm;have s:g≠δ w.1:=I;have a:δ w.1≠g:=I;have a:g≠δ w.1+1:=I;have u:δ w.1+1≠g:=I;have a:g≠δ w.1+1+1:=I;have a:δ w.1+1+1≠g:=I;have a:g≠δ w.1+2:=I;have W:δ w.1+2≠g:=I;have K:=R.2;clear Y z;obtain⟨L,a⟩:=A p.box;have h:=p.lt;have c:o≠δ w.1:=I;have V:δ w.1≠o:=I;have y:o≠δ w.1+1:=I;have a:δ w.1+1≠o:=I;have a:o≠δ w.1+1+1:=I;have a:δ w.1+1+1≠o:=I;have a:o≠δ w.1+2:=I;have j:δ w.1+2≠o:=I;have K:=Qr h;have a:=qC h;obtain⟨q,Y,rfl,C,X,N⟩:=p.ins;obtain⟨z,D,rfl,Cp,v⟩:=N 0 x rfl;rw[k!]at v;unfold maxLen at X;simp only[bR]at C X L;have b:=ſ p;have a:=p.low;have a:z≠g:=I;have a:g≠z:=I;have a:z≠o:=I;have a:o≠z:=I;have a:z≠δ w.1:=I;have a:δ w.1≠z:=I;have a:(((ζ r:Int)+1)==0)=Q':=by rw[dO];omega
 have a:(0:Int)<(ζ r:Int)+1:=I;have j:∀(v:A')(L:Array A')(t:TypeId)(j:Nat),χ ((κ w (O g k) v).alloc<|j' L t) (O w.1.size j)=L[j]?:=by intro v L t j;have:=(A<|bj (κ w (O g k) v)<|j' L t).1 j;simpa[World.setCell]using this
 clear p N;simp only[aJ];go_enter func98,ntmps98;go_wp2_with fail
 go_region_held3 (λQ=>χ Q (O o 0)=C' (eu g (ζ P) U)/\χ Q (O o 1)=C' (h' (C'<|O z D) (ζ r+1) Y)/\χ Q (O w.1.size 3)=C' (G k)/\χ Q (O z D)=C' (G x)) (go_keep) (fail)
 go_wp2_with fail
 all_goals
  go_ret;have S:=b.o.ins
  first
  |(have U:=b.o.take (k:=k) x<|Uf S;exact⟨rfl,U.1.then<|((aP _ _).alloc (aD _) _).drew,_,U.2.below<|((aP _ _).alloc (aD _) _).drew⟩)
  |(have U:=b.o.take (k:=k) x<|Ug (ao:=C'<|O z D) (r:=r) I;exact⟨rfl,U.1.then<|((aP _ _).alloc (aD _) _).drew,_,U.2.below<|((aP _ _).alloc (aD _) _).drew⟩)
def Dk(o B:Nat)(u k f v t:A')(P F l:List Int)(h g:z')(q x c:Int)(a b:kE)(w:t')(d:MS w o B P F l u k f)(z:oD (ζ P) a)(D:ζ l<20000):
  Cl 98 #[n'<|C'<|O o 0,k'<|aJ h v ⟨3,q,x,c,a,b,g⟩ t] w λe b=>e=o' (G 0)/\VF o (φ u) (φ f) w b/\∃E,MS b o B P F (l++[kh P a]) u k E/\(φ E=φ f\/∃q,φ E=C' q/\δ w.1<=q):=by
 have L:=A d.box;have h:=d.lt;have c:o≠δ w.1:=I;have V:δ w.1≠o:=I;have b:o≠δ w.1+1:=I;have b:δ w.1+1≠o:=I;have b:o≠δ w.1+1+1:=I;have b:δ w.1+1+1≠o:=I;have b:o≠δ w.1+2:=I;have b:δ w.1+2≠o:=I;have K:=Qr h;have b:=qC h;obtain⟨X,S,D,b,c⟩:=cG K9;have p:J (Tryz.prog.info? 2=C' X/\X.zero=C' (G 0)/\X.size=1/\X.bytes=8):=⟨S,D,b,c⟩;clear S D b c;obtain⟨j,s,rfl⟩:=aX d.outs;have r:=ſ d;have m:ζ l+1<=maxLen:=by unfold maxLen;omega
 have i:(ζ l+1)*8<=140737488355328:=I;clear d;simp only[aJ];go_enter func98,ntmps98;go_wp2_with fail
 go_region_law (first|(go_simp;refine(iu o B u k (bk j (ζ l) s) P a _ (by exact(r.o.below ay).box) (by exact(r.o.below ay).aG) z).mono ?_;rintro e b ⟨rfl,nq,rfl⟩)|(refine dS rfl (.tmp 83) (.tmp 88) 23 rfl B 2 X (G 0) 1 8 underlying23 p.a p.b p.c p.C rfl aj (bk j (ζ l) s) (ζ l) (l.map G) (by simp[Act.eval,Act.put]) (cS r.o.outs ay) (O (δ w.1+1+1) 0) 1 1 [G<|kh P a] (by simp[Act.eval,Act.put]) rfl (wk _ _ _ _ ak) (by intro u C;simp at C;subst C;rfl) m i (by have:=r.o.lt;have:=r.o.low;simp;omega) ?_;intro E a d W y;obtain⟨C,P,rfl⟩:=aX d;have a:=Pz r.o ay (bj w _) W))
 all_goals
  go_wp2_with fail;go_ret;exact⟨rfl,r.o.o ay W d y⟩
end
section
variable {α β K:Type}
structure Two{α β:Type}(R:α->β->Prop)(l:List α)(m:List β):Prop where
  len:ζ l=ζ m
  each:∀(j:Nat) a b,l[j]?=C' a->m[j]?=C' b->R a b
def Two.nil{R:α->β->Prop}:Two R [] []:=⟨rfl,λj a b h=>by simp at h⟩
def Two.snoc{R:α->β->Prop}{l:List α}{m:List β}{x:α}{y:β}(h:Two R l m)(c:R x y):Two R (l++[x]) (m++[y]):=by
 refine⟨by simp[h.len],λj a b d e=>?_⟩;have X:=h.len;by_cases f:j<ζ l
 .rw[iC f]at d;rw[iC I]at e;exact h.each j a b d e
 have C:=(aV.1 d).1;simp at C;obtain rfl:j=ζ l:=I;rw[fh I]at d;rw[X,fh I]at e;simp at d e;rw[<-d,<-e];exact c
def Two.tail{R:α->β->Prop}{l:List α}{m:List β}{x:α}{y:β}(h:Two R (x::l)<|y::m):R x y/\Two R l m:=
 ⟨h.each 0 x y rfl rfl,by have:=h.len;simpa using this,λj a b c d=>h.each (j+1) a b (J' c)<|J' d⟩
def Two.mem{R:α->β->Prop}{l:List α}{m:List β}(h:Two R l m)(v:∀a b c o,R a b->R c o->(a=c↔b=o)){x:α}{y:β}(c:R x y):x∈l↔y∈m:=by
 constructor
 .intro F;obtain⟨j,f⟩:=L6 F;obtain⟨b,d⟩:=La (l:=m) (i:=j) (by have:=(aV.1 f).1;have:=h.len;omega);have:=(v _ _ _ _ (h.each j x b f d) c).1 rfl;rw[<-this];exact aK d
 intro B;obtain⟨j,f⟩:=L6 B;obtain⟨a,b⟩:=La (l:=l) (i:=j) (by have:=(aV.1 f).1;have:=h.len;omega);have:=(v _ _ _ _ (h.each j a y b f) c).2 rfl;rw[<-this];exact aK b
def Ĺ(R:α->β->Prop)(a:Option α)(b:Option β):Prop:=match a,b with|none,none=>True|some x,some y=>R x y|_,_=>False
def N7{K d:Type}[DecidableEq K][DecidableEq d]{R:K->d->Prop}(e:∀a b c o,R a b->R c o->(a=c↔b=o)):
  ∀(a:List<|Option K)(c:List<|Option d)(u:List K)(v:List d),Two (Ĺ R) a c->Two R u v->Two R (a.foldl cg u) (c.foldl cg v)
 |[],[],u,v,_,aa=>aa
 |[],_::_,u,v,h,_=>by have:=h.len;simp at this
 |_::_,[],u,v,h,_=>by have:=h.len;simp at this
 |k::a,j::c,u,v,h,aa=>by
  obtain⟨h1,b⟩:=h.tail;rw[e8,e8];refine N7 e a c _ _ b ?_
  match k,j,h1 with
  |none,none,_=>exact aa
  |some x,some y,h1=>
   have d:=aa.mem e (x:=x) (y:=y) h1;show Two R (if x∈u then u else u++[x]) (if y∈v then v else v++[y]);by_cases F:x∈u
   .rw[aB F,aB<|d.1 F];exact aa
   rw[ax F,ax λe=>F<|d.2 e];exact aa.snoc h1
def EB[DecidableEq K]{u:List K}(h:u.Nodup)(o:Option K):(cg u o).Nodup:=by
 unfold cg;split
 .exact h
 split
 .exact h
 rw[vC];exact⟨h,ak,by rintro a a b a rfl;simp at a;subst a;contradiction⟩
def n?{K:Type}[DecidableEq K]:∀(R:List<|Option K)(u:List K),u.Nodup->(R.foldl cg u).Nodup
 |[],u,h=>h
 |k::R,u,h=>n? R _<|EB h k
def Lu[DecidableEq K](u:List K)(o:Option K):u <+: cg u o:=by
 unfold cg;split
 .exact jZ
 split
 .exact jZ
 exact Fj _ _
def n0{K:Type}[DecidableEq K]:∀(R:List<|Option K)(u:List K),u <+: R.foldl cg u
 |[],u=>jZ
 |k::R,u=>(Lu u k).trans<|n0 R _
def sl{K:Type}[DecidableEq K]:∀(R:List<|Option K)(u:List K)(x:K),C' x∈R->x∈R.foldl cg u
 |[],u,x,h=>by cases h
 |k::R,u,x,h=>by
  rw[e8];rcases cO.1 h with rfl|h
  .refine(n0 R _).subset ?_;show x∈(if x∈u then u else u++[x]);split
   .assumption
   simp
  exact sl R _ x h
def v?{K:Type}[DecidableEq K]:∀(R:List<|Option K)(u:List K)(x:K),x∈R.foldl cg u->x∈u\/C' x∈R
 |[],u,x,h=>aI h
 |k::R,u,x,h=>by
  rw[e8]at h;rcases v? R _ x h with h|h;rotate_left
  .exact aH (by simp[h])
  unfold cg at h;split at h
  .exact aI h
  split at h
  .exact aI h
  rcases eC.1 h with h|h
  .exact aI h
  simp at h;subst h;exact aH ak
def Lv[DecidableEq K](u:List K)(o:Option K):ζ (cg u o)<=ζ u+1:=by
 unfold cg;split
 .omega
 split
 .omega
 simp
def zU{K:Type}[DecidableEq K]:∀(R:List<|Option K)(u:List K),ζ (R.foldl cg u)<=ζ u+ζ R
 |[],u=>ak
 |k::R,u=>by have C:=Lv u k;have a:=zU R<|cg u k;rw[e8,bR];omega
def N8[DecidableEq K](R:List<|Option K):ζ (Cy R)<=ζ R:=by have:=zU R [];simpa[Cy]using this
def Qv[DecidableEq K](R:List<|Option K):(Cy R).Nodup:=n? R [] vB
def Y7[DecidableEq K](R:List<|Option K)(x:K):x∈Cy R↔C' x∈R:=
 ⟨λh=>by rcases v? R [] x h with h|h;(· cases h);exact h,λh=>sl R [] x h⟩
end
section
variable {T p a q:Nat}{v:A'}{X l b:t'}{D:List NC}{P:Pm}
structure TF(B tR tE:Nat)(w w':t'):Prop where
  low:Below B w w'
  keep:∀(q:Nat)(cs:Array A')(t:TypeId)(f:Nat×Nat),w.1[q]?=C' (j' cs t f)->t≠tR->t≠tE->w'.1[q]?=w.1[q]?
def TF.refl(B T p:Nat)(w:t'):TF B T p w w:=⟨aP _ _,λ_ _ _ _ _ _ _=>rfl⟩
def Bj{a b c d}:=@TF.refl a b c d
def TF.trans{u v:t'}(h:TF B T p u v)(k:TF B T p v w):TF B T p u w:=
 ⟨h.low.trans k.low,λq L t f e C a=>by
  have V:=h.keep q L t f e C a
  exact(k.keep q L t f (V.trans e) C a).trans V⟩
def TF.aR{a:t'}(h:Below w.1.size w a)(v:B<=δ w.1):TF B T p w a:=
 ⟨h.mono v,λq L t f e _ _=>h.block q (bG.1 e).1⟩
def TF.box{a:t'}(h:TF B T p w a){f:Nat×Nat}(e:w.1[q]?=C' (j' L t f))(C:t≠T)(b:t≠p):a.1[q]?=C' (j' L t f):=(h.keep q L t f e C b).trans e
def Sys.frame{d:Nat}{c:List RR}{r:RR}(h:Sys W B d m T p c)(e:c[k]?=C' r)(b:Below W.1.size W X)(a:B<=δ W.1)
  (F:ξ X l<|φ r.ev) (o:Nat):TF B T p W (κ l (O d o) v):=by
 have l:=(h.below b).row r<|aK e;refine⟨?_,?_⟩
 .exact((b.mono a).grown F (br a b.size) λq e=>(l.lt q e).1).setCell h.low _
 intro q L t f e C c;have a:=(bG.1 e).1;have V:=(b.block q a).trans e;have s:q≠d:=by rintro rfl;rw[h.fE]at e;simp at e;exact C e.2.1.symm
 rw[bh _ _ _ _ s,e];refine(F.block q (bG.1 V).1 ?_).trans V;intro u;rcases l.2 with⟨a,_⟩|⟨g,b,Y,a,_,N,_⟩
 .rw[a]at u;simp[Value.ownBlock]at u
 rw[a]at u;have:q=g:=by simpa[Value.ownBlock]using u
 subst this;rw[N]at V;simp at V;exact c V.2.1.symm
def Sys.Vr{c:List RR}{j:Nat}{r:RR}(h:Sys W B a m T p c)(U:p≠T)(d:c[k]?=C' r)(e:Bl W X)(F:ξ X l<|φ r.ev)(f:(oU r)[j]?=C' v):χ l (O a<|k*(m+1)+j)=C' v/\l.frozen? (O a<|k*(m+1)+j)=Q':=by
 have b:=h.below e;have z:some a≠φ r.ev:=λe=>lX (b.row r<|aK d) b.fE U e.symm;have w:=(F.block a (bG.1 b.fE).1 z).trans b.fE;have E:=A w;refine⟨?_,E.2 _⟩;have X:=h.len r<|aK d;have L:j<m+1:=by have:=(aV.1 f).1;simp[oU]at this;omega
 rw[E.1,cz,yA c k r j h.len d L,f]
structure PM(w:t')(g cap:Nat)(nl:List NC)(P:Pm):Prop where
  row:fN w g cap nl
  len:ζ nl=ζ P.nd
  nd:∀(j:Nat)(c:NC)(n:SN),nl[j]?=C' c->P.nd[j]?=C' n->c.n=n
  Ye:ζ P.nx=ζ P.nd
  nx:∀(j:Nat)(c:NC)(l:List Nat),nl[j]?=C' c->P.nx[j]?=C' l->Er w c.ev (l.map Int.ofNat)
def Er.tf{a:A'}{c:List Int}(h:Er w a c)(V:∀(q:Nat)(L:Array A')(t:TypeId)(f:Nat×Nat),w.1[q]?=C' (j' L t f)->t=3->b.1[q]?=w.1[q]?):Er b a c:=by
 rcases h with a|⟨b,e,c⟩
 .exact aI a
 exact aH ⟨b,e,(V _ _ _ _ c rfl).trans c⟩
def PM.keep(h:PM w g a D P)(V:∀(q:Nat)(L:Array A')(t:TypeId)(f:Nat×Nat),w.1[q]?=C' (j' L t f)->t=3\/t=152->b.1[q]?=w.1[q]?):PM b g a D P:=by refine⟨?_,h.len,h.nd,h.Ye,λj c l a b=>(h.nx j c l a b).tf λq L t f e U=>V q L t f e<|aI U⟩;obtain⟨Y,a,b⟩:=h.row;exact⟨Y,(V _ _ _ _ a<|aH rfl).trans a,b⟩
def PM.below(h:PM w g a D P)(c:Bl w b):PM b g a D P:=
 h.keep λq L t f e _=>c.block q (bG.1 e).1
def PM.tf(h:PM w g a D P)(Y:TF B T p w b)(C:T≠3)(c:p≠3)(N:T≠152)(d:p≠152):PM b g a D P:=
 h.keep λq L t f e U=>Y.keep q L t f e (by rcases U with rfl|rfl;(· exact oh C);exact oh N) (by rcases U with rfl|rfl;(· exact oh c);exact oh d)
structure cF(P:Pm):Prop where
  nv:P.nv<=8
  pos:0<ζ P.nd
  most:ζ P.nd<=60
  nx:∀l∈P.nx,ζ l<=2/\∀t∈l,t<ζ P.nd
  aO:∀n∈P.nd,0<=n.aO/\n.aO<=6
  var:∀n∈P.nd,n.aO<=2->0<=n.var/\n.var<P.nv
  a:∀n∈P.nd,0<dP n->n.a.aN=P'->0<=n.a.var/\n.a.var<P.nv
  b:∀n∈P.nd,1<dP n->n.b.aN=P'->0<=n.b.var/\n.b.var<P.nv
def PM.nodes(h:PM w g a D P)(a:k<ζ P.nd):∃c l,D[k]?=C' c/\P.nd[k]?=C' c.n/\P.at k=c.n/\P.nx[k]?=C' l/\P.mK k=l/\Er w c.ev (l.map Int.ofNat):=by
 have C:=h.len;have b:=h.Ye;have V:D[k]?=C' D[k]:=aQ I;have u:=aQ a;have a:P.nx[k]?=C' P.nx[k]:=aQ I;have b:=h.nd k _ _ V u;refine⟨_,_,V,by rw[b];exact u,?_,a,?_,h.nx k _ _ V a⟩
 .rw[Pm.at,getD,u];exact b.symm
 rw[Pm.mK,getD,a];rfl
def Er.ints{c:A'}{b:List Int}(h:Er w c b):∃a,c=h' a (ζ b) (ζ b)/\b7 w a b:=by
 rcases h with⟨rfl,rfl⟩|⟨b,rfl,a⟩
 .exact⟨D',rfl,λj x f=>by simp at f⟩
 refine⟨C'<|O b 0,rfl,λj x f=>⟨b,0,rfl,?_⟩⟩;rw[(A a).1];simp[f]
def Sys.keep{d:t'}{c:List RR}(h:Sys W B a m T p c)(b:W.1[q]?=C' (cL L t))(U:t≠T/\t≠p)(V:∀k,k≠q->d.1[k]?=W.1[k]?):Sys d B a m T p c:=by
 have nq:a≠q:=by rintro rfl;rw[h.fE]at b;simp at b;exact U.1 b.2.symm
 refine⟨(V _ nq).trans h.fE,h.low,h.len,λr a=>?_,h.wN⟩;have D:=h.row r a;refine⟨D.1,?_⟩;rcases D.2 with a|⟨g,c,Y,C,e,N,d⟩
 .exact aI a
 refine aH ⟨g,c,Y,C,e,(V _ ?_).trans N,d⟩;rintro rfl;rw[N]at b;simp at b;exact U.2 b.2.symm
abbrev RA:=List A'×List (Nat×A')
def RR.pr(r:RR):RA:=(r.st,r.es)
def wT(l:List RA)(au:Nat)(e:Nat×A'):List RA:=l.modify au λr=>(r.1,r.2++[e])
def VS{c:List RR}{r:RR}{e:Nat×A'}{d:u'}{b:Nat}(a:c[k]?=C' r):(c.set k ⟨r.st,d,b,r.es++[e]⟩).map RR.pr=wT (c.map RR.pr) k e:=by
 refine dQ λj=>?_;rw[bH,eQ,wT,Je,bH];by_cases s:k=j
 .subst s;rw[aB rfl,aB (aV.1 a).1,a];simp[RR.pr]
 rw[ax s];cases c[j]?<;>simp[s]
abbrev gi(g n cap nv:Nat):A':=k'<|ei g n cap nv
def Uk:(Tryz.prog.info? 393).map (λi=>(i.zero,i.size,i.bytes))=C' (C'<|k' #[Z 0,Z 0,h' D' 0 0],3,40):=H
def Un:(Tryz.prog.info? 404).map (λi=>(i.zero,i.size,i.bytes))=C' (C'<|k' #[G 0,.nilFunc],2,16):=H
def jK(z:Array A')(m:Nat)(d:z.size=m):∀n,(madeCells z<|n*m).toList=(replicate n z.toList).flatten
 |0=>by simp[madeCells]
 |n+1=>by have B:=jK z m d n;simp only[madeCells,C0,CZ]at B|-;rw[qX,Nat.one_mul,xM,eR,B,replicate_succ',flatten_append];congr 1;rw[fF];simp only[oY,flatten_nil,fQ];refine Jk (by simp[d]) λi C a=>?_;simp only[bA,uA]at C;simp only[Jd,Jr,Function.comp,d];rw[xI n m,Nat.mul_add_mod,rG C,getElem!_pos z i I];simp
def YV(n:Nat)(st:List A'):(replicate n<|st++[h' D' 0 0]).flatten=ix (replicate n ⟨st,D',0,[]⟩):=by
 induction n with
 |zero=>rfl
 |succ n B=>rw[eW,oY,B,eW];rfl
def Sys.made{b n:Nat}{st:List A'}(p:Nat)(h:ρ W B T (m+1) (cw b n) n (replicate n<|st++[h' D' 0 0]).flatten)(R:ζ st=m):
  Sys W B b m T p (replicate n ⟨st,D',0,[]⟩):=by
 rcases h.2 with⟨e,_⟩|⟨g,b,Y,e,C,b,N,_,l,c⟩
 .simp at e
 simp at e;obtain⟨rfl,rfl⟩:=e;refine⟨?_,C,?_,?_,?_⟩
 .rw[b];congr 2;rw[b!<|by simp[l]]at c;rw[<-YV,<-c]
 .intro r b;rw[iM b];exact R
 .intro r b;rw[iM b];exact cY _ _ _ _
 intro i j a b b f _;rw[iM<|aK b];exact aI rfl
def l0(g n b Q:Nat)(w:t')(K:n<=60):
  Cl 280 #[gi g n b Q] w λe a=>∃d c,e=o' (cP d n)/\Sys a w.1.size d 2 393 404 c/\c.map RR.pr=replicate n ([Z 0,Z 0],[])/\Bl w a:=by
 obtain⟨X,S,D,P,a⟩:=cG Uk;have c:J (_/\_/\_/\_):=⟨S,D,P,a⟩;clear S D P a;go_enter func280,ntmps280;go_wp2_with (at_make;refine eK _ rfl (.tmp 5) (.tmp 5) 256 rfl w.1.size 393 X _ 3 underlying256 c.a c.b c.c .i64 .i64 n n n rfl rfl rfl rfl (by rw[c.C];omega) (by unfold maxLen;omega) (by simp;try omega) ?_;intro t a d;have E:=A<|(d.block (δ w.1+1) ak ak).trans (bP w _ _).2;have V:=ſ<|M a d;clear a d);have X:=(V.A.block (δ w.1+1) ak ak).trans (bP w _ _).2;have r:=(A<|aw (o:=0) X<|h' (C'<|O (δ w.1+1+1) 0) n n).1;have R:=(A<|aw (o:=1) (aw (o:=0) X<|h' (C'<|O (δ w.1+1+1) 0) n n) iP).1;have F:=(A<|aw (o:=2) (aw (o:=1) (aw (o:=0) X<|h' (C'<|O (δ w.1+1+1) 0) n n) iP) mM).1;have a:Sys t w.1.size (δ w.1+1+1) 2 393 404 (replicate n ⟨[Z 0,Z 0],D',0,[]⟩):=by have C:=V.a;rw[jK _ 3 (by simp[Value.cells]) n]at C;have e:δ ((w.alloc<|j' (ei g n b Q) 86).alloc<|j' Fp 260).1=δ w.1+1+1:=ak;rw[e]at C;exact Sys.made _ C rfl
 refine aC (v:=cP (δ w.1+1+1) n) (by simp[results280,go_sem,r,R,F]) rfl ⟨δ w.1+1+1,_,rfl,a.keep X ⟨aj,aj⟩ λk a=>by rw[bh _ _ _ _ a,bh _ _ _ _ a,bh _ _ _ _ a],by simp[RR.pr],?_⟩;have L:Bl w t:=(vu w _ _).grown V.A I' (λq e=>by cases e);exact((L.setCell I' _).setCell I' _).setCell I' _
def Sys.Zu{c:List RR}{r:RR}(h:Sys W B a m T p c)(d:c[k]?=C' r)(a:Bl W X)(F:ξ X l<|φ r.ev)(b:W.1[q]?=C' (cL L t))(U:p≠t):l.1[q]?=C' (cL L t):=by have V:=(a.block q (bG.1 b).1).trans b;exact(F.block q (bG.1 V).1 λe=>lX ((h.below a).row r<|aK d) V U e.symm).trans V
def ŀ{p:Prop}(h:p:=by
 obtain⟨i0,S,c,f,d⟩:=cG Un;have q:J (_/\_/\_/\_):=⟨S,c,f,d⟩;clear S c f d;obtain⟨c,R,T,z,x,f,j,o⟩:=hP.nodes hk;have Q:=hO.nx R<|aK f;obtain⟨C,d,y⟩:=o.ints;rw[bA]at d;have u:χ w (O g<|k*14+12)=C' (h' C (ζ R)<|ζ R):=by rw[hP.row.cells k c T 12 I,<-d];rfl
 rw[j];have E:=hO.most;have s:=ſ<|M hP<|M hO<|M hS<|M YK<|M Q<|M T<|M f d;obtain⟨N,i⟩:=Ea<|ζ P.nd;rw[<-i]at hl hk E|-;have Q:=ſ i;clear hP hO hS YK y o T z x f j d i
 first|(have _:=Cf;go_enter func285,ntmps285)|(go_enter func283,ntmps283)
 simp only[cP,gi,Fc];go_upto_region 1 with(fail)
 generalize j:((w.alloc<|j' (dB rb N) 260).alloc<|j' (ei g N cap nv) 86).alloc (j' #[Z e.drop.1,Z e.drop.2,Z e.add.1,Z e.add.2] 397)=f;have U:J (Bl w f/\f.1[δ w.1]?=C' (j' (dB rb N) 260 (0,0))/\f.1[δ w.1+1]?=C' (j' (ei g N cap nv) 86 (0,0))/\f.1[δ w.1+1+1]?=C' (j' #[Z e.drop.1,Z e.drop.2,Z e.add.1,Z e.add.2] 397 (0,0))):=by
  subst j;refine⟨gU,?_,?_,?_⟩
  .rw[ch _ _ _ I'];exact(bP w _ _).1
  .rw[ch _ _ _ ak];exact(bP w _ _).2
  have:=bj ((w.alloc<|j' (dB rb N) 260).alloc<|j' (ei g N cap nv) 86)<|j' #[Z e.drop.1,Z e.drop.2,Z e.add.1,Z e.add.2] 397;simpa using this
 clear j;have d:=aA u U.a;have E:=A U.c;have K:(k:Int)<N:=I;go_wp2_with fail;clear E u d;generalize k' (dB rb N)=d;generalize k' (ei g N cap nv)=d
 first|(have _:=Cf;go_loopw[17] (λi wr=>∃(j:Nat)(d:List RR),j<=ζ R/\i=G j/\J (Sys wr B rb 2 393 404 d/\d.map RR.pr=(R.take j).foldl (λl t=>wT l k (t,vS e)) (rl.map RR.pr)/\TF B 393 404 f wr/\ζ d=N/\∀r∈d,ζ r.es<=200+j)) (λi _=>ζ R-(intOf i).toNat))|(go_loopw[17] (λi wr=>∃(j:Nat)(d:List RR),j<=ζ R/\i=G j/\J (Sys wr B rb 2 393 404 d/\d.map RR.pr=(R.take j).foldl (λl t=>wT l t (k,vS e)) (rl.map RR.pr)/\TF B 393 404 f wr/\ζ d=N/\∀r∈d,ζ r.es<=200+j)) (λi _=>ζ R-(intOf i).toNat))
 case atStart=>exact⟨0,rl,bq _,rfl,s.c.below U.a,rfl,Bj,hl,s.d⟩
 obtain⟨j,d,f,rfl,f⟩:=hrel;by_cases L:j<ζ R;rotate_left
 .have o:¬(j:Int)<(ζ R:Int):=I;have u:R.take j=R:=b! I;go_wp2_with fail
  go_end0
  refine⟨⟨_,rfl⟩,d,f.a,?_,(TF.aR U.a hB).trans f.c⟩;rw[f.b,u]
 have o:(j:Int)<(ζ R:Int):=I;obtain⟨t,F⟩:=La L;have o:t<N:=by rw[Q.o];exact s.e.2 t<|aK F
 have z:=(s.a.below U.a).tf f.c aj aj aj aj;obtain⟨x,X,u⟩:=(z.nx k c R s.f s.g).ints;rw[bA,s.G]at X;obtain rfl:C=x:=by simpa using X
 obtain⟨c,c,rfl,T⟩:=u j (t:Int) (by rw[bH,F];rfl)
 first|(have _:=Cf;obtain⟨r,y⟩:=La (l:=d) (i:=k)<|by rw[f.d];exact hk)|(obtain⟨r,y⟩:∃r,d[t]?=C' r:=⟨_,aQ<|by rw[f.d];exact o⟩)
 have Y:=f.a.cell (j:=2) y (v:=r.ev) (by have:=f.a.len r<|aK y;simp[oU,this]);simp only[Nat.reduceAdd,RR.ev]at Y;have E:=A<|f.c.box U.b aj aj;have K:=A<|f.c.box U.C aj aj;have c:=(bG.1<|f.c.box U.C aj aj).1;have C:=(bG.1 f.a.fE).1;have d:δ w.1≠δ wr.1:=I;have x:δ w.1+1+1≠δ wr.1:=I;have c:rb≠δ wr.1:=I;have V:=d.symm;have d:=x.symm;have d:=c.symm;have c:∀(o:Obj)(i:Nat),χ (wr.alloc o) (O w.1.size i)=((dB rb N):Array A')[i]?:=λo i=>(bF<|ch wr o _ I).trans<|E.1 i;have c:∀(o:Obj)(i:Nat),χ (wr.alloc o) (O (δ w.1+1+1) i)=(#[Z e.drop.1,Z e.drop.2,Z e.add.1,Z e.add.2]:Array A')[i]?:=λo i=>(bF<|ch wr o _ I).trans<|K.1 i
 first|(have _:=Cf;have d:∀(o:Obj),χ (wr.alloc o) (O rb<|k*3+2)=C' (bk r.ea (ζ r.es) r.ec):=λo=>(bF<|ch wr o _ C).trans Y.1)|(have d:∀(o:Obj),χ (wr.alloc o) (O rb<|t*3+2)=some (bk r.ea (ζ r.es) r.ec):=λo=>(bF<|ch wr o _ C).trans Y.1)
 have c:=(bG.1 s.c.fE).1;have c:rb≠δ w.1:=I;have d:rb≠δ w.1+1+1:=I;have i:=c.symm;have c:=d.symm;have c:(t:Int)<N:=I;have c:=f.D r<|aK y;have d:=ſ<|M y<|M (f.a.row r<|aK y) F;have c:=s.e.1;clear y z u X F;go_wp2_with fail
 first|(have _:=Cf;go_region_law (refine dS rfl (.tmp 29) (.tmp 34) 391 rfl B 404 i0 (k' #[G 0,.nilFunc]) 2 16 underlying391 q.a q.b q.c q.C rfl aj (bk r.ea (ζ r.es) r.ec) (ζ r.es) (iB r.es) (by simp[Act.eval,Act.put]) (by exact bu d.b ay) (O wr.1.size 0) 1 1 [G t,vS e] (by simp[Act.eval,Act.put]) rfl (by exact GM<|bj wr _) (by intro u C;simp at C;rcases C with rfl|rfl<;>rfl) (by unfold maxLen;omega) I (by have:=f.a.low;simp;omega) ?_;intro E F c W y;obtain⟨o,s,rfl⟩:=aX c;obtain⟨i,x⟩:=f.a.Vr (j:=2) aj d.a ay W (v:=r.ev) (by have:=f.a.len r<|aK d.a;simp[oU,this]);simp only[Nat.reduceAdd,RR.ev]at i x;have z:=A<|f.a.Zu d.a ay W (f.c.box U.b aj aj) aj;have R:=A<|f.a.Zu d.a ay W (f.c.box U.C aj aj) aj))|(go_region_law (refine dS rfl (.tmp 29) (.tmp 34) 391 rfl B 404 i0 (k' #[G 0,.nilFunc]) 2 16 underlying391 q.a q.b q.c q.C rfl aj (bk r.ea (ζ r.es) r.ec) (ζ r.es) (iB r.es) (by simp[Act.eval,Act.put]) (by exact bu d.b ay) (O wr.1.size 0) 1 1 [G k,vS e] (by simp[Act.eval,Act.put]) rfl (by exact GM<|bj wr _) (by intro u C;simp at C;rcases C with rfl|rfl<;>rfl) (by unfold maxLen;omega) I (by have:=f.a.low;simp;omega) ?_;intro E F c W y;obtain⟨o,s,rfl⟩:=aX c;obtain⟨i,x⟩:=f.a.Vr (j:=2) aj d.a ay W (v:=r.ev) (by have:=f.a.len r<|aK d.a;simp[oU,this]);simp only[Nat.reduceAdd,RR.ev]at i x;have z:=A<|f.a.Zu d.a ay W (f.c.box U.b aj aj) aj;have R:=A<|f.a.Zu d.a ay W (f.c.box U.C aj aj) aj))
 all_goals
  first|(have _:=Cf;have i:=f.a.grow (e:=(t,vS e)) aj d.a ay W c y;have Y:=f.a.frame (v:=h' o (ζ r.es+1) s) d.a ay (L' f.a.low) W<|k*3+2)|(have i:=f.a.grow (e:=(k,vS e)) aj d.a ay W c y;have Y:=f.a.frame (v:=h' o (ζ r.es+1) s) d.a ay (L' f.a.low) W<|t*3+2)
  have o:=ſ<|M i Y;clear i Y c W y;go_wp2_with fail;go_roundw
  case rel=>
   refine⟨j+1,_,I,f',o.a,?_,f.c.trans o.A,by rw[jn];exact f.d,?_⟩
   .rw[VS d.a,f.b,cX L,uz,(aV.1 d.B).2];rfl
   intro q c;rcases hU c with c|rfl
   .have:=f.D q c;omega
   simp;omega
  exact H'):p:=h
def vY(g cap nv rb B k:Nat)(D:List NC)(P:Pm)(rl:List RR)(e:Ef)(w:World)(hP:PM w g cap D P)(hO:cF P)(hk:k<P.nd.length)(hS:Sys w B rb 2 393 404 rl)(hl:rl.length=P.nd.length)(hB:B<=w.heap.size)(YK:∀r∈rl,r.es.length<=200):
  Cl 283 #[cP rb P.nd.length,gi g P.nd.length cap nv,G k,Fc e] w λr b=>(∃v,r=.returned v)/\∃a,Sys b B rb 2 393 404 a/\a.map RR.pr=(P.mK k).foldl (λl t=>wT l t (k,vS e)) (rl.map RR.pr)/\TF B 393 404 w b:=by
 exact ŀ
end
def Mr(h:p:=by
 go_enter func282,ntmps282;go_wp2_with fail;go_ret
 exact⟨rfl,rfl⟩):p:=h
def l!(a:z')(P b:A')(n:SN)(w:t')(d:0<=n.aO):
  Cl 282 #[k'<|aJ a P n b] w λe c=>e=o' (i'<|fL n)/\c=w.alloc (j' (aJ a P n b) 152):=by
 obtain⟨x,q,i,a,⟨L,f,b⟩,⟨F,D,X⟩,g⟩:=n;simp only at d;obtain⟨d,Q⟩:=Ea<|fL ⟨x,q,i,a,⟨L,f,b⟩,⟨F,D,X⟩,g⟩;rw[<-Q];have B:J (d=decide (x<=2)):=Q;clear Q;simp only[aJ];cases D:(x==0);rotate_left
 .obtain rfl:d=P':=by rw[B.o];simp at D|-;omega
  exact Mr
 cases C:(x==1);rotate_left
 .obtain rfl:d=P':=by rw[B.o];simp at C|-;omega
  exact Mr
 cases a:(x==2)
 .obtain rfl:d=Q':=by rw[B.o];simp at D C a|-;omega
  exact Mr
 obtain rfl:d=P':=by rw[B.o];simp at a|-;omega
 exact Mr
def nQ(n:SN):List kE:=if n.aO=0\/n.aO=3 then[n.a] else if n.aO=1\/n.aO=4 then[n.a,n.b] else[]
def ê(o:kE):List A':=[i' o.aN,G o.var,G o.bJ]
def CN(w:t')(ao:u')(os:List kE):Prop:=∀j o,os[j]?=C' o->∃b q,ao=C' (O b q)/\χ w (O b<|q+j*3)=C' (i' o.aN)/\χ w (O b<|q+j*3+1)=C' (G o.var)/\χ w (O b<|q+j*3+2)=C' (G o.bJ)
def M5{w:t'}{q t:Nat}{b:List kE}(h:w.1[q]?=C' (j' (θ<|b.flatMap ê) t (0,0))):CN w (C'<|O q 0) b:=by
 have X:∀(b:List kE)(j:Nat)(o:kE),b[j]?=C' o->(b.flatMap ê)[j*3]?=C' (i' o.aN)/\(b.flatMap ê)[j*3+1]?=C' (G o.var)/\(b.flatMap ê)[j*3+2]?=C' (G o.bJ):=by
  intro b;induction b with
  |nil=>intro j o h;simp at h
  |cons a r B=>
   intro j o h;cases j with
   |zero=>simp at h;subst h;simp[ê]
   |succ j=>have:=B j o<|J' h;simp only[b9,ê,dA,c!]at this|-;rw[show(j+1)*3=j*3+1+1+1 by omega];simpa using this
 intro j o f;obtain⟨U,a,k⟩:=X b j o f;have E:=A h;exact⟨q,0,rfl,by rw[E.1];simpa using U,by rw[E.1];simpa[ld]using a,by rw[E.1];simpa[ld]using k⟩
def ŭ(h:p:=by
 go_enter func329,ntmps329;go_wp2_with fail;go_ret
 exact⟨_,rfl,c.a _ _ ak,cU⟩):p:=h
def Ů(h:p:=by
 go_enter func329,ntmps329;go_wp2_with fail;go_ret
 exact⟨_,rfl,c.A _ _ ak,cU⟩):p:=h
def D4(a:z')(P b:A')(n:SN)(w:t'):
  Cl 329 #[k'<|aJ a P n b] w λe b=>∃a,e=o' (h' a (ζ<|nQ n)<|ζ<|nQ n)/\CN b a (nQ n)/\Bl w b:=by
 obtain⟨x,q,i,c,⟨L,f,b⟩,⟨F,r,e⟩,g⟩:=n;obtain⟨a,k⟩:=Ea<|nQ ⟨x,q,i,c,⟨L,f,b⟩,⟨F,r,e⟩,g⟩;rw[<-k];have V:=ſ k;clear k;simp only[aJ];have l:∀(X:t')(q:Nat),q=δ X.1->CN (X.alloc<|oZ L f b) (C'<|O q 0) [⟨L,f,b⟩]:=λX q c=>by subst c;exact M5<|bj X _
 have p:∀(X:t')(q:Nat),q=δ X.1->CN (X.alloc<|j' #[i' L,G f,G b,i' F,G r,G e] 150) (C'<|O q 0) [⟨L,f,b⟩,⟨F,r,e⟩]:=λX q c=>by subst c;exact M5<|bj X _
 have c:=ſ<|M l p;clear l p;cases D:(x==0);rotate_left
 .obtain rfl:a=[⟨L,f,b⟩]:=by rw[V.o,nQ];simp at D;simp[D]
  exact ŭ
 cases N:(x==3);rotate_left
 .obtain rfl:a=[⟨L,f,b⟩]:=by rw[V.o,nQ];simp at N;simp[N]
  exact ŭ
 cases C:(x==1);rotate_left
 .obtain rfl:a=[⟨L,f,b⟩,⟨F,r,e⟩]:=by rw[V.o,nQ];simp at C;simp[C]
  exact Ů
 cases d:(x==4)
 .obtain rfl:a=[]:=by rw[V.o,nQ];simp at D N C d;simp[D,N,C,d]
  go_enter func329,ntmps329;go_wp2_with fail;go_ret;exact⟨D',rfl,λj o h=>by simp at h,aY⟩
 obtain rfl:a=[⟨L,f,b⟩,⟨F,r,e⟩]:=by rw[V.o,nQ];simp at D N d;simp[d]
 exact Ů
def ui(k:Å):Array A':=(sK k.1.1 k.1.2.1 k.1.2.2 k.2.1 k.2.2.1 k.2.2.2.1 k.2.2.2.2)
def FE(h:p:=by
 go_enter func333,ntmps333;go_wp2_with fail;go_ret
 exact⟨rfl,aY⟩):p:=h
def Qu(k:Å)(v:Int)(w:t'):
  Cl 333 #[k'<|ui k,G v] w (Rb w<|i'<|oG k v):=by
 obtain⟨⟨L,f,b⟩,i,F,D,X⟩:=k;obtain⟨d,Q⟩:=Ea<|oG ((L,f,b),i,F,D,X) v;rw[<-Q];have B:J (d=((L&&f==v)||(F&&D==v))):=Q;clear Q;simp only[ui];cases L
 .cases F
  .obtain rfl:d=Q':=by rw[B.o];rfl
   exact FE
  obtain rfl:d=(D==v):=by rw[B.o];simp
  exact FE
 cases h:(f==v);rotate_left
 .obtain rfl:d=P':=by rw[B.o,h];rfl
  exact FE
 cases F
 .obtain rfl:d=Q':=by rw[B.o,h];rfl
  exact FE
 obtain rfl:d=(D==v):=by rw[B.o,h];simp
 exact FE
def IJ(os:List kE):BS:=os.foldl (λs o=>if o.aN then e7 s (cJ [o.var.toNat]) else s) (0,0)
def RV(n:SN):BS:=IJ<|nQ n
def FD(a:List kE)(o:kE):IJ (a++[o])=if o.aN then e7 (IJ a) (cJ [o.var.toNat]) else IJ a:=by simp[IJ]
def pF{v:Nat}(h:v<128):bQ (cJ [v]):=ie _ λg a=>by rw[eX.1 a];exact h
def JJ:∀(k:Nat)(a:List kE),(∀o∈a,o.aN=P'->0<=o.var/\o.var<128)->bQ (IJ<|a.take k)
 |0,a,_=>(show bQ (0,0)from⟨aj,aj⟩)
 |k+1,a,h=>by
  have B:=JJ k a h;by_cases b:k<ζ a
  .rw[cX b,FD];split
   .rename_i R;have:=h _ (e9 b) R;exact gG B<|pF I
   exact B
  rw[b! I]at B|-;exact B
def Bh{w:t'}{q t:Nat}{s:BS}(h:w.1[q]?=C' (j' #[Z s.1,Z s.2] t (0,0)))(z:BS):(κ (κ w (O q 0)<|Z z.1) (O q 1)<|Z z.2).1[q]?=C' (j' #[Z z.1,Z z.2] t (0,0)):=by rw[aw (aw h _) _];rfl
def RT(c:z')(wv ev:A')(n:SN)(w:t')(R:∀o∈nQ n,o.aN=P'->0<=o.var/\o.var<128):
  Cl 284 #[k'<|aJ c wv n ev] w (Rb w<|cn<|RV n):=by
 obtain⟨os,k⟩:=Ea<|nQ n;have W:ζ os<=2:=by rw[k];unfold nQ;split;(· simp);split<;>simp
 have HP:J (∀W,Cl 329 #[k'<|aJ c wv n ev] W λe N=>∃a,e=o' (h' a (ζ os)<|ζ os)/\CN N a os/\Bl W N):=by rw[k];exact λW=>D4 c wv ev n W
 rw[<-k]at R;have l:RV n=IJ os:=by rw[k];rfl
 rw[l];have HH:=ſ R;clear k l R;obtain⟨x,y,op,v,⟨ai,av,ac⟩,⟨F,D,X⟩,g⟩:=n;simp only[aJ]at HP|-;go_enter func284,ntmps284;go_upto_region 2 with(fail)
 generalize j:((w.alloc<|j' #[m' c,wv,G x,G y,G op,G v,i' ai,G av,G ac,i' F,G D,G X,ev,m' g] 152).alloc fj).alloc fj=W;have U:J (Bl w W/\d' W w.1.size #[m' c,wv,G x,G y,G op,G v,i' ai,G av,G ac,i' F,G D,G X,ev,m' g] 152/\W.1[δ w.1+1]?=C' jo/\W.1[δ w.1+1+1]?=C' jo):=by subst j;obtain⟨W,e1,e2,_⟩:=qL w (j' #[m' c,wv,G x,G y,G op,G v,i' ai,G av,G ac,i' F,G D,G X,ev,m' g] 152) fj fj<|j' #[] 0;rw[ch _ _ _<|by simp;try omega]at W e1 e2;exact⟨gU,W,e1,e2⟩
 clear j;have E:=A U.b;go_wp2_with (go_at_call 329;refine(HP.o _).mono ?_;rintro e W1 ⟨a,rfl,b,l⟩;have V:=ſ<|M b l;clear b l);clear E;have W:=À U.C;have b:=V.A.size;generalize k' #[m' c,wv,G x,G y,G op,G v,i' ai,G av,G ac,i' F,G D,G X,ev,m' g]=c;go_loopw[9] (λy wr=>∃k:Nat,k<=ζ os/\y=G k/\J (Bl w wr/\wr.1[δ w.1+1]?=C' jo/\wr.1[δ w.1+1+1]?=C' (j' #[Z ((IJ<|os.take k).1:Int),Z ((IJ<|os.take k).2:Int)] 267 (0,0))/\CN wr a os)) (λy _=>ζ os-(intOf y).toNat)
 case atStart=>exact⟨0,bq _,rfl,aq U.a V.A,aF V.A U.c,aF V.A U.C,V.a⟩
 clear V b;obtain⟨k,c,rfl,R⟩:=hrel;have D:=À R.c;by_cases L:k<ζ os;rotate_left
 .have lF:¬(k:Int)<(ζ os:Int):=I;have an:os.take k=os:=b! I;obtain⟨z,f⟩:=Ea<|IJ os;have x:=R.c;rw[an,<-f]at x;have c:=ſ f;clear f an;have E:=A x;have y1:=A R.b;have n1:δ w.1+1≠δ w.1+1+1:=I;go_wp2_with fail;have v:=R.b;have g:χ (κ wr (O (δ w.1+1) 0)<|Z z.1) (O (δ w.1+1) 0)=C' (Z z.1):=by rw[(A<|aw v _).1];rfl
  have r1:χ (κ (κ wr (O (δ w.1+1) 0)<|Z z.1) (O (δ w.1+1) 1)<|Z z.2) (O (δ w.1+1) 1)=C' (Z z.2):=by rw[(A<|aw (aw v _) _).1];rfl
  refine aC (v:=cn z) (by simp[results284,go_sem,cn,g,r1]) rfl ⟨by rw[c.o],?_⟩;exact(R.a.setCell I' _).setCell I' _
 have lF:(k:Int)<(ζ os:Int):=I;obtain⟨o,s⟩:=La L;obtain⟨b,q,rfl,T,c1,p⟩:=R.C k o s;have ah:=HH.o o<|aK s;have j:IJ (os.take<|k+1)=if o.aN then e7 (IJ<|os.take k) (cJ [o.var.toNat]) else IJ (os.take k):=by rw[cX L,(aV.1 s).2,FD]
 have B:=JJ k os HH.o;obtain⟨u,C⟩:=Ea<|IJ<|os.take k;rw[<-C]at j B;obtain⟨oi,ov,r⟩:=o;simp only at T c1 p ah j;have HX:=ſ<|M j (show wr.1[δ w.1+1+1]?=C' (q! u.1 u.2)by rw[C];exact R.c);clear C j s;cases oi
 .go_wp2_with fail;go_roundw
  case rel=>
   have c:=cE wr<|j' #[i' Q',G ov,G r] 150;refine⟨k+1,L,f',aq R.a c,aF c R.b,?_,λj o hj=>by obtain⟨b,q,e,t,Y,d2⟩:=R.C j o hj;exact⟨b,q,e,aA t c,aA Y c,aA d2 c⟩⟩;rw[HX.a];exact aF c HX.A
  exact H'
 obtain⟨h0,C⟩:=ah rfl;obtain⟨m,rfl⟩:∃m:Nat,ov=m:=⟨ov.toNat,I⟩;have s:J (∀X b,χ X (O b 0)=C' (G m)->Cl 241 (mL b) X (Rb X<|cn<|cJ [m])):=λX b c=>kz X b m I c;have HU:J (∀(X:t') b,χ X (O b 0)=C' (Z u.1)->χ X (O b 1)=C' (Z u.2)->χ X (O b 2)=C' (Z ((cJ [m]).1:Int))->χ X (O b 3)=C' (Z ((cJ [m]).2:Int))->Cl 267 (rf b) X (Rb X<|cn<|e7 u<|cJ [m])):=λX b h0 C c N=>by have:=fA X b u (cJ [m]) B (pF I) h0 C c N;exact this
 have HN:J (IJ (os.take<|k+1)=e7 u (cJ [m])):=by rw[HX.a];rfl
 obtain⟨b,V⟩:=Ea<|cJ [m];obtain⟨z,f⟩:=Ea<|e7 u<|cJ [m];rw[<-f]at HN HU;rw[<-V]at s HU;clear V f B;simp only[cn]at s HU;go_upto_region 6 with(fail)
 generalize f:wr.alloc (rh m r)=V;have B:J (Bl wr V/\d' V wr.1.size #[i' P',G m,G r] 150):=by subst f;exact⟨aY,bj _ _⟩
 clear f T c1 p;have E:=A<|aF B.a HX.A;have y1:=A B.A;have b:=B.a.size;have r:=À B.A;have n1:δ w.1+1+1≠δ V.1:=I;have x:δ wr.1≠δ V.1:=I;have c:=n1.symm;have b:=x.symm;have c:∀(o:Obj)(i:Nat),χ (V.alloc o) (O (δ w.1+1+1) i)=(#[Z u.1,Z u.2]:Array A')[i]?:=λo i=>(bF<|ch V o _ I).trans<|E.1 i
 go_region_law (first|(go_simp;refine bE (s.o _ _ ak) ?_;rintro e W1 ⟨rfl,l⟩;have r:J (Bl V W1):=aq ay l;clear E y1 l;have E:=A<|aF r.o<|aF B.a HX.A;have y1:=A<|aF r.o B.A)|(go_simp;refine bE (HU.o _ _ ak ak ak ak) ?_;rintro e l ⟨rfl,X⟩;have b:J (Bl V l):=aq (aq r.o ay) X;clear E y1 X;have E:=A<|aF b.o<|aF B.a HX.A))
 all_goals
  go_wp2_with fail;go_roundw
  case rel=>
   have p:=aq B.a b.o;refine⟨k+1,L,f',((aq R.a p).setCell I' _).setCell I' _,?_,?_,?_⟩
   .rw[bh _ _ _ _ I',bh _ _ _ _ I'];exact aF p R.b
   .rw[HN.o];exact Bh (aF p HX.A) z
   intro j o hj;obtain⟨f,q',e,t,Y,d2⟩:=R.C j o hj;have T:f≠δ w.1+1+1:=by
    rintro rfl;rw[(A HX.A).1]at t Y;generalize q'+j*3=i at t Y
    match i,t,Y with
    |0,t,_=>simp at t
    |1,t,_=>simp at t
    |i+2,t,_=>simp at t
   have V:(κ (κ l (O (δ w.1+1+1) 0)<|Z z.1) (O (δ w.1+1+1) 1)<|Z z.2).1[f]?=l.1[f]?:=by rw[bh _ _ _ _ T,bh _ _ _ _ T]
   exact⟨f,q',e,(bF V).trans<|aA t p,(bF V).trans<|aA Y p,(bF V).trans<|aA d2 p⟩
  exact H'
def jm(n:SN):Å:=(jM n.a,n.op,jM n.b)
def Lx(n:SN):Bool:=n.aO==1&&(n.a.aN||n.b.aN)
def ED(n:SN):uk n=if Lx n then C' (jm n) else D':=by
 unfold uk Lx jm;by_cases h:n.aO=1/\(n.a.aN=P'\/n.b.aN=P')
 .rw[aB h,aB<|by simp[h.1];exact h.2]
 rw[ax h,ax<|J' h]
def Ğ{X:t'}{q t:Nat}{T Q p a P b g:A'}(h:X.1[q]?=C' (j' #[T,Q,p,a,P,b,g] t (0,0)))(L c R b E S a:A'):(κ (κ (κ (κ (κ (κ (κ X (O q 0) L) (O q 1) c) (O q 2) R) (O q 3) b) (O q 4) E) (O q 5) S) (O q 6) a).1[q]?=C' (j' #[L,c,R,b,E,S,a] t (0,0)):=by have V:=aw (o:=6) (aw (o:=5) (aw (o:=4) (aw (o:=3) (aw (o:=2) (aw (o:=1) (aw (o:=0) h L) c) R) b) E) S) a;rw[V];simp only[cj,dp,da]
def Ic(h:z')(P k:A')(n:SN)(w:t'):
  Cl 330 #[k'<|aJ h P n k] w λe a=>e=o' (p' #[k'<|ui<|jm n,i'<|Lx n])/\Below w.1.size w a:=by
 obtain⟨x,q,i,a,⟨L,f,b⟩,⟨F,D,X⟩,g⟩:=n;obtain⟨d,Q⟩:=Ea<|Lx ⟨x,q,i,a,⟨L,f,b⟩,⟨F,D,X⟩,g⟩;rw[<-Q];have B:J (d=(x==1&&(L||F))):=Q;clear Q;simp only[aJ,ui,jm,jM];go_enter func330,ntmps330;go_upto_region 2 with(fail)
 generalize j:((w.alloc<|j' #[m' h,P,G x,G q,G i,G a,i' L,G f,G b,i' F,G D,G X,k,m' g] 152).alloc<|j' Fo 430).alloc (j' (sK L f b i F D X) 430)=e;have U:J (Below w.1.size w e/\d' e w.1.size #[m' h,P,G x,G q,G i,G a,i' L,G f,G b,i' F,G D,G X,k,m' g] 152/\d' e (δ w.1+1) Fo 430/\d' e (δ w.1+1+1) (sK L f b i F D X) 430):=by subst j;obtain⟨o,V,u,_⟩:=qL w (j' #[m' h,P,G x,G q,G i,G a,i' L,G f,G b,i' F,G D,G X,k,m' g] 152) (j' Fo 430) (j' (sK L f b i F D X) 430)<|j' #[] 0;rw[ch _ _ _<|by simp;try omega]at o V u;exact⟨gU,o,V,u⟩
 clear j;have E:=A U.b;have c:=A U.c;have W:=A U.C;have s:δ w.1≠δ w.1+1:=I;have j:δ w.1+1+1≠δ w.1+1:=I;have c:=s.symm;have V:=j.symm;have R:δ w.1<=δ w.1+1:=I;generalize k' #[m' h,P,G x,G q,G i,G a,i' L,G f,G b,i' F,G D,G X,k,m' g]=h;cases c:(x==1)
 .obtain rfl:d=Q':=by rw[B.o,c];rfl
  go_region
  all_goals
   go_wp2_with fail;have a:=Ğ U.c (i' L) (G f) (G b) (G i) (i' F) (G D)<|G X;have l:Below w.1.size w (κ (κ (κ (κ (κ (κ (κ e (O (δ w.1+1) 0)<|i' L) (O (δ w.1+1) 1)<|G f) (O (δ w.1+1) 2)<|G b) (O (δ w.1+1) 3)<|G i) (O (δ w.1+1) 4)<|i' F) (O (δ w.1+1) 5)<|G D) (O (δ w.1+1) 6)<|G X):=by(iterate 7 refine lf ?_ R _);exact U.a
   generalize(κ (κ (κ (κ (κ (κ (κ e (O (δ w.1+1) 0)<|i' L) (O (δ w.1+1) 1)<|G f) (O (δ w.1+1) 2)<|G b) (O (δ w.1+1) 3)<|G i) (O (δ w.1+1) 4)<|i' F) (O (δ w.1+1) 5)<|G D) (O (δ w.1+1) 6)<|G X)=Y at a l|-;refine aC (v:=p' #[k'<|sK L f b i F D X,i' Q']) (by simp[results330,go_sem,(A a).1]) rfl ⟨rfl,l.drew⟩
 cases L
 .obtain rfl:d=F:=by rw[B.o,c];simp
  go_region
  all_goals
   go_wp2_with fail;have a:=Ğ U.c (i' Q') (G f) (G b) (G i) (i' d) (G D)<|G X;have l:Below w.1.size w (κ (κ (κ (κ (κ (κ (κ e (O (δ w.1+1) 0)<|i' Q') (O (δ w.1+1) 1)<|G f) (O (δ w.1+1) 2)<|G b) (O (δ w.1+1) 3)<|G i) (O (δ w.1+1) 4)<|i' d) (O (δ w.1+1) 5)<|G D) (O (δ w.1+1) 6)<|G X):=by(iterate 7 refine lf ?_ R _);exact U.a
   generalize(κ (κ (κ (κ (κ (κ (κ e (O (δ w.1+1) 0)<|i' Q') (O (δ w.1+1) 1)<|G f) (O (δ w.1+1) 2)<|G b) (O (δ w.1+1) 3)<|G i) (O (δ w.1+1) 4)<|i' d) (O (δ w.1+1) 5)<|G D) (O (δ w.1+1) 6)<|G X)=Y at a l|-;refine aC (v:=p' #[k' #[i' Q',G f,G b,G i,i' d,G D,G X],i' d]) (by simp[results330,go_sem,(A a).1]) rfl ⟨rfl,l.drew⟩
 obtain rfl:d=P':=by rw[B.o,c];rfl
 go_region
 all_goals
  go_wp2_with fail;have a:=Ğ U.c (i' P') (G f) (G b) (G i) (i' F) (G D)<|G X;have l:Below w.1.size w (κ (κ (κ (κ (κ (κ (κ e (O (δ w.1+1) 0)<|i' P') (O (δ w.1+1) 1)<|G f) (O (δ w.1+1) 2)<|G b) (O (δ w.1+1) 3)<|G i) (O (δ w.1+1) 4)<|i' F) (O (δ w.1+1) 5)<|G D) (O (δ w.1+1) 6)<|G X):=by(iterate 7 refine lf ?_ R _);exact U.a
  generalize(κ (κ (κ (κ (κ (κ (κ e (O (δ w.1+1) 0)<|i' P') (O (δ w.1+1) 1)<|G f) (O (δ w.1+1) 2)<|G b) (O (δ w.1+1) 3)<|G i) (O (δ w.1+1) 4)<|i' F) (O (δ w.1+1) 5)<|G D) (O (δ w.1+1) 6)<|G X)=Y at a l|-;refine aC (v:=p' #[k' #[i' P',G f,G b,G i,i' F,G D,G X],i' P']) (by simp[results330,go_sem,(A a).1]) rfl ⟨rfl,l.drew⟩
section
variable {a b k:Å}{R:List Å}
structure nw(k:Å):Prop where
  av:(Lit.int .i64 k.1.2.1).wf=P'
  ac:(Lit.int .i64 k.1.2.2).wf=P'
  op:(Lit.int .i64 k.2.1).wf=P'
  bv:(Lit.int .i64 k.2.2.2.1).wf=P'
  bc:(Lit.int .i64 k.2.2.2.2).wf=P'
def ó(k:Å):List Lit:=[.bool k.1.1,.int .i64 k.1.2.1,.int .i64 k.1.2.2,.int .i64 k.2.1,.bool k.2.2.1,.int .i64 k.2.2.2.1,.int .i64 k.2.2.2.2]
def Ym:ó a=ó b↔a=b:=by obtain⟨⟨N,c,c⟩,C,t,U,e⟩:=a;obtain⟨⟨a,o,x⟩,j,l,g,c⟩:=b;simp[ó,and_assoc]
def Vo:Tryz.prog.cellsOf 430=7:=H
def Vp:Tryz.prog.cellsOf 150=3:=H
def Vq:Tryz.prog.cellsOf 147=1:=H
def adT:Tryz.prog.cellsOf 4=1:=H
def adU:Tryz.prog.cellsOf 3=1:=H
def adV:Tryz.prog.cellsOf 2=1:=H
def Nu(h:nw k):Tryz.prog.keyLits 5 430 (ui k).toList=C' (ó k):=by obtain⟨⟨N,a,b⟩,C,t,U,e⟩:=k;obtain⟨C,a,N,d,l⟩:=h;simp only at C a N d l;simp[Program.keyLits,ui,ó,underlying430,underlying147,underlying150,underlying4,underlying3,underlying2,Vo,Vp,Vq,adT,adU,adV,C,a,N,d,l];rw[aB aj,aB aj];rfl
def acY:Tryz.prog.keyTypeAt 5 430=P':=H
def agB(d:nw a)(e:nw b)(w:t'):(binOp .eql 430 (k'<|ui a)<|k'<|ui b).run Tryz.prog w=.ok (i' (decide (a=b))) w:=by
 rw[run_eql_struct];obtain⟨r,c,S⟩:=Jc (P:=Tryz.prog) 9995 5 430 acY w 5 5 (k'<|ui a) (k'<|ui b) _ _ H H (Nu d)<|Nu e;rw[Ym]at S;have:r=decide (a=b):=by rw[cK,S];simp
 rw[<-this];simp only[Nat.reduceAdd]at c;rw[c];rfl
def IH(w:t')(ao:u')(ks:List Å):Prop:=∀j k,ks[j]?=C' k->∃b o,ao=C' (O b o)/\∀i v,(ui k)[i]?=C' v->χ w (O b<|o+j*7+i)=C' v
def IH.below{w a:t'}{q:u'}(h:IH w q R)(d:Bl w a):IH a q R:=by intro j k f;obtain⟨b,o,e,c⟩:=h j k f;exact⟨b,o,e,λi v S=>aA (c i v S) d⟩
def A?(ks:List Å)(k:Å):Int:=if k∈ks then(ks.idxOf k:Nat) else -1
def YC{j:Nat}(K:k∉R.take j)(f:R[j]?=C' k):A? R k=j:=by
 unfold A?;have X:=(aV.1 f).1;rw[aB<|aK f];congr 1;have e:=(xY j R).symm;rw[e,Bo,ax K];have u:R.drop j=k::R.drop (j+1):=by rw[nC X,(aV.1 f).2]
 rw[u,idxOf_cons_self,dG];omega
def Cz(a:u')(c:Nat)(R:List Å)(k:Å)(w:t')(h:IH w a R)(b:nw k)(N:∀x∈R,nw x)(X:ζ R<=100):
  Cl 332 #[h' a (ζ R) c,k'<|ui k] w (Rb w<|G<|A? R k):=by
 have s:=ſ<|M h<|M b N;clear h b N;simp only[ui];go_enter func332,ntmps332;go_wp2_with fail;generalize u:w.alloc (j' (sK k.1.1 k.1.2.1 k.1.2.2 k.2.1 k.2.2.1 k.2.2.2.1 k.2.2.2.2) 430)=a;have U:J (Bl w a/\d' a w.1.size (sK k.1.1 k.1.2.1 k.1.2.2 k.2.1 k.2.2.1 k.2.2.2.1 k.2.2.2.2) 430):=by subst u;exact⟨aY,bj _ _⟩
 clear u;go_loopw[8] (λy wr=>∃j:Nat,j<=ζ R/\y=G j/\J (k∉R.take j/\Bl a wr)) (λy _=>ζ R-(intOf y).toNat)
 case atStart=>exact⟨0,bq _,rfl,ak,aP _ _⟩
 obtain⟨j,f,rfl,a⟩:=hrel;by_cases L:j<ζ R;rotate_left
 .have b:¬(j:Int)<(ζ R:Int):=I;have c:J (A? R k=-1):=by have C:=a.a;rw[b! I]at C;show _=_;rw[A?,ax C]
  go_wp2_with fail;go_ret;exact⟨by rw[c.o];rfl,aq U.a a.A⟩
 have b:(j:Int)<(ζ R:Int):=I;obtain⟨x,F⟩:=La L;obtain⟨b,o,rfl,X⟩:=(s.a.below<|aq U.a a.A) j x F;have T:χ wr (O b<|o+j*7)=C' (i' x.1.1):=X 0 _ rfl;have Q:χ wr (O b<|o+j*7+1)=C' (G x.1.2.1):=X 1 _ rfl;have p:χ wr (O b<|o+j*7+2)=C' (G x.1.2.2):=X 2 _ rfl;have d:χ wr (O b<|o+j*7+3)=C' (G x.2.1):=X 3 _ rfl;have P:χ wr (O b<|o+j*7+4)=C' (i' x.2.2.1):=X 4 _ rfl;have d:χ wr (O b<|o+j*7+5)=C' (G x.2.2.2.1):=X 5 _ rfl;have g:χ wr (O b<|o+j*7+6)=C' (G x.2.2.2.2):=X 6 _ rfl;have E:=A<|aF a.A U.A;have b:=λw=>agB s.b (s.B x<|aK F) w;simp only[ui]at b;have V:Tryz.prog.eqGuardType Tryz.prog.depth 430=Q':=H;have d:=ſ F;clear X F;by_cases l:k=x
 .rw[dM l]at b;have c:=ſ (YC a.a<|by rw[l];exact d.o);have v:=ſ l;clear l;go_wp2_with fail
  go_region
  all_goals
   go_wp2_with fail;go_ret;exact⟨by rw[c.o];rfl,(aq U.a a.A).drew⟩
 rw[di l]at b;have v:=ſ l;clear l;go_wp2_with fail
 go_region
 all_goals
  go_wp2_with fail;go_roundw
  case rel=>
   refine⟨j+1,L,f',?_,a.A.drew⟩;rw[cX L,(aV.1 d.o).2];simp only[eC,eX,not_or];exact⟨a.a,v.o⟩
  exact H'
def Qw(a:u')(c:Nat)(R:List Å)(k:Å)(w:t')(h:IH w a R)(d:nw k)(N:∀x∈R,nw x)(X:ζ R<=100):
  Cl 331 #[h' a (ζ R) c,k'<|ui k] w (Rb w<|i' (decide (k∈R))):=by
 have f:=ſ λW j=>Cz a c R k W (h.below j) d N X;clear h d N;obtain⟨d,Q⟩:=Ea<|A? R k;have B:J (decide (k∈R)=decide (0<=d)):=by show _=_;rw[Q];unfold A?;split<;>simp_all
 rw[<-Q]at f;clear Q;simp only[ui]at f|-;go_enter func331,ntmps331;go_wp2_with (go_at_call 332;refine(f.o _ aY).mono ?_;rintro e t ⟨rfl,(U:J _)⟩);go_ret;exact⟨by rw[B.o];rfl,aq aY U.o⟩
end
section
variable {P:Pm}
def adb:(Tryz.prog.info? 430).map (λi=>(i.zero,i.size,i.bytes))=C' (C'<|k' Fo,7,56):=H
def l5(ks:List Å):List A':=ks.flatMap λk=>(ui k).toList
def zy:∀(R:List Å)(j:Nat)(k:Å),R[j]?=C' k->∀i v,(ui k)[i]?=C' v->(l5 R)[j*7+i]?=C' v
 |[],j,k,h,i,v,hv=>by simp at h
 |a::r,0,k,h,i,v,hv=>by simp at h;subst h;have S:=(bG.1 hv).1;simp only[l5,b9,gN,bW];rw[iC<|J' S];simpa using hv
 |a::r,j+1,k,h,i,v,hv=>by have:=zy r j k (J' h) i v hv;simp only[l5,b9]at this|-;rw[fh<|by simp[ui];omega,<-this];congr 1;simp[ui];omega
def zx{B n c:Nat}{a:u'}{b:List Å}(h:ρ w B 430 7 (h' a n c) n<|l5 b):IH w a b:=by
 intro j k f;have a:=zy b j k f 0 _ rfl;rcases h.2 with⟨R,_⟩|⟨g,c,Y,R,_⟩
 .exfalso;have C:=h.1;simp at R;have:=(aV.1 a).1;simp_all
 simp at R;obtain⟨rfl,rfl⟩:=R;refine⟨g,0,rfl,λi v R=>?_⟩;have:=h.cells (g:=g) rfl _ _ (zy b j k f i v R);rwa[fH,<-ld]at this
def Ie{n:SN}(h:P.nd[k]?=C' n):Cy ((P.nd.take<|k+1).map uk)=cg (Cy<|(P.nd.take k).map uk) (uk n):=by have X:=(aV.1 h).1;rw[cX X,(aV.1 h).2,eR];simp[Cy]
def U6(k:Nat)(P:Pm):ζ (Cy<|(P.nd.take k).map uk)<=k:=by have:=N8<|(P.nd.take k).map uk;rw[bA,dG]at this;omega
def EC:∀(k:Nat)(P:Pm),(∀n∈P.nd,nw<|jm n)->∀x∈Cy ((P.nd.take k).map uk),nw x
 |0,P,_,x,hx=>by simp[Cy]at hx
 |k+1,P,h,x,hx=>by
  have B:=EC k P h;by_cases a:k<ζ P.nd;rotate_left
  .rw[b! I]at hx;rw[b! I]at B;exact B x hx
  rw[Ie<|aQ a,ED]at hx;split at hx;rotate_left
  .exact B x hx
  unfold cg at hx;simp only at hx;split at hx
  .exact B x hx
  rcases eC.1 hx with hx|hx
  .exact B x hx
  rw[eX.1 hx];exact h _<|e9 a
def afT{X:t'}{q:Nat}{a b c d e f h:A'}{t:TypeId}(V:X.1[q]?=C' (j' #[a,b,c,d,e,f,h] t (0,0))):∀(j:Nat)(u:A'),[a,b,c,d,e,f,h][j]?=C' u->χ X (((O q 0):Addr).add j)=C' u:=by intro j u f;rw[fH,bW,(A V).1];simpa using f
def mY{g a:Nat}{D:List NC}{c:NC}(h:PM w g a D P)(T:D[k]?=C' c)(j:Nat)(f:j<14):χ w (O g<|k*14+j)=(aJ c.bL c.wv c.n c.ev)[j]?:=h.row.cells k c T j f
def Cx(g f Q:Nat)(D:List NC)(P:Pm)(w:t')(hP:PM w g f D P)(p:ζ P.nd<=60)(d:∀n∈P.nd,nw<|jm n):
  Cl 286 #[gi g (ζ P.nd) f Q] w λe E=>∃a c,e=o' (bk a (ζ P.ex) c)/\ρ E w.1.size 430 7 (bk a (ζ P.ex) c) (ζ P.ex) (l5 P.ex)/\Bl w E:=by
 obtain⟨i0,S,D,h,b⟩:=cG adb;have HI:J (_/\_/\_/\_):=⟨S,D,h,b⟩;clear S D h b;have s:=ſ<|M hP d;obtain⟨N,b⟩:=Ea<|ζ P.nd;rw[<-b]at p|-;have K:=ſ b;clear hP d b;simp only[gi];go_enter func286,ntmps286;go_wp2_with fail;generalize u:w.alloc (j' (ei g N f Q) 86)=b;have U:J (Bl w b):=by subst u;exact aY
 clear u;go_loopw[3,11] (λr y wr=>∃(i:Nat)(a:u')(c:Nat),i<=N/\y=G i/\r=h' a (ζ<|Cy<|(P.nd.take i).map uk) c/\J (ρ wr w.1.size 430 7 (h' a (ζ<|Cy<|(P.nd.take i).map uk) c) (ζ<|Cy<|(P.nd.take i).map uk) (l5<|Cy<|(P.nd.take i).map uk)/\Bl w wr)) (λ_ y _=>N-(intOf y).toNat)
 case atStart=>exact⟨0,D',0,bq _,rfl,rfl,cY _ _ _ _,U.o⟩
 obtain⟨i,a,c,S,rfl,rfl,Q⟩:=hrel;by_cases L:i<N;rotate_left
 .have b:¬(i:Int)<N:=I;have l:Cy ((P.nd.take i).map uk)=P.ex:=by rw[b!<|by rw[<-K.o];omega];rfl
  rw[l]at Q|-;go_wp2_with fail;go_ret;exact⟨a,c,rfl,Q.a,Q.A⟩
 have b:(i:Int)<N:=I;obtain⟨r,R,T,z,_,_,_,_⟩:=s.a.nodes (by rw[<-K.o];exact L);have X:=λj (f:j<14)=>(mY (s.a.below Q.A) T j f);obtain⟨v,j⟩:=Ea r.n;rw[<-j]at X z;have b:=Ie z;have u:=U6 i P;have B:=EC i P s.A;have p:=s.A v<|aK z;obtain⟨R,N⟩:=Ea<|Cy<|(P.nd.take i).map uk;rw[<-N]at Q b u B|-;rw[ED]at b;simp only[NC.wv,NC.ev]at X;generalize r.bL=h at X;generalize r.wa=y at X;generalize r.wl=wl at X;generalize r.wc=wc at X;generalize r.ea=U at X;generalize r.el=D at X;generalize r.ec=r at X;have C:J (∀W,Cl 330 #[k'<|aJ h (h' y wl wc) v<|h' U D r] W<|Rb W<|p' #[k'<|ui<|jm v,i'<|Lx v]):=λW=>Ic h (h' y wl wc) (h' U D r) v W;obtain⟨t,o⟩:=Ea<|Lx v;rw[<-o]at C b;obtain⟨T,d⟩:=Ea<|jm v;rw[<-d]at b p;obtain⟨x,q,op,l,⟨S,f,ac⟩,⟨F,bv,K⟩,g⟩:=v;have v:J (ui T=#[i' S,G f,G ac,G op,i' F,G bv,G K]):=by rw[d];rfl
 have k:=ſ b;rw[<-d,v.o]at C;have Y:=OU X;simp only[aJ]at C;clear X b o d j z N;have s:J (∀W,Bl wr W->Cl 331 #[h' a (ζ R) c,k' #[i' S,G f,G ac,G op,i' F,G bv,G K]] W (Rb W<|i' (decide (T∈R)))):=by intro W j;rw[<-v.o];exact Qw a c R T W (zx<|bu Q.a j) p B I
 have b:ζ R<=60:=I;clear B p u;go_upto_region 5 with(fail)
 generalize b:wr.alloc (j' #[m' h,h' y wl wc,G x,G q,G op,G l,i' S,G f,G ac,i' F,G bv,G K,h' U D r,m' g] 152)=V;have B:J (Bl wr V/\d' V wr.1.size #[m' h,h' y wl wc,G x,G q,G op,G l,i' S,G f,G ac,i' F,G bv,G K,h' U D r,m' g] 152):=by subst b;exact⟨aY,bj _ _⟩
 clear b Y;have E:=A B.A;go_upto_region 6 with(go_at_call 330;refine(C.o _).mono ?_;rintro e b ⟨rfl,l⟩;have r:=ſ<|aq B.a l;clear l E)
 generalize p:b.alloc (j' #[i' S,G f,G ac,G op,i' F,G bv,G K] 430)=d;have h:J (Bl wr d/\d' d b.1.size #[i' S,G f,G ac,G op,i' F,G bv,G K] 430):=by subst p;exact⟨aq r.o aY,bj _ _⟩
 clear p;generalize δ b.1=y at h|-;have E:=A h.A;cases t
 .rw[ax ak]at k;have b:J (Cy ((P.nd.take<|i+1).map uk)=R):=k.o;go_wp2_with fail;go_roundw
  case rel=>
   refine⟨i+1,a,c,L,f',by rw[b.o],?_⟩;rw[b.o];exact⟨bu Q.a h.a,aq Q.A h.a⟩
  exact H'
 rw[aB rfl]at k;by_cases d:T∈R
 .rw[dM d]at s;have b:J (Cy ((P.nd.take<|i+1).map uk)=R):=by show _=_;rw[k.o];simp[cg,d]
  go_wp2_with (go_at_call 331;refine(s.o _ h.a).mono ?_;rintro e o ⟨rfl,Y⟩;have D:=ſ<|aq h.a Y;clear Y E);go_roundw
  case rel=>
   refine⟨i+1,a,c,L,f',by rw[b.o],?_⟩;rw[b.o];exact⟨bu Q.a D.o,aq Q.A D.o⟩
  exact H'
 rw[di d]at s;have b:J (Cy ((P.nd.take<|i+1).map uk)=R++[T]):=by show _=_;rw[k.o];simp[cg,d]
 go_wp2_with (first|(go_at_call 331;refine(s.o _ h.a).mono ?_;rintro e o ⟨rfl,Y⟩;have D:=ſ<|M (aq h.a Y)<|aF Y h.A;clear Y E;have E:=A D.A)|(at_builtin;refine iK _ rfl _ _ 400 rfl w.1.size 430 i0 (k' Fo) 7 56 underlying400 HI.a HI.b HI.c HI.C rfl aj (bk a (ζ R) c) (ζ R) (l5 R) rfl ((bu Q.a D.a).alloc _) (O o.1.size 0) 1 1 [i' S,G f,G ac,G op,i' F,G bv,G K] rfl rfl (afT<|bj o _) (by intro u C;simp at C;rcases C with rfl|rfl|rfl|rfl|rfl|rfl|rfl<;>rfl) (by simp only[maxLen];omega) I (by have:=(aq Q.A D.a).size;simp;omega) ?_;intro U l k a _;obtain⟨d,c,rfl⟩:=aX k;have W:=ſ<|M k a;clear k a E));go_roundw
 case rel=>
  refine⟨i+1,d,c,L,f',by rw[b.o,aW];rfl,?_⟩;rw[b.o];refine⟨?_,?_⟩
  .rw[aW,fP,show l5 (R++[T])=l5 R++[i' S,G f,G ac,G op,i' F,G bv,G K] by simp[l5,v.o]];exact W.a
  exact((aq Q.A D.a).alloc (aq Q.A D.a).size _).grown W.A (by have:=(aq Q.A D.a).size;simp;omega) λq e=>((bu Q.a D.a).lt q e).1
 exact H'
end
def zV(ks:List Å)(n:SN):BS:=if Lx n then cJ [ks.idxOf<|jm n] else(0,0)
def ru(k:z')(y:u')(wl wc:Nat)(p:u')(V B:Nat)(n:SN)(a:u')(c:Nat)(R:List Å)(w:t')(h:IH w a R)(N:∀x∈R,nw x)(X:ζ R<=60)(b:Lx n=P'->nw (jm n)/\jm n∈R):
  Cl 287 #[k'<|aJ k (h' y wl wc) n<|h' p V B,h' a (ζ R) c] w (Rb w<|cn<|zV R n):=by
 have C:J (∀W,Cl 330 #[k'<|aJ k (h' y wl wc) n<|h' p V B] W<|Rb W<|p' #[k'<|ui<|jm n,i'<|Lx n]):=λW=>Ic k _ _ n W;have Y:J (Lx n=P'->∀W,Bl w W->Cl 332 #[h' a (ζ R) c,k'<|ui<|jm n] W (Rb W<|G ((R.idxOf (jm n):Nat):Int))):=by intro l W j;have:=Cz a c R (jm n) W (h.below j) (b l).1 N I;unfold A? at this;rwa[aB (b l).2]at this
 have j:J (Lx n=P'->R.idxOf (jm n)<128):=λl=>by have:=qW (b l).2;omega
 obtain⟨m,c⟩:=Ea<|R.idxOf<|jm n;obtain⟨t,o⟩:=Ea<|Lx n;have W:J (zV R n=if t then cJ [m] else(0,0)):=by show _=_;rw[o,c];rfl
 rw[<-c,<-o]at Y j;rw[<-o]at C;clear c o h N b;obtain⟨x,q,op,c,⟨L,f,b⟩,⟨F,D,X⟩,g⟩:=n;simp only[aJ,ui,jm,jM]at C Y|-;generalize zV R _=z at W|-;go_enter func287,ntmps287;go_upto_region 1 with(fail)
 generalize u:(w.alloc<|j' #[m' k,h' y wl wc,G x,G q,G op,G c,i' L,G f,G b,i' F,G D,G X,h' p V B,m' g] 152).alloc fj=l;have U:J (Bl w l/\d' l w.1.size #[m' k,h' y wl wc,G x,G q,G op,G c,i' L,G f,G b,i' F,G D,G X,h' p V B,m' g] 152/\l.1[δ w.1+1]?=C' jo):=by subst u;exact⟨cU,eO.1,eO.2⟩
 clear u;have E:=A U.b;go_upto_region 2 with(go_at_call 330;refine(C.o _).mono ?_;rintro e g ⟨rfl,l⟩;have r:=ſ<|M (aq U.a l)<|aF l U.B;clear l E)
 generalize u:g.alloc (j' #[i' L,G f,G b,G op,i' F,G D,G X] 430)=p;have c:J (Bl w p/\d' p g.1.size #[i' L,G f,G b,G op,i' F,G D,G X] 430/\p.1[δ w.1+1]?=C' jo):=by subst u;exact⟨aq r.a aY,bj _ _,aF aY r.A⟩
 clear u;generalize δ g.1=y at c|-;have E:=A c.b;have l:=A c.B;cases t
 .rw[ax ak]at W;go_wp2_with fail;have v:=c.B;have g:χ (κ p (O (δ w.1+1) 0)<|Z 0) (O (δ w.1+1) 0)=C' (Z 0):=by rw[(A<|aw v _).1];rfl
  have r1:χ (κ (κ p (O (δ w.1+1) 0)<|Z 0) (O (δ w.1+1) 1)<|Z 0) (O (δ w.1+1) 1)=C' (Z 0):=by rw[(A<|aw (aw v _) _).1];rfl
  refine aC (v:=cn (0,0)) (by simp[results287,go_sem,cn,g,r1]) rfl ⟨by rw[W.o],?_⟩;exact(c.a.setCell I' _).setCell I' _
 rw[aB rfl]at W;have f:=j.o rfl;have s:J (∀X b,χ X (O b 0)=C' (G m)->Cl 241 (mL b) X (Rb X<|cn<|cJ [m])):=λX b T=>kz X b m f T;rw[<-W.o]at s;simp only[cn]at s;go_wp2_with (first|(go_at_call 332;refine(Y.o rfl _ c.a).mono ?_;rintro e o ⟨rfl,Y⟩;have D:=ſ<|M (aq c.a Y)<|aF Y c.B;clear Y E l)|(go_at_call 241;refine(s.o _ _ ak).mono ?_;rintro e b ⟨rfl,v⟩;have k:=ſ<|M (aq D.a<|aq aY v)<|aF v<|aF aY D.A;clear v;have l:=A k.A));have v:=k.A;have g:χ (κ b (O (δ w.1+1) 0)<|Z z.1) (O (δ w.1+1) 0)=C' (Z z.1):=by rw[(A<|aw v _).1];rfl
 have r1:χ (κ (κ b (O (δ w.1+1) 0)<|Z z.1) (O (δ w.1+1) 1)<|Z z.2) (O (δ w.1+1) 1)=C' (Z z.2):=by rw[(A<|aw (aw v _) _).1];rfl
 refine aC (v:=cn z) (by simp[results287,go_sem,cn,g,r1]) rfl ⟨rfl,?_⟩;exact(k.a.setCell I' _).setCell I' _
section
variable {D:List Int}
def PO{a:Addr}(h:b7 w (C' a) D):∀(j:Nat)(u:A'),(D.map G)[j]?=C' u->χ w (a.add j)=C' u:=by intro j u f;simp only[bH,C4]at f;obtain⟨x,F,rfl⟩:=f;obtain⟨b,o,e,T⟩:=h j x F;cases e;rw[fH];exact T
def Hg{B:Nat}{a:u'}{c n:Nat}(h:ρ w B 3 1 (h' a n c) (ζ D)<|D.map G):b7 w a D:=by
 intro j x f;have r:=(aV.1 f).1;rcases h.2 with⟨_,e⟩|⟨g,a,Y,R,_⟩
 .omega
 simp at R;obtain⟨rfl,rfl,rfl⟩:=R;have:=h.cells (g:=g) rfl j (G x) (by simp[f]);rw[fH]at this;exact⟨g,0,rfl,this⟩
end
def Um:(Tryz.prog.info? 96).map (λi=>(i.zero,i.size,i.bytes))=C' (C'<|k' lL,5,88):=H
def ac7:(Tryz.prog.info? 73).map (λi=>(i.zero,i.size,i.bytes))=C' (C'<|k' nF,6,48):=H
def iR(v:Vl):List A':=[G v.aO,G v.lo,G v.hi,i' v.bO,G v.first,G v.rank]
def iE(vs:List Vl):List A':=vs.flatMap iR
def yk:∀(E:List Vl),ζ (iE E)=ζ E*6
 |[]=>rfl
 |v::r=>by have:=yk r;simp only[iE,b9,aW,bR]at this|-;simp[iR]at this|-;omega
def Dm:∀(E:List Vl)(j:Nat)(v:Vl),E[j]?=C' v->∀i x,(iR v)[i]?=C' x->(iE E)[j*6+i]?=C' x
 |[],j,v,h,i,x,hx=>by simp at h
 |a::r,0,v,h,i,x,hx=>by simp at h;subst h;have S:=(aV.1 hx).1;simp only[iE,b9,gN,bW];rw[iC S];exact hx
 |a::r,j+1,v,h,i,x,hx=>by have:=Dm r j v (J' h) i x hx;simp only[iE,b9]at this|-;rw[fh<|by simp[iR];omega,<-this];congr 1;simp[iR];omega
def RI{w:t'}{B:Nat}{a:u'}{c n:Nat}{E:List Vl}(h:ρ w B 73 6 (h' a n c) (ζ E)<|iE E):jj w a E:=by
 intro j v f;have r:=(aV.1 f).1;rcases h.2 with⟨_,e⟩|⟨g,a,Y,R,_⟩
 .omega
 simp at R;obtain⟨rfl,rfl,rfl⟩:=R;have T:=h.cells (g:=g) rfl;have X:∀i x,(iR v)[i]?=C' x->χ w (O g<|0+(j*6+i))=C' x:=by intro i x F;have:=T _ _<|Dm E j v f i x F;rwa[fH]at this
 refine⟨g,0,rfl,?_,?_,?_,?_,?_,?_⟩
 .simpa using X 0 _ rfl
 .simpa[ld]using X 1 _ rfl
 .simpa[ld]using X 2 _ rfl
 .simpa[ld]using X 3 _ rfl
 .simpa[ld]using X 4 _ rfl
 simpa[ld]using X 5 _ rfl
