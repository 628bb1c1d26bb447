import Derived.Deep.RegionHeld3
import Derived.Test.YtmipbiligijcpaaGreatDoorA01
import Derived.BigQuiet
import Derived.Deep.LoopGhost
namespace Go.Proofs.YtmipbiligijcpaaGreatDoor
set_option linter.all false
set_option maxHeartbeats 0
set_option maxRecDepth 99999
open Go.RowKit Go.Proofs Go.Maps List Tryz Go.WideMaps Go.Lib open List renaming length->ζ,toArray->θ open _root_.Array renaming size->δ open World renaming setCell->κ,cell?->χ,grownBy->ξ open Value renaming slice->g',bool->h',agg->j',string->k',pointer->m',tuple->o' open Obj renaming cells->i' open Ending renaming returned->n' open Option renaming some->z',none->A' open Bool renaming true->N',false->O'
variable {R:List x'}{a g i k x:Nat}{b w:p'}{d:Option Tmp}{gd:Option (Nat×Bool)}{op:Op}{ps:String}{ty:TypeId}
section
variable {fuel:Nat}{listed:Array Bool}{a:Act}{af:Array Edge}
section
variable {P:Program}{ops:Array Oper}{Q:Exit->Act->p'->Prop}{md:Region.Mode}{S:p'->Prop}{k:Nat}
def pz(P:Program)(md:Region.Mode)(ops:Array Oper)(Q:Exit->Act->p'->Prop)(S:p'->Prop)(k:Nat):Nat->Array Bool->Act->p'->Prop
 |0,listed,a,w=>Region.ready md ops listed=[]/\Q .normal a w
 |fuel+1,listed,a,w=>
  (Region.ready md ops listed=[]->Q .normal a w) /\
  ∀i∈Region.ready md ops listed,wpOp P ops Q i (λa' w'=>(i<k->S w')/\pz P md ops Q S k fuel (listed.setIfInBounds i N') a' w') a w
def zN:∀(b:Nat)(g:Array Bool)(a:Act)(w:p'),pz P md ops Q S k b g a w->wpAny P md ops Q b g a w
 |0,_,_,_,h=>h
 |b+1,_,_,_,h=>⟨h.1,λi c=>wpOp_mono (λz a s=>zN b _ z a s.2)<|h.2 i c⟩
def Gs(md:Region.Mode)(ops:Array Oper)(k:Nat):Bool:=(range ops.size).all λj=>decide (j<k)||(range k).all λi=>match ops[j]? with|some o=>o.after.any λe=>Region.binds md e&&e.on==i|none=>N'
def Xl(h:Gs md ops k=N'){g:Array Bool}{j:Nat}(c:i<k)(X:g.getD i N'=O')(f:j∈Region.ready md ops g):j<k:=by
 obtain⟨_,o,b,R⟩:=qK.1 f;unfold Gs at h;rw[bV]at h;have C:=h j (by rw[cx];exact(bq.1 b).1);rw[eZ,bM]at C;rcases C with C|C
 .exact C
 exfalso;rw[bV]at C;have a:=C i (by rw[cx];exact c);rw[b]at a;simp only[Array.any_eq_true,aY,dP]at a;obtain⟨n,K,N,d⟩:=a;have l:=R _ (Array.getElem_mem K) N;rw[d]at l;rcases j8 i g.size with s|s
 .simp[s]at X l;rw[X]at l;cases l
 simp[xo s]at l
def zO{x:Oper}{v:y'}(p:ops[i]?=z' x)(z:i<k)(F:Gs md ops k=N')(E:∀(j:Nat)(o:Oper) L b,ops[j]?=z' o->o.op≠.select L b)
  (W:∀c a w,Q (.panic c) (a.put x.dst v) w->Q (.panic c) a w):
  ∀(d:Nat)(g:Array Bool)(a:Act)(w:p'),
   (∀j T,ops[j]?=z' T->j≠i->g.getD j N'=O'->(∀e∈T.after,Region.binds md e=N'->e.on≠i)->x.apart ops T=N') ->
   i∈Region.ready md ops g->YieldsIf P ops S x v a->S w ->
   pz P md ops Q S k d (g.setIfInBounds i N') (a.put x.dst v) w->pz P md ops Q S k (d+1) g a w:=by
 intro d;induction d with
 |zero=>
  intro g a w _ o B u c;refine⟨λh=>(by rw[h]at o;cases o),λj f=>?_⟩;by_cases r:j=i
  .subst r;exact B.wpOp p u ⟨λ_=>u,c⟩
  have:=ready_mono f r;rw[c.1]at this;cases this
 |succ d v=>
  intro g a w d o B u c;refine⟨λh=>(by rw[h]at o;cases o),λj f=>?_⟩;by_cases r:j=i
  .subst r;exact B.wpOp p u ⟨λ_=>u,c⟩
  have C:=c.2 j<|ready_mono f r;obtain⟨a,T,c,R⟩:=qK.1 f
  have U:∀e∈T.after,Region.binds md e=N'->e.on≠i:=λe l q h=>by
   have C:=R e l q;have D:=(qK.1 o).1;rw[h]at C;rcases j8 i g.size with s|s
   .simp[s]at D C;rw[D]at C;cases C
   simp[xo s]at C
  have h:=wpOp_putIf c (d j T c r a U) (λL b=>E i x L b p) (λL b=>E j T L b c) W B C
  have y:∀k t,ops[k]?=z' t->k≠i->(g.setIfInBounds j N').getD k N'=O' ->
    (∀e∈t.after,Region.binds md e=N'->e.on≠i)->x.apart ops t=N':=λk t b K V q=>by
   refine d k t b K ?_ q;by_cases p:j=k
   .subst p;exact a
   rw[getD_set_ne N' p]at V;exact V
  have p:=Xl F z (qK.1 o).1 f;refine wpOp_mono (λz a N=>⟨λ_=>N.2.1 p,v (g.setIfInBounds j N') z a y (ready_mono o<|jH r) N.1 (N.2.1 p) ?_⟩) h;rw[Array.setIfInBounds_comm _ _ r];exact N.2.2
def tt{a':Act}(i:Nat)(v:y')(hi:ops[i]?=z' ⟨d,op,ty,ps,af,gd⟩:=by rfl)
  (hk:(decide (i<k)&&Gs md ops k&&Region.noSelect ops&&Region.free md ops listed i&&(Region.ready md ops listed).contains i)=N':=by kernel_rfl)
  (hw:Region.wanted ⟨d,op,ty,ps,af,gd⟩ (yielded ops a.tmps)=N':=by kernel_rfl) (hQ:∀c a w,Q (.panic c) (a.put d v) w->Q (.panic c) a w:=by exact λ_ _ _ h=>h)
  (y:∀w,S w->(execOp a.eval ⟨d,op,ty,ps,af,gd⟩).run P w=.ok (.value v) w:=by intro W' aW;clear aC;go_simp) (hS:S w:=by assumption) (ha:a.put d v=a':=by(try simp only[Act.put,cj,dm,cO]);rfl)
  (h:pz P md ops Q S k fuel (listed.setIfInBounds i N') a' w):pz P md ops Q S k (fuel+1) listed a w:=by
 simp only[aY,bM]at hk;obtain⟨⟨⟨⟨h1,h2⟩,h3⟩,h4⟩,h5⟩:=hk;subst ha;exact zO hi h1 h2 (Region.noSelect_spec h3) hQ fuel listed a w (Region.free_spec hi h4) (H' h5) (aP ⟨hw,y⟩) hS h
def rt(i:Nat)(hi:ops[i]?=z' ⟨d,op,ty,ps,af,gd⟩:=by rfl)(hr:Region.ready md ops listed=[i]:=by kernel_rfl)
  (h:∀K:Act->p'->Prop,Shut (∀a w,(i<k->S w)->pz P md ops Q S k fuel (listed.setIfInBounds i N') a w->K a w)->if Region.wanted ⟨d,op,ty,ps,af,gd⟩ (yielded ops a.tmps)=N' then Oper.wp P ⟨d,op,ty,ps,af,gd⟩ a w K Q else K (a.put d undef) w):pz P md ops Q S k (fuel+1) listed a w:=by
 refine⟨λh0=>(by rw[hr]at h0;cases h0),λj hj=>?_⟩;rw[hr]at hj;obtain rfl:j=i:=H' hj;exact wpOp_step hi λK' hK=>h K' λa w hS hW=>hK a w ⟨hS,hW⟩
def dt(hr:Region.ready md ops listed=[]:=by kernel_rfl)(h:Q .normal a w):pz P md ops Q S k fuel listed a w:=by
 cases fuel with
 |zero=>exact⟨hr,h⟩
 |succ n=>exact⟨λ_=>h,by rw[hr];simp⟩
def st(S:p'->Prop)(k:Nat){id:Nat}(hm:P.follows .mixedOrders=N':=by kernel_rfl)(hS:S w.drew)(h:S w.drew->pz P .any ops Q S k ops.size (Array.replicate ops.size O') a w.drew):(Code.region id ops N').wp P Q a w:=
 wp_region_any hm (zN _ _ _ _<|h hS)
end
end
section
variable {af:Array Edge}
def tk{P:Program}{md:Region.Mode}{ops:Array Oper}{Q:Exit->Act->p'->Prop}{S:p'->Prop}(i:Nat){x:Oper}{v:y'}{fuel:Nat}{listed:Array Bool}{a:Act}{w:p'}(d:ops[i]?=z' x)
  (b:(Region.noSelect ops&&Region.free md ops listed i&&(Region.ready md ops listed).contains i)=N')
  (W:∀c a w,Q (.panic c) (a.put x.dst v) w->Q (.panic c) a w) (B:YieldsIf P ops S x v a) (u:S w)
  (h:wpAnyH P md ops Q S fuel (listed.setIfInBounds i N') (a.put x.dst v) w):wpAnyH P md ops Q S (fuel+1) listed a w:=by
 rw[aY,aY]at b;exact wpAnyH_take d b.1.1 b.1.2 b.2 W B u h
section
variable {P:Program}{md:Region.Mode}{ops:Array Oper}{Q:Exit->Act->p'->Prop}{S:p'->Prop}{fuel:Nat}{listed:Array Bool}{a a':Act}{w:p'}
def tz(i:Nat)(v:y')(h:wpAnyH P md ops Q S fuel (listed.setIfInBounds i N') a' w)(hi:ops[i]?=z' ⟨d,op,ty,ps,af,gd⟩:=by rfl)(hk:(Region.noSelect ops&&Region.free md ops listed i&&(Region.ready md ops listed).contains i)=N':=by kernel_rfl)
  (hQ:∀c a w,Q (.panic c) (a.put d v) w->Q (.panic c) a w:=by exact λ_ _ _ h=>h) (y:YieldsIf P ops S ⟨d,op,ty,ps,af,gd⟩ v a) (hS:S w:=by assumption) (ha:a.put d v=a':=by(try simp only[Act.put,cj,dm,cO]);rfl):wpAnyH P md ops Q S (fuel+1) listed a w:=by
 subst ha;exact tk i hi hk hQ y hS h
def tq(i:Nat)(v:y')(h:wpAnyH P md ops Q S fuel (listed.setIfInBounds i N') a' w)(hi:ops[i]?=z' ⟨d,op,ty,ps,af,gd⟩:=by rfl)(hk:(Region.noSelect ops&&Region.free md ops listed i&&(Region.ready md ops listed).contains i)=N':=by kernel_rfl)
 (hQ:∀c a w,Q (.panic c) (a.put d v) w->Q (.panic c) a w:=by exact λ_ _ _ h=>h) (hw:Region.wanted ⟨d,op,ty,ps,af,gd⟩ (yielded ops a.tmps)=N':=by kernel_rfl)
 (y:∀w,S w->(execOp a.eval ⟨d,op,ty,ps,af,gd⟩).run P w=.ok (.value v) w:=by intro W' aW;clear aC;go_simp) (hS:S w:=by assumption) (ha:a.put d v=a':=by(try simp only[Act.put,cj,dm,cO]);rfl):wpAnyH P md ops Q S (fuel+1) listed a w:=tz i v h hi hk hQ (aP ⟨hw,y⟩) hS ha
def tr{R:p'->Prop}(i:Nat)(v:y')(k:∀w,S w->R w)(h:wpAnyH P md ops Q S fuel (listed.setIfInBounds i N') a' w)(hi:ops[i]?=z' ⟨d,op,ty,ps,af,gd⟩:=by rfl)(hk:(Region.noSelect ops&&Region.free md ops listed i&&(Region.ready md ops listed).contains i)=N':=by kernel_rfl)
 (hQ:∀c a w,Q (.panic c) (a.put d v) w->Q (.panic c) a w:=by exact λ_ _ _ h=>h) (hw:Region.wanted ⟨d,op,ty,ps,af,gd⟩ (yielded ops a.tmps)=N':=by kernel_rfl)
 (y:∀w,S w->R w->(execOp a.eval ⟨d,op,ty,ps,af,gd⟩).run P w=.ok (.value v) w:=by intro W' aW k1;clear aC aW;go_simp) (hS:S w:=by assumption) (ha:a.put d v=a':=by(try simp only[Act.put,cj,dm,cO]);rfl):wpAnyH P md ops Q S (fuel+1) listed a w:=tz i v h hi hk hQ (aP ⟨hw,λw q=>y w q<|k w q⟩) hS ha
def tn(i:Nat)(h:wpAnyH P md ops Q S fuel (listed.setIfInBounds i N') a' w)(hi:ops[i]?=z' ⟨d,op,ty,ps,af,gd⟩:=by rfl)(hk:(Region.noSelect ops&&Region.free md ops listed i&&(Region.ready md ops listed).contains i)=N':=by kernel_rfl)
 (hQ:∀c a w,Q (.panic c) (a.put d undef) w->Q (.panic c) a w:=by exact λ_ _ _ h=>h) (hw:Region.wanted ⟨d,op,ty,ps,af,gd⟩ (yielded ops a.tmps)=O':=by kernel_rfl) (hS:S w:=by assumption) (ha:a.put d undef=a':=by(try simp only[Act.put,cj,dm,cO]);rfl):wpAnyH P md ops Q S (fuel+1) listed a w:=tz i undef h hi hk hQ (aR ⟨hw,rfl⟩) hS ha
def r1(i:Nat)(h:∀K:Act->p'->Prop,Shut (∀a w,S w->(S w->wpAnyH P md ops Q S fuel (listed.setIfInBounds i N') a w)->K a w)->if Region.wanted ⟨d,op,ty,ps,af,gd⟩ (yielded ops a.tmps)=N' then Oper.wp P ⟨d,op,ty,ps,af,gd⟩ a w K Q else K (a.put d undef) w)(hi:ops[i]?=z' ⟨d,op,ty,ps,af,gd⟩:=by rfl)(hr:Region.ready md ops listed=[i]:=by kernel_rfl):wpAnyH P md ops Q S (fuel+1) listed a w:=
 wpAnyH_ready hr ak (AllReadyH.cons hi h AllReadyH.nil)
end
def pt{p q:Prop}(hq:q)(h:q->p:=by intro h;(try simp only[Act.put,cj,dm,cO]);exact h):p:=h hq
end
abbrev bI:=u'
def ld(l:bI):Lit:=.string l
def m?(D:DataW Unit)(i:Nat):List bI->DataW Unit
 |[]=>D
 |v::r=>m? (D.put (ld v)<|.lit<|.int .i64 i) (i+1) r
def tab(vs:List bI):DataW Unit:=m? (.map []) 0 vs
def sj(v:bI):∀(l:List bI)(D:DataW Unit)(i:Nat),m? D i (l++[v])=(m? D i l).put (ld v) (.lit<|.int .i64 ((i+ζ l:Nat):Int))
 |[],D,i=>by simp[m?]
 |x::l,D,i=>by rw[fW,m?,m?,sj v l];congr 4;simp;omega
def oE(E:List bI)(v:bI):tab (E++[v])=(tab E).put (ld v) (.lit<|.int .i64 (ζ E:Int)):=by unfold tab;rw[sj];simp
def pX(l:bI):WideAt.IsKeyLit (ld l):=by simp[ld,WideAt.IsKeyLit]
def ya(E:List bI):Tidy (tab E):=by
 suffices h:∀n (E:List bI),ζ E=n->Tidy (tab E)from h _ E rfl
 intro n;induction n with
 |zero=>intro E h;rw[fT.1 h];exact tidy_empty
 |succ n B=>intro E h;obtain⟨l,v,rfl⟩:∃l v,E=l++[v]:=⟨E.dropLast,E.getLast (by intro e;simp[e]at h),(xp _).symm⟩;rw[oE];exact(B l<|H' h).put (pX v) _
def s6{a b:bI}(h:ld a=ld b):a=b:=by simpa[ld]using h
def DG(E:List bI)(v:bI):Maps.has (tab E) (ld v)=decide (v∈E):=by
 suffices h:∀n (E:List bI),ζ E=n->Maps.has (tab E) (ld v)=decide (v∈E)from h _ E rfl
 intro n;induction n with
 |zero=>intro E h;rw[fT.1 h];rfl
 |succ n B=>
  intro E h;obtain⟨l,x,rfl⟩:∃l v,E=l++[v]:=⟨E.dropLast,E.getLast (by intro e;simp[e]at h),(xp _).symm⟩;rw[oE];by_cases e:v=x
  .subst e;rw[Maps.has_put_same (ya l).isMap<|pX v];simp
  rw[Maps.has_put_other λL=>e<|s6 L,B l<|H' h];simp[e]
def Fb(E:List bI)(Q:E.Nodup):Maps.size (tab E)=ζ E:=by
 suffices h:∀n (E:List bI),ζ E=n->E.Nodup->Maps.size (tab E)=ζ E from h _ E rfl Q
 intro n;induction n with
 |zero=>intro E h _;rw[fT.1 h];rfl
 |succ n B=>
  intro E h Q;obtain⟨l,x,rfl⟩:∃l v,E=l++[v]:=⟨E.dropLast,E.getLast (by intro e;simp[e]at h),(xp _).symm⟩;have K:x∉l:=by rw[AO]at Q;exact λF=>Q.2.2 x F x ak rfl
  rw[oE,Maps.size_put<|ya l,DG,B l (H' h) (by rw[AO]at Q;exact Q.1)];simp[K]
def adl(E:List bI)(Q:E.Nodup)(v:bI)(R:v∈E):(tab E).atKey (ld v) (.lit<|.int .i64 0)=.lit (.int .i64 (E.idxOf v:Int)):=by
 suffices h:∀n (E:List bI),ζ E=n->E.Nodup->v∈E->(tab E).atKey (ld v) (.lit<|.int .i64 0)=.lit (.int .i64 (E.idxOf v:Int))from h _ E rfl Q R
 intro n;induction n with
 |zero=>intro E h _ R;rw[fT.1 h]at R;cases R
 |succ n B=>
  intro E h Q R;obtain⟨l,x,rfl⟩:∃l v,E=l++[v]:=⟨E.dropLast,E.getLast (by intro e;simp[e]at h),(xp _).symm⟩;have K:x∉l:=by rw[AO]at Q;exact λF=>Q.2.2 x F x ak rfl
  rw[oE];by_cases e:v=x
  .subst e;rw[Maps.atKey_put_same (ya l).isMap<|pX v,xM,aA K];simp
  have X:v∈l:=by simpa[e]using R
  rw[Maps.atKey_put_other λL=>e<|s6 L,B l (H' h) (by rw[AO]at Q;exact Q.1) X,xM,aD X]
def eS(vs:List bI)(v:bI):Int:=if v∈vs then(vs.idxOf v:Int) else ζ vs
def cy(vs:List bI)(v:bI):List bI:=if v∈vs then vs else vs++[v]
def x7{E:List bI}(h:E.Nodup)(v:bI):(cy E v).Nodup:=by
 unfold cy;split
 .exact h
 rw[AO];exact⟨h,ak,by rintro a a b a rfl;simp at a;subst a;contradiction⟩
def kY(E:List bI)(v:bI):ζ (cy E v)<=ζ E+1:=by unfold cy;split<;>simp
def Gr:Keyed Tryz.prog 9:=string_keyed underlying9
def AY(w:p'):(zeroValue 3).run Tryz.prog w=.ok (.int .i64 0) w:=by kernel_rfl
structure Rd(w:p')(rb mb:Nat)(vs:List bI):Prop where
  box:w.1[rb]?=z' (i' #[.map<|z' mb] 143 (0,0))
  own:w.ownsMap Tryz.prog 9 (plainElem Tryz.prog 3) mb (ζ vs) (tab vs)
  nodup:vs.Nodup
def Rd.cell{E:List bI}(h:Rd w a x E):χ w (O a 0)=z' (.map<|z' x):=by simp[World.cell?,h.box]
def Rd.isMap{E:List bI}(h:Rd w a x E):∃a c,w.1[x]?=z' (.map a c):=by obtain⟨a,c,b,_⟩:=h.own;exact⟨a,c,b⟩
def Rd.ne{E:List bI}(h:Rd w a x E):a≠x:=by rintro rfl;obtain⟨a,c,a⟩:=h.isMap;rw[h.box]at a;cases a
def Rd.kept{E:List bI}(h:Rd w a x E)(c:ξ w b A'):Rd b a x E:=
 ⟨(c.block a (bq.1 h.box).1 ak).trans h.box,h.own.kept c ak,h.nodup⟩
def bF{W:p'}(a:Below W.1.size W b):ξ W b A':=⟨a.os,a.tape,a.output,a.size,λk b _=>a.block k b⟩
def ky(s:x')(g x:Nat)(E:List bI)(w:p')(y:s.size<=maxLen)(K:ζ E<maxLen)(v:Rd w g x E):
  Cl 261 #[m'<|z'<|O g 0,k' s] w λe a=>
   e=n' (.int .i64<|eS E s.1.1)/\Rd a g x (cy E s.1.1)/\ξ w a (z' x):=by
 have T:=v.cell;have q:keyOf Tryz.prog 9 (k' s)=z' (ld s.1.1):=keyOf_string_mk underlying9 y;have o:=v.own;by_cases f:s.1.1∈E
 .have V:Maps.has (tab E) (ld s.1.1)=N':=by rw[DG];simpa using f
  go_enter func261,ntmps261
  go_wp2_with (first
   |(at_lookup;refine wpList_lookup_own_ok_int _ rfl _ _ 141 rfl 9 3 .i64 Gr underlying141 underlying3 (AY _) x (ζ E) (tab E) rfl o _ _ rfl q ?_;intro c W h))
  go_ret;have e:=W.symm.trans<|adl E v.nodup _ f;simp only[DataW.lit.injEq,Lit.int.injEq,n!]at e;subst e;exact⟨by simp[eS,f],by simpa[cy,f]using v,World.grownBy.refl _ _⟩
 have V:Maps.has (tab E) (ld s.1.1)=O':=by rw[DG];simpa using f
 have a:=Fb E v.nodup;go_enter func261,ntmps261
 go_wp2_with (first
  |(at_lookup;refine wpList_lookup_own_ok_int _ rfl _ _ 141 rfl 9 3 .i64 Gr underlying141 underlying3 (AY _) x (ζ E) (tab E) rfl o _ _ rfl q ?_;intro c W h)
  |(at_len;refine wpList_len_own _ rfl _ 141 rfl 9 3 underlying141 _ x (ζ E) (tab E) rfl o ?_)
  |(at_mapUpdate;refine wpList_mapUpdate_own _ rfl _ _ _ 141 rfl 9 3 Gr underlying141 _ x (ζ E) (tab E) rfl o K _ _ _ rfl rfl q _ [] (plainElem_int underlying3<|WalkArith.wf_i64 (by unfold maxLen at K;omega)) ?_;intro b a d))
 go_ret;refine⟨by simp[eS,f],⟨?_,?_,x7 v.nodup _⟩,d⟩
 .exact(d.block g (bq.1 v.box).1<|by simp;exact v.ne).trans v.box
 have e:cy E s.1.1=E++[s.1.1]:=by simp[cy,f]
 rw[e,oE,bg];exact a
section
variable {a:p'}{b:Nat}{E:List bI}{q:Option Nat}
structure lz where
  aU:Bool
  var:Int
  cg:Int
def nW(vs:List bI)(s:x'):lz:=if Wm.nm s then⟨N',eS vs s.1.1,0⟩ else⟨O',0,i? s.1.1⟩
def bZ(s:x'):Bool:=Wm.nm s||iA s.1.1
def bS(vs:List bI)(s:x'):List bI:=if Wm.nm s then cy vs s.1.1 else vs
def jP(E:List bI)(s:x'):ζ (bS E s)<=ζ E+1:=by unfold bS;split;exact kY _ _;omega
def eI(w:p'):Prop:=∃te pe,χ w (O 5 0)=z' (.iface te pe)
def eI.kept{row:Option Nat}(h:eI w)(d:∃b c,w.1[x]?=z' (.map b c))(g:ξ w a row)(e:row=A'\/row=z' x):eI a:=by
 obtain⟨i,z,T⟩:=h;obtain⟨c,t,f,a⟩:=hM T;refine⟨i,z,g.cell T ?_⟩;rcases e with rfl|rfl
 .simp
 intro e;simp only[dU]at e;subst e;obtain⟨b,b,d⟩:=d;rw[a]at d;cases d
def Rd.grown(h:Rd w b x E)(c:Bl w a):Rd a b x E:=h.kept<|bF c
def jW{c:p'}(h:ξ a c A')(q:Option Nat):ξ a c q:=⟨h.os,h.tape,h.output,h.size,λi S _=>h.block i S ak⟩
def abO(o:lz):y':=j' #[h' o.aU,G o.var,G o.cg]
def Rd.alloc{a:Nat}(h:Rd w a x E)(o:Obj):Rd (w.alloc o) a x E:=h.kept zT
def eI.alloc(h:eI w)(o:Obj):eI (w.alloc o):=by obtain⟨i,z,T⟩:=h;exact⟨i,z,(j6 w o A').cell T ak⟩
def Rd.lt{a:Nat}(h:Rd w a x E):x<δ w.1:=h.own.lt
def eo{b:p'}{L:Array y'}{t:TypeId}(a:ξ (w.alloc<|i' L t) b q)(d:∀k,q=z' k->k<δ w.1):b.1[δ w.1]?=z' (cU L t):=by rw[a.block w.1.size ak λe=>I'<|d _ e.symm];exact cF w _
def dG{b:p'}(h:ξ w b q){a:Addr}(c:δ w.1<=a.block)(v:y'):ξ w (b.setCell a v) q:=
 ⟨h.os,h.tape,h.output,by simpa[World.setCell]using h.size,λk a b=>(aJ I).trans<|h.block k a b⟩
def Rd.set(h:Rd w b x E){a:Addr}(C:a.block≠b)(c:a.block≠x)(v:y'):Rd (w.setCell a v) b x E:=
 ⟨(aJ<|jH C).trans h.box,h.own.setCell (jH c) v,h.nodup⟩
def Rd.Pd{a:Nat}(h:Rd w a x E):a<δ w.1:=(bq.1 h.box).1
def cE{o:Obj}(h:ξ (w.alloc o) a q):ξ w a q:=(j6 w o q).trans h
def F6(s:x')(a x:Nat)(E:List bI)(w:p')(y:s.size<=3000)(K:ζ E<maxLen)(v:Rd w a x E)(f:eI w):
  Cl 259 #[m'<|z'<|O a 0,k' s] w λe c=>
   e=n' (o' #[abO<|nW E s,h'<|bZ s])/\Rd c a x (bS E s)/\ξ w c (z' x):=by
 have d:s.size<=maxLen:=by unfold maxLen;omega
 have C:=v.lt;have b:=v.Pd;cases j:Wm.nm s with
 |true=>
  go_enter func259,ntmps259;go_wp2_with (first|(go_at_call 124;refine(ey _ _ d).mono ?_;rintro e c ⟨rfl,rfl⟩)|(go_at_call 261;refine(ky s a x E _ d K<|v.alloc _).mono ?_;rintro e b ⟨rfl,B,a⟩;have r:=eo a (λk e=>by cases e;exact v.lt);have L:=A r));refine aE (v:=o' #[j' #[h' N',G<|eS E s.1.1,G 0],h' N']) (by simp[results259,go_sem,L.1]) rfl ⟨by simp[nW,abO,bZ,j],?_,?_⟩
  .rw[show bS E s=cy E s.1.1 by simp[bS,j]];exact((B.set G' G' _).set G' G' _).set G' G' _
  exact dG (dG (dG (cE a) aK _) aK _) aK _
 |false=>
  obtain⟨i,z,T⟩:=f.alloc<|i' #[h' O',Value.int IntKind.i64 0,Value.int IntKind.i64 0] 150;go_enter func259,ntmps259;go_wp2_with (first|(go_at_call 124;refine(ey _ _ d).mono ?_;rintro e c ⟨rfl,rfl⟩)|(go_at_call 304;refine(sM s (.iface i z) _ y T ⟨i,z,rfl⟩).mono ?_;rintro e b ⟨rfl,l⟩;have r:=eo (bF l) (λk e=>by cases e);have L:=A r));refine aE (v:=o' #[j' #[h' O',G 0,G<|i? s.1.1],h'<|iA s.1.1]) (by simp[results259,go_sem,L.1]) rfl ⟨by simp[nW,abO,bZ,j],?_,?_⟩
  .rw[show bS E s=E by simp[bS,j]];exact((((v.alloc _).kept<|bF l).set G' G' _).set G' G' _).set G' G' _
  exact dG (dG (dG (cE<|jW (bF l)<|z' x) aK _) aK _) aK _
def kO(s:x')(a x:Nat)(E:List bI)(w:p')(c:s.size<=3000)(K:ζ E<maxLen)(v:Rd w a x E)(d:eI w):
  Cl 259 #[m'<|z'<|O a 0,k' s] w λe b=>∃(y:Bool)(z o:Int),
   e=n' (o' #[j' #[h' y,G z,G o],h'<|bZ s])/\J (nW E s=⟨y,z,o⟩)/\Rd b a x (bS E s)/\ξ w b (z' x):=
 (F6 s a x E w c K v d).mono λ_ _ h=>⟨_,_,_,h.1,rfl,h.2.1,h.2.2⟩
def eI.grown(h:eI w)(v:Rd w b x E)(b:ξ w a<|z' x):eI a:=h.kept v.isMap b<|aR rfl
def eI.set(h:eI w){a:Addr}(b:a.block≠5)(v:y'):eI (w.setCell a v):=by obtain⟨i,z,T⟩:=h;refine⟨i,z,?_⟩;rw[World.cell?_of_block (w:=w)<|aJ<|jH b];exact T
def eI.lt(h:eI w):5<δ w.1:=by obtain⟨i,z,T⟩:=h;exact World.block_lt_of_cell? w _ T
end
section
variable {a:p'}{t:Nat}
def Ws(w:p')(g off:Nat)(ws:List x'):Prop:=∃cur,w.1[g]?=z' (i' cur 9 (0,0))/\(cur.toList.drop off).take (ζ ws)=ws.map k'
def Ws.cell(h:Ws w g t R)(j:Nat)(x:x')(f:R[j]?=z' x):χ w (O g<|t+j)=z' (k' x):=by
 obtain⟨Y,a,U⟩:=h;have X:=(aX.1 f).1;have C:((Y.toList.drop t).take<|ζ R)[j]?=z' (k' x):=by rw[U];simp[f]
 rw[xj,aD X,getElem?_drop]at C;simp[World.cell?,a];simpa using C
def Ws.lt(h:Ws w g t R):g<δ w.1:=by obtain⟨Y,a,_⟩:=h;exact(bq.1 a).1
def Ws.of_block(h:Ws w g t R)(b:a.1[g]?=w.1[g]?):Ws a g t R:=by obtain⟨Y,C,a⟩:=h;exact⟨Y,b.trans C,a⟩
def Ws.ab2(h:Ws w g t R)(d:∃a c,w.1[x]?=z' (.map a c)):g≠x:=by rintro rfl;obtain⟨Y,C,_⟩:=h;obtain⟨a,c,a⟩:=d;rw[C]at a;cases a
def Ws.grown(h:Ws w g t R)(d:∃b c,w.1[x]?=z' (.map b c))(b:ξ w a<|z' x):Ws a g t R:=
 h.of_block (b.block g h.lt<|by simp;exact h.ab2 d)
def Ws.alloc(h:Ws w g t R)(o:Obj):Ws (w.alloc o) g t R:=h.of_block<|rY w o g h.lt
def Ws.set(h:Ws w g t R){a:Addr}(b:g≠a.block)(v:y'):Ws (w.setCell a v) g t R:=h.of_block<|aJ b
def Ws.tail{x:x'}(h:Ws w g t<|x::R):Ws w g (t+1) R:=by obtain⟨Y,C,a⟩:=h;refine⟨Y,C,?_⟩;have:=cZ (drop 1) a;simpa[drop_take,Cy,Cx]using this
structure SN where
  aH:Int
  var:Int
  op:Int
  test:Int
  a:lz
  b:lz
  bD:x'
def o0:lz:=⟨O',0,0⟩
def emp:x':=⟨#[]⟩
def aS(bB:x')(wv:y')(n:SN)(ev:y'):Array y':=
 #[k' bB,wv,G n.aH,G n.var,G n.op,G n.test,h' n.a.aU,G n.a.var,G n.a.cg,h' n.b.aU,G n.b.var,G n.b.cg,ev,k' n.bD]
def gR:y':=g' A' 0 0
def jr(n:SN):y':=j'<|aS emp gR n gR
def nZ:SN:=⟨0,0,0,0,o0,o0,emp⟩
def l5(d:Nat)(a:t')(c b:Nat)(w:p')(h:((c:Int) !=2)=N')(X:c<=3001):
  Cl 194 #[m'<|z'<|O d 0,g' a c b] w λe a=>
   e=n' (o' #[jr nZ,h' O'])/\Bl w a:=by
 go_enter func194,ntmps194;go_wp2;exact aE (v:=o' #[jr nZ,h' O']) (by simp[results194,go_sem,jr,aS,nZ,o0,emp,gR]) rfl ⟨rfl,aQ.alloc aK _⟩
def yp(c x g t d:Nat)(u b:x')(E:List bI)(w:p')(y:b.size<=3000)(K:ζ E<maxLen)(v:Rd w c x E)(f:eI w)(j:Ws w g t [u,b]):
  Cl 194 (Lu c g t d) w λe d=>
   e=n' (o' #[jr ⟨3,0,0,0,nW E b,o0,emp⟩,h'<|bZ b])/\Rd d c x (bS E b)/\ξ w d (z' x):=by
 have T:=j.cell 1 b rfl;have d:=j.lt;have d:=v.lt;have d:=v.Pd;go_enter func194,ntmps194;go_wp2_with (first|(go_at_call 259;refine(kO b c x E _ y K (v.alloc _)<|f.alloc _).mono ?_;rintro e W ⟨h,z,o,rfl,V,B,a⟩;have r:=eo a (λk e=>by cases e;exact v.lt);have L:=A r;have f:=(bq.1 r).1));refine aE (v:=o' #[jr ⟨3,0,0,0,⟨h,z,o⟩,o0,emp⟩,h'<|bZ b]) (by simp[results194,go_sem,jr,aS,o0,emp,gR,L.1,f]) rfl ⟨by rw[V.o],?_,?_⟩
 .refine Rd.alloc ?_ _
  repeat(refine Rd.set ?_ G' G' _)
  exact B
 refine Ck ?_ zT
 repeat(refine dG ?_ aK _)
 exact cE a
end
section
variable {b:Nat}{L:Array y'}{t:TypeId}
def oG(a:t')(c b:Nat)(w:p')(h:((c:Int) !=2)=N')(X:c<=3001):
  Cl 196 #[g' a c b] w λe a=>
   e=n' (o' #[jr nZ,h' O'])/\Bl w a:=by
 go_enter func196,ntmps196;go_wp2;exact aE (v:=o' #[jr nZ,h' O']) (by simp[results196,go_sem,jr,aS,nZ,o0,emp,gR]) rfl ⟨rfl,aQ.alloc aK _⟩
def C1(g t a:Nat)(u b:x')(w:p')(y:b.size<=3000)(j:Ws w g t [u,b]):
  Cl 196 #[g' (z'<|O g t) 2 a] w λe a=>
   e=n' (o' #[jr ⟨5,0,0,0,o0,o0,b⟩,h'<|Wm.nm b])/\Bl w a:=by
 have T:=j.cell 1 b rfl;have c:=j.lt;have d:b.size<=maxLen:=by unfold maxLen;omega
 have z:=World.new_ne w (O g<|t+1) T;go_enter func196,ntmps196;go_wp2
 go_region_held3 (λa=>χ a (O g<|t+1)=z' (k' b)) (go_keep) ((go_at_call 124;refine(ey _ _ d).mono ?_;rintro e a ⟨rfl,rfl⟩))
 go_wp2;exact aE (v:=o' #[jr ⟨5,0,0,0,o0,o0,b⟩,h'<|Wm.nm b]) (by simp[results196,go_sem,jr,aS,o0,emp,gR]) rfl ⟨rfl,(aQ.alloc aK _).drew⟩
def nz{a:World}{x:Nat}(h:w.heap[b]?=some (cU L t))(d:∃e c,w.heap[x]?=some (.map e c))(f:ξ w a<|some x):a.heap[b]?=some (cU L t):=by refine(f.block b (bq.1 h).1 ?_).trans h;simp only[ne_eq,dU];rintro rfl;obtain⟨e,c,e⟩:=d;rw[h]at e;cases e
def fG(h:w.1[b]?=z' (cU L t))(o:Obj):(w.alloc o).1[b]?=z' (cU L t):=
 (rY w o b (bq.1 h).1).trans h
def Zo{p:Prop}(h:p:=by
 go_enter func195,ntmps195;go_wp2
 exact aE (v:=o' #[jr nZ,h' O']) (by simp[results195,go_sem,jr,aS,nZ,o0,emp,gR]) rfl ⟨rfl,aQ.alloc aK _⟩):p:=h
def OG(d:Nat)(a:t')(c b:Nat)(w:p')(h:((c:Int) !=6)=N')(X:c<=3001):
  Cl 195 #[m'<|z'<|O d 0,g' a c b] w λe a=>
   e=n' (o' #[jr nZ,h' O'])/\Bl w a:=by
 exact Zo
def JJ(c g t a:Nat)(u b W i Y p:x')(w:p')(j:Ws w g t [u,b,W,i,Y,p])(d:(Y.toList==[103,111,116,111])=O'):
  Cl 195 #[m'<|z'<|O c 0,g' (z'<|O g t) 6 a] w λe a=>
   e=n' (o' #[jr nZ,h' O'])/\Bl w a:=by
 have T:=j.cell 4 Y rfl;have a:=j.lt;exact Zo
end
def Rd.drew{w:p'}{a x:Nat}{E:List bI}(h:Rd w a x E):Rd w.drew a x E:=⟨h.box,h.own,h.nodup⟩
def rJ{a w:p'}{q:Option Nat}(h:ξ a w q):ξ a w.drew q:=⟨h.os,h.tape,h.output,h.size,h.block⟩
def Zn{p:Prop}(h:p:=by
 go_wp2;refine aE (v:=o' #[jr ⟨4,0,0,Wm.uu W.1.1,⟨y,va,o⟩,⟨D,X,U⟩,p⟩,h'<|bZ b&&Wm.x! W.1.1&&bZ i&&Wm.nm p]) (by simp[results195,go_sem,jr,aS,emp,gR,l.1,Q,h,j]) rfl ⟨by rw[V.o,S.o],?_,?_⟩
 .refine Rd.drew ?_
  repeat(refine Rd.set ?_ G' G' _)
  exact d
 refine rJ ?_
 repeat(refine dG ?_ aK _)
 exact a.o):p:=h
def JI(rb x g t f:Nat)(w0 b W i Y p:x')(E:List bI)(w:p')(hs1:b.size<=3000)(z:i.size<=3000)(hs5:p.size<=maxLen)(K:ζ E+1<maxLen)(v:Rd w rb x E)(hG:eI w)(j:Ws w g t [w0,b,W,i,Y,p])(d:(Y.toList==[103,111,116,111])=N'):
  Cl 195 #[m'<|z'<|O rb 0,g' (z'<|O g t) 6 f] w λe w'=>
   e=n' (o' #[jr ⟨4,0,0,Wm.uu W.1.1,nW E b,nW (bS E b) i,p⟩,h'<|bZ b&&Wm.x! W.1.1&&bZ i&&Wm.nm p])/\Rd w' rb x (bS (bS E b) i)/\ξ w w' (z' x):=by
 have hc4:=j.cell 4 Y rfl;have c:=j.cell 1 b rfl;have f:=j.lt;have f:=v.lt;have f:=v.Pd;have hn1:ζ E<maxLen:=I;have Vz:ζ (bS E b)<maxLen:=by have:=jP E b;omega
 go_enter func195,ntmps195
 go_wp2_with (first
  |(go_at_call_of 259 (Value.string b);refine(kO b rb x E _ hs1 hn1 (v.alloc _)<|hG.alloc _).mono ?_;rintro e F ⟨y,va,o,rfl,V,B,Q⟩;have r:=eo Q (λk e=>by cases e;exact v.lt);have L:=A r;have f:=(bq.1 r).1;have a:=(j.alloc _).grown (v.alloc _).isMap Q;have C:=(hG.alloc _).grown (v.alloc _) Q;have P:=a.cell 2 W rfl;have N:=a.cell 3 i rfl;have R:=a.lt)
  |(go_at_call_of 259 (Value.string i);refine(kO i rb x (bS E b) _ z Vz (B.alloc _)<|C.alloc _).mono ?_;rintro e W4 ⟨D,X,U,rfl,S,hR2,q⟩;have s:=nz (fG r _) (B.alloc _).isMap q;have u:=A s;have l:=eo q (λk e=>by cases e;exact B.lt);have hz1:=A l;have f:=(bq.1 l).1;have h:=(a.alloc _).grown (B.alloc _).isMap q;have T:=h.cell 5 p rfl;have afP:=h.lt)
  |(go_at_call 260;refine(Am _ _).mono ?_;rintro e w' ⟨rfl,rfl⟩))
 clear hc4 c P N L r d a C h u;have c:δ w.1<δ W4.1:=I;obtain⟨C,a⟩:∃C,W4.alloc (i' (cD D X U) 150)=C:=⟨_,rfl⟩;rw[a];have d:=fG s<|i' (cD D X U) 150;have g:=fG l<|i' (cD D X U) 150;have c:b' (W4.alloc<|i' (cD D X U) 150) W4.1.size (cD D X U) 150:=cv;rw[a]at d g c;have f:=hid a;clear a hz1 s l j hs1 z;have l:=A d;have k:=A g;have k:=A c;clear d g c;have s:δ w.1≠δ F.1:=I;have c:δ F.1≠δ w.1:=I;have c:δ w.1≠δ W4.1:=I;have c:δ W4.1≠δ w.1:=I;have d:Rd C rb x (bS (bS E b) i):=by have:=hR2.alloc<|i' (cD D X U) 150;rwa[f.o]at this
 have c:ξ w C (z' x):=by have:=(cE Q).trans ((cE q).trans<|j6 W4 (i' (cD D X U) 150)<|z' x);rwa[f.o]at this
 have a:=hid c;clear c B hR2 Q q f T v hG K hn1 Vz R afP;cases Q:bZ b
 case false=>
  go_region
  go_wp2;refine aE (v:=o' #[jr ⟨4,0,0,Wm.uu W.1.1,⟨y,va,o⟩,⟨D,X,U⟩,p⟩,h'<|bZ b&&Wm.x! W.1.1&&bZ i&&Wm.nm p]) (by simp[results195,go_sem,jr,aS,emp,gR,l.1,Q]) rfl ⟨by rw[V.o,S.o],?_,?_⟩
  .refine Rd.drew ?_
   repeat(refine Rd.set ?_ G' G' _)
   exact d
  refine rJ ?_
  repeat(refine dG ?_ aK _)
  exact a.o
 case true=>
 cases h:Wm.x! W.1.1
 case false=>
  go_region
  go_wp2;refine aE (v:=o' #[jr ⟨4,0,0,Wm.uu W.1.1,⟨y,va,o⟩,⟨D,X,U⟩,p⟩,h'<|bZ b&&Wm.x! W.1.1&&bZ i&&Wm.nm p]) (by simp[results195,go_sem,jr,aS,emp,gR,l.1,Q,h]) rfl ⟨by rw[V.o,S.o],?_,?_⟩
  .refine Rd.drew ?_
   repeat(refine Rd.set ?_ G' G' _)
   exact d
  refine rJ ?_
  repeat(refine dG ?_ aK _)
  exact a.o
 case true=>
 cases j:bZ i
 case false=>
  go_region
  exact Zn
 go_region_held3 (λw'=>χ w' (O F.1.size 0)=z' (h' y)/\χ w' (O F.1.size 1)=z' (G va)/\χ w' (O F.1.size 2)=z' (G o)/\χ w' (O W4.1.size 0)=z' (h' D)/\χ w' (O W4.1.size 1)=z' (G X)/\χ w' (O W4.1.size 2)=z' (G U)) (go_keep) ((go_at_call 124;refine(ey _ _ hs5).mono ?_;rintro e w' ⟨rfl,rfl⟩))
 exact Zn
section
variable {p:Prop}
def l6(d:Nat)(a:t')(c b:Nat)(w:p')(h:decide ((c:Int)<3)=N'):
  Cl 197 #[m'<|z'<|O d 0,g' a c b] w λe a=>
   e=n' (o' #[jr nZ,h' O'])/\Bl w a:=by
 go_enter func197,ntmps197;go_wp2;exact aE (v:=o' #[jr nZ,h' O']) (by simp[results197,go_sem,jr,aS,nZ,o0,emp,gR]) rfl ⟨rfl,aQ.alloc aK _⟩
def Zm(h:p:=by
 go_enter func197,ntmps197;go_wp2_with (first|(go_at_call 124;refine(ey _ _ y).mono ?_;rintro e a ⟨rfl,rfl⟩))
 exact aE (v:=o' #[jr nZ,h' false]) (by simp[results,results197,go_sem,jr,aS,nZ,o0,emp,gR]) rfl ⟨rfl,aQ.alloc aK _⟩):p:=h
def C4(b g t c a:Nat)(u:x')(R:List x')(w:p')(j:Ws w g t<|u::R)(y:u.size<=maxLen)(h:decide ((c:Int)<3)=O')(K:Wm.nm u=O'):
  Cl 197 (ka b g t c a) w λe a=>
   e=n' (o' #[jr nZ,h' O'])/\Bl w a:=by
 have T:χ w (O g t)=z' (k' u):=j.cell 0 u rfl;have b:=j.lt;have X:(0:Int)<c:=by have:=nG h;omega
 exact Zm
def JL(d g t c a:Nat)(u b:x')(R:List x')(w:p')(j:Ws w g t<|u::b::R)(y:u.size<=maxLen)(h:decide ((c:Int)<3)=O')(K:Wm.nm u=N')(l:(b.toList==[61])=O'):
  Cl 197 (ka d g t c a) w λe a=>
   e=n' (o' #[jr nZ,h' O'])/\Bl w a:=by
 have T:χ w (O g t)=z' (k' u):=j.cell 0 u rfl;have d:=j.cell 1 b rfl;have b:=j.lt;have X:(0:Int)<c:=by have:=nG h;omega
 have b:(1:Int)<c:=by have:=nG h;omega
 exact Zm
def Ak(a x g t c:Nat)(u b W:x')(E:List bI)(w:p')(j:Ws w g t [u,b,W])(y:u.size<=maxLen)(K:Wm.nm u=N')(l:(b.toList==[61])=N')(S:(W.toList==[105,110,112,117,116])=N')(X:ζ E<maxLen)(v:Rd w a x E):
  Cl 197 #[m'<|z'<|O a 0,g' (z'<|O g t) 3 c] w λe f=>
   e=n' (o' #[jr ⟨2,eS E u.1.1,0,0,o0,o0,emp⟩,h' N'])/\Rd f a x (cy E u.1.1)/\ξ w f (z' x):=by
 have T:χ w (O g t)=z' (k' u):=j.cell 0 u rfl;have c:=j.cell 1 b rfl;have b:=j.lt;have d:=v.lt;have b:=v.Pd;go_enter func197,ntmps197
 go_wp2_with (first
  |(go_at_call 124;refine(ey _ _ y).mono ?_;rintro e f ⟨rfl,rfl⟩)
  |(go_at_call 261;refine(ky u a x E _ y X<|v.alloc _).mono ?_;rintro e F ⟨rfl,B,b⟩;have r:=eo b (λk e=>by cases e;exact v.lt);have L:=A r;have f:δ w.1<δ F.1:=(bq.1 r).1;have a:=(j.alloc _).grown (v.alloc _).isMap b;have P:=a.cell 2 W rfl;have R:=a.lt))
 refine aE (v:=o' #[jr ⟨2,eS E u.1.1,0,0,o0,o0,emp⟩,h' N']) (by simp[results197,go_sem,jr,aS,o0,emp,gR,L.1,f]) rfl ⟨rfl,?_,?_⟩
 .repeat(refine Rd.set ?_ G' G' _)
  exact B
 repeat(refine dG ?_ aK _)
 exact cE b
def adN(h:p:=by
 have T:χ w (O g off)=z' (k' w0):=hW.cell 0 w0 rfl;have c:=hW.cell 1 w1 rfl;have b:=hW.lt;have d:=hR.lt;have b:=hR.Pd
 first|(have _:=aal;(have b:(0:Int)<len:=I'<|nG hle);(have b:(1:Int)<len:=I'<|nG hle);(have D:(2:Int)<len:=I'<|nG hle))|skip
 have b:ζ vs<maxLen:=I;have i:ζ (cy vs w0.1.1)<maxLen:=by have:=kY vs w0.1.1;omega
 go_enter func197,ntmps197
 go_wp2_with (first
  |(go_at_call 124;refine(ey _ _ hs).mono ?_;rintro e w' ⟨rfl,rfl⟩)
  |(go_at_call 261;refine(ky w0 rb mb vs _ hs b<|hR.alloc _).mono ?_;rintro e F ⟨rfl,B,c⟩;have r:=eo c (λk e=>by cases e;exact hR.lt);have L:=A r;have f:δ w.1<δ F.1:=(bq.1 r).1;have d:=(hW.alloc _).grown (hR.alloc _).isMap c;have b:=(hG.alloc _).grown (hR.alloc _) c;have P:=d.cell 2 w2 rfl;have f:=d.lt)
  |(go_at_call 259;refine(kO w2 rb mb (cy vs w0.1.1) _ Xz i B b).mono ?_;rintro e b ⟨y,z,o,rfl,V,C,q⟩;have s:=nz r B.isMap q;clear L;have L:=A s;have j:δ w.1<δ b.1:=(bq.1 s).1))
 first|(have _:=aal;refine aE (v:=o' #[jr nZ,h' O']) (by simp[results197,go_sem,jr,aS,nZ,o0,emp,gR,L.1,j]) rfl ⟨rfl,?_,?_⟩)|(refine aE (v:=o' #[jr ⟨0,eS vs w0.1.1,0,0,⟨y,z,o⟩,o0,emp⟩,h'<|bZ w2]) (by simp[results197,go_sem,jr,aS,o0,emp,gR,L.1,j]) rfl ⟨by rw[V.o],?_,?_⟩)
 .refine Rd.alloc ?_ _
  repeat(refine Rd.set ?_ G' G' _)
  exact C
 refine Ck ?_ zT
 repeat(refine dG ?_ aK _)
 exact(cE c).trans q):p:=h
def C5(rb mb g off a:Nat)(w0 w1 w2:ByteArray)(vs:List bI)(w:World)(hW:Ws w g off [w0,w1,w2])(hs:w0.size<=maxLen)(Xz:w2.size<=3000)(K:Wm.nm w0=true)(l:(w1.toList==[61])=true)(S:(w2.toList==[105,110,112,117,116])=false)(X:vs.length+1<maxLen)(hR:Rd w rb mb vs)(hG:eI w):
  Cl 197 #[.pointer<|some<|O rb 0,.slice (some<|O g off) 3 a] w λe w'=>
   e=.returned (.tuple #[jr ⟨0,eS vs w0.data.toList,0,0,nW (cy vs w0.data.toList) w2,o0,emp⟩,.bool<|bZ w2])/\Rd w' rb mb (bS (cy vs w0.data.toList) w2)/\w.grownBy w' (some mb):=by
 exact adN
end
def vA(rb mb g off len a:Nat)(w0 w1 w2:x')(R:List x')(vs:List bI)(w:p')(hW:Ws w g off<|w0::w1::w2::R)(hs:w0.size<=maxLen)(Xz:w2.size<=3000)(K:Wm.nm w0=N')(l:(w1.toList==[61])=N')(hle:decide ((len:Int)<3)=O')(N:((len:Int)==3)=O')(l:((len:Int)==5)=O')(X:ζ vs+1<maxLen)(hR:Rd w rb mb vs)(hG:eI w):
  Cl 197 #[m'<|z'<|O rb 0,g' (z'<|O g off) len a] w λe w'=>
   e=n' (o' #[jr nZ,h' O'])/\Rd w' rb mb (bS (cy vs w0.1.1) w2)/\ξ w w' (z' mb):=by
 have aal:=True.intro;exact adN
def C6(Q x g t R:Nat)(u d W i Y:x')(E:List bI)(w:p')(j:Ws w g t [u,d,W,i,Y])(y:u.size<=maxLen)(Xz:W.size<=3000)(hs4:Y.size<=3000)(K:Wm.nm u=N')(K:(d.toList==[61])=N')(K:ζ E+2<maxLen)(v:Rd w Q x E)(hG:eI w):
  Cl 197 #[m'<|z'<|O Q 0,g' (z'<|O g t) 5 R] w λe f=>
   e=n' (o' #[jr ⟨1,eS E u.1.1,Wm.tV i.1.1,0,nW (cy E u.1.1) W,nW (bS (cy E u.1.1) W) Y,emp⟩,h'<|bZ W&&Wm.wX i.1.1&&bZ Y])/\Rd f Q x (bS (bS (cy E u.1.1) W) Y)/\ξ w f (z' x):=by
 have T:χ w (O g t)=z' (k' u):=j.cell 0 u rfl;have c:=j.cell 1 d rfl;have d:=j.lt;have d:=v.lt;have d:=v.Pd;have XE:ζ E<maxLen:=I;have hl2:ζ (cy E u.1.1)<maxLen:=by have:=kY E u.1.1;omega
 have hl3:ζ (bS (cy E u.1.1) W)<maxLen:=by have:=kY E u.1.1;have:=jP (cy E u.1.1) W;omega
 go_enter func197,ntmps197
 go_wp2_with (first
  |(go_at_call 124;refine(ey _ _ y).mono ?_;rintro e f ⟨rfl,rfl⟩)
  |(go_at_call 262;refine(F2 _ _).mono ?_;rintro e f ⟨rfl,rfl⟩)
  |(go_at_call 261;refine(ky u Q x E _ y XE<|v.alloc _).mono ?_;rintro e F ⟨rfl,B,hg1⟩;have r:=eo hg1 (λk e=>by cases e;exact v.lt);have L:=A r;have f:δ w.1<δ F.1:=(bq.1 r).1;have a:=(j.alloc _).grown (v.alloc _).isMap hg1;have b:=(hG.alloc _).grown (v.alloc _) hg1;have P:=a.cell 2 W rfl;have R:=a.lt)
  |(go_at_call_of 259 (Value.string W);refine(kO W Q x (cy E u.1.1) _ Xz hl2 B b).mono ?_;rintro e W4 ⟨iv,z,co,rfl,V,C,q⟩;have s:=nz r B.isMap q;clear L;have d:δ w.1<δ W4.1:=(bq.1 s).1;have h:=a.grown B.isMap q;have hG2:=b.grown B q;have N:=h.cell 3 i rfl;have o:=h.cell 4 Y rfl;have d:=h.lt))
 refine(kO Y Q x (bS (cy E u.1.1) W) _ hs4 hl3 (C.alloc _)<|hG2.alloc _).mono ?_;rintro e W6 ⟨D,X,U,rfl,S,hR3,hg3⟩;have l:=nz (fG s _) (C.alloc _).isMap hg3;have p:=eo hg3 (λk e=>by cases e;exact C.lt);have f:δ W4.1<δ W6.1:=(bq.1 p).1;have d:δ w.1<δ W6.1:=(bq.1 l).1;have e:δ w.1≠δ W4.1:=I;have e:δ W4.1≠δ w.1:=I;have L:=A l;have e:=A p;clear T c P N o r s j a h b hG2 hG;cases Q:bZ W<;>cases b:Wm.wX i.1.1<;>cases a:bZ Y
 all_goals
  go_wp2_with fail;refine aE (v:=o' #[jr ⟨1,eS E u.1.1,Wm.tV i.1.1,0,⟨iv,z,co⟩,⟨D,X,U⟩,emp⟩,h'<|bZ W&&Wm.wX i.1.1&&bZ Y]) (by simp[results197,go_sem,jr,aS,o0,emp,gR,L.1,f,d,Q,b,a]) rfl ⟨by rw[V.o,S.o],?_,?_⟩
  .refine Rd.alloc ?_ _
   repeat(refine Rd.set ?_ G' G' _)
   exact hR3
  refine Ck ?_ zT
  repeat(refine dG ?_ aK _)
  exact(cE hg1).trans<|q.trans<|cE hg3
section
variable {e:Ending}
abbrev St:=SN×Bool×List bI
def gQ(vs:List bI):St:=(nZ,O',vs)
def oO(vs:List bI)(ws:List x'):St:=
 match ws with
 |[_,w1]=>(⟨3,0,0,0,nW vs w1,o0,emp⟩,bZ w1,bS vs w1)
 |_=>gQ vs
def jX(vs:List bI)(ws:List x'):St:=
 match ws with
 |[_,w1]=>(⟨5,0,0,0,o0,o0,w1⟩,Wm.nm w1,vs)
 |_=>gQ vs
def z7(vs:List bI)(ws:List x'):St:=
 match ws with
 |[_,w1,w2,w3,w4,w5]=>
  if w4.toList==[103,111,116,111] then(⟨4,0,0,Wm.uu w2.1.1,nW vs w1,nW (bS vs w1) w3,w5⟩,bZ w1&&Wm.x! w2.1.1&&bZ w3&&Wm.nm w5,bS (bS vs w1) w3) else gQ vs
 |_=>gQ vs
def fp(vs:List bI)(ws:List x'):St:=
 match ws with
 |w0::w1::w2::q=>
  if Wm.nm w0&&w1.toList==[61] then
   match q with
   |[]=>if w2.toList==[105,110,112,117,116] then(⟨2,eS vs w0.1.1,0,0,o0,o0,emp⟩,N',cy vs w0.1.1) else(⟨0,eS vs w0.1.1,0,0,nW (cy vs w0.1.1) w2,o0,emp⟩,bZ w2,bS (cy vs w0.1.1) w2)
   |[w3,w4]=>(⟨1,eS vs w0.1.1,Wm.tV w3.1.1,0,nW (cy vs w0.1.1) w2,nW (bS (cy vs w0.1.1) w2) w4,emp⟩,bZ w2&&Wm.wX w3.1.1&&bZ w4,bS (bS (cy vs w0.1.1) w2) w4)
   |_=>(nZ,O',bS (cy vs w0.1.1) w2)
  else gQ vs
 |_=>gQ vs
def iz(vs:List bI)(ws:List x'):St:=
 match ws with
 |[]=>gQ vs
 |w0::r=>
  if w0.toList==[111,117,116,112,117,116] then oO vs (w0::r)
  else if w0.toList==[105,102] then z7 vs (w0::r)
  else if w0.toList==[103,111,116,111] then jX vs (w0::r)
  else if w0.toList==[114,101,116,117,114,110] then(⟨6,0,0,0,o0,o0,emp⟩,((ζ r+1:Nat):Int)==1,vs)
  else fp vs (w0::r)
structure wb(ws:List x'):Prop where
  len:ζ ws<=3001
  word:∀x∈ws,x.size<=3000
def wb.max(h:wb R){x:x'}(F:x∈R):x.size<=maxLen:=by have:=h.word x F;unfold maxLen;omega
def xg(w:p')(rb mb:Nat)(st:St)(e:Ending)(w':p'):Prop:=
 ∃(n:SN)(ok:Bool)(vt:List bI),e=n' (o' #[j' #[k' ⟨#[]⟩,g' A' 0 0,G n.aH,G n.var,G n.op,G n.test,h' n.a.aU,G n.a.var,G n.a.cg,h' n.b.aU,G n.b.var,G n.b.cg,g' A' 0 0,k' n.bD],h' ok])/\J ((n,ok,vt)=st)/\Rd w' rb mb vt/\ξ w w' (z' mb)
def jB{a:p'}{b:Nat}{E:List bI}(v:Rd w b x E)(h:e=n' (o' #[jr nZ,h' O'])/\Bl w a):xg w b x (gQ E) e a:=
 ⟨nZ,O',E,h.1,rfl,v.grown h.2,jW (bF h.2) _⟩
def lS{b:p'}{c:Nat}{a:List bI}{n:SN}{t:Bool}(h:e=n' (o' #[jr n,h' t])/\Rd b c x a/\ξ w b (z' x)):xg w c x (n,t,a) e b:=
 ⟨n,t,a,h.1,rfl,h.2.1,h.2.2⟩
def Ka{n m:Nat}(h:n≠m):((n:Int) !=(m:Int))=N':=by simp;omega
def yq(c x g t a:Nat)(R:List x')(E:List bI)(w:p')(f:wb R)(K:ζ E+3<maxLen)(v:Rd w c x E)(d:eI w)(hW:Ws w g t R):
  Cl 194 (ka c g t (ζ R) a) w (xg w c x<|oO E R):=by
 match R,f,hW with
 |[_,b],f,hW=>exact(yp c x g t a _ b E w (f.word b ak) I v d hW).mono λ_ _ h=>lS h
 |[],f,_=>exact(l5 c _ 0 a w aj I).mono λ_ _ h=>jB v h
 |[_],f,_=>exact(l5 c _ 1 a w aj I).mono λ_ _ h=>jB v h
 |_::_::_::r,f,_=>exact(l5 c _ _ a w (Ka (m:=2) ak) f.len).mono λ_ _ h=>jB v h
def C2(b x g t a:Nat)(R:List x')(E:List bI)(w:p')(f:wb R)(v:Rd w b x E)(hW:Ws w g t R):
  Cl 196 #[g' (z'<|O g t) (ζ R) a] w (xg w b x<|jX E R):=by
 match R,f,hW with
 |[_,b],f,hW=>exact(C1 g t a _ b w (f.word b ak) hW).mono λ_ _ h=>lS ⟨h.1,v.grown h.2,jW (bF h.2) _⟩
 |[],f,_=>exact(oG _ 0 a w aj I).mono λ_ _ h=>jB v h
 |[_],f,_=>exact(oG _ 1 a w aj I).mono λ_ _ h=>jB v h
 |_::_::_::r,f,_=>exact(oG _ _ a w (Ka (m:=2) ak) f.len).mono λ_ _ h=>jB v h
def zk(E:List bI)(R:List x')(h:ζ R≠6):z7 E R=gQ E:=by
 unfold z7;split
 .simp at h
 rfl
def six(h:ζ R=6):∃a b c d e f,R=[a,b,c,d,e,f]:=by
 match R,h with
 |[a,b,c,d,e,f],_=>exact⟨a,b,c,d,e,f,rfl⟩
def JK(k x g t a:Nat)(R:List x')(E:List bI)(w:p')(f:wb R)(K:ζ E+3<maxLen)(v:Rd w k x E)(l:eI w)(j:Ws w g t R):
  Cl 195 (ka k g t (ζ R) a) w (xg w k x<|z7 E R):=by
 by_cases c:ζ R=6;rotate_left
 .rw[zk E R c];exact(OG k _ _ a w (Ka (m:=6) c) f.len).mono λ_ _ h=>jB v h
 obtain⟨u,b,W,i,Y,p,rfl⟩:=six c;cases d:(Y.toList==[103,111,116,111])with
 |true=>
  have e:z7 E [u,b,W,i,Y,p]=(⟨4,0,0,Wm.uu W.1.1,nW E b,nW (bS E b) i,p⟩,bZ b&&Wm.x! W.1.1&&bZ i&&Wm.nm p,bS (bS E b) i):=by show(if Y.toList==[103,111,116,111] then _ else _)=_;rw[d];rfl
  rw[e];exact(JI k x g t a u b W i Y p E w (f.word b ak) (f.word i ak) (f.max ak) I v l j d).mono λ_ _ h=>lS h
 |false=>
  have e:z7 E [u,b,W,i,Y,p]=gQ E:=by show(if Y.toList==[103,111,116,111] then _ else _)=_;rw[d];rfl
  rw[e];exact(JJ k g t a u b W i Y p w j d).mono λ_ _ h=>jB v h
def FF(c x g t a:Nat)(R:List x')(E:List bI)(w:p')(f:wb R)(K:ζ E+3<maxLen)(v:Rd w c x E)(d:eI w)(hW:Ws w g t R):
  Cl 197 (ka c g t (ζ R) a) w (xg w c x<|fp E R):=by
 match R,f,hW with
 |[],f,_=>exact(l6 c _ 0 a w aj).mono λ_ _ h=>jB v h
 |[_],f,_=>exact(l6 c _ 1 a w aj).mono λ_ _ h=>jB v h
 |[_,_],f,_=>exact(l6 c _ 2 a w aj).mono λ_ _ h=>jB v h
 |u::b::W::q,f,hW=>
  have hlen:decide ((ζ (u::b::W::q):Int)<3)=O':=by rw[e9];simp;omega
  cases V:Wm.nm u with
  |false=>
   have e:fp E (u::b::W::q)=gQ E:=by simp[fp,V]
   rw[e];exact(C4 c g t _ a u _ w hW (f.max ak) hlen V).mono λ_ _ h=>jB v h
  |true=>
   cases l:(b.toList==[61])with
   |false=>
    have e:fp E (u::b::W::q)=gQ E:=by simp only[fp,V,l];rfl
    rw[e];exact(JL c g t _ a u b _ w hW (f.max ak) hlen V l).mono λ_ _ h=>jB v h
   |true=>
    match q,f,hW,hlen with
    | [],f,hW,hlen=>
     cases S:(W.toList==[105,110,112,117,116])with
     |true=>
      have e:fp E [u,b,W]=(⟨2,eS E u.1.1,0,0,o0,o0,emp⟩,N',cy E u.1.1):=by simp only[fp,V,l,S];rfl
      rw[e];exact(Ak c x g t a u b W E w hW (f.max ak) V l S I v).mono λ_ _ h=>lS h
     |false=>
      have e:fp E [u,b,W]=(⟨0,eS E u.1.1,0,0,nW (cy E u.1.1) W,o0,emp⟩,bZ W,bS (cy E u.1.1) W):=by simp only[fp,V,l,S];rfl
      rw[e];exact(C5 c x g t a u b W E w hW (f.max ak) (f.word W ak) V l S I v d).mono λ_ _ h=>lS h
    |[i,Y],f,hW,hlen=>
     have e:fp E [u,b,W,i,Y]=(⟨1,eS E u.1.1,Wm.tV i.1.1,0,nW (cy E u.1.1) W,nW (bS (cy E u.1.1) W) Y,emp⟩,bZ W&&Wm.wX i.1.1&&bZ Y,bS (bS (cy E u.1.1) W) Y):=by simp only[fp,V,l];rfl
     rw[e];exact(C6 c x g t a u b W i Y E w hW (f.max ak) (f.word W ak) (f.word Y ak) V l I v d).mono λ_ _ h=>lS h
    |[i],f,hW,hlen=>
     have e:fp E [u,b,W,i]=(nZ,O',bS (cy E u.1.1) W):=by simp only[fp,V,l];rfl
     rw[e];exact(vA c x g t _ a u b W _ E w hW (f.max ak) (f.word W ak) V l hlen ak ak I v d).mono λ_ _ h=>lS h
    |i::Y::p::r,f,hW,hlen=>
     have e:fp E (u::b::W::i::Y::p::r)=(nZ,O',bS (cy E u.1.1) W):=by simp only[fp,V,l];rfl
     rw[e];exact(vA c x g t _ a u b W _ E w hW (f.max ak) (f.word W ak) V l hlen G' G' I v d).mono λ_ _ h=>lS h
end
def CO{p:Prop}(h:p:=by
 clear e;go_enter func125,ntmps125;go_wp2_with fail;refine bP (Y.o _ (v.alloc _) (f.alloc _)<|j.alloc _) ?_;rintro e F ⟨n,t,c,rfl,p,B,b⟩;have r:=eo b (λk e=>by cases e;exact v.lt);have L:=A r;have f:δ w.1<δ F.1:=(bq.1 r).1;clear r T;go_wp2_with fail;refine aE (v:=o' #[jr n,h' t]) (by simp[results125,go_sem,jr,aS,emp,gR,L.1,f]) rfl ⟨n,t,c,rfl,p,?_,?_⟩
 .repeat(refine Rd.set ?_ G' G' _)
  exact B
 repeat(refine dG ?_ aK _)
 exact cE b):p:=h
def FD(b x g t c d:Nat)(u:x')(R:List x')(E:List bI)(st:St)(w:p')(X:(0:Int)<c)(v:Rd w b x E)(f:eI w)(j:Ws w g t<|u::R)(D:(u.toList==[111,117,116,112,117,116])=N')
  (e:∀W,Rd W b x E->eI W->Ws W g t (u::R)->Cl 194 (ka b g t c d) W (xg W b x st)):
  Cl 125 (ka b g t c d) w (xg w b x st):=by
 have T:χ w (O g t)=z' (k' u):=j.cell 0 u rfl;have i:=j.lt;have hm:=v.lt;have i:=v.Pd;have Y:J (∀W,Rd W b x E->eI W->Ws W g t (u::R)->Cl 194 (ka b g t c d) W (xg W b x st)):=e;exact CO
def JH(b x g t c d:Nat)(u:x')(R:List x')(E:List bI)(st:St)(w:p')(X:(0:Int)<c)(v:Rd w b x E)(f:eI w)(j:Ws w g t<|u::R)(D:(u.toList==[111,117,116,112,117,116])=O')(C:(u.toList==[105,102])=N')
  (e:∀W,Rd W b x E->eI W->Ws W g t (u::R)->Cl 195 (ka b g t c d) W (xg W b x st)):
  Cl 125 (ka b g t c d) w (xg w b x st):=by
 have T:χ w (O g t)=z' (k' u):=j.cell 0 u rfl;have i:=j.lt;have hm:=v.lt;have i:=v.Pd;have Y:J (∀W,Rd W b x E->eI W->Ws W g t (u::R)->Cl 195 (ka b g t c d) W (xg W b x st)):=e;exact CO
def CX(d x g t c b:Nat)(u:x')(R:List x')(E:List bI)(st:St)(w:p')(X:(0:Int)<c)(v:Rd w d x E)(f:eI w)(j:Ws w g t<|u::R)(D:(u.toList==[111,117,116,112,117,116])=O')(C:(u.toList==[105,102])=O')(e:(u.toList==[103,111,116,111])=N')
  (e:∀W,Rd W d x E->eI W->Ws W g t (u::R)->Cl 196 #[g' (z'<|O g t) c b] W (xg W d x st)):
  Cl 125 (ka d g t c b) w (xg w d x st):=by
 have T:χ w (O g t)=z' (k' u):=j.cell 0 u rfl;have i:=j.lt;have hm:=v.lt;have i:=v.Pd;have Y:J (∀W,Rd W d x E->eI W->Ws W g t (u::R)->Cl 196 #[g' (z'<|O g t) c b] W (xg W d x st)):=e;exact CO
def FE(b x g t c d:Nat)(u:x')(R:List x')(E:List bI)(st:St)(w:p')(X:(0:Int)<c)(v:Rd w b x E)(f:eI w)(j:Ws w g t<|u::R)(D:(u.toList==[111,117,116,112,117,116])=O')(C:(u.toList==[105,102])=O')(e:(u.toList==[103,111,116,111])=O')(N:(u.toList==[114,101,116,117,114,110])=O')
  (e:∀W,Rd W b x E->eI W->Ws W g t (u::R)->Cl 197 (ka b g t c d) W (xg W b x st)):
  Cl 125 (ka b g t c d) w (xg w b x st):=by
 have T:χ w (O g t)=z' (k' u):=j.cell 0 u rfl;have i:=j.lt;have hm:=v.lt;have i:=v.Pd;have Y:J (∀W,Rd W b x E->eI W->Ws W g t (u::R)->Cl 197 (ka b g t c d) W (xg W b x st)):=e;exact CO
def FC(b x g t c a:Nat)(u:x')(R:List x')(E:List bI)(w:p')(X:(0:Int)<c)(v:Rd w b x E)(j:Ws w g t<|u::R)(D:(u.toList==[111,117,116,112,117,116])=O')(C:(u.toList==[105,102])=O')(d:(u.toList==[103,111,116,111])=O')(N:(u.toList==[114,101,116,117,114,110])=N'):
  Cl 125 (ka b g t c a) w (xg w b x (⟨6,0,0,0,o0,o0,emp⟩,(c:Int)==1,E)):=by
 have T:χ w (O g t)=z' (k' u):=j.cell 0 u rfl;have a:=j.lt;go_enter func125,ntmps125;go_wp2_with fail;exact aE (v:=o' #[jr ⟨6,0,0,0,o0,o0,emp⟩,h' ((c:Int)==1)]) (by simp[results125,go_sem,jr,aS,o0,emp,gR]) rfl ⟨_,_,E,rfl,rfl,v.alloc _,zT⟩
def lE(e x g t d:Nat)(R:List x')(E:List bI)(w:p')(D:R≠[])(f:wb R)(K:ζ E+3<maxLen)(v:Rd w e x E)(i:eI w)(hW:Ws w g t R):
  Cl 125 (ka e g t (ζ R) d) w (xg w e x<|iz E R):=by
 match R,D,f,hW with
 |u::r,_,f,hW=>
  have X:(0:Int)<(ζ (u::r):Int):=ak;cases o:(u.toList==[111,117,116,112,117,116])with
  |true=>rw[show iz E (u::r)=oO E (u::r)by simp only[iz,o,dQ]];exact FD e x g t _ d u r E _ w X v i hW o λW a b c=>yq e x g t d (u::r) E W f K a b c
  |false=>
   cases V:(u.toList==[105,102])with
   |true=>rw[show iz E (u::r)=z7 E (u::r)by simp only[iz,o,V,eF,eV,dQ]];exact JH e x g t _ d u r E _ w X v i hW o V λW a b c=>JK e x g t d (u::r) E W f K a b c
   |false=>
    cases h:(u.toList==[103,111,116,111])with
    |true=>rw[show iz E (u::r)=jX E (u::r)by simp only[iz,o,V,h,eF,eV,dQ]];exact CX e x g t _ d u r E _ w X v i hW o V h λW a b c=>C2 e x g t d (u::r) E W f a c
    |false=>
     cases j:(u.toList==[114,101,116,117,114,110])with
     |true=>rw[show iz E (u::r)=(⟨6,0,0,0,o0,o0,emp⟩,((ζ r+1:Nat):Int)==1,E)by simp only[iz,o,V,h,j,eF,eV,dQ]];exact FC e x g t _ d u r E w X v hW o V h j
     |false=>rw[show iz E (u::r)=fp E (u::r)by simp only[iz,o,V,h,j,eF,eV]];exact FE e x g t _ d u r E _ w X v i hW o V h j λW a b c=>FF e x g t d (u::r) E W f K a b c
def lP(s p:x')(w:p')(y:s.size<=3000):
  Cl 123 #[k' s,k' p] w λe a=>∃(D:x')(b:Bool),e=n' (o' #[k' D,h' b])/\J (D.1.1=Lib.trimSuffix s.1.1 p.1.1/\b=Lib.hasSuffix s.1.1 p.1.1)/\a=w:=
 (Tryz.strings_CutSuffix s p w I).mono λ_ _ h=>⟨_,_,h.1,⟨rfl,rfl⟩,h.2⟩
def rO(s:x'):Bool:=Lib.hasSuffix s.1.1 [58]
def jw(s:x'):x':=⟨θ<|Lib.trimSuffix s.1.1 [58]⟩
def pW(s:x'):(jw s).size<=s.size:=by show(Lib.trimSuffix s.1.1 [58]).toArray.size<=s.data.size;unfold Lib.trimSuffix;split<;>simp
def o8{a w:p'}{q:Option Nat}(h:ξ a.drew w q):ξ a w q:=⟨h.os,h.tape,h.output,h.size,h.block⟩
abbrev Ln:=x'×Nat×St
def jS(vs:List bI)(ws:List x'):Ln:=
 match ws with
 |[]=>(emp,0,gQ vs)
 |w0::r=>
  if rO w0 then
   (if Wm.nm (jw w0) then(match r with|[]=>(emp,0,gQ vs)|_=>(jw w0,1,iz vs r)) else(emp,0,gQ vs))
  else(emp,0,iz vs<|w0::r)
def Vr(w:p')(rb mb g off len cap:Nat)(ln:Ln)(e:Ending)(w':p'):Prop:=
 ∃(bB:x')(k:Nat)(ad:t')(l c:Nat)(n:SN)(ok:Bool)(vt:List bI),e=n' (o' #[j' #[k' bB,g' ad l c,G n.aH,G n.var,G n.op,G n.test,h' n.a.aU,G n.a.var,G n.a.cg,h' n.b.aU,G n.b.var,G n.b.cg,g' A' 0 0,k' n.bD],h' ok])/\J ((bB,k,n,ok,vt)=ln)/\J (ok=N'->ad=z' (O g<|off+k)/\l=len-k/\c=cap-k)/\Rd w' rb mb vt/\ξ w w' (z' mb)
def CZ(b x g t c a:Nat)(u:x')(R:List x')(E:List bI)(w:p')(X:(0:Int)<c)(y:u.size<=3000)(v:Rd w b x E)(j:Ws w g t<|u::R)(T:rO u=N')(K:Wm.nm (jw u)=O'):
  Cl 79 (ka b g t c a) w λe a=>
   e=n' (o' #[jr nZ,h' O'])/\Bl w a:=by
 have z:χ w (O g t)=z' (k' u):=j.cell 0 u rfl;have b:=j.lt;have d:(jw u).size<=maxLen:=by have:=pW u;unfold maxLen;omega
 go_enter func79,ntmps79;go_wp2_with fail;refine(lP _ _ _ y).mono ?_;rintro e a ⟨D,b,rfl,B,rfl⟩;obtain rfl:D=jw u:=by have:=B.a;cases D;simp only[jw]at this|-;congr 1;exact QD.1 this
 obtain rfl:b=N':=B.A.trans T;go_wp2_with (first|(go_at_call 124;refine(ey _ _ d).mono ?_;rintro e a ⟨rfl,rfl⟩));exact aE (v:=o' #[jr nZ,h' O']) (by simp[results79,go_sem,jr,aS,nZ,o0,emp,gR]) rfl ⟨rfl,aQ.alloc aK _⟩
def Ai(b x g t a:Nat)(u:x')(R:List x')(E:List bI)(w:p')(i:1<=a)(y:u.size<=3000)(v:Rd w b x E)(j:Ws w g t<|u::R)(T:rO u=N')(K:Wm.nm (jw u)=N'):
  Cl 79 #[m'<|z'<|O b 0,g' (z'<|O g t) 1 a] w λe a=>
   e=n' (o' #[jr nZ,h' O'])/\Bl w a:=by
 have z:χ w (O g t)=z' (k' u):=j.cell 0 u rfl;have b:=j.lt;have d:(jw u).size<=maxLen:=by have:=pW u;unfold maxLen;omega
 go_enter func79,ntmps79;go_wp2_with fail;refine(lP _ _ _ y).mono ?_;rintro e a ⟨D,b,rfl,B,rfl⟩;obtain rfl:D=jw u:=by have:=B.a;cases D;simp only[jw]at this|-;congr 1;exact QD.1 this
 obtain rfl:b=N':=B.A.trans T;go_wp2_with (first|(go_at_call 124;refine(ey _ _ d).mono ?_;rintro e a ⟨rfl,rfl⟩))
 go_region
 all_goals go_wp2
 all_goals exact aE (v:=o' #[jr nZ,h' O']) (by simp[results79,go_sem,jr,aS,nZ,o0,emp,gR]) rfl ⟨rfl,(aQ.alloc aK _).drew⟩
def QU{p:Prop}(h:p:=by
 refine Ck ?_ zT
 repeat(refine dG ?_ aK _)
 exact cE s):p:=h
def CY(b x g t c U:Nat)(u:x')(R:List x')(E:List bI)(st:St)(w:p')(L:2<=c)(i:c<=U)(l:U<=maxLen)(y:u.size<=3000)(v:Rd w b x E)(V:eI w)(j:Ws w g t<|u::R)(T:rO u=N')(K:Wm.nm (jw u)=N')
  (d:∀W,Rd W b x E->eI W->Ws W g (t+1) R->Cl 125 #[m'<|z'<|O b 0,g' (z'<|O g<|t+1) (c-1)<|U-1] W (xg W b x st)):
  Cl 79 (ka b g t c U) w (Vr w b x g t c U (jw u,1,st)):=by
 have z:χ w (O g t)=z' (k' u):=j.cell 0 u rfl;have e:=j.lt;have C:=v.lt;have e:=v.Pd;have hm:(jw u).size<=maxLen:=by have:=pW u;unfold maxLen;omega
 have Y:J (∀W,Rd W b x E->eI W->Ws W g (t+1) R->Cl 125 #[m'<|z'<|O b 0,g' (z'<|O g<|t+1) (c-1)<|U-1] W (xg W b x st)):=d;clear d;unfold maxLen at l;have X:(1:Int)<=c:=I;have d:(c:Int)<=U:=I;have o:(1:Int)<=U:=I;have N:(0:Int)<c:=I;have o:¬U=1:=I;have q:¬c=1:=I;go_enter func79,ntmps79;go_wp2_with fail;refine(lP _ _ _ y).mono ?_;rintro e d ⟨D,b,rfl,B,rfl⟩;obtain rfl:D=jw u:=by have:=B.a;cases D;simp only[jw]at this|-;congr 1;exact QD.1 this
 obtain rfl:b=N':=B.A.trans T;go_wp2_with (first|(go_at_call 124;refine(ey _ _ hm).mono ?_;rintro e d ⟨rfl,rfl⟩))
 go_region
 go_wp2_with fail;refine bP (Y.o _ (v.alloc _).drew (V.alloc _) (j.alloc _).tail) ?_;rintro e F ⟨n,i,d,rfl,p,B,b⟩;have s:=o8 b;have r:=eo s (λk e=>by cases e;exact v.lt);have L:=A r;have f:δ w.1<δ F.1:=(bq.1 r).1;clear r z j V;go_wp2_with fail;refine aE (v:=o' #[j'<|aS (jw u) (g' (z'<|O g<|t+1) (c-1)<|U-1) n gR,h' i]) (by simp[results79,go_sem,aS,gR,L.1,f]) rfl ⟨(jw u),1,_,_,_,n,i,d,rfl,by show _=_;rw[<-p.o],λ_=>⟨rfl,rfl,rfl⟩,?_,?_⟩
 .refine Rd.alloc ?_ _
  repeat(refine Rd.set ?_ G' G' _)
  exact B
 exact QU
def Aj(b x g t c d:Nat)(u:x')(R:List x')(E:List bI)(st:St)(w:p')(L:1<=c)(y:u.size<=3000)(v:Rd w b x E)(o:eI w)(j:Ws w g t<|u::R)(T:rO u=O')
  (e:∀W,Rd W b x E->eI W->Ws W g t (u::R)->Cl 125 (ka b g t c d) W (xg W b x st)):
  Cl 79 (ka b g t c d) w (Vr w b x g t c d (emp,0,st)):=by
 have z:χ w (O g t)=z' (k' u):=j.cell 0 u rfl;have f:=j.lt;have C:=v.lt;have f:=v.Pd;have Y:J (∀W,Rd W b x E->eI W->Ws W g t (u::R)->Cl 125 (ka b g t c d) W (xg W b x st)):=e;clear e;have N:(0:Int)<c:=I;have q:((c:Int)==0)=O':=by rw[dB];omega
 go_enter func79,ntmps79;go_wp2_with fail;refine(lP _ _ _ y).mono ?_;rintro e b ⟨D,b,rfl,B,rfl⟩;obtain rfl:b=O':=B.A.trans T;go_wp2_with fail;refine bP (Y.o _ (v.alloc _) (o.alloc _)<|j.alloc _) ?_;rintro e F ⟨n,l,i,rfl,p,B,b⟩;have s:=b;have r:=eo s (λk e=>by cases e;exact v.lt);have L:=A r;have f:δ w.1<δ F.1:=(bq.1 r).1;clear r z j o;go_wp2_with fail;refine aE (v:=o' #[j'<|aS emp (kW g t c d) n gR,h' l]) (by simp[results79,go_sem,aS,gR,emp,L.1,f]) rfl ⟨emp,0,_,_,_,n,l,i,rfl,by show _=_;rw[<-p.o],λ_=>⟨rfl,rfl,rfl⟩,?_,?_⟩
 .refine Rd.alloc ?_ _
  repeat(refine Rd.set ?_ G' G' _)
  exact B
 exact QU
def S9{w b:p'}{d x g t c a:Nat}{E:List bI}{e:Ending}(v:Rd w d x E)(h:e=n' (o' #[jr nZ,h' O'])/\Bl w b):Vr w d x g t c a (emp,0,gQ E) e b:=
 ⟨emp,0,A',0,0,nZ,O',E,h.1,rfl,(λe=>by cases e),v.grown h.2,jW (bF h.2) _⟩
def wb.tail{x:x'}{R:List x'}(h:wb<|x::R):wb R:=⟨by have:=h.len;simp at this;omega,λy B=>h.word y<|by simp[B]⟩
def C0(e x g t d:Nat)(R:List x')(E:List bI)(w:p')(D:R≠[])(i:ζ R<=d)(l:d<=maxLen)(f:wb R)(K:ζ E+3<maxLen)(v:Rd w e x E)(o:eI w)(hW:Ws w g t R):
  Cl 79 (ka e g t (ζ R) d) w (Vr w e x g t (ζ R) d<|jS E R):=by
 match R,D,i,f,hW with
 |u::r,_,i,f,hW=>
  have y:=f.word u ak;cases T:rO u with
  |true=>
   cases j:Wm.nm (jw u)with
   |true=>
    match r,i,f,hW with
    |[],i,f,hW=>rw[show jS E [u]=(emp,0,gQ E)by simp only[jS,T,j,dQ]];exact(Ai e x g t d u [] E w i y v hW T j).mono λ_ _ h=>S9 v h
    |k::r,i,f,hW=>rw[show jS E (u::k::r)=(jw u,1,iz E<|k::r)by simp only[jS,T,j,dQ]];exact CY e x g t _ d u (k::r) E _ w ak i l y v o hW T j λW a b c=>lE e x g (t+1) (d-1) (k::r) E W ak f.tail K a b c
   |false=>rw[show jS E (u::r)=(emp,0,gQ E)by simp only[jS,T,j,dQ,eF,eV]];exact(CZ e x g t _ d u r E w ak y v hW T j).mono λ_ _ h=>S9 v h
  |false=>rw[show jS E (u::r)=(emp,0,iz E<|u::r)by simp only[jS,T,eF,eV]];exact Aj e x g t _ d u r E _ w ak y v o hW T λW a b c=>lE e x g t d (u::r) E W ak f K a b c
namespace Wm
def dy(c:UInt8):Bool:=c.toNat==32||c.toNat==9||c.toNat==13
def ji(cur:List UInt8):List UInt8->List (List UInt8)
 |[]=>if cur=[] then[] else[cur]
 |c :: r=>if dy c then(if cur=[] then ji [] r else cur :: ji [] r) else ji (cur++[c]) r
def Dh(x:Nat):Bool:=x==32||x==9||x==13
theorem Nn(n d a o x:Nat)(h:128<=d):128<=(decodeN n d a o x).1/\(2<=(decodeN n d a o x).2->128<=a)/\(3<=(decodeN n d a o x).2->128<=o)/\(4<=(decodeN n d a o x).2->128<=x)/\(decodeN n d a o x).2<=4:=by
 unfold decodeN
 repeat' split
 all_goals(simp only;omega)
theorem Yd(n d a o x:Nat)(h:d<128):decodeN n d a o x=(d,1):=by unfold decodeN;rw[aD h]
theorem adg(c:UInt8)(h:128<=c.toNat):dy c=false:=by simp[dy];omega
theorem mR(s:ByteArray)(k:Nat)(h:k<s.size):s.get! k=s[k]:=by simp[ByteArray.get!,ByteArray.getElem_eq_getElem_data];rw[getElem!_pos]
theorem P1(Y:List UInt8):∀(a b:List UInt8),(∀x∈a,dy x=false)->ji Y (a++b)=ji (Y++a) b:=by
 intro a;induction a generalizing Y with
 |nil=>intro b _;simp
 |cons c a B=>intro b h;have T:=h c ak;rw[fW,ji,T];simp only[eF,eV];rw[B _ b λx F=>h x<|by simp[F]];simp
def sub(l:List UInt8)(a b:Nat):List UInt8:=(l.drop a).take<|b-a
theorem sub_self(l:List UInt8)(a:Nat):sub l a a=[]:=by simp[sub]
theorem sk(l:List UInt8)(a b c:Nat)(C:a<=b)(d:b<=c):sub l a c=sub l a b++sub l b c:=by
 unfold sub;have V:l.drop b=(l.drop a).drop (b-a):=by rw[Cy];congr 1;omega
 rw[V,show c-a=(b-a)+(c-b)by omega,List.take_add]
theorem Ut(l:List UInt8)(a b:Nat)(h:a<=b):l.drop a=sub l a b++l.drop b:=by
 unfold sub;have V:l.drop b=(l.drop a).drop (b-a):=by rw[Cy];congr 1;omega
 rw[V,ug]
def qH(l:List UInt8)(st:Option Nat)(pos:Nat):List UInt8:=match st with|none=>[]|some a=>sub l a pos
theorem Jl(l:List UInt8)(a b:Nat)(h:a<b)(c:b<=l.length):sub l a b≠[]:=by intro e;have:=cZ List.length e;simp[sub]at this;omega
theorem UU(s:ByteArray)(c:Nat)(U:c<s.size)(h:128<=s[c].toNat):∀x∈sub s.data.toList c (c+(Utf8.decode s c).2),dy x=false:=by
 have Q:=Nn (s.size-c) (s.get! c).toNat (s.get!<|c+1).toNat (s.get!<|c+2).toNat (s.get!<|c+3).toNat (by rw[mR s c U];exact h);rw[<-decode_at]at Q;obtain⟨_,C,a,N,d⟩:=Q;intro x F;obtain⟨j,f,rfl⟩:=xE F;have r:j<(Utf8.decode s c).2/\c+j<s.size:=by
  simp[sub]at f;have:=bT s;have V:s.data.toList.length=s.data.size:=by simp
  omega
 have e:(sub s.data.toList c<|c+(Utf8.decode s c).2)[j]=s[c+j]:=by simp[sub];rfl
 rw[e];apply adg;rcases j with _|_|_|_|j
 .simpa using h
 .rw[<-mR s (c+1) r.2];exact C I
 .rw[<-mR s (c+2) r.2];exact a I
 .rw[<-mR s (c+3) r.2];exact N I
 omega
theorem ad0{p:Prop}(h:p:=by
 cases st with
 |none=>simp[qH,ji]
 |some a=>
  have:=Jl s.data.toList a s.size (N a rfl) I
  simp[qH,ji,this]):p:=h
theorem spans_eq(s:ByteArray):∀(f c:Nat)(st:Option Nat)(V:List<|Nat×Nat),s.size<=c+f->c<=s.size->(∀a,st=some a->a<c) ->
  (closeSpans s<|spansFromP Dh s f c st V).map (λx=>sub s.data.toList x.1 x.2)=V.map (λx=>sub s.data.toList x.1 x.2)++ji (qH s.data.toList st c) (s.data.toList.drop c):=by
 have L:=bT s;intro f;induction f with
 |zero=>
  intro c st V C b N;obtain rfl:c=s.size:=by omega
  rw[show s.data.toList.drop s.size=[] from qO I];unfold spansFromP closeSpans;exact ad0
 |succ f B=>
  intro c st V C b N;by_cases L:c<s.size;rotate_left
  .rw[spansFromP_end _ _ _ _ _ _ L];obtain rfl:c=s.size:=by omega
   rw[show s.data.toList.drop s.size=[] from qO I];unfold closeSpans;exact ad0
  have b:=width_pos s c;have g:c+(Utf8.decode s c).2<=s.size:=by have:=decodeN_le_n' (s.size-c) (s.get! c).toNat (s.get!<|c+1).toNat (s.get!<|c+2).toNat (s.get!<|c+3).toNat I;rw[<-decode_at]at this;omega
  unfold spansFromP;rw[aD L];by_cases d:s[c].toNat<128;rotate_left
  .have R:=UU s c L I;have b:=Nn (s.size-c) (s.get! c).toNat (s.get!<|c+1).toNat (s.get!<|c+2).toNat (s.get!<|c+3).toNat (by rw[mR s c L];omega);rw[<-decode_at]at b;have U:Dh (Utf8.decode s c).1=false:=by simp[Dh];omega
   rw[U];simp only[eF,eV];rw[Ut s.data.toList c (c+(Utf8.decode s c).2) I,P1 _ _ _ R];cases st with
   |none=>simp only;rw[B _ (some c) V I g (λa h=>by cases h;omega)];simp[qH]
   |some a=>simp only;rw[B _ (some a) V I g (λb h=>by cases h;have:=N a rfl;omega)];simp only[qH];rw[sk s.data.toList a c _ (by have:=N a rfl;omega) I]
  have i:Utf8.decode s c=(s[c].toNat,1):=by rw[decode_at,mR s c L];exact Yd _ _ _ _ _ d
  have d:s.data.toList.drop c=s[c] :: s.data.toList.drop (c+1):=by rw[mX I];rfl
  have E:sub s.data.toList c (c+1)=[s[c]]:=by unfold sub;rw[d];simp
  rw[i];simp only;have e:Dh s[c].toNat=dy s[c]:=rfl;cases r:dy s[c]with
  |true=>
   rw[e,r,aD rfl,d,ji,r];cases st with
   |none=>simp only;rw[B (c+1) none V I I (λa h=>by cases h)];simp[qH]
   |some a=>simp only;rw[B (c+1) none _ I I (λa h=>by cases h)];have:=Jl s.data.toList a c (N a rfl) I;simp[qH,this]
  |false=>
   rw[e,r,d,ji,r];simp only[eF,eV];cases st with
   |none=>simp only;rw[B (c+1) (some c) V I I (λa h=>by cases h;omega)];simp[qH,E]
   |some a=>simp only;rw[B (c+1) (some a) V I I (λb h=>by cases h;have:=N a rfl;omega)];simp only[qH];rw[sk s.data.toList a c (c+1) (by have:=N a rfl;omega) I,E]
theorem PK(s:ByteArray):(goFieldsP Dh s).map (·.data.toList)=ji [] s.data.toList:=by have h:=spans_eq s s.size 0 none [] I I (λa h=>by cases h);simp only[qH,xC,List.map_nil,gg]at h;rw[<-h];unfold goFieldsP spansOfP;rw[fS];apply eQ;intro x _;simp only[Function.comp];rw[extract_data];simp[sub,List.take_drop]
def z6(cur:List UInt8):List UInt8->List (List UInt8)
 |[]=>[cur]
 |c :: r=>if c=10 then cur :: z6 [] r else z6 (cur++[c]) r
theorem Mt(c d:UInt8)(r:List UInt8):([c].isPrefixOf<|d :: r)=(c==d):=by simp[List.isPrefixOf]
theorem Gi:∀(l Y:List UInt8),(index l [10]=-1/\z6 Y l=[Y++l])∨∃a b,l=a++10 :: b/\index l [10]=(a.length:Int)/\z6 Y l=(Y++a) :: z6 [] b:=by
 intro l;induction l with
 |nil=>intro Y;exact aP ⟨by simp[index],by simp[z6]⟩
 |cons c r B=>
  intro Y;by_cases T:c=10
  .subst T;exact aR ⟨[],r,rfl,by simp[index,Mt],by simp[z6]⟩
  have U:([10].isPrefixOf<|c :: r)=false:=by rw[Mt];simp;exact λe=>T e.symm
  rcases B (Y++[c])with⟨C,d⟩|⟨a,b,D,C,d⟩
  .refine aP ⟨?_,?_⟩
   .simp[index,U,C]
   rw[z6,aA T,d];simp
  refine aR ⟨c :: a,b,by rw[D];rfl,?_,?_⟩
  .have z:¬(index r [10]==-1)=true:=by rw[C];simp
   rw[index,U];simp only[eF,eV];rw[aA z,C];simp
  rw[z6,aA T,d];simp
theorem Ob:∀(n:Nat)(l:List UInt8),l.length<=n->splitK [10] 0 (count l [10]) l=z6 [] l:=by
 intro n;induction n with
 |zero=>intro l h;obtain rfl:l=[]:=fT.1 I;rw[count_miss<|by simp[index]];rfl
 |succ n B=>
  intro l h;rcases Gi l []with⟨C,c⟩|⟨a,b,D,C,c⟩
  .rw[count_miss C,c];rfl
  rw[count_hit ak C,Cx 1,splitK,c];have z:¬(index l [10]==-1)=true:=by rw[C];simp
  rw[aA z,C];have V:l.take ((a.length:Int).toNat+0)=a:=by rw[D];simp
  have u:l.drop ((a.length:Int).toNat+([10]:List UInt8).length)=b:=by rw[D];simp
  have c:l.drop (a.length+([10]:List UInt8).length)=b:=by rw[D];simp
  rw[V,u,c,B b (by rw[D]at h;simp at h;omega)];simp
theorem y8(s:ByteArray):(splitB ⟨#[10]⟩ 0 (countB s ⟨#[10]⟩) s).map (·.data.toList)=z6 [] s.data.toList:=by rw[splitB_data];exact Ob _ _ aK
end Wm
structure NC where
  bB:x'
  wa:t'
  wl:Nat
  wc:Nat
  n:SN
  ea:t'
  el:Nat
  ec:Nat
abbrev NC.wv(c:NC):y':=g' c.wa c.wl c.wc
abbrev NC.ev(c:NC):y':=g' c.ea c.el c.ec
def NC.on(c:NC)(a:t')(l k:Nat):NC:={c with ea:=a,el:=l,ec:=k}
def pU(c:NC):List y':=(aS c.bB c.wv c.n c.ev).toList
def fN(l:List NC):List y':=l.flatMap pU
def iq(c:NC):ζ (pU c)=14:=rfl
def Ae(l:List NC)(c:NC):fN (l++[c])=fN l++pU c:=by simp[fN]
def fQ(c:NC)(l:List NC):fN (c::l)=pU c++fN l:=by simp[fN]
def vw:∀(l:List NC)(k:Nat)(c:NC)(j:Nat),l[k]?=z' c->j<14->(fN l)[k*14+j]?=(pU c)[j]?
 |[],k,c,j,h,_=>by simp at h
 |d::l,0,c,j,h,hj=>by simp at h;subst h;rw[fQ,e6,bH,gI<|by rw[iq];exact hj]
 |d::l,k+1,c,j,h,hj=>by rw[fQ,eB<|by rw[iq];omega,iq,show(k+1)*14+j-14=k*14+j by omega];exact vw l k c j (H' h) hj
def sB(a:t')(V B:Nat):∀(l:List NC)(k:Nat)(c:NC),l[k]?=z' c->(fN l).set (k*14+12) (g' a V B)=fN (l.set k<|c.on a V B)
 |[],k,c,h=>by simp at h
 |d::l,0,c,h=>by simp at h;subst h;rw[dm,fQ,fQ,xI _ _<|by rw[iq];omega];rfl
 |d::l,k+1,c,h=>by rw[cO,fQ,fQ,lY _ _<|by rw[iq];omega,iq,show(k+1)*14+12-14=k*14+12 by omega,sB a V B l k c<|H' h]
def iB(w:p')(g cap:Nat)(nl:List NC):Prop:=∃cur,w.1[g]?=z' (i' cur 152 (0,0))/\cur.size=cap*14/\cur.toList.take (ζ nl*14)=fN nl/\ζ nl<=cap
def iB.cells{D:List NC}(h:iB w g a D)(k:Nat)(c:NC)(a:D[k]?=z' c)(j:Nat)(f:j<14):χ w (O g<|k*14+j)=(aS c.bB c.wv c.n c.ev)[j]?:=by obtain⟨Y,b,_,U,_⟩:=h;have X:=(aX.1 a).1;have C:=vw D k c j a f;rw[<-U,xj,aD I]at C;simp only[World.cell?,b];simpa[pU]using C
def iB.all{D:List NC}(h:iB w g a D)(k:Nat)(c:NC)(a:D[k]?=z' c):χ w (O g<|k*14)=z' (k' c.bB)/\χ w (O g<|k*14+1)=z' (bk c.wa c.wl c.wc)/\χ w (O g<|k*14+2)=z' (G c.n.aH)/\χ w (O g<|k*14+3)=z' (G c.n.var)/\χ w (O g<|k*14+4)=z' (G c.n.op)/\χ w (O g<|k*14+5)=z' (G c.n.test)/\χ w (O g<|k*14+6)=z' (h' c.n.a.aU)/\χ w (O g<|k*14+7)=z' (G c.n.a.var)/\χ w (O g<|k*14+8)=z' (G c.n.a.cg)/\χ w (O g<|k*14+9)=z' (h' c.n.b.aU)/\χ w (O g<|k*14+10)=z' (G c.n.b.var)/\χ w (O g<|k*14+11)=z' (G c.n.b.cg)/\χ w (O g<|k*14+12)=z' (bk c.ea c.el c.ec)/\χ w (O g<|k*14+13)=z' (k' c.n.bD):=
 ⟨h.cells k c a 0 I,h.cells k c a 1 I,h.cells k c a 2 I,h.cells k c a 3 I,h.cells k c a 4 I,h.cells k c a 5 I,h.cells k c a 6 I,h.cells k c a 7 I,h.cells k c a 8 I,h.cells k c a 9 I,h.cells k c a 10 I,h.cells k c a 11 I,h.cells k c a 12 I,h.cells k c a 13 I⟩
def iB.frozen{D:List NC}(h:iB w g a D)(o:Nat):w.frozen? (O g o)=O':=by obtain⟨Y,a,_⟩:=h;simp[World.frozen?,a]
def iB.lt{D:List NC}(h:iB w g a D):g<δ w.1:=by obtain⟨Y,a,_⟩:=h;exact(bq.1 a).1
def iB.of_block{b:p'}{D:List NC}(h:iB w g a D)(c:b.1[g]?=w.1[g]?):iB b g a D:=by obtain⟨Y,C,a⟩:=h;exact⟨Y,c.trans C,a⟩
def iB.alloc{D:List NC}(h:iB w g a D)(o:Obj):iB (w.alloc o) g a D:=h.of_block<|rY w o g h.lt
def iB.Od{b:Nat}{D:List NC}(h:iB w g b D)(k:Nat)(c:NC)(d:D[k]?=z' c)(a:t')(V B:Nat):iB (κ w (O g<|k*14+12)<|g' a V B) g b (D.set k<|c.on a V B):=by
 obtain⟨Y,b,y,U,T⟩:=h;have X:=(aX.1 d).1;refine⟨Y.setIfInBounds (k*14+12)<|g' a V B,?_,H' y,?_,H' T⟩
 .have L:=(bq.1 b);simp only[World.setCell,AV];simp[b]
 rw[dh,<-sB a V B D k c d,<-U,I4,take_set]
def Er(w:p')(ev:y')(es:List Int):Prop:=(es=[]/\ev=g' A' 0 0)\/∃b,ev=g' (z'<|O b 0) (ζ es) (ζ es)/\w.1[b]?=z' (i' (θ<|es.map G) 3 (0,0))
def Hb(aH bD next:Int):List Int:=if aH==4 then[bD,next] else if aH==5 then[bD] else if aH==6 then[] else[next]
def PW(k g n:Int)(w:p'):
  Cl 128 #[G k,G g,G n] w λe b=>∃a V B,e=n' (g' a V B)/\J (Er b (g' a V B)<|Hb k g n)/\Bl w b:=by
 go_enter func128,ntmps128;go_wp2
 all_goals
  go_ret;refine⟨_,_,_,rfl,?_,?_⟩
 .exact aR ⟨δ w.1,by simp[Hb, *],by rw[cF];simp[Hb, *]⟩
 .exact aQ.alloc aK _
 .exact aR ⟨δ w.1,by simp[Hb, *],by rw[cF];simp[Hb, *]⟩
 .exact aQ.alloc aK _
 .exact aP ⟨by simp[Hb, *],rfl⟩
 .exact aQ
 .exact aR ⟨δ w.1,by simp[Hb, *],by rw[cF];simp[Hb, *]⟩
 exact aQ.alloc aK _
def Oc{W:p'}{k:Nat}{d c:x'}{u v:y'}{x q i a f b D X:Int}{L F:Bool}(h:∀j,j<14->χ W (O g<|k+j)=(aS d u ⟨x,q,i,a,⟨L,f,b⟩,⟨F,D,X⟩,c⟩ v)[j]?):χ W (O g k)=z' (k' d)/\χ W (O g<|k+1)=z' u/\χ W (O g<|k+2)=z' (G x)/\χ W (O g<|k+3)=z' (G q)/\χ W (O g<|k+4)=z' (G i)/\χ W (O g<|k+5)=z' (G a)/\χ W (O g<|k+6)=z' (h' L)/\χ W (O g<|k+7)=z' (G f)/\χ W (O g<|k+8)=z' (G b)/\χ W (O g<|k+9)=z' (h' F)/\χ W (O g<|k+10)=z' (G D)/\χ W (O g<|k+11)=z' (G X)/\χ W (O g<|k+12)=z' v/\χ W (O g<|k+13)=z' (k' c):=
 ⟨h 0 I,h 1 I,h 2 I,h 3 I,h 4 I,h 5 I,h 6 I,h 7 I,h 8 I,h 9 I,h 10 I,h 11 I,h 12 I,h 13 I⟩
def qf(ps:List<|bI×Nat):DataW Unit:=ps.foldl (λD p=>D.put (ld p.1)<|.lit<|.int .i64 (p.2:Int))<|.map []
def pG(S:List<|bI×Nat)(p:bI×Nat):qf (S++[p])=(qf S).put (ld p.1) (.lit<|.int .i64 (p.2:Int)):=by simp[qf]
def yd{α:Type}{P:List α->Prop}(h0:P [])(h1:∀l a,P l->P (l++[a]))(l:List α):P l:=by
 suffices h:∀n (l:List α),ζ l=n->P l from h _ l rfl
 intro n;induction n with
 |zero=>intro l h;rw[fT.1 h];exact h0
 |succ n B=>intro l h;obtain⟨r,a,rfl⟩:∃r a,l=r++[a]:=⟨l.dropLast,l.getLast (by intro e;simp[e]at h),(xp _).symm⟩;exact h1 r a<|B r<|H' h
def Z5(S:List<|bI×Nat):Tidy (qf S):=by
 induction S using yd with
 |h0=>exact tidy_empty
 |h1 l a B=>rw[pG];exact B.put (pX a.1) _
def iw(ps:List<|bI×Nat):List bI:=ps.map Prod.fst
def mZ(ps:List<|bI×Nat)(v:bI):Int:=match ps.reverse.find? (λp=>p.1==v)with|some p=>(p.2:Int)|none=>0
def acF(S:List<|bI×Nat)(v:bI):Maps.has (qf S) (ld v)=decide (v∈iw S):=by
 induction S using yd with
 |h0=>rfl
 |h1 l a B=>
  rw[pG];by_cases e:v=a.1
  .subst e;rw[Maps.has_put_same (Z5 l).isMap<|pX _];simp[iw]
  rw[Maps.has_put_other λL=>e<|s6 L,B,xt];simp[iw,e]
def atA(S:List<|bI×Nat)(v:bI):(qf S).atKey (ld v) (.lit<|.int .i64 0)=.lit (.int .i64<|mZ S v):=by
 induction S using yd with
 |h0=>rfl
 |h1 l a B=>
  rw[pG];by_cases e:v=a.1
  .subst e;rw[Maps.atKey_put_same (Z5 l).isMap<|pX _];simp[mZ]
  rw[Maps.atKey_put_other λL=>e<|s6 L,B];have:(a.1==v)=O':=by simpa using λL=>e L.symm
  simp[mZ,this]
def kC(i:Nat)(ps:List<|bI×Nat):List x'->Option (List<|bI×Nat)
 |[]=>z' ps
 |b::r=>if b.toList.isEmpty then kC (i+1) ps r else if b.1.1∈iw ps then A' else kC (i+1) (ps++[(b.1.1,i)]) r
def F0(i:Nat)(S:List<|bI×Nat)(l:List x')(k:Nat):kC i S l=(kC i S<|l.take k).bind (λq=>kC (i+ζ (l.take k)) q<|l.drop k):=by
 induction l generalizing i S k with
 |nil=>simp[kC]
 |cons b r B=>
  cases k with
  |zero=>simp[kC]
  |succ k=>
   rw[take_succ_cons,drop_succ_cons];simp only[kC];split
   .rw[B];simp only[bU];congr 1;funext q;congr 1;omega
   split
   .rfl
   rw[B];simp only[bU];congr 1;funext q;congr 1;omega
def yM{a:List x'}{S:List (bI×Nat)}{b:x'}(h:kC 0 [] (a.take k)=z' S)(c:a[k]?=z' b):
  kC 0 [] (a.take<|k+1)=if b.toList.isEmpty then z' S else if b.1.1∈iw S then A' else z' (S++[(b.1.1,k)]):=by
 have X:=(aX.1 c).1;rw[F0 0 [] (a.take<|k+1) k,take_take,n? I,h];have e:(a.take<|k+1).drop k=[b]:=by rw[drop_take,show k+1-k=1 by omega,take_one,head?_drop,c];rfl
 have u:ζ (a.take k)=k:=by simp;omega
 simp only[Option.bind_some,e,u,bH,kC]
def F1{Xm:List x'}(h:kC 0 [] (Xm.take k)=A'):kC 0 [] Xm=A':=by rw[F0 0 [] Xm k,h];rfl
def aci{D:List NC}{c:NC}(h:D[k]?=z' c):(D.map NC.bB)[k]?=z' c.bB:=by simp[h]
def wm(g a:Nat)(D:List NC)(w:p')(p:iB w g a D)(L:ζ D<=60)(f:∀c∈D,c.bB.size<=3000):
  Cl 126 #[g' (z'<|O g 0) (ζ D) a] w λe a=>
   (
    (∃S b,kC 0 [] (D.map NC.bB)=z' S/\e=n' (o' #[.map<|z' b,h' N'])/\δ w.1<=b/\a.ownsMap Tryz.prog 9 (plainElem Tryz.prog 3) b 60 (qf S))\/
    (kC 0 [] (D.map NC.bB)=A'/\e=n' (o' #[.map A',h' O'])))/\Bl w a:=by
 have C:=@run_makeMap Tryz.prog;have a:=p.lt;go_enter func126,ntmps126;go_wp2;go_loopw[12] (λi wr=>∃(k:Nat)(S:List<|bI×Nat),k<=ζ D/\i=G k/\J (kC 0 [] ((D.map NC.bB).take k)=z' S)/\wr.ownsMap Tryz.prog 9 (plainElem Tryz.prog 3) w.1.size k (qf S)/\Bl w wr) (λi _=>ζ D-(intOf i).toNat)
 case atStart=>exact⟨0,[],bm,rfl,rfl,World.ownsMap_made _ _ _ _,aQ.alloc aK _⟩
 obtain⟨k,S,b,rfl,Q,o,i⟩:=hrel;by_cases L:k<ζ D;rotate_left
 .obtain rfl:k=ζ D:=I;go_wp2;go_ret2;have e:=Q.o;rw[c! ak]at e;exact⟨aP ⟨S,δ w.1,e,rfl,aK,o.mono I⟩,i⟩
 obtain⟨c,T⟩:=La L;have r:=(p.of_block<|i.block g a).all k c T;have a:c.bB.size<=maxLen:=by have:=f c<|aO T;unfold maxLen;omega
 have f:J (kC 0 [] ((D.map NC.bB).take<|k+1)=if c.bB.toList.isEmpty then z' S else if c.bB.1.1∈iw S then A' else z' (S++[(c.bB.1.1,k)])):=yM Q.o<|aci T
 skip
 have b:(k:Int)<(ζ D:Int):=I;have l:=i.size;have q:keyOf Tryz.prog 9 (k' c.bB)=z' (ld c.bB.1.1):=keyOf_string_mk underlying9 a;cases a:c.bB.toList.isEmpty with
 |true=>
  go_wp2_with fail;have e:kC 0 [] ((D.map NC.bB).take<|k+1)=z' S:=by rw[f.o,a];rfl
  exact⟨⟨k+1,S,I,e',e,(o.alloc _).mono I,i.alloc l _⟩,by simp[intOf];omega⟩
 |false=>
  by_cases B:c.bB.1.1∈iw S
  .have V:Maps.has (qf S) (ld c.bB.1.1)=N':=by rw[acF];simpa using B
   go_wp2_with (first
     |(at_lookup;refine Cj _ rfl _ _ 141 rfl 9 3 .i64 Gr underlying141 underlying3 (AY _) w.1.size k (qf S) rfl (o.alloc _) _ _ rfl q ?_;intro z W h))
   go_ret2;refine⟨aR ⟨F1 (k:=k+1) ?_,rfl⟩,i.alloc l _⟩;rw[f.o,a];simp[B]
  have V:Maps.has (qf S) (ld c.bB.1.1)=O':=by rw[acF];simpa using B
  go_wp2_with (first
   |(at_lookup;refine Cj _ rfl _ _ 141 rfl 9 3 .i64 Gr underlying141 underlying3 (AY _) w.1.size k (qf S) rfl (o.alloc _) _ _ rfl q ?_;intro z W h)
   |(at_mapUpdate;refine wpList_mapUpdate_own _ rfl _ _ _ 141 rfl 9 3 Gr underlying141 _ w.1.size k (qf S) rfl (o.alloc _) (by unfold maxLen;omega) _ _ _ rfl rfl q _ [] (plainElem_int underlying3<|WalkArith.wf_i64 I) ?_;intro b b d))
  go_roundw
  case rel=>
   have e:kC 0 [] ((D.map NC.bB).take<|k+1)=z' (S++[(c.bB.1.1,k)]):=by rw[f.o,a];simp[B]
   refine⟨k+1,_,I,e',e,?_,?_⟩
   · rw[pG];exact b
   exact(i.alloc l _).grown d G' (λj f=>by cases f;exact aK)
  exact F'
section
variable {c:List Int}{D:List NC}{S:List (bI×Nat)}
def jumps(k:Int):Bool:=k==4||k==5
def oU(c:NC)(w:p'):
  Cl 127 #[j' #[k' c.bB,g' c.wa c.wl c.wc,G c.n.aH,G c.n.var,G c.n.op,G c.n.test,h' c.n.a.aU,G c.n.a.var,G c.n.a.cg,h' c.n.b.aU,G c.n.b.var,G c.n.b.cg,g' c.ea c.el c.ec,k' c.n.bD]] w λe a=>
   e=n' (h'<|jumps c.n.aH)/\Bl w a:=by
 go_enter func127,ntmps127;go_wp2
 all_goals
  go_ret;refine⟨bC ?_,aQ.alloc aK _⟩;simp_all[jumps]
def lL(ps:List<|bI×Nat)(nl:List NC):Bool:=nl.all λc=>!jumps c.n.aH||decide (c.n.bD.1.1∈iw ps)
def jh(ps:List<|bI×Nat)(c:NC)(j:Nat):List Int:=Hb c.n.aH (mZ ps c.n.bD.1.1) ((j:Int)+1)
def rF(ps:List<|bI×Nat)(nl:List NC):Bool:=match nl.getLast? with|some c=>!(jh ps c<|ζ nl-1).contains (ζ nl:Int)|none=>O'
def dX(nl:List NC):Bool:=match kC 0 [] (nl.map NC.bB)with|some ps=>lL ps nl&&rF ps nl|none=>O'
structure Qa(c c':NC):Prop where
  bB:c'.bB=c.bB
  wa:c'.wa=c.wa
  wl:c'.wl=c.wl
  wc:c'.wc=c.wc
  n:c'.n=c.n
def Qa.refl(c:NC):Qa c c:=⟨rfl,rfl,rfl,rfl,rfl⟩
def Qa.on(c:NC)(a:t')(l k:Nat):Qa c (c.on a l k):=⟨rfl,rfl,rfl,rfl,rfl⟩
structure Lk(w:p')(ps:List<|bI×Nat)(nl nl':List NC)(k:Nat):Prop where
  len:ζ nl'=ζ nl
  done:∀j c,j<k->nl[j]?=z' c->∃c',nl'[j]?=z' c'/\Qa c c'/\Er w c'.ev (jh ps c j)/\(!jumps c.n.aH||decide (c.n.bD.1.1∈iw ps))=N'
  rest:∀j,k<=j->nl'[j]?=nl[j]?
def Er.bJ{a:y'}(h:Er w a c)(d:Bl w b):Er b a c:=by
 rcases h with h|⟨b,C,a⟩
 .exact aP h
 exact aR ⟨b,C,(d.block b (bq.1 a).1).trans a⟩
def Er.SI{b:y'}(h:Er w b c)(p:iB w g a D)(o:Nat)(v:y'):Er (κ w (O g o) v) b c:=by
 rcases h with h|⟨b,C,a⟩
 .exact aP h
 refine aR ⟨b,C,(aJ ?_).trans a⟩;rintro rfl;obtain⟨Y,T,_⟩:=p;rw[T]at a;simp at a
def Lk.bJ{a:List NC}(h:Lk w S D a k)(i:Bl w b):Lk b S D a k:=
 ⟨h.len,λj c f T=>let ⟨g,a,b,d,e⟩:=h.done j c f T;⟨g,a,b,d.bJ i,e⟩,h.rest⟩
def Lk.step{b:List NC}{c:NC}(h:Lk w S D b k)(p:iB w g a b)(T:D[k]?=z' c)(K:b[k]?=z' c)(a:t')(V B:Nat)(l:Er w (g' a V B)<|jh S c k)(i:(!jumps c.n.aH||decide (c.n.bD.1.1∈iw S))=N'):
  Lk (κ w (O g<|k*14+12)<|g' a V B) S D (b.set k<|c.on a V B) (k+1):=by
 have X:=(aX.1 K).1;refine⟨H' h.len,λj d f Q=>?_,λj f=>?_⟩;rotate_left
 .rw[xB I];exact h.rest j I
 by_cases e:j=k
 .subst e;rw[T]at Q;cases Q;exact⟨c.on a V B,by simp[X],Qa.on c a V B,l.SI p _ _,i⟩
 obtain⟨a,x,y,z,u⟩:=h.done j d I Q;exact⟨a,by rw[xB I];exact x,y,z.SI p _ _,u⟩
def Pf(a:t')(b:Nat)(w:p'):
  Cl 80 #[g' a 0 b] w λe a=>e=n' (h' O')/\a=w:=by
 go_enter func80,ntmps80;go_wp2;go_ret;exact⟨rfl,rfl⟩
def Pg(a:t')(c b:Nat)(w:p')(D:((c:Int)==0)=O')(h:decide (60<(c:Int))=N'):
  Cl 80 #[g' a c b] w λe a=>e=n' (h' O')/\a=w:=by
 go_enter func80,ntmps80;go_wp2;go_ret;exact⟨rfl,rfl⟩
end
section
variable {n:Nat}{L:Nat->Bool}{l:List Nat}
section
variable {P:Program}{ops:Array Oper}{Q:Exit->Act->p'->Prop}{md:Region.Mode}{S:p'->Prop}
def Il(listed:Array Bool)(i:Nat):Bool:=listed.getD i N'
def left(listed:Array Bool)(n:Nat):Nat:=(range n).countP λi=>!Il listed i
def adz(md:Region.Mode)(ops:Array Oper):Bool:=(range ops.size).all λi=>match ops[i]? with|some o=>o.after.all λe=>!Region.binds md e||decide (e.on<i)|none=>N'
def MO(g:Array Bool)(i:Nat):Il (g.setIfInBounds i N')=λj=>j==i||Il g j:=by
 funext j;unfold Il;by_cases h:j=i
 .subst h;by_cases a:j<g.size
  .simp[a]
  simp[xo<|Nat.le_of_not_lt a]
 rw[getD_set_ne N' λe=>h e.symm,dB.2 h,ko]
def zG{p q:Nat->Bool}{i:Nat}:∀(l:List Nat),l.Nodup->i∈l->p i=N'->q i=O'->(∀j,j≠i->q j=p j)->l.countP q+1=l.countP p
 |[],_,h,_,_,_=>by cases h
 |x::l,K,h,C,a,h3=>by
  rw[Cm]at K;rw[Cu,Cu];by_cases e:x=i
  .subst e;rw[C,a];have:l.countP q=l.countP p:=countP_congr λj f=>by rw[h3 j λe=>K.1<|e▸f]
   simp[this]
  have d:i∈l:=by rcases cM.1 h with h|h;(· exact absurd h.symm e);exact h
  have:=zG l K.2 d C a h3;rw[h3 x e];omega
def Gq{g:Array Bool}(a:i<n)(h:Il g i=O'):left (g.setIfInBounds i N') n+1=left g n:=by rw[left,MO];exact zG _ nodup_range (cx.2 a) (by simp[h]) ak (λj f=>by simp[dB.2 f])
def agV(b:(Nat->Bool)->Act->p'->Prop)(d:adz md ops=N')(u:∀L a w,b L a w->S w)
  (step:∀(i:Nat)(o:Oper)(L:Nat->Bool)(a:Act)(w:p'),ops[i]?=z' o->L i=O'->(∀e∈o.after,Region.binds md e=N'->L e.on=N')->b L a w->∀K:Act->p'->Prop,Shut (∀z p,b (λj=>j==i||L j) z p->K z p)->if Region.wanted o (yielded ops a.tmps)=N' then Oper.wp P o a w K Q else K (a.put o.dst undef) w)
  (done:∀L a w,(∀i,i<ops.size->L i=N')->b L a w->Q .normal a w):
  ∀(c:Nat)(g:Array Bool)(a:Act)(w:p'),left g ops.size<=c->b (Il g) a w->wpAnyH P md ops Q S c g a w:=by
 have W:∀(g:Array Bool),Region.ready md ops g=[]->∀i,i<ops.size->Il g i=N':=by
  intro g j i;induction i using Nat.strongRecOn with
  |ind i B=>
   intro h;cases X:Il g i with
   |true=>rfl
   |false=>
    exfalso
    have r:i∈Region.ready md ops g:=by
     refine qK.2 ⟨X,ops[i],rX h,λe l q=>?_⟩;unfold adz at d;rw[bV]at d;have C:=d i<|cx.2 h;rw[rX h]at C;simp only[Array.all_eq_true]at C;obtain⟨k,d,rfl⟩:=Array.getElem_of_mem l;have b:=C k d;rw[q]at b;have N:=H' b;have d:=B _ N<|Nat.lt_trans N h;unfold Il at d;rcases j8 ops[i].after[k].on g.size with s|s
     .simp[s]at d|-;exact d
     exfalso;unfold Il at X;rcases j8 i g.size with f|f
     .omega
     simp[xo f]at X
    rw[j]at r;cases r
 intro c;induction c with
 |zero=>
  intro g a w Y b
  have R:∀i,i<ops.size->Il g i=N':=λi h=>by
   cases X:Il g i with
   |true=>rfl
   |false=>have:=Gq h X;omega
  refine⟨?_,done _ a w R b⟩;cases j:Region.ready md ops g with
  |nil=>rfl
  |cons x r=>
   exfalso;have F:x∈Region.ready md ops g:=by rw[j];simp
   obtain⟨C,o,d,_⟩:=qK.1 F;have:=R x (bq.1 d).1;unfold Il at this;rw[C]at this;cases this
 |succ c B=>
  intro g a w Y b;refine⟨λj=>done _ a w (W g j) b,λi h=>?_⟩;obtain⟨C,o,d,R⟩:=qK.1 h;refine wpOp_step d λK f=>step i o (Il g) a w d C (λe l q=>?_) b K λz p c=>f z p ⟨u _ _ _ c,B _ z p ?_<|by rw[MO];exact c⟩
  .have:=R e l q;unfold Il;rcases j8 e.on g.size with s|s
   .simp[s]at this|-;exact this
   simp[xo s]at this
  have:=Gq (bq.1 d).1 C;omega
def agd(J:Act->(Nat->Bool)->Act->p'->Prop){fuel:Nat}{listed:Array Bool}{a:Act}{w:p'}(ha:adz md ops=N':=by kernel_rfl)(hf:decide (left listed ops.size<=fuel)=N':=by kernel_rfl)(h0:J a (Il listed) a w)(hS:∀L b v,J a L b v->S v)
  (step:∀(i:Nat)(o:Oper)(L:Nat->Bool)(b:Act)(v:p'),ops[i]?=z' o->L i=O'->(∀e∈o.after,Region.binds md e=N'->L e.on=N')->J a L b v->∀K:Act->p'->Prop,Shut (∀a' w',J a (λj=>j==i||L j) a' w'->K a' w')->if Region.wanted o (yielded ops b.tmps)=N' then Oper.wp P o b v K Q else K (b.put o.dst undef) v)
  (done:∀L b v,(∀i,i<ops.size->L i=N')->J a L b v->Q .normal b v):wpAnyH P md ops Q S fuel listed a w:=
 agV (J a) ha hS step done fuel listed a w (vj hf) h0
end
def pick(h:(range n).all (λj=>L j||l.contains j)=N')(a:i<n)(C:L i=O'):i∈l:=by rw[bV]at h;have:=h i<|cx.2 a;rw[C,ko]at this;simpa using this
def nP(h:(range n).all (λj=>L j||l.contains j)=true):(range n).all (λj=>(j==i||L j)||l.contains j)=N':=by rw[bV]at h|-;intro j f;have:=h j f;rw[qL,this,Bool.or_true]
end
end Go.Proofs.YtmipbiligijcpaaGreatDoor
