import Derived.Test.YtmipbiligijcpaaGreatDoorA07
import Derived.Deep.CutRange
namespace Go.Proofs.YtmipbiligijcpaaGreatDoor
set_option linter.all false
set_option maxHeartbeats 0
set_option maxRecDepth 99999
open Go.RowKit Go.Shelf Go.Proofs Go.Maps Tryz List open List renaming length->ζ,toArray->θ open _root_.Array renaming size->δ open World renaming setCell->κ,ownsRow->ρ,cell?->χ,setCells->ψ open Value renaming ownBlock->φ open Value renaming slice->g',bool->h',agg->j',string->k',pointer->m',tuple->o' open Obj renaming cells->i' open Ending renaming returned->n' open Option renaming some->z',none->A' open Bool renaming true->N',false->O'
variable {a w:p'}{o:Nat}{p:Prop}
def jC(w:p')(pb:Nat)(v:y'):Prop:=∃(a:t')(ps:List Int)(c:Nat),v=g' a (ζ ps) c/\ζ ps<=c/\c<=maxLen/\∀j x,ps[j]?=z' x->∃o,a=z' (O pb o)/\ga x/\χ w (O pb<|o+j)=z' (G x)
def jC.keep{w w':p'}{N:Nat}{v:y'}(h:jC w N v)(g:∀o u,χ w (O N o)=z' u->χ w' (O N o)=z' u):jC w' N v:=by obtain⟨a,S,c,C,b,N,d⟩:=h;refine⟨a,S,c,C,b,N,λj x f=>?_⟩;obtain⟨o,e,i,k⟩:=d j x f;exact⟨o,e,i,g _ _ k⟩
abbrev AE(wt:BS)(pv:y'):Obj:=i' #[Z wt.1,Z wt.2,pv] 323 (0,0)
def PV(x n:Int)(K:1<=n):∃i:Nat,(i:Int)<n/\(if x.tmod n<0 then x.tmod n+n else x.tmod n)=i:=by
 have C:=Int.tmod_lt_of_pos x (show 0<n by omega);have a:-n<x.tmod n:=by
  rcases Int.le_total 0 x with h|h
  .have:=Int.tmod_nonneg n h;omega
  have N:=Int.tmod_lt_of_pos (-x) (show 0<n by omega);rw[Int.neg_tmod]at N;omega
 split
 .exact⟨(x.tmod n+n).toNat,I,I⟩
 exact⟨(x.tmod n).toNat,I,I⟩
def OY(u N n:Nat)(g:BS)(h:y')(w:p')(K:1<=n)(b:n<=128)(s:w.1[u]?=z' (AE g h))(U:jC w N h)(z:u≠N):
  Cl 307 (mF u n) w λe g=>∃(i:Nat)(b:y'),i<n/\e=n' (G i)/\jC g N b/\(g=w/\b=h\/g=κ w (O u 2) b):=by
 obtain⟨E,g⟩:=A s;have T:=hid s;obtain⟨a,S,c,rfl,m,q,d⟩:=U;have Q:J (jC w N<|bk a (ζ S) c):=⟨a,S,c,rfl,m,q,d⟩;clear s;cases S with
 |nil=>go_enter func307,ntmps307;go_wp2_with fail;go_ret;exact⟨0,_,K,rfl,Q.o,aP ⟨rfl,rfl⟩⟩
 |cons x r=>
  obtain⟨o,rfl,F,s⟩:=d 0 x rfl;obtain⟨i,S,l⟩:=PV x n I;have X:J (∀W,W.1[N]?=w.1[N]?->jC W N (g' (z'<|O N<|o+1) (ζ r)<|c-1)):=by intro W p;refine⟨_,r,_,rfl,by simp at m;omega,I,λj y f=>?_⟩;obtain⟨b,e,i,k⟩:=d (j+1) y<|H' f;cases e;exact⟨_,rfl,i,by rw[show o+1+j=o+(j+1)by omega];exact(bh p).trans k⟩
  clear d;simp only[bU,e!]at *;have a:((n:Int)==0)=O':=by simp;omega
  have b:(((ζ r+1:Nat):Int)==0)=O':=by simp;omega
  go_enter func307,ntmps307;go_wp2_with fail
  all_goals
   go_ret;refine⟨i,I,?_,_,?_,aR rfl⟩
   .first|(rw[<-l,aD<|f'];rfl)|(rw[<-l,aA I];rfl)
   first
    |exact X.o _<|aJ<|jH z
    |exact⟨_,[],0,by rw[show ζ r=0 by omega];rfl,bm,bm,λj y f=>by simp at f⟩
section
attribute [local go_sem] Oper.semAt_some
def GG(f:Nat):y':=G f
def Lb(s:BS)(B:Nat)(w:p')(c:b! s)(T:χ w (O B 0)=z' (Z s.1))(Q:χ w (O B 1)=z' (Z s.2))(b:lV w):
  Cl 339 #[g' A' 0 0,.func (.func 227) #[]<|cB B] w λe f=>∃v,e=n' v/\ρ f w.1.size 3 1 v (ζ<|ef s) ((ef s).map GG)/\Bl w f:=by
 refine(j? (n:=6)).1 ?_;refine callsIn_of_wp_marks func339 rfl trivial ?_ rfl;simp only[ntmps339,kT,bU,eY,Nat.reduceAdd,Nat.reduceSub,qX,qW,qV,qU,gg,fW]
 gi_wp2
 have e:0<δ w.1:=dW<|b 0 aj;have L:=cf w<|i' #[g' A' 0 0] 36
 refine wpIn_rangeFunc_ownF rfl I (gf:=227) (lb:=(cB B)) rfl trivial (λf w=>Tryz.call227 f w)
  (rS 5 I s B w.1.size _ c (aB T L) (aB Q L) (b.below L) e ak) belowK_t (belowK_b ak) aQ (λ_=>rfl)
  (λp W=>(∃v,Boxed W w.1.size 36 v/\ρ W w.1.size 3 1 v (ζ<|vP p) ((vP p).map GG)/\ζ p<=128)/\Bl w W)
  (λ_ _ _=>False)
  (OwnFrom.and (Own.from (holdsRow_own w.1.size w.1.size 36 3 1 (λp=>ζ<|vP p) (λp=>(vP p).map GG) λp v=>ζ p<=128) _)<|ownFrom_below aK ak)
  (λ_ _ _ _ _ y _ _=>y)
  ⟨⟨_,Boxed.new w _ _,dj,ak⟩,L⟩
  (λx=>{tmps:=#[g' A' 0 0,.func (.func 227) #[]<|cB B,m'<|cV w.1.size,undef,g' A' 0 0,G x.1,.func (.func 227) #[]<|cB B,G x.1,undef,undef,undef,undef,undef],defers:=[]}) ?assign ?body ?done ?stop
 case assign=>
  intro l x W K h
  gi_wp2
  exact h
 case body=>
  rintro l p ⟨f,Y⟩ W ⟨⟨v,R,d,k⟩,j⟩ L;obtain⟨N,S,b,P,c⟩:=cI lJ;have L:ζ (vP p)<128:=by have:=nB s;simp[vP];omega
  have o:=R.cell
  gi_wp2_with (gi_at_builtin;refine wpListIn_append_own _ rfl _ _ 36 rfl w.1.size 3 N (G 0) 1 8 underlying36 S b P c rfl aj _ _ _ rfl (d.alloc _) (O W.1.size 0) 1 1 [G f] rfl rfl (cell_one_new _ _ _) (by simp[Value.oneCell']) (by unfold maxLen;omega) I (by have:=j.size;simp;omega) ?_;intro g b i F _;obtain⟨b,b,rfl⟩:=ownsRow_succ i;obtain⟨b,f,q,e,X⟩:=R.appended aj d j.size aK i F;have c:=b.cell;have c:=b.frozen)
  refine⟨e,X,⟨_,f,?_,?_⟩,j.trans X⟩
  .rw[tp,fq,bg];exact q
  have:=nB s;simp;omega
 case done=>
  rintro D z W t u ⟨⟨v,R,d,k⟩,j⟩ h;have o:=R.cell;obtain⟨a,m,rfl⟩:=aV d
  gi_wp2
  refine⟨ak,.inl ⟨_,_,rfl,run_takeDeferred h,?_⟩⟩;have b:vP z=ef s:=u;refine⟨g' a (ζ<|vP z) m,by simp[results339,go_sem],_,rfl,?_,j.trans<|belowK_b (w:=w) aK W D _ _ (by simp at t;omega) h rfl rfl⟩;rw[<-b];exact ownsRow_putObj d _ h rfl
 rintro D c p W _ _ h _;exact h.elim
def Hm(s:BS)(B:Nat)(w:p')(c:b! s)(T:χ w (O B 0)=z' (Z s.1))(Q:χ w (O B 1)=z' (Z s.2))(b:lV w):
  Cl 306 #[.func (.func 227) #[]<|cB B] w λe a=>∃v,e=n' v/\ρ a w.1.size 3 1 v (ζ<|ef s) ((ef s).map GG)/\Bl w a:=by
 have a:=Lb s B w c T Q b;clear T Q;go_enter func306,ntmps306;go_wp2_with (go_at_call 339;refine a.mono ?_;rintro e W ⟨v,rfl,C,a⟩);go_ret;exact⟨v,rfl,C,a⟩
end
section
variable {S:Nat->Prop}{q:Nat}
structure Kx(S:Nat->Prop)(w w':p'):Prop where
  os:w'.os=w.os
  tape:w'.tape=w.tape
  output:w'.output=w.output
  size:δ w.1<=δ w'.1
  keep:∀k,k<δ w.1->¬S k->w'.1[k]?=w.1[k]?
def Kx.of(h:Bl w a):Kx S w a:=⟨h.os,h.tape,h.output,h.size,λk a _=>h.block k a⟩
def Kx.refl(S:Nat->Prop)(w:p'):Kx S w w:=Kx.of aQ
def vf{a b}:=@Kx.refl a b
def Kx.trans{u v:p'}(h:Kx S u v)(k:Kx S v w):Kx S u w:=
 ⟨k.os.trans h.os,k.tape.trans h.tape,k.output.trans h.output,bX h.size k.size,λi S y=>(k.keep i (eh S h.size) y).trans<|h.keep i S y⟩
def Kx.mono{a:Nat->Prop}{b:p'}(h:Kx S w b)(y:∀k,k<δ w.1->S k->a k):Kx a w b:=⟨h.os,h.tape,h.output,h.size,λk a K=>h.keep k a λe=>K<|y k a e⟩
def Kx.set{c:p'}(h:Kx S w c){b:Nat}(a:S b\/δ w.1<=b)(o:Nat)(v:y'):Kx S w (κ c (O b o) v):=
 ⟨h.os,h.tape,h.output,by simpa[World.setCell]using h.size,λk c K=>(aJ (by rintro rfl;rcases a with a|a;(· exact K a);omega)).trans<|h.keep k c K⟩
def Kx.drewN(h:Kx S w a)(n:Nat):Kx S w (a.drewN n):=⟨h.os,h.tape,h.output,h.size,h.keep⟩
def Kx.box(h:Kx S w a){o:Obj}(e:w.1[q]?=z' o)(b:¬S q):a.1[q]?=z' o:=(h.keep q (blt e) b).trans e
def Kx.cell(h:Kx S w a){o:Nat}{v:y'}(e:χ w (O q o)=z' v)(b:¬S q):χ a (O q o)=z' v:=(bh<|h.keep q (dW e) b).trans e
def Kx.others(h:Kx S w a)(y:∀k o,S k->w.1[k]?=z' o->o.isCells=N'):KeepsOthers w a:=
 ⟨h.size,λk o a T=>h.box a λe=>by rw[y k o e a]at T;cases T⟩
def Kx.tab(h:Kx S w a)(b:lV w)(y:¬S 0):lV a:=λj f=>h.cell (b j f) y
def Kx.below(h:Kx S w a){B:Nat}(v:B<=δ w.1)(y:∀k,S k->B<=k):Below B w a:=⟨h.os,h.tape,h.output,h.size,λk a=>h.keep k I λe=>I'<|y k e⟩
def oY{u:Nat}(h:Kx (·=u) w a)(o:Nat)(v:y'):Kx (·=u) w (κ a (O u o) v):=h.set (b:=u) (aP rfl) o v
def NN(u:Nat)(c s:BS)(a:y')(w:p')(d:w.1[u]?=z' (AE c a))(S:b! c)(y:b! s):
  Cl 211 #[m'<|z'<|O u 0,cW s] w λe b=>(∃v,e=n' v)/\b.1[u]?=z' (AE (fU c s) a)/\Kx (·=u) w b:=by
 have g:=hid λX b D C a N=>gu X b c s S y D C a N;obtain⟨z,f⟩:=Ea<|fU c s;rw[<-f]at g|-;have b:=cf w<|nI s.1 s.2;have a:=blt d;have T:=hid d;obtain⟨E,a⟩:=A<|aG b d;clear f S y d;simp only[cW]at g|-;go_enter func211,ntmps211;go_upto_region 1 with(fail)
 generalize c:w.alloc (nI s.1 s.2)=V at b E a|-;have B:J (Bl w V/\V.1[δ w.1]?=z' (xS s.1 s.2)):=⟨b,by rw[<-c];exact cv⟩;clear c b;obtain⟨b,d⟩:=A B.A;have b:=blt B.A;have s:δ w.1≠δ V.1:=I;have x:u≠δ V.1:=I;have c:=s.symm;have b:=x.symm
 go_region_law (go_simp;refine bP (g.o _ _ ak ak ak ak) ?_;rintro e F ⟨rfl,X⟩;have j:J (Bl V F):=aq ay X;clear E a X;obtain⟨E,a⟩:=A<|aG j.o<|aG B.a T.o)
 all_goals
  go_wp2_with fail
  go_end0
  have a:=aG j.o<|aG B.a T.o;refine⟨⟨_,rfl⟩,?_,oY (oY (Kx.of<|aq B.a j.o) _ _) _ _⟩;rw[H (H a _) _];rfl
def Rv(u N:Nat)(c:BS)(j:y')(w:p')(g:w.1[u]?=z' (AE c j))(U:jC w N j)(l:u≠N)(S:b! c)(f:ef c≠[])(b:lV w):
  Cl 269 (cB u) w λe k=>∃x d,x∈ef c/\e=n' (G x)/\k.1[u]?=z' (AE (fI c<|de [x]) d)/\jC k N d/\Kx (·=u) w k:=by
 have R:J (∀s,Cl 154 #[j' #[Z c.1,Z c.2]] s λe k=>e=n' (.func (.func 227) #[]<|cB s.1.size)/\k=s.alloc (nI c.1 c.2)):=λs=>En c s;have Y:J (∀W B,lV W->χ W (O B 0)=z' (Z c.1)->χ W (O B 1)=z' (Z c.2)->Cl 306 #[.func (.func 227) #[]<|cB B] W λe k=>∃v,e=n' v/\ρ k W.1.size 3 1 v (ζ<|ef c) ((ef c).map GG)/\Bl W k):=λW B b s Q=>Hm c B W S s Q b;have X:=nB c;have m:1<=ζ (ef c):=I3.2 f;have q:=hid<|Aa g<|Aa U<|Aa b S;obtain⟨E,y⟩:=A g;have s:=blt g;obtain⟨o,a⟩:=Ea<|ef c;rw[<-a]at Y X m;have L:=hid a;clear g U b S f a;go_enter func269,ntmps269;go_upto_region 2 with(first|(go_at_call 154;refine(R.o _).mono ?_;rintro e t ⟨rfl,rfl⟩)|(go_at_call 306;refine(Y.o _ _ (q.c.below bA) ak ak).mono ?_;rintro e t ⟨v,rfl,b,a⟩;obtain⟨U,s,rfl⟩:=aV b;have p:=hid<|Aa (c8 (f:=δ w.1) b ak)<|aq bA a;clear b a))
 have a:=aG p.A q.a;have HP:J (Cl 307 #[m'<|z'<|O u 0,G<|ζ o] t λe k=>∃(i:Nat)(d:y'),i<ζ o/\e=n' (G i)/\jC k N d/\(k=t/\d=j\/k=κ t (O u 2) d)):=OY u N (ζ o) c j t m X a (q.b.keep λ_ _ h=>aB h p.A) l;have T:J (∃g,U=z' (O g 0)/\δ w.1<=g/\∀(j x:Nat),o[j]?=z' x->χ t (O g j)=z' (G x)):=by
  have b:=p.a;rcases b.2 with⟨_,e⟩|⟨g,m,Y,R,m,_⟩
  .omega
  simp at R;refine⟨g,R.1,m,λj x m=>?_⟩;have:=b.cells (g:=g) (by simp[Value.ownBlock,R.1]) j (GG x) (by rw[a!,m];rfl);rwa[dY,bH]at this
 obtain⟨g,rfl,P,r⟩:=T.o;have D:=hid r;have b:=p.A.size;clear T r a E y;go_upto_region 3 with(go_at_call 307;refine HP.o.mono ?_;rintro e F ⟨i,d,S,rfl,a,r⟩;have T:J (Kx (·=u) t F/\F.1[u]?=z' (AE c d)/\jC F N d):=⟨by rcases r with⟨rfl,_⟩|rfl;(· exact vf);exact oY vf _ _,by rcases r with⟨rfl,rfl⟩|rfl;(· exact aG p.A q.a);rw[H (aG p.A q.a) _];rfl,a⟩;obtain⟨x,b⟩:=La S;have C:χ F (O g i)=z' (G x):=T.a.cell (D.o i x b) I;have K:=hid b;clear r a b;have b:(i:Int)<(ζ o:Int):=I)
 have S:x<128:=by have h:=aO K.o;rw[L.o]at h;exact((df c q.C x).1 h).1
 have V:J (∀X b,χ X (O b 0)=z' (G x)->Cl 241 (oq b) X (Rb X<|cW<|de [x])):=λX b C=>mc X b x S C;have a:J (∀X,Cl 153 #[cW c,cW<|de [x]] X<|Rb X<|cW<|fI c<|de [x]):=λX=>jJ c (de [x]) X q.C<|me _<|H' S;have HZ:J (x∈ef c):=by rw[<-L.o];exact aO K.o
 obtain⟨o1,r⟩:=Ea<|de [x];obtain⟨z,f⟩:=Ea<|fI c o1;have g:J (fI c (de [x])=z):=by rw[f,r];exact rfl
 rw[<-r]at V a;rw[<-f]at a;clear r f C K;obtain⟨E,y⟩:=A T.b;have s:u≠δ F.1:=by have:=T.a.size;omega
 have b:=s.symm;have b:∀(o:Obj)(i:Nat),χ (F.alloc o) (O u i)=(#[Z c.1,Z c.2,d]:Array y')[i]?:=λo i=>(bh<|rY F o _<|blt T.b).trans<|E i;simp only[cW]at V a
 go_region_law (first|(go_simp;refine bP (V.o _ _ ak) ?_;rintro e b ⟨rfl,Y⟩;have D:J (Bl F b):=aq ay Y;clear E y Y;obtain⟨E,y⟩:=A<|aG D.o T.b)|(go_simp;refine bP (a.o _) ?_;rintro e b ⟨rfl,v⟩;have k:J (Bl F b):=aq (aq D.o ay) v;clear E y v;obtain⟨E,y⟩:=A<|aG k.o T.b))
 all_goals
  go_wp2_with fail;go_ret;have a:=aG k.o T.b;have c:Kx (·=u) w (κ (κ b (O u 0)<|Z z.1) (O u 1)<|Z z.2):=oY (oY ((Kx.of p.A).trans<|T.a.trans<|Kx.of k.o) _ _) _ _;refine⟨x,d,HZ.o,rfl,?_,?_,c⟩
  .rw[H (H a _) _,g.o];rfl
  exact T.B.keep λo u h=>(bh<|by rw[aJ l.symm,aJ l.symm]).trans<|aB h k.o
end
section
variable {σ:Type}
attribute [local go_sem] Oper.semAt_some
def Pk{p:Nat->Prop}(h:∃n,p n):∃n,p n/\∀m,p m->n<=m:=by
 obtain⟨n,K⟩:=h;induction n using Nat.strongRecOn with
 |_ n B=>
  by_cases d:∃m,m<n/\p m
  .obtain⟨m,C,a⟩:=d;exact B m C a
  exact⟨n,K,λm h=>Nat.le_of_not_lt λa=>d ⟨m,a,h⟩⟩
def acf(a:σ->p'->Prop)(μ:σ->Nat):∃b:p'->Nat,(∀s w,a s w->b w<=μ s)/\∀w,(∃s,a s w)->∃s,a s w/\μ s=b w:=by
 have h:∀w:p',∃m:Nat,(∀s,a s w->m<=μ s)/\((∃s,a s w)->∃s,a s w/\μ s=m):=by
  intro w;by_cases y:∃s,a s w
  .obtain⟨s,y⟩:=y;obtain⟨m,⟨c,C,d⟩,N⟩:=Pk (p:=λm=>∃s,a s w/\μ s=m) ⟨_,s,y,rfl⟩;exact⟨m,λt U=>N _ ⟨t,U,rfl⟩,λ_=>⟨c,C,d⟩⟩
  exact⟨0,λs h=>absurd ⟨s,h⟩ y,λh=>absurd h y⟩
 exact⟨λw=>Classical.choose<|h w,λs w y=>(ui<|h w).1 s y,λw y=>(ui<|h w).2 y⟩
def vZ(u:Nat)(w:p'):
  Cl 209 (cB u) w λe a=>e=n' (.func (.func 268) #[]<|cB w.1.size)/\a=w.alloc (i' (cB u) 379):=by
 go_enter func209,ntmps209;go_wp2_with fail;go_ret;exact⟨rfl,rfl⟩
def acN{s:BS}(y:b! s)(h:s≠(0,0)):ef s≠[]:=by intro e;refine h (U6 y ⟨aj,aj⟩ λf Y=>?_);rw[j3,rZ];intro a;have:=(df s y f).2 ⟨Y,a⟩;rw[e]at this;cases this
structure agk(W:p')(ab pb qb:Nat)(wt:BS)(pv:y'):Prop where
  ag:W.1[ab]?=z' (AE wt pv)
  pk:jC W pb pv
  wi:b! wt
  tab:lV W
  box:W.1[qb]?=z' (i' (cB ab) 379 (0,0))
def O!(n:Nat)(K:1<=n)(u N b:Nat)(g P:σ->p'->Prop)(r:Nat->σ->p'->Prop)(μ:σ->Nat)(z:u≠N)(a:u≠b)
  (a:∀s W,g s W->∃c j,agk W u N b c j)
  (E:∀s W j,g s W->W.1[u]?=z' (AE (0,0) j)->P s W)
  (L:∀s W c j x h i,g s W->agk W u N b c j->x∈ef c->i.1[u]?=z' (AE (fI c<|de [x]) h)->jC i N h->Kx (·=u) W i->r x s i)
  (s0:σ) (l:Nat) (K:p'->Prop) (W:p') (k:∀d B,K d->KeepsOthers d B->K B)
  (o:∀s x t,r x s t->K t->YieldAt Fence.wide (n-1) Tryz.prog l #[G x] t λe i=>e=n' (h' N')/\(∃q,μ q<μ s/\g q i)/\K i) (D:g s0 W) (f:K W):
  CallsIn Fence.wide n Tryz.prog 268 (#[.func (.yield l) #[] #[]]++(cB b)) W λe i=>(∃v,e=n' v)/\(∃s,P s i)/\K i:=by
 refine callsIn_of_wp func268 rfl trivial ?_ rfl;simp only[ntmps268,kT,bU,eY,Nat.reduceAdd,Nat.reduceSub,qX,qW,qV,qU,gg,fW];obtain⟨b,d,i⟩:=acf (λs w=>g s w/\K w) μ;have m:=hid<|Aa a<|Aa E<|Aa L<|Aa k<|Aa o<|Aa d i;have l:=hid<|Aa D f;clear a E L k o d i D f
 gi_wp2
 gi_loopw[] (λwr=>J (∃s,g s wr/\K wr)) (λwr=>b wr)
 case atStart=>exact⟨s0,l.o⟩
 obtain⟨s,y,d⟩:=m.F wr hrel.o;obtain⟨c,j,a⟩:=m.a s wr y.1;have p:=hid<|Aa y<|Aa d a;obtain⟨E,g⟩:=A a.ag;obtain⟨b,b⟩:=A a.box;clear y d a hrel;by_cases f:c=(0,0)
 .subst f;have a:=λw=>MD 0 0 0 0 w
  gi_wp2
  go_end0
  exact⟨⟨_,rfl⟩,⟨s,m.b s wr j p.a.1 p.B.ag⟩,p.a.2⟩
 have a:∀w,(binOp .neq 267 (kU c.1 c.2)<|j' #[Z 0,Z 0]).run Tryz.prog w=.ok (h' N') w:=by intro w;rw[MD];congr 2;obtain⟨a,b⟩:=c;simp at f|-;omega
 have X:=hid<|Rv u N c j wr p.B.ag p.B.pk z p.B.wi (acN p.B.wi f) p.B.tab
 gi_wp2_with (refine⟨trivial,?_⟩;gi_at_call 269;refine(j?.2 X.o).mono ?_;rintro e b ⟨x,h,F,rfl,C,D,y⟩;obtain⟨g,r,a,a,B,Q⟩:=m.e s x b (m.c s wr c j x h b p.a.1 p.B F C D y)<|m.d _ _ p.a.2 (y.others λk o e L=>by subst e;rw[p.B.ag]at L;cases L;rfl);clear F C D y)
 refine Q.mono ?_;rintro e o ⟨rfl,⟨q,L,a⟩,j⟩
 gi_wp2
 go_roundw
 case rel=>exact⟨q,a,j⟩
 have l:=m.f q o ⟨a,j⟩;have c:=p.b;omega
end
section
variable {m f k:Nat}{l:List BS}{r:RR}{W:p'}
def Qm(m:Nat)(l:List BS)(f:Nat):List BS:=l.set f<|fU (l.getD f (0,0))<|de [m]
def Ie(m:Nat)(l:List BS)(fs:List Nat):List BS:=fs.foldl (Qm m) l
def tT(E:List<|List Nat)(N k:Nat):List BS:=(range k).foldl (λl m=>Ie m l<|E.getD m [])<|replicate N (0,0)
def Mf(m f:Nat)(l:List BS):ζ (Qm m l f)=ζ l:=by simp[Qm]
def wU(m:Nat):∀(o:List Nat)(l:List BS),ζ (Ie m l o)=ζ l
 |[],_=>rfl
 |f::r,l=>(wU m r<|Qm m l f).trans<|Mf m f l
def FH(m f:Nat)(o:List Nat)(l:List BS):Ie m l (o++[f])=Qm m (Ie m l o) f:=by simp[Ie]
def oH(E:List<|List Nat)(N k:Nat):tT E N (k+1)=Ie k (tT E N k) (E.getD k []):=by simp[tT,kq]
def pM(E:List<|List Nat)(N:Nat):∀k,ζ (tT E N k)=N
 |0=>by simp[tT]
 |k+1=>by rw[oH,wU,pM E N k]
def mS{α:Type}(l:List α)(i j:Nat)(x d:α)(S:i<ζ l):(l.set i x).getD j d=if i=j then x else l.getD j d:=by
 simp only[bN,e5];by_cases h:i=j
 .subst h;simp[S]
 simp[h]
def abw(d:m<128)(h:∀j,b!<|l.getD j (0,0))(j:Nat):b! ((Qm m l f).getD j (0,0)):=by
 unfold Qm;by_cases Y:f<ζ l
 .rw[mS _ _ _ _ _ Y];split
  .exact ib (h f)<|me _<|H' d
  exact h j
 rw[set_eq_of_length_le I];exact h j
def C9{m:Nat}(d:m<128):∀(o:List Nat)(l:List BS),(∀j,b!<|l.getD j (0,0))->∀j,b! ((Ie m l o).getD j (0,0))
 |[],_,h=>h
 |f::r,l,h=>C9 d r (Qm m l f)<|abw d h
def yt(E:List<|List Nat)(N:Nat):∀k,k<=128->∀j,b! ((tT E N k).getD j (0,0))
 |0,_,j=>by simp only[tT,range_zero,qT,bN,j!];split<;>exact⟨aj,aj⟩
 |k+1,h,j=>by rw[oH];exact C9 I _ _ (yt E N k I) j
def ac9(d:m<128)(Y:f<ζ l)(j x:Nat)(F:x<128):bt ((Qm m l f).getD j (0,0)) x=(bt (l.getD j (0,0)) x||(decide (j=f)&&decide (x=m))):=by
 rw[Qm,mS _ _ _ _ _ Y];by_cases h:f=j
 .subst h;rw[aD rfl,iy,qI _ _ F<|H' d];simp
 rw[aA h];have:decide (j=f)=O':=by simp;omega
 rw[this];simp
def U1{m:Nat}(d:m<128)(j x:Nat)(F:x<128):∀(o:List Nat)(l:List BS),(∀f∈o,f<ζ l)->bt ((Ie m l o).getD j (0,0)) x=(bt (l.getD j (0,0)) x||(decide (j∈o)&&decide (x=m)))
 |[],l,_=>by simp[Ie]
 |f::r,l,h=>by show bt ((Ie m (Qm m l f) r).getD j (0,0)) x=_;rw[U1 d j x F r (Qm m l f) λg a=>by rw[Mf];exact h g<|by simp[a],ac9 d (h f ak) j x F];by_cases C:j=f<;>by_cases a:j∈r<;>by_cases N:x=m<;>simp[C,a,N]
def Ec(E:List<|List Nat)(N:Nat)(j x:Nat)(F:x<128)(a:∀m f,f∈E.getD m []->f<N):∀k,k<=128->bt ((tT E N k).getD j (0,0)) x=(decide (x<k)&&decide (j∈E.getD x []))
 |0,_=>by simp only[tT,range_zero,qT,bN,j!];split<;>simp[j3]
 |k+1,h=>by
  rw[oH,U1 I j x F _ _ λf Y=>by rw[pM];exact a k f Y,Ec E N j x F a k I];by_cases C:x=k
  .subst C;simp
  have:(x<k+1)=(x<k):=by simp;omega
  simp[C,this]
def DJ(rl:List RR):List (List Nat):=rl.map λr=>r.es.map (·.1)
def T!{c:List RR}(h:c[k]?=z' r):(DJ c).getD k []=r.es.map (·.1):=by simp[DJ,bN,h]
def ig{g t:Nat}(h:W.1[g]?=z' (i' (θ<|di l) t (0,0)))(a:k<ζ l):χ W (O g<|k*2)=z' (Z ((l.getD k (0,0)).1:Int))/\χ W (O g<|k*2+1)=z' (Z ((l.getD k (0,0)).2:Int))/\W.frozen? (O g<|k*2)=O'/\W.frozen? (O g<|k*2+1)=O':=by obtain⟨E,g⟩:=A h;have:=tI l k (l.getD k (0,0)) (by rw[bN,bj a];rfl);exact⟨by rw[E,cL];exact this.1,by rw[E,cL];exact this.2,g _,g _⟩
def D0{B p:Nat}{x:Nat×y'}(h:ρ W B p 2 r.ev (ζ r.es)<|ix r.es)(a:r.es[k]?=z' x):∃g,r.ea=z' (O g 0)/\χ W (O g<|k*2)=z' (G x.1)/\χ W (O g<|k*2+1)=z' x.2:=by
 have tY:=(aX.1 a).1;obtain⟨X,d⟩:=tD r.es k x a;rcases h.2 with⟨_,e⟩|⟨g,a,Y,R,_⟩
 .omega
 simp[RR.ev]at R;refine⟨g,R.1,?_,?_⟩
 .have:=h.cells (g:=g) (by simp[RR.ev,Value.ownBlock,R.1]) (k*2) _ X;rwa[dY,bH]at this
 have:=h.cells (g:=g) (by simp[RR.ev,Value.ownBlock,R.1]) (k*2+1) _ d;rwa[dY,bH]at this
def CW(m B N:Nat)(W:List RR)(w:p')(hS:Sys w B m 2 393 404 W)(hl:ζ W=N)(X:N<=60)(l:∀r∈W,ζ r.es<=200/\(∃s:BS,r.st=fV s)/\∀e∈r.es,e.1<N/\∃fk X fb,e.2=.func (.func fk) X fb):
  Cl 225 #[du m N] w λe w'=>∃g,e=n' (cG g N)/\δ w.1<=g/\w'.1[g]?=z' (i' (θ<|di<|tT (DJ W) N N) 267 (0,0))/\Bl w w':=by
 obtain⟨X,hi,D,t,f⟩:=cI td;have HI:J (_/\_/\_/\_):=⟨hi,D,t,f⟩;clear hi D t f;have HH:=hid<|Aa hS<|Aa hl l;clear hS hl l;simp only[du];go_enter func225,ntmps225;go_upto_region 1 with(fail)
 have HB:J (Bl w (w.alloc<|i' (eu m N) 260)/\(w.alloc<|i' (eu m N) 260).1[δ w.1]?=z' (i' (eu m N) 260 (0,0))):=⟨bA,cv⟩;generalize w.alloc (i' (eu m N) 260)=x at HB|-;obtain⟨E,u⟩:=A HB.A;go_upto_region 2 with(at_make;refine gL _ rfl (.tmp 10) (.tmp 10) 264 rfl x.1.size 267 X _ 2 underlying264 HI.a HI.b HI.c .i64 .i64 N N N rfl rfl rfl rfl (by rw[HI.C];omega) (by unfold maxLen;omega) ak ?_;intro t l f;have HO:=hid<|Aa l f;clear l f)
 have f:J (t.1[δ x.1]?=z' (i' (θ<|di<|tT (DJ W) N 0) 267 (0,0))/\Below x.1.size x t):=by have h1:=HO.a;rw[dF _ 2 (by simp[Value.cells]) N]at h1;refine⟨?_,aQ.grown HO.A aK (λq e=>by cases e)⟩;rw[(eJ h1).1];congr 2;rw[show tT (DJ W) N 0=replicate N (0,0)by simp[tT],<-DM];rfl
 have R:δ x.1<δ t.1:=blt f.a;obtain⟨g,Y⟩:=Ea x.1.size;rw[<-Y]at f R;have m:=hid Y;simp only[<-Y];have m:δ w.1<g:=by rw[Y];exact blt HB.A
 obtain⟨l,z⟩:=A<|aG (by have k:=f.A;rw[Y]at k;exact k) HB.A;clear HO E u Y;go_wp2_with fail;go_loopw[15] (λm wr=>∃k:Nat,k<=N/\m=G k/\J (wr.1[g]?=z' (i' (θ<|di<|tT (DJ W) N k) 267 (0,0))/\Below g x wr)) (λm _=>N-(intOf m).toNat)
 case atStart=>exact⟨0,bm,rfl,f.o⟩
 clear f R l z;obtain⟨k,hk,rfl,HK⟩:=hrel;have X:Bl w wr:=HB.a.trans<|HK.A.mono I;by_cases L:k<N;rotate_left
 .have m:¬(k:Int)<N:=I;have hkN:k=N:=I;go_wp2_with fail;go_ret;refine⟨g,rfl,I,?_,X⟩;have:=HK.a;rwa[hkN]at this
 have m:(k:Int)<N:=I;obtain⟨r,hr⟩:=La (l:=W) (i:=k) (by rw[HH.b];exact L);have hS:=HH.a.below X;obtain⟨m,R⟩:=(HH.B r<|aO hr).2.1;have T:=hS.cell (j:=0) (v:=Z m.1) hr (by simp[n0,R,fV]);have c1:=hS.cell (j:=1) (v:=Z m.2) hr (by simp[n0,R,fV]);have z:=hS.cell (j:=2) (v:=g' r.ea (ζ r.es) r.ec) hr (by simp[n0,R,fV]);simp only[Nat.reduceAdd,e!]at T c1 z;have HR:=hid<|Aa (hS.row r<|aO hr)<|Aa (HH.B r<|aO hr) hr;clear hS hr R;go_upto_region 5 with(fail)
 obtain⟨V,l⟩:=Ea<|wr.alloc<|i' #[Z m.1,Z m.2,g' r.ea (ζ r.es) r.ec] 393;have f:Bl wr V:=by rw[l];exact bA
 obtain⟨E,u⟩:=A (show V.1[δ wr.1]?=_ by rw[l];exact cv);rw[<-l];have HV:=hid f;clear l f T c1 z;go_wp2_with fail;have m:=blt HK.a;have m:=HR.b.1;go_loopw[23] (λm V=>∃j:Nat,j<=ζ r.es/\m=G j/\J (V.1[g]?=z' (i' (θ<|di<|Ie k (tT (DJ W) N k) ((r.es.take j).map (·.1))) 267 (0,0))/\Below g x V)) (λm _=>ζ r.es-(intOf m).toNat)
 case atStart=>exact⟨0,bm,rfl,aG HV.o HK.a,HK.A.trans<|HV.o.mono I⟩
 clear E u;obtain⟨j,hj,rfl,HJ⟩:=hrel;by_cases E:j<ζ r.es;rotate_left
 .have m:¬(j:Int)<(ζ r.es:Int):=I;go_wp2_with fail;go_roundw
  case rel=>
   refine⟨k+1,L,e',?_,HJ.A⟩;have:=HJ.a;rwa[c! I,<-T! HR.B,<-oH]at this
  exact F'
 have m:(j:Int)<(ζ r.es:Int):=I;obtain⟨⟨f,m⟩,F⟩:∃x,r.es[j]?=z' x:=⟨_,bj E⟩;have l:Bl w wr:=HB.a.trans<|HJ.A.mono I;obtain⟨X,heg,z,C⟩:=D0 ((HH.a.below l).row r<|aO HR.B) F;obtain⟨hfN,fk,fcs,T,u⟩:=HR.b.2.2 _<|aO F;simp only at hfN u z C;subst u;rw[heg];have HX:=hid<|Aa F l;clear F l;go_upto_region 8 with(fail)
 obtain⟨U,l⟩:=Ea<|wr.alloc<|i' #[G f,.func (.func fk) fcs T] 404;have HU:J (Bl wr U/\U.1[δ wr.1]?=z' (i' #[G f,.func (.func fk) fcs T] 404 (0,0))):=by rw[l];exact⟨bA,cv⟩
 rw[<-l];clear l z C;obtain⟨l,hl⟩:=Ea<|Ie k (tT (DJ W) N k) ((r.es.take j).map (·.1));have F:ζ l=N:=by rw[hl,wU,pM]
 have hgb:U.1[g]?=z' (i' (θ<|di l) 267 (0,0)):=by rw[hl];exact aG HU.a HJ.a
 have Xy:b! (l.getD f (0,0)):=by rw[hl];exact C9 I _ _ (yt _ _ k I) f
 have HN:J (Ie k (tT (DJ W) N k) ((r.es.take<|j+1).map (·.1))=l.set f (fU (l.getD f (0,0))<|de [k])):=by show _=_;rw[ep E,(aX.1 HX.a).2,fq,I2,FH,<-hl];rfl
 obtain⟨u,C⟩:=Ea<|l.getD f (0,0);have HO:J (∀X b,χ X (O b 0)=z' (G k)->Cl 241 (oq b) X (Rb X<|cW<|de [k])):=λX b T=>mc X b k I T;have D:J (∀(X:p') b,χ X (O b 0)=z' (Z u.1)->χ X (O b 1)=z' (Z u.2)->χ X (O b 2)=z' (Z ((de [k]).1:Int))->χ X (O b 3)=z' (Z ((de [k]).2:Int))->Cl 267 (r7 b) X (Rb X<|cW<|fU u<|de [k])):=λX b h0 h1 h2 h3=>by have:=gu X b u (de [k]) (by rw[C];exact Xy) (me _ λg Y=>by rw[j9.1 Y];omega) h0 h1 h2 h3;exact this
 have R:J (∀W,Bl U W->χ W (O g<|f*2)=z' (Z u.1)/\χ W (O g<|f*2+1)=z' (Z u.2)/\W.frozen? (O g<|f*2)=O'/\W.frozen? (O g<|f*2+1)=O'):=λW hW=>by rw[C];exact ig (aG hW hgb) (by rw[F];exact hfN)
 rw[<-C]at HN;obtain⟨l,Ar⟩:=Ea<|de [k];obtain⟨z,hz⟩:=Ea<|fU u<|de [k];rw[<-hz]at HN D;rw[<-Ar]at HO D;have HL:=hid<|Aa F hgb;clear Ar hz Xy C hl F hgb;have m:(f:Int)<N:=I;simp only[cW]at HO D;refine st (λW'=>Bl U W') 13 (hS:=aQ.drew) (h:=λaC=>?_);refine tt 0 (cG g N) (h:=?_);refine tt 1 (m'<|cV wr.1.size) (h:=?_);refine tt 2 (G f) (y:=λW' aW=>by have m:=(A<|aG aW HU.A).1;clear aC aW;go_simp) (h:=?_);refine tt 3 (cG g N) (h:=?_);refine tt 4 (m'<|cV wr.1.size) (h:=?_);refine tt 5 (G f) (y:=λW' aW=>by have m:=(A<|aG aW HU.A).1;clear aC aW;go_simp) (h:=?_);refine tt 6 (AZ g f) (h:=?_);refine tt 7 (kU u.1 u.2) (y:=λW' aW=>by have m:=(R.o _ aW).1;have g:=(R.o _ aW).2.1;clear aC aW;go_simp) (h:=?_);refine tt 8 (G k) (h:=?_);refine rt 9 (h:=λK hK=>?_);go_simp;refine hK.out _ _ (λ_=>aq aC bA) ?_;clear hK K;refine pt ?_;refine rt 10 (h:=λK hK=>?_);go_simp;refine bP (HO.o _ _ ak) ?_;rintro e t ⟨rfl,l⟩;have r:J (Bl U t):=aq (aq aC bA) l;clear l;refine hK.out _ _ (λ_=>r.o) ?_;clear hK K;refine pt ?_;refine rt 11 (h:=λK hK=>?_);go_simp;refine hK.out _ _ (λ_=>aq r.o bA) ?_;clear hK K;refine pt ?_;refine rt 12 (h:=λK hK=>?_);go_simp;refine bP (D.o _ _ ak ak ak ak) ?_;rintro e F ⟨rfl,X⟩;have e:J (Bl U F):=aq (aq r.o bA) X;clear X;refine hK.out _ _ (λ_=>e.o) ?_;clear hK K aC;refine pt ?_;refine rt 13 (h:=λK hK=>?_);go_simp;refine hK.out _ _ (λh=>absurd h aj) ?_;clear hK K;refine pt ?_;refine rt 14 (h:=λK hK=>?_);obtain⟨r,m,g,l⟩:=R.o _ e.o;go_simp;refine hK.out _ _ (λh=>absurd h aj) ?_;clear hK K r m g l;refine pt ?_;refine dt (h:=?_);go_wp2_with fail;go_roundw
 case rel=>
  refine⟨j+1,E,e',?_,?_⟩
  .rw[HN.o];exact Ed (s:=z) (aG e.o HL.A) (k:=f) (by rw[HL.a];exact hfN)
  exact((HJ.A.trans ((aq HU.a e.o).mono<|I'<|blt HJ.a)).setCell aK _).setCell aK _
 exact F'
end
section
def qs9{p:Prop}(h:p:=by
 obtain⟨b,c⟩:=Ea e.r;have d:(aT e)[0]?=z' (h' b):=by rw[c];rfl
 rw[<-c]at hh|-;clear c;have s:=hid hh;clear hh;go_enter ae9,aeV;go_upto_region 1 with fail
 generalize u:(w.alloc<|i' (θ<|aT e) bL).alloc (i' jf bL)=V;have B:J ((V.1[δ w.1]?=z' (i' (θ<|aT e) bL (0,0))/\V.1[δ w.1+1]?=z' (i' jf bL (0,0)))/\Bl w V/\V.1[sb]?=z' (i' #[.func (.func fk) #[] caps] JU (0,0))):=by subst u;exact⟨hJ,dH,aG dH hs⟩
 clear u;clear hs;have f:δ w.1+1<δ V.1:=blt B.a.2;have t:χ V (O w.1.size 0)=z' (h' b):=by rw[(A B.a.1).1];exact(cL ..).trans d
 cases b
 .have U:=cK (n:=17) B.a.2 rfl;go_wp2_with (refine wpList_store_mid rfl bL (.tmp 3) (.tmp 7) rfl (δ w.1+1) 0 (θ<|aT PE.zero) rfl rfl U M (bO _) ?_);have b:=cX (cs:=qh) B.a.2 (vs:=aT PE.zero) rfl;have C:=run_loadVar_mid (P:=Tryz.prog) (ψ V (δ w.1+1) 0<|aT PE.zero) (δ w.1+1) 0 bL (aT PE.zero) _ (bu b) gU rfl M;refine aE (v:=j'<|θ<|aT PE.zero) (by simp[results,results317,results327,C,Act.put,asAddr]) rfl ⟨rfl,dJ I _ _ _ B.b⟩
 have d:=A B.B;have Y:=hid<|s.o rfl V B.b;go_wp2_with (first|(refine wpList_load_mid rfl bL (.tmp 2) rfl w.1.size 0 rfl (aT e) _ (bu B.a.1) gU rfl M ?_)|(refine Y.o.mono ?_;rintro r d ⟨rfl,c⟩;have f:J (Bl V d):=c;clear c;have U:=cK (n:=17) (aG f.o B.a.2) rfl)|(refine wpList_store_mid rfl bL (.tmp 3) (.tmp 10) rfl (δ w.1+1) 0 (θ<|aT e2) rfl rfl U M (bO _) ?_));have b:=cX (cs:=qh) (aG f.o B.a.2) (vs:=aT e2) rfl;have C:=run_loadVar_mid (P:=Tryz.prog) (ψ d (δ w.1+1) 0<|aT e2) (δ w.1+1) 0 bL (aT e2) _ (bu b) gU rfl M
 refine aE (v:=j'<|θ<|aT e2) (by simp[results,results317,results327,C,Act.put,asAddr]) rfl ⟨rfl,dJ I _ _ _<|aq B.b f.o⟩):p:=h
open KC in
def KC.jv(e e2:PE)(sb fk:Nat)(caps:Array Value)(w:World)(hs:w.heap[sb]?=some (.cells #[.func (.func fk) #[] caps] 376 (0,0)))(E:∀D w,(callFunc fk D).run Tryz.prog w=.ok (.enter fk D) w)
 (hh:e.r=true->∀W,Bl w W->Cl fk (#[.agg (KC.aT e).toArray]++caps) W (Rb W<|.agg (KC.aT e2).toArray)):
 Cl 317 #[.agg (KC.aT e).toArray,.pointer<|some<|O sb 0] w (Rb w<|.agg (KC.aT<|if e.r then e2 else PE.zero).toArray):=by exact qs9
open KB in
def KB.jv(e e2:PE)(sb fk:Nat)(caps:Array Value)(w:World)(hs:w.heap[sb]?=some (.cells #[.func (.func fk) #[] caps] 338 (0,0)))(E:∀D w,(callFunc fk D).run Tryz.prog w=.ok (.enter fk D) w)
 (hh:e.r=true->∀W,Bl w W->Cl fk (#[.agg (KB.aT e).toArray]++caps) W (Rb W<|.agg (KB.aT e2).toArray)):
 Cl 327 #[.agg (KB.aT e).toArray,.pointer<|some<|O sb 0] w (Rb w<|.agg (KB.aT<|if e.r then e2 else PE.zero).toArray):=by exact qs9
end
section
variable {n:SN}{g:Bool}
def KC.qSt(aH:Int)(nb db fb fk:Nat)(caps:Array y'):Prop:=
 (aH=0/\fk=308/\caps=(r9 nb db))\/(aH=2/\fk=311/\caps=(r9 nb db))\/(aH=1/\fk=312/\caps=(r9 db nb))\/(aH=4/\fk=314/\caps=#[m'<|z'<|O db 0,m'<|z'<|O nb 0,m'<|z'<|O fb 0])\/((aH≠0/\aH≠1/\aH≠2/\aH≠4)/\fk=316/\caps=#[])
def KB.qSt(aH:Int)(nb db fb fk:Nat)(caps:Array y'):Prop:=
 (aH=0/\fk=318/\caps=(r9 nb db))\/(aH=2/\fk=321/\caps=(r9 nb db))\/(aH=1/\fk=322/\caps=(r9 db nb))\/(aH=4/\fk=324/\caps=#[m'<|z'<|O db 0,m'<|z'<|O nb 0,m'<|z'<|O fb 0])\/((aH≠0/\aH≠1/\aH≠2/\aH≠4)/\fk=326/\caps=#[])
def KC.pO(w:p')(sb:Nat)(n:SN)(so:Bool):Prop:=∃(bB:x')(wa ea:t')(wl wc el ec nb db fb fk:Nat)(caps:Array y'),w.1[db]?=z' (i' #[.iface 328<|j' #[]] 381 (0,0))/\w.1[nb]?=z' (i' (aS bB (g' wa wl wc) n<|g' ea el ec) 152 (0,0))/\w.1[fb]?=z' (i' #[h' so] 4 (0,0))/\w.1[sb]?=z' (i' #[.func (.func fk) #[] caps] 376 (0,0))/\KC.qSt n.aH nb db fb fk caps
def KB.pO(w:p')(sb:Nat)(n:SN)(so:Bool):Prop:=∃(bB:x')(wa ea:t')(wl wc el ec nb db fb fk:Nat)(caps:Array y'),w.1[db]?=z' (i' #[.iface 331<|j' #[]] 386 (0,0))/\w.1[nb]?=z' (i' (aS bB (g' wa wl wc) n<|g' ea el ec) 152 (0,0))/\w.1[fb]?=z' (i' #[h' so] 4 (0,0))/\w.1[sb]?=z' (i' #[.func (.func fk) #[] caps] 338 (0,0))/\KB.qSt n.aH nb db fb fk caps
def aeK(h:p:=by
 obtain⟨x,q,i,j,⟨L,f,k⟩,⟨F,D,X⟩,g⟩:=n;have K:=hid λ(a b c d:Obj)=>rQ w a b c d;simp only[aS];cases l:(x==0);rotate_left
 .have b:J (qSt x (δ w.1+1) w.1.size (δ w.1+1+1) Ww #[m'<|z'<|O (δ w.1+1) 0,m'<|cV w.1.size]):=aP ⟨H' l,rfl,rfl⟩;go_enter OW,OV;go_wp2_with fail;obtain⟨s,v,a,t⟩:=Hw w (i' #[.iface h!<|j' #[]] yw) (i' #[k' bB,g' wa wl wc,G x,G q,G i,G j,h' L,G f,G k,h' F,G D,G X,g' ea el ec,k' g] 152) (i' #[h' so] 4)<|i' #[.func (.func Ww) #[] #[m'<|z'<|O (δ w.1+1) 0,m'<|cV w.1.size]] JU;refine aE (v:=.func (.func JV) #[] #[m'<|z'<|O (δ w.1+1+1+1) 0]) (by simp[results274,results279,go_sem]) rfl ⟨δ w.1+3,rfl,I,⟨bB,wa,ea,wl,wc,el,ec,δ w.1+1,δ w.1,δ w.1+2,Ww,#[m'<|z'<|O (δ w.1+1) 0,m'<|cV w.1.size],s,v,a,t,b.o⟩,K.o _ _ _ _⟩
 cases c:(x==2);rotate_left
 .have b:J (qSt x (δ w.1+1) w.1.size (δ w.1+1+1) Wx #[m'<|z'<|O (δ w.1+1) 0,m'<|cV w.1.size]):=aR<|aP ⟨H' c,rfl,rfl⟩;go_enter OW,OV;go_wp2_with fail;obtain⟨s,v,a,t⟩:=Hw w (i' #[.iface h!<|j' #[]] yw) (i' #[k' bB,g' wa wl wc,G x,G q,G i,G j,h' L,G f,G k,h' F,G D,G X,g' ea el ec,k' g] 152) (i' #[h' so] 4)<|i' #[.func (.func Wx) #[] #[m'<|z'<|O (δ w.1+1) 0,m'<|cV w.1.size]] JU;refine aE (v:=.func (.func JV) #[] #[m'<|z'<|O (δ w.1+1+1+1) 0]) (by simp[results274,results279,go_sem]) rfl ⟨δ w.1+3,rfl,I,⟨bB,wa,ea,wl,wc,el,ec,δ w.1+1,δ w.1,δ w.1+2,Wx,#[m'<|z'<|O (δ w.1+1) 0,m'<|cV w.1.size],s,v,a,t,b.o⟩,K.o _ _ _ _⟩
 cases C:(x==1);rotate_left
 .have b:J (qSt x (δ w.1+1) w.1.size (δ w.1+1+1) Wy #[m'<|cV w.1.size,m'<|z'<|O (δ w.1+1) 0]):=aR<|aR<|aP ⟨H' C,rfl,rfl⟩;go_enter OW,OV;go_wp2_with fail;obtain⟨s,v,a,t⟩:=Hw w (i' #[.iface h!<|j' #[]] yw) (i' #[k' bB,g' wa wl wc,G x,G q,G i,G j,h' L,G f,G k,h' F,G D,G X,g' ea el ec,k' g] 152) (i' #[h' so] 4)<|i' #[.func (.func Wy) #[] #[m'<|cV w.1.size,m'<|z'<|O (δ w.1+1) 0]] JU;refine aE (v:=.func (.func JV) #[] #[m'<|z'<|O (δ w.1+1+1+1) 0]) (by simp[results274,results279,go_sem]) rfl ⟨δ w.1+3,rfl,I,⟨bB,wa,ea,wl,wc,el,ec,δ w.1+1,δ w.1,δ w.1+2,Wy,#[m'<|cV w.1.size,m'<|z'<|O (δ w.1+1) 0],s,v,a,t,b.o⟩,K.o _ _ _ _⟩
 cases d:(x==4)
 .have b:J (qSt x (δ w.1+1) w.1.size (δ w.1+1+1) WA #[]):=aR<|aR<|aR<|aR ⟨by simp at l C c d;exact⟨l,C,c,d⟩,rfl,rfl⟩;go_enter OW,OV;go_wp2_with fail;obtain⟨s,v,a,t⟩:=Hw w (i' #[.iface h!<|j' #[]] yw) (i' #[k' bB,g' wa wl wc,G x,G q,G i,G j,h' L,G f,G k,h' F,G D,G X,g' ea el ec,k' g] 152) (i' #[h' so] 4)<|i' #[.func (.func WA) #[] #[]] JU;refine aE (v:=.func (.func JV) #[] #[m'<|z'<|O (δ w.1+1+1+1) 0]) (by simp[results274,results279,go_sem]) rfl ⟨δ w.1+3,rfl,I,⟨bB,wa,ea,wl,wc,el,ec,δ w.1+1,δ w.1,δ w.1+2,WA,#[],s,v,a,t,b.o⟩,K.o _ _ _ _⟩
 have b:J (qSt x (δ w.1+1) w.1.size (δ w.1+1+1) Wz #[m'<|cV w.1.size,m'<|z'<|O (δ w.1+1) 0,m'<|z'<|O (δ w.1+1+1) 0]):=aR<|aR<|aR<|aP ⟨H' d,rfl,rfl⟩;go_enter OW,OV;go_wp2_with fail;obtain⟨s,v,a,t⟩:=Hw w (i' #[.iface h!<|j' #[]] yw) (i' #[k' bB,g' wa wl wc,G x,G q,G i,G j,h' L,G f,G k,h' F,G D,G X,g' ea el ec,k' g] 152) (i' #[h' so] 4)<|i' #[.func (.func Wz) #[] #[m'<|cV w.1.size,m'<|z'<|O (δ w.1+1) 0,m'<|z'<|O (δ w.1+1+1) 0]] JU
 refine aE (v:=.func (.func JV) #[] #[m'<|z'<|O (δ w.1+1+1+1) 0]) (by simp[results274,results279,go_sem]) rfl ⟨δ w.1+3,rfl,I,⟨bB,wa,ea,wl,wc,el,ec,δ w.1+1,δ w.1,δ w.1+2,Wz,#[m'<|cV w.1.size,m'<|z'<|O (δ w.1+1) 0,m'<|z'<|O (δ w.1+1+1) 0],s,v,a,t,b.o⟩,K.o _ _ _ _⟩):p:=h
open KC in
def KC.By(bB:x')(wa ea:t')(wl wc el ec:Nat)(n:SN)(so:Bool)(w:p'):
 Cl 274 #[.iface 328<|j' #[],j'<|aS bB (g' wa wl wc) n<|g' ea el ec,h' so] w λr e=>∃o,r=n' (.func (.func 317) #[] #[m'<|z'<|O o 0])/\δ w.1<=o/\KC.pO e o n so/\Bl w e:=by exact aeK
open KB in
def KB.By(bB:x')(wa ea:t')(wl wc el ec:Nat)(n:SN)(so:Bool)(w:p'):
 Cl 279 #[.iface 331<|j' #[],j'<|aS bB (g' wa wl wc) n<|g' ea el ec,h' so] w λr e=>∃o,r=n' (.func (.func 327) #[] #[m'<|z'<|O o 0])/\δ w.1<=o/\KB.pO e o n so/\Bl w e:=by exact aeK
def YW(h:p:=by
 obtain⟨c,y,i,wl,wc,V,B,f,s,g,u,a,C,e,N,d,l⟩:=h
 exact⟨c,y,i,wl,wc,V,B,f,s,g,u,a,aG b C,aG b e,aG b N,aG b d,l⟩):p:=h
def KC.pO.below(h:KC.pO w o n g)(b:Bl w a):KC.pO a o n g:=by exact YW
def KB.pO.below(h:KB.pO w o n g)(b:Bl w a):KB.pO a o n g:=by exact YW
end
section
def wY(v:VV)(b:BB):VV:=⟨v.any,b.1,b.2⟩
def KC.OU(ts:Int)(so:Bool)(a b:VV):Option (VV×VV):=if a.any||b.any||(oC ts a.lo b.lo==so) then z' (a,b) else A'
def KB.OU(ts:Int)(so:Bool)(a b:VV):Option (VV×VV):=if (cP ts so (b8 a)<|b8 b).2.2 then z' (wY a (cP ts so (b8 a)<|b8 b).1,wY b (cP ts so (b8 a)<|b8 b).2.1) else A'
def KC.Mr(R:Int)(g:Bool)(a b:VV)(_:dM<|b8 a)(_:dM<|b8 b):∃x y t,KC.OU R g a b=(if t then z' (x,y) else A')/\∀w,Cl 382 #[j' #[],G R,h' g,KC.qv a,KC.qv b] w (Rb w<|o' #[KC.qv x,KC.qv y,h' t]):=⟨a,b,_,rfl,λw=>GF (j' #[]) R g a.any b.any a.lo b.lo w rfl⟩
def KB.Mr(R:Int)(g:Bool)(a b:VV)(d:dM<|b8 a)(e:dM<|b8 b):∃x y t,KB.OU R g a b=(if t then z' (x,y) else A')/\∀w,Cl 389 #[j' #[],G R,h' g,KB.qv a,KB.qv b] w (Rb w<|o' #[KB.qv x,KB.qv y,h' t]):=⟨_,_,_,rfl,λw=>Hs (j' #[]) R g (b8 a) (b8 b) w rfl d e⟩
def KC.ry(e:PE)(n:SN)(so:Bool):PE:=match KC.OU n.test so (jg e n.a) (jg e n.b)with|some v=>KC.gx (KC.gx e n.a v.1) n.b v.2|none=>PE.zero
def KB.ry(e:PE)(n:SN)(so:Bool):PE:=match KB.OU n.test so (jg e n.a) (jg e n.b)with|some v=>KB.gx (KB.gx e n.a v.1) n.b v.2|none=>PE.zero
def qs4{p:Prop}(h:p:=by
 obtain⟨F,yy,t,f,g⟩:=Mr n.test so (jg e n.a) (jg e n.b) qF qE;have HN:J (ry e n so=if t then gx (gx e n.a F) n.b yy else PE.zero):=by show _=_;(first|unfold KC.ry|unfold KB.ry);rw[f];cases t<;>rfl
 have Qb:=hid λW=>jt e n.a W ha;have HVB:=hid λW=>jt e n.b W hb;have u:=hid g;have HN1:=hid λW=>oL e n.a F W ha;have s:=hid λW=>oL (gx e n.a F) n.b yy W hb;have U:=yz;have U:=yx;generalize ry e n so=ne at HN|-;generalize jg e n.a=z at Qb u;generalize jg e n.b=vb at HVB u;generalize gx (gx e n.a F) n.b yy=e2 at HN s;generalize gx e n.a F=V at HN1 s;clear f g ha hb qF qE;obtain⟨x,var,op,test,nA,T,bD⟩:=n;simp only[aS,KC.qv,KB.qv]at Qb HVB u HN1 s|-;go_enter afe,ae0;go_upto_region 1 with fail
 have B:=hid<|Aa (YB w (i' (θ<|aT e) bL) (i' #[k' bB,g' wa wl wc,G x,G var,G op,G test,h' nA.aU,G nA.var,G nA.cg,h' T.aU,G T.var,G T.cg,g' ea el ec,k' bD] 152)<|i' jf bL)<|mx w (i' (θ<|aT e) bL) (i' #[k' bB,g' wa wl wc,G x,G var,G op,G test,h' nA.aU,G nA.var,G nA.cg,h' T.aU,G T.var,G T.cg,g' ea el ec,k' bD] 152)<|i' jf bL;generalize(((w.alloc<|i' (θ<|aT e) bL).alloc<|i' #[k' bB,g' wa wl wc,G x,G var,G op,G test,h' nA.aU,G nA.var,G nA.cg,h' T.aU,G T.var,G T.cg,g' ea el ec,k' bD] 152).alloc<|i' jf bL)=V at B|-;have U:δ w.1+2<δ V.1:=blt B.a.2.2
 go_cut [9,10,11] from 12 (λpa pb okv U=>∃l bb:Nat,pa=m' (z'<|O l 0)/\pb=m' (z'<|O bb 0)/\okv=h' t/\J (Bl V U/\U.1[l]?=z' (i' #[(dO F),(dN F)] iC (0,0))/\U.1[bb]?=z' (i' #[(dO yy),(dN yy)] iC (0,0))))
 case first=>
  refine wp_region_held_drew (S := λW' => Bl V W') M (aQ.drew) λaC => ?_;refine tq 0 (.iface h!<|j' #[]) ?_;refine tq 1 (m'<|z'<|O (δ w.1 + 1) 5) ?_;refine tr 2 (G test) (λW' aW => (A<|aG aW B.o.1.2.1).1) ?_;refine tq 3 (h' so) ?_;refine tq 4 (.iface h!<|j' #[]) ?_;refine tz 5 (j'<|θ<|aT e) ?_ (y := yieldsIf_load_mid M _ _ rfl _ _ rfl _ _ (λW' aW => bu<|aG aW B.o.1.1) gU rfl M);refine tq 6 (m'<|z'<|O (δ w.1 + 1) 6) ?_;refine tr 7 (j'<|cD nA.aU nA.var nA.cg) (λW' aW => (A<|aG aW B.o.1.2.1).1) ?_;refine tq 9 (.iface h!<|j' #[]) ?_;refine tz 10 (j'<|θ<|aT e) ?_ (y := yieldsIf_load_mid M _ _ rfl _ _ rfl _ _ (λW' aW => bu<|aG aW B.o.1.1) gU rfl M);refine tq 11 (m'<|z'<|O (δ w.1 + 1) 9) ?_;refine tr 12 (j'<|cD T.aU T.var T.cg) (λW' aW => (A<|aG aW B.o.1.2.1).1) ?_;refine tq 14 (.func (.method "warrant/rules.assume") #[.iface h!<|j' #[]] #[]) ?_;refine tq 15 (.func (.method "warrant/rules.assume") #[.iface h!<|j' #[]] #[]) ?_;refine tq 16 (.iface h!<|j' #[]) ?_;refine agd (λU L a W => ∃ (LG LD LC Qi LB LA Lz x9 LH I7 : y') (l bb : Nat), a = ((((((((((U.put (z' 21) LG).put (z' 26) LD).put (z' 30) LC).put (z' 12) Qi).put (z' 31) LB).put (z' 32) LA).put (z' 33) Lz).put (z' 9) x9).put (z' 10) LH).put (z' 11) I7) /\ J ((range 27).all (λj => L j || [8, 13, 17, 18, 19, 20, 21, 22, 23, 24, 25, 26].contains j) = true /\ Bl V W /\ (L 8 = true -> LG = j' #[(dO z), (dN z)]) /\ (L 13 = true -> LD = j' #[(dO vb), (dN vb)]) /\ (L 17 = true -> LC = o' #[j' #[(dO F), (dN F)], j' #[(dO yy), (dN yy)], h' t]) /\ (L 18 = true -> Qi = o' #[j' #[(dO F), (dN F)], j' #[(dO yy), (dN yy)], h' t]) /\ (L 19 = true -> LB = j' #[(dO F), (dN F)]) /\ (L 20 = true -> LA = j' #[(dO yy), (dN yy)]) /\ (L 21 = true -> Lz = h' t) /\ (L 26 = true -> I7 = h' t) /\ (L 22 = true -> x9 = m' (z'<|O l 0) /\ δ V.1 <= l /\ W.1[l]? = z' (i' (if L 24 then #[(dO F), (dN F)] else Ig) iC (0, 0))) /\ (L 23 = true -> LH = m' (z'<|O bb 0) /\ δ V.1 <= bb /\ W.1[bb]? = z' (i' (if L 25 then #[(dO yy), (dN yy)] else Ig) iC (0, 0))) /\ (L 22 = true -> L 23 = true -> l ≠ bb) /\ (L 24 = true -> L 22 = true) /\ (L 25 = true -> L 23 = true))) (h0 := ?_) (hS := ?_) (step := ?_) (done := ?_)
  .refine⟨undef,undef,undef,undef,undef,undef,undef,undef,undef,undef,0,0,?_,M,aC,?_⟩
   .simp only[Act.put,cj,dm,cO]
   refine⟨?_,?_,?_,?_,?_,?_,?_,?_,?_,?_,?_,?_,?_⟩<;>(intro h;cases h)
  .rintro L b v ⟨_,_,_,_,_,_,_,_,_,_,_,_,_,h⟩;exact h.b
  .clear aC;rintro i o L b W hi C TR ⟨LG,LD,LC,Qi,LB,LA,Lz,x9,LH,I7,l,bb,rfl,N⟩ K hK;have f:=pick N.a (bq.1 hi).1 C;obtain⟨j1,g,a8,Iw,a17,Iu,NS,a20,a21,a26,D,E,ne,Oo,Om⟩:=N.o;simp only[cM,dR,dz]at f;rcases f with rfl|rfl|rfl|rfl|rfl|rfl|rfl|rfl|rfl|rfl|rfl|rfl
   all_goals
    cases (show some (⟨_,_,_,_,_,_⟩:Oper)=z' o from hi);simp only[Act.put,cj,dm,cO]
   .go_simp;refine(Qb.o _).mono ?_;rintro r X ⟨rfl,hb⟩;exact hK.out _ _ ⟨j' #[(dO z),(dN z)],LD,LC,Qi,LB,LA,Lz,x9,LH,I7,l,bb,by simp only[Act.put,cj,dm,cO],nP j1,aq g hb,λ_=>rfl,Iw,a17,Iu,NS,a20,a21,a26,λh=>⟨(D h).1,(D h).2.1,aG hb (D h).2.2⟩,λh=>⟨(E h).1,(E h).2.1,aG hb (E h).2.2⟩,ne,Oo,Om⟩
   .go_simp;refine(HVB.o _).mono ?_;rintro r X ⟨rfl,hb⟩;exact hK.out _ _ ⟨LG,j' #[(dO vb),(dN vb)],LC,Qi,LB,LA,Lz,x9,LH,I7,l,bb,by simp only[Act.put,cj,dm,cO],nP j1,aq g hb,a8,λ_=>rfl,a17,Iu,NS,a20,a21,a26,λh=>⟨(D h).1,(D h).2.1,aG hb (D h).2.2⟩,λh=>⟨(E h).1,(E h).2.1,aG hb (E h).2.2⟩,ne,Oo,Om⟩
   .obtain rfl:=a8<|TR ⟨8,.data⟩ ak rfl;obtain rfl:=Iw<|TR ⟨13,.data⟩ ak rfl;go_simp;refine(u.o _).mono ?_;rintro r X ⟨rfl,hb⟩;exact hK.out _ _ ⟨j' #[(dO z),(dN z)],j' #[(dO vb),(dN vb)],o' #[j' #[(dO F),(dN F)],j' #[(dO yy),(dN yy)],h' t],Qi,LB,LA,Lz,x9,LH,I7,l,bb,by simp only[Act.put,cj,dm,cO],nP j1,aq g hb,a8,Iw,λ_=>rfl,Iu,NS,a20,a21,a26,λh=>⟨(D h).1,(D h).2.1,aG hb (D h).2.2⟩,λh=>⟨(E h).1,(E h).2.1,aG hb (E h).2.2⟩,ne,Oo,Om⟩
   .obtain rfl:=a17<|TR ⟨17,.data⟩ ak rfl;go_simp;exact hK.out _ _ ⟨LG,LD,o' #[j' #[(dO F),(dN F)],j' #[(dO yy),(dN yy)],h' t],o' #[j' #[(dO F),(dN F)],j' #[(dO yy),(dN yy)],h' t],LB,LA,Lz,x9,LH,I7,l,bb,by simp only[Act.put,cj,dm,cO],nP j1,g,a8,Iw,a17,λ_=>rfl,NS,a20,a21,a26,D,E,ne,Oo,Om⟩
   .obtain rfl:=Iu<|TR ⟨18,.data⟩ ak rfl;go_simp;exact hK.out _ _ ⟨LG,LD,LC,o' #[j' #[(dO F),(dN F)],j' #[(dO yy),(dN yy)],h' t],j' #[(dO F),(dN F)],LA,Lz,x9,LH,I7,l,bb,by simp only[Act.put,cj,dm,cO],nP j1,g,a8,Iw,a17,Iu,λ_=>rfl,a20,a21,a26,D,E,ne,Oo,Om⟩
   .obtain rfl:=Iu<|TR ⟨18,.data⟩ ak rfl;go_simp;exact hK.out _ _ ⟨LG,LD,LC,o' #[j' #[(dO F),(dN F)],j' #[(dO yy),(dN yy)],h' t],LB,j' #[(dO yy),(dN yy)],Lz,x9,LH,I7,l,bb,by simp only[Act.put,cj,dm,cO],nP j1,g,a8,Iw,a17,Iu,NS,λ_=>rfl,a21,a26,D,E,ne,Oo,Om⟩
   .obtain rfl:=Iu<|TR ⟨18,.data⟩ ak rfl;go_simp;exact hK.out _ _ ⟨LG,LD,LC,o' #[j' #[(dO F),(dN F)],j' #[(dO yy),(dN yy)],h' t],LB,LA,h' t,x9,LH,I7,l,bb,by simp only[Act.put,cj,dm,cO],nP j1,g,a8,Iw,a17,Iu,NS,a20,λ_=>rfl,a26,D,E,ne,Oo,Om⟩
   .have hf:L 24=false:=by cases h:L 24;(· rfl);exact absurd (Oo h) (by rw[C];decide)
    go_simp;exact hK.out _ _ ⟨LG,LD,LC,Qi,LB,LA,Lz,m'<|cV W.1.size,LH,I7,δ W.1,bb,by simp only[Act.put,cj,dm,cO],nP j1,aq g bA,a8,Iw,a17,Iu,NS,a20,a21,a26,λ_=>⟨rfl,g.size,by show _=z' (i' (if L 24=true then _ else _) _ _);rw[hf];exact cv⟩,λh=>⟨(E h).1,(E h).2.1,aG bA (E h).2.2⟩,λ_ h=>Nat.ne_of_gt<|blt (E h).2.2,λh=>absurd (hf.symm.trans h) aj,Om⟩
   .have hf:L 25=false:=by cases h:L 25;(· rfl);exact absurd (Om h) (by rw[C];decide)
    go_simp;exact hK.out _ _ ⟨LG,LD,LC,Qi,LB,LA,Lz,x9,m'<|cV W.1.size,I7,l,δ W.1,by simp only[Act.put,cj,dm,cO],nP j1,aq g bA,a8,Iw,a17,Iu,NS,a20,a21,a26,λh=>⟨(D h).1,(D h).2.1,aG bA (D h).2.2⟩,λ_=>⟨rfl,g.size,by show _=z' (i' (if L 25=true then _ else _) _ _);rw[hf];exact cv⟩,λh _=>Nat.ne_of_lt<|blt (D h).2.2,Oo,λh=>absurd (hf.symm.trans h) aj⟩
   .have l22:L 22=true:=TR ⟨22,.data⟩ ak rfl;obtain⟨rfl,f,uS⟩:=D l22;obtain rfl:=NS<|TR ⟨19,.data⟩ ak rfl;rw[C,aA aj]at uS;have k1:=(A uS).1;have k2:=(A uS).2;go_simp;exact hK.out _ _ ⟨LG,LD,LC,Qi,j' #[(dO F),(dN F)],LA,Lz,m'<|z'<|O l 0,LH,I7,l,bb,by simp only[Act.put,cj,dm,cO],nP j1,(g.setCell f _).setCell f _,a8,Iw,a17,Iu,NS,a20,a21,a26,λ_=>⟨rfl,f,by rw[H (H uS _) _];rfl⟩,λh=>⟨(E h).1,(E h).2.1,(aJ λe=>ne l22 h e.symm).trans ((aJ λe=>ne l22 h e.symm).trans (E h).2.2)⟩,ne,λ_=>l22,Om⟩
   .have l23:L 23=true:=TR ⟨23,.data⟩ ak rfl;obtain⟨rfl,f,uS⟩:=E l23;obtain rfl:=a20<|TR ⟨20,.data⟩ ak rfl;rw[C,aA aj]at uS;have k1:=(A uS).1;have k2:=(A uS).2;go_simp;exact hK.out _ _ ⟨LG,LD,LC,Qi,LB,j' #[(dO yy),(dN yy)],Lz,x9,m'<|z'<|O bb 0,I7,l,bb,by simp only[Act.put,cj,dm,cO],nP j1,(g.setCell f _).setCell f _,a8,Iw,a17,Iu,NS,a20,a21,a26,λh=>⟨(D h).1,(D h).2.1,(aJ<|ne h l23).trans ((aJ<|ne h l23).trans (D h).2.2)⟩,λ_=>⟨rfl,f,by rw[H (H uS _) _];rfl⟩,ne,Oo,λ_=>l23⟩
   obtain rfl:=a21<|TR ⟨21,.data⟩ ak rfl;go_simp;exact hK.out _ _ ⟨LG,LD,LC,Qi,LB,LA,h' t,x9,LH,h' t,l,bb,by simp only[Act.put,cj,dm,cO],nP j1,g,a8,Iw,a17,Iu,NS,a20,a21,λ_=>rfl,D,E,ne,Oo,Om⟩
  clear aC;rintro L b W afR ⟨LG,LD,LC,Qi,LB,LA,Lz,x9,LH,I7,l,bb,rfl,N⟩;obtain⟨j1,g,a8,Iw,a17,Iu,NS,a20,a21,a26,D,E,ne,Oo,Om⟩:=N.o;have hl:=λi (h:i<27)=>afR i h;obtain⟨rfl,-,h1⟩:=D<|hl 22 aj;obtain⟨rfl,-,h2⟩:=E<|hl 23 aj;obtain rfl:=a26<|hl 26 aj;rw[hl 24 aj,aD rfl]at h1;rw[hl 25 aj,aD rfl]at h2;have f:=hid<|Aa g<|Aa h1 h2;clear j1 g a8 Iw a17 Iu NS a20 a21 a26 D E ne Oo Om hl afR h1 h2;simp only[Act.put,cj,dm,cO];go_wp2_with fail
  go_meet
  exact⟨l,bb,rfl,rfl,rfl,f.o⟩
 obtain⟨l,bb,rfl,rfl,rfl,Y⟩:=hcut
 rename p'=>X4
 have f:=Y.a.size;cases t
 .have f:J (ne=PE.zero):=HN.o;have U:=cK (n:=17) (aG Y.a B.a.2.2) rfl;go_wp2_with (refine wpList_store_mid rfl bL (.tmp 8) (.tmp 36) rfl (δ w.1+1+1) 0 (θ<|aT PE.zero) rfl rfl U M (bO _) ?_);have hq:=cX (cs:=qh) (aG Y.a B.a.2.2) (vs:=aT PE.zero) rfl;have C:=run_loadVar_mid (P:=Tryz.prog) (ψ X4 (δ w.1+1+1) 0<|aT PE.zero) (δ w.1+1+1) 0 bL (aT PE.zero) _ (bu hq) gU rfl M;refine aE (v:=j'<|θ<|aT PE.zero) (by simp[results,results315,results325,C,Act.put,asAddr]) rfl ⟨by rw[f.o],dJ I _ _ _<|aq B.A Y.a⟩
 have t:J (ne=e2):=HN.o;have f:=aG Y.a B.a.1;have g:=aG Y.a B.a.2.1;have D:=aG Y.a B.a.2.2;have u:l≠δ w.1+1+1:=by rintro rfl;have h:=Y.b;rw[D]at h;simp at h
 have z:bb≠δ w.1+1+1:=by rintro rfl;have h:=Y.B;rw[D]at h;simp at h
 clear D;go_upto_region 4 with fail
 refine wp_region_held_drew (S:=λW'=>Bl w W'/\W'.1[δ w.1]?=z' (i' (θ<|aT e) bL (0,0))/\W'.1[δ w.1+1]?=z' (i' #[k' bB,g' wa wl wc,G x,G var,G op,G test,h' nA.aU,G nA.var,G nA.cg,h' T.aU,G T.var,G T.cg,g' ea el ec,k' bD] 152 (0,0))/\W'.1[l]?=z' (i' #[(dO F),(dN F)] iC (0,0))/\W'.1[bb]?=z' (i' #[(dO yy),(dN yy)] iC (0,0))) M ⟨(aq B.A Y.a).drew,f,g,Y.b,Y.B⟩ λaC=>?_;refine tq 0 (.iface h!<|j' #[]) ?_;refine tq 1 (.iface h!<|j' #[]) ?_;refine tz 2 (j'<|θ<|aT e) ?_ (y:=yieldsIf_load_mid M _ _ rfl _ _ rfl _ _ (λW' aW=>bu aW.2.1) gU rfl M);refine tq 3 (m'<|z'<|O (δ w.1+1) 6) ?_;refine tr 4 (j'<|cD nA.aU nA.var nA.cg) (λW' aW=>Aa ((A aW.2.2.1).1)<|Aa ((A aW.2.2.2.1).1) ((A aW.2.2.2.2).1)) ?_;refine tr 5 (j' #[(dO F),(dN F)]) (λW' aW=>Aa ((A aW.2.2.1).1)<|Aa ((A aW.2.2.2.1).1) ((A aW.2.2.2.2).1)) ?_;refine tq 7 (m'<|z'<|O (δ w.1+1) 9) ?_;refine tr 8 (j'<|cD T.aU T.var T.cg) (λW' aW=>Aa ((A aW.2.2.1).1)<|Aa ((A aW.2.2.2.1).1) ((A aW.2.2.2.2).1)) ?_;refine tr 9 (j' #[(dO yy),(dN yy)]) (λW' aW=>Aa ((A aW.2.2.1).1)<|Aa ((A aW.2.2.2.1).1) ((A aW.2.2.2.2).1)) ?_;refine r1 6 λK hK=>?_;go_simp;refine(HN1.o _).mono ?_;rintro r f ⟨rfl,hb⟩;have g:J (Bl X4 f):=aq ay hb;clear hb;refine hK.out _ _ ⟨aq B.A<|aq Y.a g.o,aG g.o<|aG Y.a B.a.1,aG g.o<|aG Y.a B.a.2.1,aG g.o Y.b,aG g.o Y.B⟩ λaC=>?_;clear hK K;refine pt ?_;refine r1 10 λK hK=>?_;go_simp;refine(s.o _).mono ?_;rintro r f ⟨rfl,hb⟩;have F:J (Bl X4 f):=aq (aq g.o ay) hb;clear hb;refine hK.out _ _ ⟨aq B.A<|aq Y.a F.o,aG F.o<|aG Y.a B.a.1,aG F.o<|aG Y.a B.a.2.1,aG F.o Y.b,aG F.o Y.B⟩ λaC=>?_;clear hK K;refine pt ?_;refine r1 11 λK hK=>?_;rw[aD M];have U:=cK (n:=17) (aG F.o<|aG Y.a B.a.2.2) rfl;refine wp_store_mid bL (.tmp 8) (.tmp 47) rfl (δ w.1+1+1) 0 (θ<|aT e2) rfl rfl U M (bO _) ?_;refine hK.out _ _ ⟨dJ I _ _ _<|aq B.A<|aq Y.a F.o,(eA _ _ _ _ _ I).trans<|aG F.o<|aG Y.a B.a.1,(eA _ _ _ _ _ I).trans<|aG F.o<|aG Y.a B.a.2.1,(eA _ _ _ _ _ u).trans<|aG F.o Y.b,(eA _ _ _ _ _ z).trans<|aG F.o Y.B⟩ λaC=>?_;clear hK K;refine pt ?_;refine wpAnyH_done M ?_ _;go_wp2_with fail;have hq:=cX (cs:=qh) (aG F.o<|aG Y.a B.a.2.2) (vs:=aT e2) rfl;have C:=run_loadVar_mid (P:=Tryz.prog) (ψ f (δ w.1+1+1) 0<|aT e2) (δ w.1+1+1) 0 bL (aT e2) _ (bu hq) gU rfl M
 refine aE (v:=j'<|θ<|aT e2) (by simp[results,results315,results325,C,Act.put,asAddr]) rfl ⟨by rw[t.o],dJ I _ _ _<|aq B.A<|aq Y.a F.o⟩):p:=h
open KC in
def KC.vE(e:PE)(bB:ByteArray)(wa ea:Option Addr)(wl wc el ec:Nat)(n:SN)(so:Bool)(w:World)(ha:n.a.aU=true->0<=n.a.var/\n.a.var<8)(hb:n.b.aU=true->0<=n.b.var/\n.b.var<8)(qF:dM<|b8<|jg e n.a)(qE:dM<|b8<|jg e n.b):
 Cl 315 #[.iface 328<|.agg #[],.agg<|θ<|KC.aT e,.agg<|aS bB (.slice wa wl wc) n<|.slice ea el ec,.bool so] w (Rb w<|.agg<|θ<|KC.aT<|KC.ry e n so):=by exact qs4
open KB in
def KB.vE(e:PE)(bB:ByteArray)(wa ea:Option Addr)(wl wc el ec:Nat)(n:SN)(so:Bool)(w:World)(ha:n.a.aU=true->0<=n.a.var/\n.a.var<8)(hb:n.b.aU=true->0<=n.b.var/\n.b.var<8)(qF:dM<|b8<|jg e n.a)(qE:dM<|b8<|jg e n.b):
 Cl 325 #[.iface 331<|.agg #[],.agg<|θ<|KB.aT e,.agg<|aS bB (.slice wa wl wc) n<|.slice ea el ec,.bool so] w (Rb w<|.agg<|θ<|KB.aT<|KB.ry e n so):=by exact qs4
end
section
variable {a e:PE}{b:Nat}{L:List y'}
def KC.qPE.wP(i:Nat):PE.zero.at i=VV.z:=by unfold PE.at PE.zero;simp
def KB.qPE.wP(i:Nat):PE.zero.at i=VV.z:=by unfold PE.at PE.zero;simp
def KC.wk(a b:VV):VV:=if (a.any==b.any&&a.lo==b.lo) then a else VV.dT
def KB.wk(a b:VV):VV:=⟨a.any,min a.lo b.lo,max a.hi b.hi⟩
def KC.Ml(a b:VV)(w:p')(e:dM<|b8 a)(c:dM<|b8 b):Cl 387 #[j' #[],KC.qv a,KC.qv b] w (Rb w<|KC.qv<|KC.wk a b):=by refine(Ps (j' #[]) a.any b.any a.lo b.lo w rfl e.lo c.lo).mono ?_;rintro r d ⟨rfl,c⟩;refine⟨?_,c⟩;unfold KC.wk;split<;>rfl
def KB.Ml(a b:VV)(w:p')(_:dM<|b8 a)(_:dM<|b8 b):Cl 394 #[j' #[],KB.qv a,KB.qv b] w (Rb w<|KB.qv<|KB.wk a b):=P7 (j' #[]) (b8 a) (b8 b) w rfl
def KC.ly(a e:PE)(i:Nat):PE:=(range i).foldl (λs k=>s.put k<|KC.wk (a.at k)<|e.at k) a
def KB.ly(a e:PE)(i:Nat):PE:=(range i).foldl (λs k=>s.put k<|KB.wk (a.at k)<|e.at k) a
def KC.gy(a e:PE)(i:Nat):KC.ly a e (i+1)=(KC.ly a e i).put i (KC.wk (a.at i)<|e.at i):=by simp[KC.ly,kq]
def KB.gy(a e:PE)(i:Nat):KB.ly a e (i+1)=(KB.ly a e i).put i (KB.wk (a.at i)<|e.at i):=by simp[KB.ly,kq]
def KC.wW(a e:PE):∀(i:Nat),i<=8->∀j,i<=j->(KC.ly a e i).at j=a.at j
 |0,_,_,_=>rfl
 |i+1,h,j,hj=>by rw[KC.gy,PE.jA _ I,aA I,KC.wW a e i I j I]
def KB.wW(a e:PE):∀(i:Nat),i<=8->∀j,i<=j->(KB.ly a e i).at j=a.at j
 |0,_,_,_=>rfl
 |i+1,h,j,hj=>by rw[KB.gy,PE.jA _ I,aA I,KB.wW a e i I j I]
def aeH(h:p:=by
 have X:∀k,k<=8->∀i,dM (b8 ((ly a e k).at i)):=by
  intro k;induction k with
  |zero=>exact λ_=>ha
  |succ k B=>
   intro c i;rw[gy,PE.jA _ I];split
   .exact hj _ _ (ha k)<|he k
   exact B I i
 exact X 8 I):p:=h
open KC in
def KC.aad(ha:∀i,dM<|b8<|a.at i)(he:∀i,dM<|b8<|e.at i)(hj:∀a b:VV,dM (b8 a)->dM (b8 b)->dM (b8<|KC.wk a b)):∀i,dM (b8 ((KC.ly a e 8).at i)):=aeH
open KB in
def KB.aad(ha:∀i,dM<|b8<|a.at i)(he:∀i,dM<|b8<|e.at i)(hj:∀a b:VV,dM (b8 a)->dM (b8 b)->dM (b8<|KB.wk a b)):∀i,dM (b8 ((KB.ly a e 8).at i)):=aeH
def KC.jO(a e:PE):PE:=if a.r then(if e.r then KC.ly a e 8 else a) else e
def KB.jO(a e:PE):PE:=if a.r then(if e.r then KB.ly a e 8 else a) else e
def KC.kh(w:p')(ao:t')(es:List PE):Prop:=∀j e,es[j]?=z' e->∃b o,ao=z' (O b o)/\w.rangeAt b (o+j*17) (KC.aT e)
def KB.kh(w:p')(ao:t')(es:List PE):Prop:=∀j e,es[j]?=z' e->∃b o,ao=z' (O b o)/\w.rangeAt b (o+j*17) (KB.aT e)
def KC.kM{a:p'}(h:w.rangeAt b o L)(c:Bl w a):a.rangeAt b o L:=λj v R=>aB (h j v R) c
def KB.kM{a:p'}(h:w.rangeAt b o L)(c:Bl w a):a.rangeAt b o L:=λj v R=>aB (h j v R) c
def KC.yA(a e:PE):∀i,(KC.ly a e i).r=a.r
 |0=>rfl
 |i+1=>by rw[KC.gy];exact KC.yA a e i
def KB.yA(a e:PE):∀i,(KB.ly a e i).r=a.r
 |0=>rfl
 |i+1=>by rw[KB.gy];exact KB.yA a e i
def aeG(h:p:=by
 have s:=hid<|Aa h<|Aa VA hj;clear h VA hj;obtain⟨k,hk⟩:=Ea<|ζ es;rw[<-hk]at hn|-;have o:=hid hk;clear hk;go_enter ae6,aeS;go_upto_region 2 with fail
 generalize u:(w.alloc<|i' jf bL).alloc (i' jf bL)=V;have B:J ((V.1[δ w.1]?=z' (i' jf bL (0,0))/\V.1[δ w.1+1]?=z' (i' (θ<|aT PE.zero) bL (0,0)))/\Below w.1.size w V):=by subst u;exact⟨hJ,dH⟩
 clear u;go_wp2_with fail;go_loopw[12] (λF wr=>∃(j:Nat)(a:PE),j<=k/\F=G j/\J (a=(es.take j).foldl jO PE.zero/\(∀i,dM<|b8<|a.at i)/\Below w.1.size w wr/\wr.1[δ w.1]?=z' (i' jf bL (0,0))/\wr.1[δ w.1+1]?=z' (i' (θ<|aT a) bL (0,0)))) (λF _=>k-(intOf F).toNat)
 case atStart=>exact⟨0,PE.zero,bm,rfl,rfl,λi=>by rw[qPE.wP];exact⟨aj,aj⟩,B.A,B.a.1,B.a.2⟩
 obtain⟨j,a,hj,rfl,B⟩:=hrel;by_cases E:j<k;rotate_left
 .have g:¬(j:Int)<k:=I;obtain rfl:j=k:=I;have T:J (a=es.foldl jO PE.zero):=by show _=_;rw[B.a,o.o,jj]
  have U:=cK (n:=17) B.d rfl;go_wp2_with (first|(refine wpList_load_mid rfl bL (.tmp 5) rfl (δ w.1+1) 0 rfl (aT a) _ (bu B.D) gU rfl M ?_)|(refine wpList_store_mid rfl bL (.tmp 4) (.tmp 44) rfl w.1.size 0 (θ<|aT a) rfl rfl U M (bO _) ?_));have hq:=cX (cs:=qh) B.d (vs:=aT a) rfl;have C:=run_loadVar_mid (P:=Tryz.prog) (ψ wr w.1.size 0<|aT a) w.1.size 0 bL (aT a) _ (bu hq) gU rfl M;refine aE (v:=j'<|θ<|aT a) (by simp[results,results271,results276,C,Act.put,asAddr]) rfl ⟨by rw[T.o],dJ aK _ _ _ B.c⟩
 have g:(j:Int)<k:=I;obtain⟨e,l⟩:=La (l:=es) (i:=j) (by rw[<-o.o];exact E);obtain⟨b,o,rfl,g⟩:=s.a j e l;have hr:=kM g B.c;have C:=hid<|Aa (BZ jO PE.zero l)<|s.b e<|aO l;clear g l;have l:=cK (n:=17) (cF wr<|i' jf bL) rfl;go_upto_region 5 with(first|(refine wpList_load_mid rfl bL (.tmp 14) rfl b (o+j*17) rfl (aT e) _ hr gU rfl M ?_)|(refine wpList_store_mid rfl bL (.tmp 7) (.tmp 15) rfl wr.1.size 0 (θ<|aT e) rfl rfl l M (bO _) ?_))
 have x:J (Below wr.1.size wr (ψ (wr.alloc<|i' jf bL) wr.1.size 0<|aT e)/\(ψ (wr.alloc<|i' jf bL) wr.1.size 0<|aT e).1[δ wr.1]?=z' (i' (θ<|aT e) bL (0,0))):=⟨dJ aK _ _ _ bA,cX (cs:=qh) (cF wr<|i' jf bL) rfl⟩
 try simp only[Act.put]
 generalize(wr.alloc<|i' jf bL).setCells wr.1.size 0 (aT e)=U at x|-;have z:=B.c.size;have N:δ w.1+1<δ wr.1:=blt B.D;have t:=aG x.a B.d;have o:=aG x.a B.D;have g:=hid<|Aa t<|Aa o<|aq B.c x.a;clear t o hr l;obtain⟨D,l⟩:=Ea a.r;obtain⟨o,X⟩:=Ea e.r;have t:χ U (O (δ w.1+1) 0)=z' (h' D):=by rw[(A g.b).1];exact(cL ..).trans (by rw[l];rfl)
 have Y:χ U (O wr.1.size 0)=z' (h' o):=by rw[(A x.A).1];exact(cL ..).trans (by rw[X];rfl)
 have L:J (jO a e=if D then(if o then ly a e 8 else a) else e):=by show _=_;rw[l,X];rfl
 clear l X;cases D
 .have l:=cK (n:=17) g.b rfl;go_upto_region 13 with(first|(refine wpList_load_mid rfl bL (.tmp 7) rfl wr.1.size 0 rfl (aT e) _ (bu x.A) gU rfl M ?_)|(refine wpList_store_mid rfl bL (.tmp 5) (.tmp 19) rfl (δ w.1+1) 0 (θ<|aT e) rfl rfl l M (bO _) ?_))
  try simp only[Act.put]
  generalize u:ψ U (δ w.1+1) 0 (aT e)=l;have D:J (Below w.1.size w l/\l.1[δ w.1]?=z' (i' jf bL (0,0))/\l.1[δ w.1+1]?=z' (i' (θ<|aT e) bL (0,0))):=by subst u;exact⟨dJ I _ _ _ g.B,(eA _ _ _ _ _ I).trans g.a,cX g.b rfl⟩
  clear u;clear t Y;go_wp2_with fail;go_roundw
  case rel=>exact⟨j+1,e,E,e',by rw[C.a,<-B.a,L.o];rfl,C.A,D.a,D.b,D.B⟩
  simp[intOf];omega
 cases o
 .go_wp2_with fail;go_roundw
  case rel=>exact⟨j+1,a,E,e',by rw[C.a,<-B.a,L.o];rfl,B.b,g.B,g.a,g.b⟩
  simp[intOf];omega
 go_wp2_with (refine wpList_load_mid rfl Wv (.tmp 23) rfl wr.1.size 1 rfl (aT e).tail _ (qtl x.A) Wu rfl M ?_);obtain⟨l,o⟩:=Ea wr.1.size;rw[<-o]at N x|-;have u:l<δ U.1:=blt x.A;have l:=hid<|Aa B.a<|Aa B.b L.o;clear o t Y z;go_loopw[25] (λF wr=>∃i:Nat,i<=8/\F=G i/\J (Below w.1.size w wr/\wr.1[δ w.1]?=z' (i' jf bL (0,0))/\wr.1[δ w.1+1]?=z' (i' (θ<|aT<|ly a e i) bL (0,0)))) (λF _=>8-(intOf F).toNat)
 case atStart=>exact⟨0,I,rfl,g.B,g.a,g.b⟩
 obtain⟨i,u,rfl,g⟩:=hrel;by_cases L:i<8;rotate_left
 .have o:¬(i:Int)<8:=I;obtain rfl:i=8:=I;go_wp2_with fail;go_roundw
  case rel=>exact⟨j+1,ly a e 8,E,e',by rw[C.a,<-l.a,l.B];rfl,aad l.b C.A s.B,g.a,g.b,g.B⟩
  simp[intOf];omega
 have o:(i:Int)<8:=I;have U:=λW=>WB e L W;have j:=FU;have N:=FQ;have o:=hid λW=>Ml (a.at i) (e.at i) W (l.b i)<|C.A i;simp only[KC.qv,KB.qv]at o;have F:=hid<|wW a e i u i aK;have j:=hid<|gy a e i;generalize wk (a.at i) (e.at i)=l at o j;have l:δ w.1+1<δ wr.1:=blt g.B;go_upto_region 11 with fail
 have X:J (Below w.1.size w (wr.alloc<|i' #[(dO<|e.at i),(dN<|e.at i)] iC)/\(wr.alloc<|i' #[(dO<|e.at i),(dN<|e.at i)] iC).1[δ wr.1]?=z' (i' #[(dO<|e.at i),(dN<|e.at i)] iC (0,0))/\(wr.alloc<|i' #[(dO<|e.at i),(dN<|e.at i)] iC).1[δ w.1+1]?=z' (i' (θ<|aT<|ly a e i) bL (0,0))):=⟨aq g.a bA,cv,aG bA g.B⟩;have E:=hid<|aG (cf wr<|i' #[(dO<|e.at i),(dN<|e.at i)] iC) g.b;generalize wr.alloc (i' #[(dO<|e.at i),(dN<|e.at i)] iC)=T at X E|-;have l:δ wr.1≠δ w.1+1:=I;clear U;refine wp_region_held_drew (S := λW' => Below w.1.size w W' /\ W'.1[δ wr.1]? = z' (i' #[(dO<|e.at i), (dN<|e.at i)] iC (0, 0))) M ⟨X.o.1.drew, X.o.2.1⟩ λaC => ?_;refine tq 0 (G i) ?_;refine tq 1 (.iface h!<|j' #[]) ?_;refine tq 2 (G i) ?_;refine tq 3 (m'<|z'<|O (δ w.1 + 1) 1) ?_;refine tq 4 (m'<|z'<|O (δ w.1 + 1)<|1 + i * 2) ?_;refine tr 6 (j' #[(dO<|e.at i), (dN<|e.at i)]) (λW' aW => (A aW.2).1) ?_;refine tq 7 (.func (.method "warrant/rules.join") #[.iface h!<|j' #[]] #[]) ?_;refine tq 8 (.func (.method "warrant/rules.join") #[.iface h!<|j' #[]] #[]) ?_;refine tq 9 (.iface h!<|j' #[]) ?_;refine tq 11 (m'<|z'<|O (δ w.1 + 1) 1) ?_;refine r1 5 λK g => ?_;obtain⟨t,Y⟩:=WD X.B L;rw[F.o]at t Y;go_simp;refine g.out _ _ aC λaC=>?_;clear g K t Y;refine pt ?_;refine r1 10 λK g=>?_;go_simp;refine(o.o _).mono ?_;rintro r s ⟨rfl,o⟩;have D:J (Bl T s):=aq ay o;clear o;refine g.out _ _ ⟨aq X.a D.o,aG D.o X.b⟩ λaC=>?_;clear g K;refine pt ?_;refine tq 12 (m'<|z'<|O (δ w.1+1)<|1+i*2) ?_;refine r1 13 λK g=>?_;have hj:=aG D.o X.B;obtain⟨t,Y⟩:=WD hj L;obtain⟨_,o⟩:=A hj;go_simp;refine g.out _ _ ⟨((aq X.a D.o).setCell (by dsimp only;omega) _).setCell (by dsimp only;omega) _,((aJ l).trans<|aJ l).trans<|aG D.o X.b⟩ λaC=>?_;clear g K t Y o;refine pt ?_;refine wpAnyH_done M ?_ _;go_wp2_with fail;go_roundw
 case rel=>
  refine⟨i+1,L,e',((aq X.a D.o).setCell (by dsimp only;omega) _).setCell (by dsimp only;omega) _,((aJ<|by show δ w.1≠δ w.1+1;omega).trans (aJ<|by show δ w.1≠δ w.1+1;omega)).trans<|aG D.o E.o,?_⟩;rw[j.o,H (H (aG D.o X.B) _) _,Dd _ L]
 simp[intOf];omega):p:=h
open KC in
def KC.Bv(f:Option Addr)(c:Nat)(es:List PE)(w:World)(h:KC.kh w f es)(hn:ζ es<=1000)(VA:∀e∈es,∀i,dM<|b8<|e.at i)(hj:∀a b:VV,dM (b8 a)->dM (b8 b)->dM (b8<|KC.wk a b)):
 Cl 271 #[.iface 328<|.agg #[],.slice f (ζ es) c] w (Rb w<|.agg<|θ<|KC.aT<|es.foldl KC.jO PE.zero):=by exact aeG
open KB in
def KB.Bv(f:Option Addr)(c:Nat)(es:List PE)(w:World)(h:KB.kh w f es)(hn:ζ es<=1000)(VA:∀e∈es,∀i,dM<|b8<|e.at i)(hj:∀a b:VV,dM (b8 a)->dM (b8 b)->dM (b8<|KB.wk a b)):
 Cl 276 #[.iface 331<|.agg #[],.slice f (ζ es) c] w (Rb w<|.agg<|θ<|KB.aT<|es.foldl KB.jO PE.zero):=by exact aeG
end
section
def aeF(h:p:=by
 have Y:=hid λW (d:Bl w W)=>Bv ao c es W (λj e l=>by obtain⟨b,o,q,f⟩:=h j e l;exact⟨b,o,q,kM f d⟩) hn VA hj;clear h VA hj hn;generalize es.foldl jO PE.zero=d at Y|-;generalize ζ es=k at Y|-;go_enter ae5,aeR;go_upto_region 1 with fail
 generalize u:w.alloc (i' jf bL)=V;have B:J (V.1[δ w.1]?=z' (i' jf bL (0,0))/\Bl w V/\V.1[db]?=z' (i' #[.iface h!<|j' #[]] yw (0,0))):=by subst u;exact⟨cv,bA,aG bA hd⟩
 clear u;clear hd;have W:=A B.B;go_wp2_with (first|((first|go_at_call 271 | go_at_call 276);refine(Y.o V B.b).mono ?_;rintro r j ⟨rfl,g⟩;have f:J (Bl V j):=g;clear g;have U:=cK (n:=17) (aG f.o B.a) rfl)|(refine wpList_store_mid rfl bL (.tmp 3) (.tmp 6) rfl w.1.size 0 (θ<|aT d) rfl rfl U M (bO _) ?_));have g:=cX (cs:=qh) (aG f.o B.a) (vs:=aT d) rfl;have C:=run_loadVar_mid (P:=Tryz.prog) (ψ j w.1.size 0<|aT d) w.1.size 0 bL (aT d) _ (bu g) gU rfl M
 refine aE (v:=j'<|θ<|aT d) (by simp[results,results270,results275,C,Act.put,asAddr]) rfl ⟨rfl,dJ aK _ _ _<|aq B.b f.o⟩):p:=h
open KC in
def KC.rq(ao:t')(c db:Nat)(es:List PE)(w:p')(hd:w.1[db]?=z' (i' #[.iface 328<|j' #[]] 381 (0,0)))(h:KC.kh w ao es)(hn:ζ es<=1000)(VA:∀e∈es,∀i,dM<|b8<|e.at i)(hj:∀a b:VV,dM (b8 a)->dM (b8 b)->dM (b8<|KC.wk a b)):
 Cl 270 #[g' ao (ζ es) c,m'<|z'<|O db 0] w (Rb w<|j'<|θ<|KC.aT<|es.foldl KC.jO PE.zero):=by exact aeF
open KB in
def KB.rq(ao:t')(c db:Nat)(es:List PE)(w:p')(hd:w.1[db]?=z' (i' #[.iface 331<|j' #[]] 386 (0,0)))(h:KB.kh w ao es)(hn:ζ es<=1000)(VA:∀e∈es,∀i,dM<|b8<|e.at i)(hj:∀a b:VV,dM (b8 a)->dM (b8 b)->dM (b8<|KB.wk a b)):
 Cl 275 #[g' ao (ζ es) c,m'<|z'<|O db 0] w (Rb w<|j'<|θ<|KB.aT<|es.foldl KB.jO PE.zero):=by exact aeF
def aeE(h:p:=by
 have Y:=hid λW=>yJ lo hi W hl hh;clear hl hh;generalize gO lo hi=q at Y|-;go_enter ae4,aeQ;go_upto_region 1 with fail
 generalize u:(w.alloc<|i' (θ<|aT lo) bL).alloc (i' (θ<|aT hi) bL)=V;have B:J ((b' V w.1.size (θ<|aT lo) bL/\b' V (δ w.1+1) (θ<|aT hi) bL)/\Bl w V/\b' V db #[.iface h!<|j' #[]] yw):=by subst u;exact⟨hJ,dH,aG dH hd⟩
 clear u;clear hd;have W:=A B.B;go_wp2_with (first|(refine wpList_load_mid rfl bL (.tmp 3) rfl w.1.size 0 rfl (aT lo) _ (bu B.a.1) gU rfl M ?_)|(refine wpList_load_mid rfl bL (.tmp 4) rfl (δ w.1+1) 0 rfl (aT hi) _ (bu B.a.2) gU rfl M ?_)|((first|go_at_call 273 | go_at_call 278);refine(Y.o _).mono ?_;rintro r c ⟨rfl,b⟩;have f:=hid b;clear b));go_ret
 exact⟨rfl,aq B.b f.o⟩):p:=h
open KC in
def KC.vF(lo hi:PE)(db:Nat)(w:p')(hd:w.1[db]?=z' (i' #[.iface 328<|j' #[]] 381 (0,0)))(hl:∀i,dM<|b8<|lo.at i)(hh:∀i,dM<|b8<|hi.at i):
 Cl 272 #[j'<|θ<|KC.aT lo,j'<|θ<|KC.aT hi,m'<|z'<|O db 0] w (Rb w<|h'<|KC.gO lo hi):=aeE
open KB in
def KB.vF(lo hi:PE)(db:Nat)(w:p')(hd:w.1[db]?=z' (i' #[.iface 331<|j' #[]] 386 (0,0)))(hl:∀i,dM<|b8<|lo.at i)(hh:∀i,dM<|b8<|hi.at i):
 Cl 277 #[j'<|θ<|KB.aT lo,j'<|θ<|KB.aT hi,m'<|z'<|O db 0] w (Rb w<|h'<|KB.gO lo hi):=aeE
end
structure Es(P:Pm)(p:Int)(R:RS):Prop where
  ins:Lf R (ζ P.nd)
  few:P.facts p<=68
  st:∀(n:Nat)(r:BS×List (Nat×Ef)),R[n]?=z' r->∀f,f<128->bt r.1 f=(decide (f<P.facts p)&&P.st p n f)
  Qo:∀(n:Nat)(r:BS×List (Nat×Ef)),R[n]?=z' r->r.2.map Prod.fst=P.Qo p n
  ad:∀(n:Nat)(r:BS×List (Nat×Ef)),R[n]?=z' r->∀e∈r.2,∀f,f<128->bt e.2.add f=(decide (f<P.facts p)&&P.ad p e.1 f)
  ps:∀(n:Nat)(r:BS×List (Nat×Ef)),R[n]?=z' r->∀e∈r.2,∀f,f<P.facts p->bt e.2.drop f=!P.ps p n e.1 f
def aaA(e:Ef)(s:BS)(f:Nat)(l:Ew e)(Y:f<128):bt (Ii e s) f=((bt s f&&!bt e.drop f)||bt e.add f):=by rw[Ii,iy,lU l.drop Y]
def any_congr{α:Type}{l:List α}{f g:α->Bool}(h:∀x∈l,f x=g x):l.any f=l.any g:=by
 induction l with
 |nil=>rfl
 |cons a l B=>rw[qM,qM,h a ak,B λx F=>h x<|by simp[F]]
def Wa{P:Pm}{p:Int}{R:RS}(h:Es P p R){b:Nat->BS}(g:∀m f,P.facts p<=f->f<128->bt (b m) f=O'){n f:Nat}(K:n<ζ P.nd)(Y:f<128):bt (lx R b n) f=(decide (f<P.facts p)&&P.rule p f n λm=>bt (b m) f):=by
 obtain⟨r,a⟩:=La (l:=R) (i:=n) (by rw[h.ins.len];exact K);have l:=(h.ins.each r<|aO a).2.2;have V:lx R b n=Z7 r.1 r.2 b:=by rw[lx,a]
 rw[V];rw[Z7,aga,qM,any_map,h.st n r a f Y];by_cases hF:f<P.facts p
 .simp only[hF,decide_true,eN];unfold Pm.rule;congr 1;rw[<-h.Qo n r a,any_map];refine any_congr λe d=>?_;have C:=h.ad n r a e d f Y;have c:=h.ps n r a e d f hF;rw[show decide (f<P.facts p)=N' by simpa using hF,eN]at C;simp only[Function.comp];rw[aaA _ _ _ (l e d).1 Y,C,c];simp only[ub];cases P.ad p e.1 f<;>cases P.ps p n e.1 f<;>cases bt (b e.1) f<;>rfl
 simp only[hF,decide_false,vi,ko];rw[any_eq_false];intro e d;have C:=h.ad n r a e d f Y;rw[show decide (f<P.facts p)=O' by simpa using hF,vi]at C;simp only[Function.comp];rw[aaA _ _ _ (l e d).1 Y,C,g e.1 f I Y];simp
def N5.fv(x:N5):y':=g' x.fa (ζ x.n.facts) x.fc
def N5.rv(x:N5):y':=g' x.ra (ζ x.n.bf) x.rc
def N5.vv(x:N5):y':=g' x.va (ζ x.n.aM) x.vc
def WW(x:N5):y':=j'<|vp x.fa (ζ x.n.facts) x.fc x.ra (ζ x.n.bf) x.rc x.n.aF x.n.rank x.va (ζ x.n.aM) x.vc
structure lu(W:p')(B:Nat)(x:N5):Prop where
  f:ρ W B 3 1 x.fv (ζ x.n.facts) (x.n.facts.map G)
  r:ρ W B 3 1 x.rv (ζ x.n.bf) (x.n.bf.map G)
  v:ρ W B 73 6 x.vv (ζ x.n.aM) (kd x.n.aM)
  ap:φ x.fv=A'\/φ x.fv≠φ x.rv
def lu.own{W:p'}{B:Nat}{x:N5}(h:lu W B x):j5 W B x:=by
 refine⟨h.f,h.r,h.v,?_,?_,?_⟩<;>intro e
 .rcases h.f.2 with⟨C,_⟩|⟨g,c,Y,C,_⟩<;>simp[N5.fv,e]at C;exact C.2
 .rcases h.r.2 with⟨C,_⟩|⟨g,c,Y,C,_⟩<;>simp[N5.rv,e]at C;exact C.2
 rcases h.v.2 with⟨C,_⟩|⟨g,c,Y,C,_⟩<;>simp[N5.vv,e]at C;exact C.2
def ad6(_:Unit)(l:u'):Option ((Int×Unit)×u'):=match rsm 100000 l with
 |some (n,r)=>z' (((n:Int),()),r)
 |none=>A'
def agq (g:Int) (l:u'):Option (Nd×u'):=match rsm (ζ l) l with
  | some (k,r)=>(match Fq ad8 k 0 r with
    |some ((fs,_),q)=>if g=1 then(match Fq ad6 k () q with
        |some ((rs,_),q2)=>z' (⟨fs,rs,O',0,[]⟩,q2)
        |none=>A') else z' (⟨fs,[],O',0,[]⟩,q)
    |none=>A')
  |none=>A'
def fr1(W:p')(b o:Nat)(v:y'):Fr (λj=>j≠b) W (κ W (O b o) v):=Fr.SJ (cQ W b o v) λj _ f=>H' f
def Fr.box{P:Nat->Prop}{w a:p'}{k:Nat}{L:Array y'}{t:TypeId}(Y:Fr P w a)(h:w.1[k]?=z' (cU L t))(U:P k):a.1[k]?=z' (cU L t):=(Y.block k (bq.1 h).1 U).trans h
def abq(l:u'):Option (Vl×u'):=match abk l with
 |some (x,r)=>match rsm 100000 r with
  |some (k,q)=>z' (⟨2,0,0,N',x,(k:Int)⟩,q)
  |none=>A'
 |none=>A'
def agp(g:Int)(l:u'):Option (Vl×u'):=match l with
 |b::r=>
  if b.toNat=1 then(match abk r with|some (x,q)=>z' (⟨1,x,0,O',0,0⟩,q)|none=>A')
  else if b.toNat=2 then
   (if g=1 then(match aac r with|some (f,q)=>if f then abq q else z' (⟨2,0,0,O',0,0⟩,q)|none=>A') else z' (⟨2,0,0,O',0,0⟩,r))
  else A'
 |[]=>A'
def ad5(p g:Int)(_:Unit)(l:u'):Option ((Vl×Unit)×u'):=match (if p=6 then agu l else agp g l)with
 |some (v,r)=>z' ((v,()),r)
 |none=>A'
def aeb(g:Int)(l:u'):Option (Nat×u'):=if g=1 then rsm 100000 l else z' (0,l)
def agt (p g:Int) (l:u'):Option (Nd×u'):=match aeb g l with
  | some (rk,l1)=>(match rsm 8 l1 with
    | some (k,l2)=>(match Fq (ad5 p g) k () l2 with
      |some ((vs,_),l3)=>z' (⟨[],[],N',(rk:Int),vs⟩,l3)
      |none=>A')
    |none=>A')
  |none=>A'
def agx:Nd:=⟨[],[],O',0,[]⟩
def aeg(p g:Int)(l:u'):Option (Nd×u'):=if p<=4 then agq g l else match aac l with
 |some (true,r)=>agt p g r
 |some (false,r)=>z' (agx,r)
 |none=>A'
def ad7(p g:Int)(_:Unit)(l:u'):Option ((Nd×Unit)×u'):=match aeg p g l with
 |some (n,r)=>z' ((n,()),r)
 |none=>A'
def R! (l:u'):Option (Ct×u'):=match l with
  | b::c::q=>if known (b.toNat:Int) (c.toNat:Int)=N' then(match rsm 60 q with
      | some (k,q2)=>(match Fq (ad7 (b.toNat:Int) (c.toNat:Int)) k () q2 with
        |some ((ns,_),q3)=>z' (⟨(b.toNat:Int),(c.toNat:Int),ns⟩,q3)
        |none=>A')
      |none=>A') else A'
  |_=>A'
def dec(l:u'):Option Ct:=match l with
  |87::67::1::r=>if ζ l<=60000 then(match R! r with
      |some (c,[])=>if qi c=N' then z' c else A'
      |_=>A') else A'
  |_=>A'
end Go.Proofs.YtmipbiligijcpaaGreatDoor
