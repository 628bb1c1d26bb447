import Derived.Test.YtmipbiligijcpaaGreatDoorA06
import Derived.Test.YtmipbiligijcpaaGreatDoorA05
import Derived.Test.YtmipbiligijcpaaGreatDoorA07
import Derived.Deep.CutRange
namespace Go.Proofs.YtmipbiligijcpaaGreatDoor
set_option linter.all false
set_option maxRecDepth 99999
set_option maxHeartbeats 0
open Go.RowKit Go.Proofs Go.Maps Tryz List open List renaming length→ζ,toArray→θ open _root_.Array renaming size→δ open World renaming setCell→κ,ownsRow→ρ,cell?→χ,setCells→ψ open Value renaming slice→i',bool→j',agg→l',string→m',pointer→o',tuple→t' open Obj renaming cells→k' open Ending renaming returned→p' open Option renaming some→B',none→C' open Bool renaming true→O',false→P'
variable {B N T a k m n:Nat}{W w:u'}
section
def KC.Ve(a _:VV):Option VV:=B' a
def KB.Ve(a b:VV):Option VV:=if (cK a b.lo b.hi).lo<=(cK a b.lo b.hi).hi then B' (cK a b.lo b.hi) else C'
def Hj(a b:VV):oq (bZ a) (bZ b)=bZ (cK a b.lo b.hi):=by simp only[oq,bZ,cK,eR];constructor<;>split<;>omega
def KC.Mv(a b:VV):∃m t,KC.Ve a b=(if t then B' m else C')/\∀w,Cl 388 #[l' #[],KC.qv a,KC.qv b] w (Rb w (t' #[KC.qv m,j' t])):=⟨a,O',rfl,λw=>Pg (l' #[]) a.any b.any a.lo b.lo w rfl⟩
def KB.Mv(a b:VV):∃m t,KB.Ve a b=(if t then B' m else C')/\∀w,Cl 395 #[l' #[],KB.qv a,KB.qv b] w (Rb w (t' #[KB.qv m,j' t])):=by refine⟨cK a b.lo b.hi,decide ((cK a b.lo b.hi).lo<=(cK a b.lo b.hi).hi),by unfold KB.Ve;simp,λw=>?_⟩;have h:=Cb (l' #[]) (bZ a) (bZ b) w rfl;rw[Hj]at h;exact h
def KC.gx(e:PE)(o:lU)(x:VV):PE:=if e.r&&o.aS then(match KC.Ve (e.at o.var.toNat) x with|some m=>e.put o.var.toNat m|none=>PE.zero) else e
def KB.gx(e:PE)(o:lU)(x:VV):PE:=if e.r&&o.aS then(match KB.Ve (e.at o.var.toNat) x with|some m=>e.put o.var.toNat m|none=>PE.zero) else e
def qs2{p:Prop}(h:p:=by
 obtain⟨y,q,c⟩:=o;obtain⟨l,z⟩:=Ea (gx e ⟨y,q,c⟩ x);rw[<-z];simp only[KC.qv,KB.qv]at ho⊢;cases v:e.r
 ·have K:J (l=e):=by show _=_;rw[z];(first|unfold KC.gx|unfold KB.gx);simp[v]
  clear z ho;have b:(aU e)[0]?=B' (j' false):=by rw[<-v];rfl
  clear v;go_enter qF7,qN8;go_upto_region 2 with fail
  have B:=hid (A (H! w (k' (θ (aU e)) cA) (k' #[j' y,G q,G c] 150) (k' #[(dM x),(dL x)] i?) (k' kV cA)) (r! w (k' (θ (aU e)) cA) (k' #[j' y,G q,G c] 150) (k' #[(dM x),(dL x)] i?) (k' kV cA)));generalize((((w.alloc (k' (θ (aU e)) cA)).alloc (k' #[j' y,G q,G c] 150)).alloc (k' #[(dM x),(dL x)] i?)).alloc (k' kV cA))=V at B⊢;have U:=cY (n:=17) B.a.2.2.2 rfl;go_wp2_with (first|(refine wpList_load_mid rfl cA (.tmp 5) rfl w.1.size 0 rfl (aU e) _ (bG B.a.1) kU rfl au ?_)|(refine wpList_store_mid rfl cA (.tmp 8) (.tmp 19) rfl (δ w.1+1+1+1) 0 (θ (aU e)) rfl rfl U au (bH _) ?_));have hq:=df (cs:=vx) B.a.2.2.2 (vs:=aU e) rfl;have C:=run_loadVar_mid (P:=Tryz.prog) (ψ V (δ w.1+1+1+1) 0 (aU e)) (δ w.1+1+1+1) 0 cA (aU e) _ (bG hq) kU rfl au;refine aC (v:=l' (θ (aU e))) (by simp[results,results340,results341,C,Act.put,asAddr]) rfl ⟨by rw[K.o],dF I _ _ _ B.A⟩
 cases y
 ·have K:J (l=e):=by show _=_;rw[z];(first|unfold KC.gx|unfold KB.gx);simp
  clear z ho;have b:(aU e)[0]?=B' (j' true):=by rw[<-v];rfl
  clear v;go_enter qF7,qN8;go_upto_region 2 with fail
  have B:=hid (A (H! w (k' (θ (aU e)) cA) (k' #[j' false,G q,G c] 150) (k' #[(dM x),(dL x)] i?) (k' kV cA)) (r! w (k' (θ (aU e)) cA) (k' #[j' false,G q,G c] 150) (k' #[(dM x),(dL x)] i?) (k' kV cA)));generalize((((w.alloc (k' (θ (aU e)) cA)).alloc (k' #[j' false,G q,G c] 150)).alloc (k' #[(dM x),(dL x)] i?)).alloc (k' kV cA))=V at B⊢;have U:=cY (n:=17) B.a.2.2.2 rfl;go_wp2_with (first|(refine wpList_load_mid rfl cA (.tmp 5) rfl w.1.size 0 rfl (aU e) _ (bG B.a.1) kU rfl au ?_)|(refine wpList_store_mid rfl cA (.tmp 8) (.tmp 19) rfl (δ w.1+1+1+1) 0 (θ (aU e)) rfl rfl U au (bH _) ?_));have hq:=df (cs:=vx) B.a.2.2.2 (vs:=aU e) rfl;have C:=run_loadVar_mid (P:=Tryz.prog) (ψ V (δ w.1+1+1+1) 0 (aU e)) (δ w.1+1+1+1) 0 cA (aU e) _ (bG hq) kU rfl au;refine aC (v:=l' (θ (aU e))) (by simp[results,results340,results341,C,Act.put,asAddr]) rfl ⟨by rw[K.o],dF I _ _ _ B.A⟩
 obtain⟨k,rfl⟩:∃k:Nat,q=(k:Int):=⟨q.toNat,by have:=(ho rfl).1;omega⟩;have f:k<8:=by have:=(ho rfl).2;omega
 have Q:(k:Int)<8:=I;have K:J (l=match Ve (e.at k) x with|some m=>e.put k m|none=>PE.zero):=by show _=_;rw[z];(first|unfold KC.gx|unfold KB.gx);simp[v]
 have b:(aU e)[0]?=B' (j' true):=by rw[<-v];rfl
 clear z ho v;obtain⟨m,t,d,b⟩:=Mv (e.at k) x;have s:=hid b;have q:=hid (λW=>kA e k m W f);rw[d]at K;clear b d;simp only[KC.qv,KB.qv]at s q;have d:=FJ;have N:=FH;go_enter qF7,qN8;go_upto_region 3 with fail
 have B:=hid (A (H! w (k' (θ (aU e)) cA) (sw k c) (k' #[(dM x),(dL x)] i?) (k' kV cA)) (r! w (k' (θ (aU e)) cA) (sw k c) (k' #[(dM x),(dL x)] i?) (k' kV cA)));generalize((((w.alloc (k' (θ (aU e)) cA)).alloc (sw k c)).alloc (k' #[(dM x),(dL x)] i?)).alloc (k' kV cA))=V at B⊢;have S:J (∀b,Below V.1.size V b->χ b (O w.1.size (1+k*2))=B' (dM (e.at k))/\χ b (O w.1.size (1+k*2+1))=B' (dL (e.at k))/\χ b (O (δ w.1+1) 0)=B' (j' true)/\χ b (O (δ w.1+1) 1)=B' (G k)/\χ b (O (δ w.1+1) 2)=B' (G c)/\χ b (O (δ w.1+1+1) 0)=B' (dM x)/\χ b (O (δ w.1+1+1) 1)=B' (dL x)):=by intro b j;have R:=(M (aL j B.a.1)).1;have F:=(M (aL j B.a.2.1)).1;have i:=(M (aL j B.a.2.2.1)).1;exact⟨by rw[R];exact(eu ..).trans (jw e f).1,by rw[R];exact(eu ..).trans (jw e f).2,F 0,F 1,F 2,i 0,i 1⟩
 have E:δ w.1+3<δ V.1:=blt B.a.2.2.2;have y:δ w.1≠δ V.1:=I;have d:=y.symm;have d:δ w.1+1≠δ V.1:=I;have f:=d.symm;have g:δ w.1+1+1≠δ V.1:=I;have u:=g.symm;have d:=S.o V aQ
 go_region_held3 (λb=>χ b (O w.1.size (1+k*2))=B' (dM (e.at k))/\χ b (O w.1.size (1+k*2+1))=B' (dL (e.at k))/\χ b (O (δ w.1+1) 0)=B' (j' true)/\χ b (O (δ w.1+1) 1)=B' (G k)/\χ b (O (δ w.1+1) 2)=B' (G c)/\χ b (O (δ w.1+1+1) 0)=B' (dM x)/\χ b (O (δ w.1+1+1) 1)=B' (dL x)) (go_keep) (first|((first|go_at_call 388 | go_at_call 395);refine(s.o _).mono ?_;rintro r f ⟨rfl,c⟩;have b:f.1[δ V.1]?=B' (k' Ik i? (0,0)):=aL c (by first|exact cv V _|exact cv V.drew _);have N:=M b;have T:=hid b;clear b;have b:Below V.1.size V f:=H ay c;have D:=hid b;have P:=S.o f b;clear c b)|((first|go_at_call 388 | go_at_call 395);refine(s.o _).mono ?_;rintro r f ⟨rfl,c⟩;have b:Below V.1.size V f:=H ay c;have D:=hid b;have P:=S.o f b;clear c b))
 all_goals
  first
  | (
    have b:J (Below V.1.size V (κ (κ f (O V.1.size 0) (dM m)) (O V.1.size 1) (dL m))/\(κ (κ f (O V.1.size 0) (dM m)) (O V.1.size 1) (dL m)).1[δ V.1]?=B' (k' #[(dM m),(dL m)] i? (0,0))):=⟨(D.o.setCell aF _).setCell aF _,by rw[aq (aq T.o _) _];rfl⟩;generalize(κ (κ f (O V.1.size 0) (dM m)) (O V.1.size 1) (dL m))=X at b⊢;have L:=hid b.o
    clear N)
  | (
    have L:J (Below V.1.size V (f.alloc (k' #[(dM m),(dL m)] i?))/\(f.alloc (k' #[(dM m),(dL m)] i?)).1[δ f.1]?=B' (k' #[(dM m),(dL m)] i? (0,0))):=⟨H D.o bf,bV⟩;generalize f.alloc (k' #[(dM m),(dL m)] i?)=X at L⊢
    generalize δ f.1=b at L⊢)
  clear d P;cases t
  ·have s:J (l=PE.zero):=K.o;have b:J (Below V.1.size V X):=L.a;have U:=cY (n:=17) (aL b.o B.a.2.2.2) rfl;go_wp2_with (refine wpList_store_mid rfl cA (.tmp 8) (.tmp 36) rfl (δ w.1+1+1+1) 0 (θ (aU PE.zero)) rfl rfl U au (bH _) ?_);have hq:=df (cs:=vx) (aL b.o B.a.2.2.2) (vs:=aU PE.zero) rfl;have C:=run_loadVar_mid (P:=Tryz.prog) (ψ X (δ w.1+1+1+1) 0 (aU PE.zero)) (δ w.1+1+1+1) 0 cA (aU PE.zero) _ (bG hq) kU rfl au;refine aC (v:=l' (θ (aU PE.zero))) (by simp[results,results340,results341,C,Act.put,asAddr]) rfl ⟨by rw[s.o],dF I _ _ _ (H B.A b.o)⟩
  have s:J (l=e.put k m):=K.o;have b:J (Below V.1.size V X):=L.a;have c:=M (aL b.o B.a.2.1);have W:=M L.A;go_wp2_with (first|(refine wpList_load_mid rfl cA (.tmp 5) rfl w.1.size 0 rfl (aU e) _ (bG (aL b.o B.a.1)) kU rfl au ?_)|((first|go_at_call 309 | go_at_call 319);refine(q.o _).mono ?_;rintro r E ⟨rfl,Y⟩;have l:=hid (H b.o Y);clear Y;have U:=cY (n:=17) (aL l.o B.a.2.2.2) rfl)|(refine wpList_store_mid rfl cA (.tmp 8) (.tmp 41) rfl (δ w.1+1+1+1) 0 (θ (aU (e.put k m))) rfl rfl U au (bH _) ?_));have hq:=df (cs:=vx) (aL l.o B.a.2.2.2) (vs:=aU (e.put k m)) rfl;have C:=run_loadVar_mid (P:=Tryz.prog) (ψ E (δ w.1+1+1+1) 0 (aU (e.put k m))) (δ w.1+1+1+1) 0 cA (aU (e.put k m)) _ (bG hq) kU rfl au
  refine aC (v:=l' (θ (aU (e.put k m)))) (by simp[results,results340,results341,C,Act.put,asAddr]) rfl ⟨by rw[s.o],dF I _ _ _ (H B.A l.o)⟩):p:=h
open KC in
def KC.pk(e:PE)(o:lU)(x:VV)(w:World)(ho:o.aS=true->0<=o.var/\o.var<8):
 Cl 340 #[.iface 328 (.agg #[]),.agg (KC.aU e).toArray,.agg #[.bool o.aS,G o.var,G o.cq],KC.qv x] w (Rb w (.agg (KC.aU (KC.gx e o x)).toArray)):=by exact qs2
open KB in
def KB.pk(e:PE)(o:lU)(x:VV)(w:World)(ho:o.aS=true->0<=o.var/\o.var<8):
 Cl 341 #[.iface 331 (.agg #[]),.agg (KB.aU e).toArray,.agg #[.bool o.aS,G o.var,G o.cq],KB.qv x] w (Rb w (.agg (KB.aU (KB.gx e o x)).toArray)):=by exact qs2
end
section
def KC.Wn(op:Int)(a b:VV):Option VV:=if op=3/\b.any=P'/\b.lo=0 then C' else if a.any||b.any then B' VV.gT else if vV op b.lo then B' (VV.one (jT op a.lo b.lo)) else C'
def KB.Wn(op:Int)(a b:VV):Option VV:=Qh op a b
def KC.My(i:Int)(a b:VV)(d:dT (bZ a))(e:dT (bZ b)):∃m t,KC.Wn i a b=(if t then B' m else C')/\∀w,Cl 384 #[l' #[],G i,KC.qv a,KC.qv b] w (Rb w (t' #[KC.qv m,j' t])):=by
 have h:=λw=>Dr (l' #[]) i a.any b.any a.lo b.lo w rfl d.lo e.lo;unfold kcR at h;unfold KC.Wn;by_cases C:i=3/\b.any=P'/\b.lo=0
 ·simp only[aB C]at h⊢;exact⟨VV.z,P',rfl,h⟩
 simp only[aA C]at h⊢;by_cases c:(a.any||b.any)=O'
 ·simp only[aB c]at h⊢;exact⟨VV.gT,O',rfl,h⟩
 simp only[aA c]at h⊢;exact⟨VV.one (jT i a.lo b.lo),vV i b.lo,rfl,h⟩
def KB.My(i:Int)(a b:VV)(d:dT (bZ a))(e:dT (bZ b)):∃m t,KB.Wn i a b=(if t then B' m else C')/\∀w,Cl 391 #[l' #[],G i,KB.qv a,KB.qv b] w (Rb w (t' #[KB.qv m,j' t])):=by
 have h:=λw=>D5 (l' #[]) i a b w rfl d e;unfold KB.Wn;cases T:Qh i a b with
 |none=>rw[T]at h;exact⟨VV.z,P',rfl,h⟩
 |some v=>rw[T]at h;exact⟨v,O',rfl,h⟩
def KC.rK(e:PE)(n:SN):PE:=match KC.Wn n.op (ja e n.a) (ja e n.b)with|some v=>e.put n.var.toNat v|none=>PE.zero
def KB.rK(e:PE)(n:SN):PE:=match KB.Wn n.op (ja e n.a) (ja e n.b)with|some v=>e.put n.var.toNat v|none=>PE.zero
def qs3{p:Prop}(h:p:=by
 obtain⟨m,t,f,g⟩:=My n.op (ja e n.a) (ja e n.b) qU qT;obtain⟨k,l⟩:∃k:Nat,n.var=(k:Int):=⟨n.var.toNat,I⟩;have hk:k<8:=I;have s:n.var.toNat=k:=I;have HN:J (rK e n=if t then e.put k m else PE.zero):=by show _=_;(first|unfold KC.rK|unfold KB.rK);rw[f,s];cases t<;>rfl
 have U:=hid (λW=>jv e n.a W ha);have C:=hid (λW=>jv e n.b W hb);have u:=hid g;have o:=hid (λW=>kA e k m W hk);have z:=vw;have N:=vu;generalize rK e n=ne at HN⊢;generalize ja e n.a=z at U u;generalize ja e n.b=z at C u;clear f g ha hb qU qT s hv;obtain⟨x,s,op,j,f,T,g⟩:=n;simp only at l;subst l;simp only[aR,KC.qv,KB.qv]at U C u o⊢;go_enter qF9,aeE;go_upto_region 1 with fail
 have B:=hid (A (X2 w (k' (θ (aU e)) cA) (k' #[m' bu,i' wa wl wc,G x,G k,G op,G j,j' f.aS,G f.var,G f.cq,j' T.aS,G T.var,G T.cq,i' ea el ec,m' g] 152) (k' kV cA)) (nS w (k' (θ (aU e)) cA) (k' #[m' bu,i' wa wl wc,G x,G k,G op,G j,j' f.aS,G f.var,G f.cq,j' T.aS,G T.var,G T.cq,i' ea el ec,m' g] 152) (k' kV cA)));generalize(((w.alloc (k' (θ (aU e)) cA)).alloc (k' #[m' bu,i' wa wl wc,G x,G k,G op,G j,j' f.aS,G f.var,G f.cq,j' T.aS,G T.var,G T.cq,i' ea el ec,m' g] 152)).alloc (k' kV cA))=V at B⊢;have g:J (∀W',Below V.1.size V W'->χ W' (O (δ w.1+1) 3)=B' (G k)/\χ W' (O (δ w.1+1) 4)=B' (G op)/\χ W' (O (δ w.1+1) 5)=B' (G j)/\χ W' (O (δ w.1+1) 6)=B' (j' f.aS)/\χ W' (O (δ w.1+1) 7)=B' (G f.var)/\χ W' (O (δ w.1+1) 8)=B' (G f.cq)/\χ W' (O (δ w.1+1) 9)=B' (j' T.aS)/\χ W' (O (δ w.1+1) 10)=B' (G T.var)/\χ W' (O (δ w.1+1) 11)=B' (G T.cq)):=by intro W' j;have F:=(M (aL j B.a.2.1)).1;exact⟨F 3,F 4,F 5,F 6,F 7,F 8,F 9,F 10,F 11⟩
 have E : δ w.1 + 2 < δ V.1 := blt B.o.1.2.2;refine wp_region_held_drew (S := λW' => Below V.1.size V W') au (aQ.drew) (λaM => ?_);refine tq 0 (.iface g! (l' #[])) ?_;refine tq 1 (o' (B' (O (δ w.1 + 1) 4))) ?_;refine tr 2 (G op) (λW' bN => g.o W' bN) ?_;refine tq 3 (.iface g! (l' #[])) ?_;refine tz 4 (l' (θ (aU e))) ?_ (y := yieldsIf_load_mid au _ _ rfl _ _ rfl _ _ (λW' bN => bG (aL bN B.o.1.1)) kU rfl au);refine tq 5 (o' (B' (O (δ w.1 + 1) 6))) ?_;refine tr 6 (l' #[j' f.aS, G f.var, G f.cq]) (λW' bN => g.o W' bN) ?_;refine tq 8 (.iface g! (l' #[])) ?_;refine tz 9 (l' (θ (aU e))) ?_ (y := yieldsIf_load_mid au _ _ rfl _ _ rfl _ _ (λW' bN => bG (aL bN B.o.1.1)) kU rfl au);refine tq 10 (o' (B' (O (δ w.1 + 1) 9))) ?_;refine tr 11 (l' (cT T.aS T.var T.cq)) (λW' bN => g.o W' bN) ?_;refine tq 13 (.func (.method "warrant/rules.compute") #[.iface g! (l' #[])] #[]) ?_;refine tq 14 (.func (.method "warrant/rules.compute") #[.iface g! (l' #[])] #[]) ?_;refine tq 15 (.iface g! (l' #[])) ?_;refine wpAnyH_ready (rs := [7, 20]) au ak ?_;refine AllReadyH.cons rfl (λK j => ?_) (AllReadyH.cons rfl (λK j => ?_) AllReadyH.nil);go_simp;refine(U.o _).mono ?_;rintro r f ⟨rfl,hb⟩
 first|(have g:=aL hb T.o;have T:=hid g;clear g)|(have g:f.1[δ V.1]?=B' (k' Ik i? (0,0)):=aL hb (by first|exact cv V _|exact cv V.drew _);have T:=hid g;clear g)|skip
 have D:J (Below V.1.size V f):=H ay hb;clear hb;refine j.out _ _ D.o (λaM=>?_);clear j K;refine pt ?_;refine wpAnyH_ready (rs:=[12,20]) au ak ?_;refine AllReadyH.cons rfl (λK j=>?_) (AllReadyH.cons rfl (λK j=>?_) AllReadyH.nil);go_simp;refine(C.o _).mono ?_;rintro r X ⟨rfl,hb⟩
 first|(have g:=aL hb T.o;have T:=hid g;clear g)|(have g:X.1[δ f.1]?=B' (k' Ik i? (0,0)):=aL hb (by first|exact cv f _|exact cv f.drew _);have T:=hid g;clear g)|skip
 have L:J (Below V.1.size V X):=H (H D.o ay) hb;clear hb;refine j.out _ _ L.o (λaM=>?_);clear j K;refine pt ?_;refine wpAnyH_ready (rs:=[16,20]) au ak ?_;refine AllReadyH.cons rfl (λK j=>?_) (AllReadyH.cons rfl (λK j=>?_) AllReadyH.nil);go_simp;refine(u.o _).mono ?_;rintro r E ⟨rfl,hb⟩
 first|(have g:=aL hb T.o;have T:=hid g;clear g)|(have g:E.1[δ X.1]?=B' (k' Ik i? (0,0)):=aL hb (by first|exact cv X _|exact cv X.drew _);have T:=hid g;clear g)|skip
 have l:J (Below V.1.size V E):=H (H L.o ay) hb;clear hb;refine j.out _ _ l.o (λaM=>?_);clear j K;refine pt ?_;refine tq 17 (t' #[l' #[(dM m),(dL m)],j' t]) ?_;refine tq 18 (l' #[(dM m),(dL m)]) ?_;refine tq 19 (j' t) ?_;refine r1 20 λK j=>?_;go_simp;refine j.out _ _ (H l.o ay) (λaM=>?_);clear j K;refine pt ?_;refine r1 21 λK j=>?_;go_simp;refine j.out _ _ (by first|exact((l.o.setCell (by show _<=δ E.1;first|exact aF|exact l.o.size) _).setCell (by show _<=δ E.1;first|exact aF|exact l.o.size) _)|exact H l.o ay) (λaM=>?_);clear j K;refine pt ?_;refine tq 22 (j' t) ?_;refine wpAnyH_done au ?_ _;rotate_left 1;go_simp;refine j.out _ _ (H L.o ay) (λaM=>?_);clear j K;refine pt ?_;refine r1 16 λK j=>?_;go_simp;refine(u.o _).mono ?_;rintro r E ⟨rfl,hb⟩
 first|(have g:=aL hb T.o;have T:=hid g;clear g)|(have g:E.1[δ X.1]?=B' (k' Ik i? (0,0)):=aL hb (by first|exact cv X _|exact cv X.drew _);have T:=hid g;clear g)|skip
 have l:J (Below V.1.size V E):=H (H L.o ay) hb;clear hb;refine j.out _ _ l.o (λaM=>?_);clear j K;refine pt ?_;refine tq 17 (t' #[l' #[(dM m),(dL m)],j' t]) ?_;refine tq 18 (l' #[(dM m),(dL m)]) ?_;refine tq 19 (j' t) ?_;refine r1 21 λK j=>?_;have N:=M T.o;go_simp;refine j.out _ _ (by first|exact((l.o.setCell (by show _<=δ X.1;first|exact aF|exact L.o.size) _).setCell (by show _<=δ X.1;first|exact aF|exact L.o.size) _)|exact H l.o ay) (λaM=>?_);clear j K;refine pt ?_;clear N;refine tq 22 (j' t) ?_;refine wpAnyH_done au ?_ _;rotate_left 1;go_simp;refine j.out _ _ (H D.o ay) (λaM=>?_);clear j K;refine pt ?_;refine r1 12 λK j=>?_;go_simp;refine(C.o _).mono ?_;rintro r X ⟨rfl,hb⟩
 first|(have g:=aL hb T.o;have T:=hid g;clear g)|(have g:X.1[δ f.1]?=B' (k' Ik i? (0,0)):=aL hb (by first|exact cv f _|exact cv f.drew _);have T:=hid g;clear g)|skip
 have L:J (Below V.1.size V X):=H (H D.o ay) hb;clear hb;refine j.out _ _ L.o (λaM=>?_);clear j K;refine pt ?_;refine r1 16 λK j=>?_;go_simp;refine(u.o _).mono ?_;rintro r E ⟨rfl,hb⟩
 first|(have g:=aL hb T.o;have T:=hid g;clear g)|(have g:E.1[δ X.1]?=B' (k' Ik i? (0,0)):=aL hb (by first|exact cv X _|exact cv X.drew _);have T:=hid g;clear g)|skip
 have l:J (Below V.1.size V E):=H (H L.o ay) hb;clear hb;refine j.out _ _ l.o (λaM=>?_);clear j K;refine pt ?_;refine tq 17 (t' #[l' #[(dM m),(dL m)],j' t]) ?_;refine tq 18 (l' #[(dM m),(dL m)]) ?_;refine tq 19 (j' t) ?_;refine r1 21 λK j=>?_;have N:=M T.o;go_simp;refine j.out _ _ (by first|exact((l.o.setCell (by show _<=δ f.1;first|exact aF|exact D.o.size) _).setCell (by show _<=δ f.1;first|exact aF|exact D.o.size) _)|exact H l.o ay) (λaM=>?_);clear j K;refine pt ?_;clear N;refine tq 22 (j' t) ?_;refine wpAnyH_done au ?_ _;rotate_left 1;go_simp;refine j.out _ _ ay (λaM=>?_);clear j K;refine pt ?_;refine r1 7 λK j=>?_;go_simp;refine(U.o _).mono ?_;rintro r f ⟨rfl,hb⟩
 first|(have g:=aL hb T.o;have T:=hid g;clear g)|(have g:f.1[δ V.1]?=B' (k' Ik i? (0,0)):=aL hb (by first|exact cv V _|exact cv V.drew _);have T:=hid g;clear g)|skip
 have D:J (Below V.1.size V f):=H ay hb;clear hb;refine j.out _ _ D.o (λaM=>?_);clear j K;refine pt ?_;refine r1 12 λK j=>?_;go_simp;refine(C.o _).mono ?_;rintro r X ⟨rfl,hb⟩
 first|(have g:=aL hb T.o;have T:=hid g;clear g)|(have g:X.1[δ f.1]?=B' (k' Ik i? (0,0)):=aL hb (by first|exact cv f _|exact cv f.drew _);have T:=hid g;clear g)|skip
 have L:J (Below V.1.size V X):=H (H D.o ay) hb;clear hb;refine j.out _ _ L.o (λaM=>?_);clear j K;refine pt ?_;refine r1 16 λK j=>?_;go_simp;refine(u.o _).mono ?_;rintro r E ⟨rfl,hb⟩
 first|(have g:=aL hb T.o;have T:=hid g;clear g)|(have g:E.1[δ X.1]?=B' (k' Ik i? (0,0)):=aL hb (by first|exact cv X _|exact cv X.drew _);have T:=hid g;clear g)|skip
 have l:J (Below V.1.size V E):=H (H L.o ay) hb;clear hb;refine j.out _ _ l.o (λaM=>?_);clear j K;refine pt ?_;refine tq 17 (t' #[l' #[(dM m),(dL m)],j' t]) ?_;refine tq 18 (l' #[(dM m),(dL m)]) ?_;refine tq 19 (j' t) ?_;refine r1 21 λK j=>?_;have N:=M T.o;go_simp;refine j.out _ _ (by exact((l.o.setCell aF _).setCell aF _)) (λaM=>?_);clear j K;refine pt ?_;clear N;refine tq 22 (j' t) ?_;refine wpAnyH_done au ?_ _
 all_goals
  first
  | (
    have HX:J (Below V.1.size V (κ (κ E (O V.1.size 0) (dM m)) (O V.1.size 1) (dL m))/\(κ (κ E (O V.1.size 0) (dM m)) (O V.1.size 1) (dL m)).1[δ V.1]?=B' (k' #[(dM m),(dL m)] i? (0,0))):=⟨(l.o.setCell aF _).setCell aF _,by rw[aq (aq (show E.1[δ V.1]?=B' (k' Ik i? (0,0))from T.o) _) _];rfl⟩
    generalize(κ (κ E (O V.1.size 0) (dM m)) (O V.1.size 1) (dL m))=Y at HX⊢)
  | (
    have HX:J (Below V.1.size V (κ (κ E (O f.1.size 0) (dM m)) (O f.1.size 1) (dL m))/\(κ (κ E (O f.1.size 0) (dM m)) (O f.1.size 1) (dL m)).1[δ f.1]?=B' (k' #[(dM m),(dL m)] i? (0,0))):=⟨(l.o.setCell (D.o.size) _).setCell (D.o.size) _,by rw[aq (aq (show E.1[δ f.1]?=B' (k' Ik i? (0,0))from T.o) _) _];rfl⟩
    generalize(κ (κ E (O f.1.size 0) (dM m)) (O f.1.size 1) (dL m))=Y at HX⊢)
  | (
    have HX:J (Below V.1.size V (κ (κ E (O X.1.size 0) (dM m)) (O X.1.size 1) (dL m))/\(κ (κ E (O X.1.size 0) (dM m)) (O X.1.size 1) (dL m)).1[δ X.1]?=B' (k' #[(dM m),(dL m)] i? (0,0))):=⟨(l.o.setCell (L.o.size) _).setCell (L.o.size) _,by rw[aq (aq (show E.1[δ X.1]?=B' (k' Ik i? (0,0))from T.o) _) _];rfl⟩
    generalize(κ (κ E (O X.1.size 0) (dM m)) (O X.1.size 1) (dL m))=Y at HX⊢)
  | (
    have HX:J (Below V.1.size V (E.alloc (k' #[(dM m),(dL m)] i?))/\(E.alloc (k' #[(dM m),(dL m)] i?)).1[δ E.1]?=B' (k' #[(dM m),(dL m)] i? (0,0))):=⟨H l.o bf,bV⟩
    generalize(E.alloc (k' #[(dM m),(dL m)] i?))=Y at HX⊢)
  cases t
  ·have s:J (ne=PE.zero):=HN.o;have U:=cY (n:=17) (aL HX.a B.a.2.2) rfl;go_wp2_with (refine wpList_store_mid rfl cA (.tmp 6) (.tmp 31) rfl (δ w.1+1+1) 0 (θ (aU PE.zero)) rfl rfl U au (bH _) ?_);have hq:=df (cs:=vx) (aL HX.a B.a.2.2) (vs:=aU PE.zero) rfl;have C:=run_loadVar_mid (P:=Tryz.prog) (ψ Y (δ w.1+1+1) 0 (aU PE.zero)) (δ w.1+1+1) 0 cA (aU PE.zero) _ (bG hq) kU rfl au;refine aC (v:=l' (θ (aU PE.zero))) (by simp[results,results313,results323,C,Act.put,asAddr]) rfl ⟨by rw[s.o],dF I _ _ _ (H B.A HX.a)⟩
  have s:J (ne=e.put k m):=HN.o;have f:=M (aL HX.a B.a.2.1);have W:=M HX.A;go_wp2_with (first|(refine wpList_load_mid rfl cA (.tmp 4) rfl w.1.size 0 rfl (aU e) _ (bG (aL HX.a B.a.1)) kU rfl au ?_)|((first|go_at_call 309 | go_at_call 319);refine(o.o _).mono ?_;rintro r f ⟨rfl,z⟩;have Y:=hid (H HX.a z);clear z;have U:=cY (n:=17) (aL Y.o B.a.2.2) rfl)|(refine wpList_store_mid rfl cA (.tmp 6) (.tmp 36) rfl (δ w.1+1+1) 0 (θ (aU (e.put k m))) rfl rfl U au (bH _) ?_));have hq:=df (cs:=vx) (aL Y.o B.a.2.2) (vs:=aU (e.put k m)) rfl;have C:=run_loadVar_mid (P:=Tryz.prog) (ψ f (δ w.1+1+1) 0 (aU (e.put k m))) (δ w.1+1+1) 0 cA (aU (e.put k m)) _ (bG hq) kU rfl au
  refine aC (v:=l' (θ (aU (e.put k m)))) (by simp[results,results313,results323,C,Act.put,asAddr]) rfl ⟨by rw[s.o],dF I _ _ _ (H B.A Y.o)⟩):p:=h
open KC in
def KC.sZ(e:PE)(bu:ByteArray)(wa ea:Option Addr)(wl wc el ec:Nat)(n:SN)(w:World)(hv:0<=n.var/\n.var<8)(ha:n.a.aS=true->0<=n.a.var/\n.a.var<8)(hb:n.b.aS=true->0<=n.b.var/\n.b.var<8)(qU:dT (bZ (ja e n.a)))(qT:dT (bZ (ja e n.b))):
 Cl 313 #[.iface 328 (.agg #[]),.agg (θ (KC.aU e)),.agg (aR bu (.slice wa wl wc) n (.slice ea el ec))] w (Rb w (.agg (θ (KC.aU (KC.rK e n))))):=by exact qs3
open KB in
def KB.sZ(e:PE)(bu:ByteArray)(wa ea:Option Addr)(wl wc el ec:Nat)(n:SN)(w:World)(hv:0<=n.var/\n.var<8)(ha:n.a.aS=true->0<=n.a.var/\n.a.var<8)(hb:n.b.aS=true->0<=n.b.var/\n.b.var<8)(qU:dT (bZ (ja e n.a)))(qT:dT (bZ (ja e n.b))):
 Cl 323 #[.iface 331 (.agg #[]),.agg (θ (KB.aU e)),.agg (aR bu (.slice wa wl wc) n (.slice ea el ec))] w (Rb w (.agg (θ (KB.aU (KB.rK e n))))):=by exact qs3
end
section
variable {i:Nat} {L:Nat->Bool} {l:List Nat}
section
variable {P:Program} {ops:Array Oper} {Q:Exit->Act->u'->Prop} {md:Region.Mode} {S:u'->Prop}
def Ip(listed:Array Bool)(i:Nat):Bool:=listed.getD i O'
def left(listed:Array Bool)(n:Nat):Nat:=(range n).countP λi=>!Ip listed i
def ac9(md:Region.Mode)(ops:Array Oper):Bool:=(range ops.size).all λi=>match ops[i]? with|some o=>o.after.all λe=>!Region.binds md e||decide (e.on<i)|none=>O'
def MS(g:Array Bool)(i:Nat):Ip (g.setIfInBounds i O')=λj=>j==i||Ip g j:=by
 funext j;unfold Ip;by_cases h:j=i
 ·subst h;by_cases a:j<g.size
  ·simp[a]
  simp[wV (Nat.le_of_not_lt a)]
 rw[getD_set_ne O' (λe=>h e.symm),b?.2 h,iE]
def zu{p q:Nat->Bool}{i:Nat}:∀(l:List Nat),l.Nodup->i∈l->p i=O'->q i=P'->(∀j,j≠i->q j=p j)->l.countP q+1=l.countP p
 |[],_,h,_,_,_=>by cases h
 |x::l,K,h,C,a,h3=>by
  rw[uf]at K;rw[countP_cons,countP_cons];by_cases e:x=i
  ·subst e;rw[C,a];have:l.countP q=l.countP p:=countP_congr λj f=>by rw[h3 j (λe=>K.1 (e▸f))]
   simp[this]
  have d:i∈l:=by rcases dr.1 h with h|h;(· exact absurd h.symm e);exact h
  have:=zu l K.2 d C a h3;rw[h3 x e];omega
def Gj{g:Array Bool}(a:i<n)(h:Ip g i=P'):left (g.setIfInBounds i O') n+1=left g n:=by rw[left,MS];exact zu _ nodup_range (eQ.2 a) (by simp[h]) ak (λj f=>by simp[b?.2 f])
def agx(b:(Nat->Bool)->Act->u'->Prop)(d:ac9 md ops=O')(u:∀L a w,b L a w->S w)
  (step:∀(i:Nat) (o:Oper) (L:Nat->Bool) (a:Act) (w:u'),ops[i]?=B' o->L i=P'->(∀e∈o.after,Region.binds md e=O'->L e.on=O')->b L a w->∀K:Act->u'->Prop,Shut (∀z p,b (λj=>j==i||L j) z p->K z p)->if Region.wanted o (yielded ops a.tmps)=O' then Oper.wp P o a w K Q else K (a.put o.dst undef) w)
  (done:∀L a w,(∀i,i<ops.size->L i=O')->b L a w->Q .normal a w):
  ∀(c:Nat) (g:Array Bool) (a:Act) (w:u'),left g ops.size<=c->b (Ip g) a w->wpAnyH P md ops Q S c g a w:=by
 have W:∀(g:Array Bool),Region.ready md ops g=[]->∀i,i<ops.size->Ip g i=O':=by
  intro g j i;induction i using Nat.strongRecOn with
  |ind i B=>
   intro h;cases X:Ip g i with
   |true=>rfl
   |false=>
    exfalso
    have r:i∈Region.ready md ops g:=by
     refine q7.2 ⟨X,ops[i],oQ h,λe l q=>?_⟩;unfold ac9 at d;rw[cF]at d;have C:=d i (eQ.2 h);rw[oQ h]at C;simp only[Array.all_eq_true]at C;obtain⟨k,d,rfl⟩:=Array.getElem_of_mem l;have b:=C k d;rw[q]at b;have N:=I' b;have d:=B _ N (Nat.lt_trans N h);unfold Ip at d;rcases wU ops[i].after[k].on g.size with s|s
     ·simp[s]at d⊢;exact d
     exfalso;unfold Ip at X;rcases wU i g.size with f|f
     ·omega
     simp[wV f]at X
    rw[j]at r;cases r
 intro c;induction c with
 |zero=>
  intro g a w Y b
  have R:∀i,i<ops.size->Ip g i=O':=λi h=>by
   cases X:Ip g i with
   |true=>rfl
   |false=>have:=Gj h X;omega
  refine⟨?_,done _ a w R b⟩;cases j:Region.ready md ops g with
  |nil=>rfl
  |cons x r=>
   exfalso;have F:x∈Region.ready md ops g:=by rw[j];simp
   obtain⟨C,o,d,_⟩:=q7.1 F;have:=R x (aY.1 d).1;unfold Ip at this;rw[C]at this;cases this
 |succ c B=>
  intro g a w Y b;refine⟨λj=>done _ a w (W g j) b,λi h=>?_⟩;obtain⟨C,o,d,R⟩:=q7.1 h;refine wpOp_step d (λK f=>step i o (Ip g) a w d C (λe l q=>?_) b K (λz p c=>f z p ⟨u _ _ _ c,B _ z p ?_ (by rw[MS];exact c)⟩))
  ·have:=R e l q;unfold Ip;rcases wU e.on g.size with s|s
   ·simp[s]at this⊢;exact this
   simp[wV s]at this
  have:=Gj (aY.1 d).1 C;omega
def afX(J:Act->(Nat->Bool)->Act->u'->Prop){fuel:Nat}{listed:Array Bool}{a:Act}{w:u'}(ha:ac9 md ops=O':=by kernel_rfl)(hf:decide (left listed ops.size<=fuel)=O':=by kernel_rfl)(h0:J a (Ip listed) a w)(hS:∀L b v,J a L b v->S v)
  (step:∀(i:Nat) (o:Oper) (L:Nat->Bool) (b:Act) (v:u'),ops[i]?=B' o->L i=P'->(∀e∈o.after,Region.binds md e=O'->L e.on=O')->J a L b v->∀K:Act->u'->Prop,Shut (∀a' w',J a (λj=>j==i||L j) a' w'->K a' w')->if Region.wanted o (yielded ops b.tmps)=O' then Oper.wp P o b v K Q else K (b.put o.dst undef) v)
  (done:∀L b v,(∀i,i<ops.size->L i=O')->J a L b v->Q .normal b v):wpAnyH P md ops Q S fuel listed a w:=
 agx (J a) ha hS step done fuel listed a w (rq hf) h0
end
def pick(h:(range n).all (λj=>L j||l.contains j)=O')(a:i<n)(C:L i=P'):i∈l:=by rw[cF]at h;have:=h i (eQ.2 a);rw[C,iE]at this;simpa using this
def om(h:(range n).all (λj=>L j||l.contains j)=true):(range n).all (λj=>(j==i||L j)||l.contains j)=O':=by rw[cF]at h⊢;intro j f;have:=h j f;rw[q9,this,Bool.or_true]
end
section
def wD(v:VV)(b:BB):VV:=⟨v.any,b.1,b.2⟩
def KC.OM(ts:Int)(so:Bool)(a b:VV):Option (VV×VV):=if a.any||b.any||(ru ts a.lo b.lo==so) then B' (a,b) else C'
def KB.OM(ts:Int)(so:Bool)(a b:VV):Option (VV×VV):=if (cM ts so (bZ a) (bZ b)).2.2 then B' (wD a (cM ts so (bZ a) (bZ b)).1,wD b (cM ts so (bZ a) (bZ b)).2.1) else C'
def KC.MA(R:Int)(g:Bool)(a b:VV)(_:dT (bZ a))(_:dT (bZ b)):∃x y t,KC.OM R g a b=(if t then B' (x,y) else C')/\∀w,Cl 382 #[l' #[],G R,j' g,KC.qv a,KC.qv b] w (Rb w (t' #[KC.qv x,KC.qv y,j' t])):=⟨a,b,_,rfl,λw=>Gs (l' #[]) R g a.any b.any a.lo b.lo w rfl⟩
def KB.MA(R:Int)(g:Bool)(a b:VV)(d:dT (bZ a))(e:dT (bZ b)):∃x y t,KB.OM R g a b=(if t then B' (x,y) else C')/\∀w,Cl 389 #[l' #[],G R,j' g,KB.qv a,KB.qv b] w (Rb w (t' #[KB.qv x,KB.qv y,j' t])):=⟨_,_,_,rfl,λw=>Hv (l' #[]) R g (bZ a) (bZ b) w rfl d e⟩
def KC.rL(e:PE)(n:SN)(so:Bool):PE:=match KC.OM n.test so (ja e n.a) (ja e n.b)with|some v=>KC.gx (KC.gx e n.a v.1) n.b v.2|none=>PE.zero
def KB.rL(e:PE)(n:SN)(so:Bool):PE:=match KB.OM n.test so (ja e n.a) (ja e n.b)with|some v=>KB.gx (KB.gx e n.a v.1) n.b v.2|none=>PE.zero
def qs4{p:Prop}(h:p:=by
 obtain⟨F,yy,t,f,g⟩:=MA n.test so (ja e n.a) (ja e n.b) qU qT;have HN:J (rL e n so=if t then gx (gx e n.a F) n.b yy else PE.zero):=by show _=_;(first|unfold KC.rL|unfold KB.rL);rw[f];cases t<;>rfl
 have Vv:=hid (λW=>jv e n.a W ha);have Eb:=hid (λW=>jv e n.b W hb);have u:=hid g;have HN1:=hid (λW=>pk e n.a F W ha);have s:=hid (λW=>pk (gx e n.a F) n.b yy W hb);have U:=x6;have U:=x5;generalize rL e n so=ne at HN⊢;generalize ja e n.a=z at Vv u;generalize ja e n.b=vb at Eb u;generalize gx (gx e n.a F) n.b yy=e2 at HN s;generalize gx e n.a F=V at HN1 s;clear f g ha hb qU qT;obtain⟨x,var,op,test,nA,T,bB⟩:=n;simp only[aR,KC.qv,KB.qv]at Vv Eb u HN1 s⊢;go_enter aeT,aeD;go_upto_region 1 with fail
 have B:=hid (A (X2 w (k' (θ (aU e)) cA) (k' #[m' bu,i' wa wl wc,G x,G var,G op,G test,j' nA.aS,G nA.var,G nA.cq,j' T.aS,G T.var,G T.cq,i' ea el ec,m' bB] 152) (k' kV cA)) (nS w (k' (θ (aU e)) cA) (k' #[m' bu,i' wa wl wc,G x,G var,G op,G test,j' nA.aS,G nA.var,G nA.cq,j' T.aS,G T.var,G T.cq,i' ea el ec,m' bB] 152) (k' kV cA)));generalize(((w.alloc (k' (θ (aU e)) cA)).alloc (k' #[m' bu,i' wa wl wc,G x,G var,G op,G test,j' nA.aS,G nA.var,G nA.cq,j' T.aS,G T.var,G T.cq,i' ea el ec,m' bB] 152)).alloc (k' kV cA))=V at B⊢;have U:δ w.1+2<δ V.1:=blt B.a.2.2
 go_cut [9,10,11] from 12 (λpa pb okv U=>∃l bb:Nat,pa=o' (B' (O l 0))/\pb=o' (B' (O bb 0))/\okv=j' t/\J (Bl V U/\U.1[l]?=B' (k' #[(dM F),(dL F)] i? (0,0))/\U.1[bb]?=B' (k' #[(dM yy),(dL yy)] i? (0,0))))
 case first=>
  refine wp_region_held_drew (S := λW' => Bl V W') au (aQ.drew) (λaM => ?_);refine tq 0 (.iface g! (l' #[])) ?_;refine tq 1 (o' (B' (O (δ w.1 + 1) 5))) ?_;refine tr 2 (G test) (λW' bN => (M (aL bN B.o.1.2.1)).1) ?_;refine tq 3 (j' so) ?_;refine tq 4 (.iface g! (l' #[])) ?_;refine tz 5 (l' (θ (aU e))) ?_ (y := yieldsIf_load_mid au _ _ rfl _ _ rfl _ _ (λW' bN => bG (aL bN B.o.1.1)) kU rfl au);refine tq 6 (o' (B' (O (δ w.1 + 1) 6))) ?_;refine tr 7 (l' (cT nA.aS nA.var nA.cq)) (λW' bN => (M (aL bN B.o.1.2.1)).1) ?_;refine tq 9 (.iface g! (l' #[])) ?_;refine tz 10 (l' (θ (aU e))) ?_ (y := yieldsIf_load_mid au _ _ rfl _ _ rfl _ _ (λW' bN => bG (aL bN B.o.1.1)) kU rfl au);refine tq 11 (o' (B' (O (δ w.1 + 1) 9))) ?_;refine tr 12 (l' (cT T.aS T.var T.cq)) (λW' bN => (M (aL bN B.o.1.2.1)).1) ?_;refine tq 14 (.func (.method "warrant/rules.assume") #[.iface g! (l' #[])] #[]) ?_;refine tq 15 (.func (.method "warrant/rules.assume") #[.iface g! (l' #[])] #[]) ?_;refine tq 16 (.iface g! (l' #[])) ?_;refine afX (λU L a W => ∃ (LQ LP LO P4 LN LM LL x9 LR I? : A') (l bb : Nat), a = ((((((((((U.put (B' 21) LQ).put (B' 26) LP).put (B' 30) LO).put (B' 12) P4).put (B' 31) LN).put (B' 32) LM).put (B' 33) LL).put (B' 9) x9).put (B' 10) LR).put (B' 11) I?) /\ J ((range 27).all (λj => L j || [8, 13, 17, 18, 19, 20, 21, 22, 23, 24, 25, 26].contains j) = true /\ Bl V W /\ (L 8 = true -> LQ = l' #[(dM z), (dL z)]) /\ (L 13 = true -> LP = l' #[(dM vb), (dL vb)]) /\ (L 17 = true -> LO = t' #[l' #[(dM F), (dL F)], l' #[(dM yy), (dL yy)], j' t]) /\ (L 18 = true -> P4 = t' #[l' #[(dM F), (dL F)], l' #[(dM yy), (dL yy)], j' t]) /\ (L 19 = true -> LN = l' #[(dM F), (dL F)]) /\ (L 20 = true -> LM = l' #[(dM yy), (dL yy)]) /\ (L 21 = true -> LL = j' t) /\ (L 26 = true -> I? = j' t) /\ (L 22 = true -> x9 = o' (B' (O l 0)) /\ δ V.1 <= l /\ W.1[l]? = B' (k' (if L 24 then #[(dM F), (dL F)] else Ik) i? (0, 0))) /\ (L 23 = true -> LR = o' (B' (O bb 0)) /\ δ V.1 <= bb /\ W.1[bb]? = B' (k' (if L 25 then #[(dM yy), (dL yy)] else Ik) i? (0, 0))) /\ (L 22 = true -> L 23 = true -> l ≠ bb) /\ (L 24 = true -> L 22 = true) /\ (L 25 = true -> L 23 = true))) (h0 := ?_) (hS := ?_) (step := ?_) (done := ?_)
  ·refine⟨undef,undef,undef,undef,undef,undef,undef,undef,undef,undef,0,0,?_,au,aM,?_⟩
   ·simp only[Act.put,cJ,dN,cO]
   refine⟨?_,?_,?_,?_,?_,?_,?_,?_,?_,?_,?_,?_,?_⟩<;>(intro h;cases h)
  ·rintro L b v ⟨_,_,_,_,_,_,_,_,_,_,_,_,_,h⟩;exact h.b
  ·clear aM;rintro i o L b W hi C TQ ⟨LQ,LP,LO,P4,LN,LM,LL,x9,LR,I?,l,bb,rfl,N⟩ K hK;have f:=pick N.a (aY.1 hi).1 C;obtain⟨j1,g,a8,IB,a17,IA,NK,a20,a21,a26,D,E,ne,Ob,Oa⟩:=N.o;simp only[dr,ke,jf]at f;rcases f with rfl|rfl|rfl|rfl|rfl|rfl|rfl|rfl|rfl|rfl|rfl|rfl
   all_goals
    cases (show some (⟨_,_,_,_,_,_⟩:Oper)=B' o from hi);simp only[Act.put,cJ,dN,cO]
   ·go_simp;refine(Vv.o _).mono ?_;rintro r X ⟨rfl,hb⟩;exact hK.out _ _ ⟨l' #[(dM z),(dL z)],LP,LO,P4,LN,LM,LL,x9,LR,I?,l,bb,by simp only[Act.put,cJ,dN,cO],om j1,H g hb,λ_=>rfl,IB,a17,IA,NK,a20,a21,a26,λh=>⟨(D h).1,(D h).2.1,aL hb (D h).2.2⟩,λh=>⟨(E h).1,(E h).2.1,aL hb (E h).2.2⟩,ne,Ob,Oa⟩
   ·go_simp;refine(Eb.o _).mono ?_;rintro r X ⟨rfl,hb⟩;exact hK.out _ _ ⟨LQ,l' #[(dM vb),(dL vb)],LO,P4,LN,LM,LL,x9,LR,I?,l,bb,by simp only[Act.put,cJ,dN,cO],om j1,H g hb,a8,λ_=>rfl,a17,IA,NK,a20,a21,a26,λh=>⟨(D h).1,(D h).2.1,aL hb (D h).2.2⟩,λh=>⟨(E h).1,(E h).2.1,aL hb (E h).2.2⟩,ne,Ob,Oa⟩
   ·obtain rfl:=a8 (TQ ⟨8,.data⟩ ak rfl);obtain rfl:=IB (TQ ⟨13,.data⟩ ak rfl);go_simp;refine(u.o _).mono ?_;rintro r X ⟨rfl,hb⟩;exact hK.out _ _ ⟨l' #[(dM z),(dL z)],l' #[(dM vb),(dL vb)],t' #[l' #[(dM F),(dL F)],l' #[(dM yy),(dL yy)],j' t],P4,LN,LM,LL,x9,LR,I?,l,bb,by simp only[Act.put,cJ,dN,cO],om j1,H g hb,a8,IB,λ_=>rfl,IA,NK,a20,a21,a26,λh=>⟨(D h).1,(D h).2.1,aL hb (D h).2.2⟩,λh=>⟨(E h).1,(E h).2.1,aL hb (E h).2.2⟩,ne,Ob,Oa⟩
   ·obtain rfl:=a17 (TQ ⟨17,.data⟩ ak rfl);go_simp;exact hK.out _ _ ⟨LQ,LP,t' #[l' #[(dM F),(dL F)],l' #[(dM yy),(dL yy)],j' t],t' #[l' #[(dM F),(dL F)],l' #[(dM yy),(dL yy)],j' t],LN,LM,LL,x9,LR,I?,l,bb,by simp only[Act.put,cJ,dN,cO],om j1,g,a8,IB,a17,λ_=>rfl,NK,a20,a21,a26,D,E,ne,Ob,Oa⟩
   ·obtain rfl:=IA (TQ ⟨18,.data⟩ ak rfl);go_simp;exact hK.out _ _ ⟨LQ,LP,LO,t' #[l' #[(dM F),(dL F)],l' #[(dM yy),(dL yy)],j' t],l' #[(dM F),(dL F)],LM,LL,x9,LR,I?,l,bb,by simp only[Act.put,cJ,dN,cO],om j1,g,a8,IB,a17,IA,λ_=>rfl,a20,a21,a26,D,E,ne,Ob,Oa⟩
   ·obtain rfl:=IA (TQ ⟨18,.data⟩ ak rfl);go_simp;exact hK.out _ _ ⟨LQ,LP,LO,t' #[l' #[(dM F),(dL F)],l' #[(dM yy),(dL yy)],j' t],LN,l' #[(dM yy),(dL yy)],LL,x9,LR,I?,l,bb,by simp only[Act.put,cJ,dN,cO],om j1,g,a8,IB,a17,IA,NK,λ_=>rfl,a21,a26,D,E,ne,Ob,Oa⟩
   ·obtain rfl:=IA (TQ ⟨18,.data⟩ ak rfl);go_simp;exact hK.out _ _ ⟨LQ,LP,LO,t' #[l' #[(dM F),(dL F)],l' #[(dM yy),(dL yy)],j' t],LN,LM,j' t,x9,LR,I?,l,bb,by simp only[Act.put,cJ,dN,cO],om j1,g,a8,IB,a17,IA,NK,a20,λ_=>rfl,a26,D,E,ne,Ob,Oa⟩
   ·have hf:L 24=false:=by cases h:L 24;(· rfl);exact absurd (Ob h) (by rw[C];decide)
    go_simp;exact hK.out _ _ ⟨LQ,LP,LO,P4,LN,LM,LL,o' (dO W.1.size),LR,I?,δ W.1,bb,by simp only[Act.put,cJ,dN,cO],om j1,H g bf,a8,IB,a17,IA,NK,a20,a21,a26,λ_=>⟨rfl,g.size,by show _=B' (k' (if L 24=true then _ else _) _ _);rw[hf];exact bV⟩,λh=>⟨(E h).1,(E h).2.1,aL bf (E h).2.2⟩,λ_ h=>Nat.ne_of_gt (blt (E h).2.2),λh=>absurd (hf.symm.trans h) aj,Oa⟩
   ·have hf:L 25=false:=by cases h:L 25;(· rfl);exact absurd (Oa h) (by rw[C];decide)
    go_simp;exact hK.out _ _ ⟨LQ,LP,LO,P4,LN,LM,LL,x9,o' (dO W.1.size),I?,l,δ W.1,by simp only[Act.put,cJ,dN,cO],om j1,H g bf,a8,IB,a17,IA,NK,a20,a21,a26,λh=>⟨(D h).1,(D h).2.1,aL bf (D h).2.2⟩,λ_=>⟨rfl,g.size,by show _=B' (k' (if L 25=true then _ else _) _ _);rw[hf];exact bV⟩,λh _=>Nat.ne_of_lt (blt (D h).2.2),Ob,λh=>absurd (hf.symm.trans h) aj⟩
   ·have Tu:L 22=true:=TQ ⟨22,.data⟩ ak rfl;obtain⟨rfl,f,BU⟩:=D Tu;obtain rfl:=NK (TQ ⟨19,.data⟩ ak rfl);rw[C,aA aj]at BU;have k1:=(M BU).1;have k2:=(M BU).2;go_simp;exact hK.out _ _ ⟨LQ,LP,LO,P4,l' #[(dM F),(dL F)],LM,LL,o' (B' (O l 0)),LR,I?,l,bb,by simp only[Act.put,cJ,dN,cO],om j1,(g.setCell f _).setCell f _,a8,IB,a17,IA,NK,a20,a21,a26,λ_=>⟨rfl,f,by rw[aq (aq BU _) _];rfl⟩,λh=>⟨(E h).1,(E h).2.1,(aJ (λe=>ne Tu h e.symm)).trans ((aJ (λe=>ne Tu h e.symm)).trans (E h).2.2)⟩,ne,λ_=>Tu,Oa⟩
   ·have To:L 23=true:=TQ ⟨23,.data⟩ ak rfl;obtain⟨rfl,f,BU⟩:=E To;obtain rfl:=a20 (TQ ⟨20,.data⟩ ak rfl);rw[C,aA aj]at BU;have k1:=(M BU).1;have k2:=(M BU).2;go_simp;exact hK.out _ _ ⟨LQ,LP,LO,P4,LN,l' #[(dM yy),(dL yy)],LL,x9,o' (B' (O bb 0)),I?,l,bb,by simp only[Act.put,cJ,dN,cO],om j1,(g.setCell f _).setCell f _,a8,IB,a17,IA,NK,a20,a21,a26,λh=>⟨(D h).1,(D h).2.1,(aJ (ne h To)).trans ((aJ (ne h To)).trans (D h).2.2)⟩,λ_=>⟨rfl,f,by rw[aq (aq BU _) _];rfl⟩,ne,Ob,λ_=>To⟩
   obtain rfl:=a21 (TQ ⟨21,.data⟩ ak rfl);go_simp;exact hK.out _ _ ⟨LQ,LP,LO,P4,LN,LM,j' t,x9,LR,j' t,l,bb,by simp only[Act.put,cJ,dN,cO],om j1,g,a8,IB,a17,IA,NK,a20,a21,λ_=>rfl,D,E,ne,Ob,Oa⟩
  clear aM;rintro L b W afw ⟨LQ,LP,LO,P4,LN,LM,LL,x9,LR,I?,l,bb,rfl,N⟩;obtain⟨j1,g,a8,IB,a17,IA,NK,a20,a21,a26,D,E,ne,Ob,Oa⟩:=N.o;have hl:=λi (h:i<27)=>afw i h;obtain⟨rfl,-,h1⟩:=D (hl 22 aj);obtain⟨rfl,-,h2⟩:=E (hl 23 aj);obtain rfl:=a26 (hl 26 aj);rw[hl 24 aj,aB rfl]at h1;rw[hl 25 aj,aB rfl]at h2;have f:=hid (A g (A h1 h2));clear j1 g a8 IB a17 IA NK a20 a21 a26 D E ne Ob Oa hl afw h1 h2;simp only[Act.put,cJ,dN,cO];go_wp2_with fail
  go_meet
  exact⟨l,bb,rfl,rfl,rfl,f.o⟩
 obtain⟨l,bb,rfl,rfl,rfl,Y⟩:=hcut
 rename u'=>X4
 have f:=Y.a.size;cases t
 ·have f:J (ne=PE.zero):=HN.o;have U:=cY (n:=17) (aL Y.a B.a.2.2) rfl;go_wp2_with (refine wpList_store_mid rfl cA (.tmp 8) (.tmp 36) rfl (δ w.1+1+1) 0 (θ (aU PE.zero)) rfl rfl U au (bH _) ?_);have hq:=df (cs:=vx) (aL Y.a B.a.2.2) (vs:=aU PE.zero) rfl;have C:=run_loadVar_mid (P:=Tryz.prog) (ψ X4 (δ w.1+1+1) 0 (aU PE.zero)) (δ w.1+1+1) 0 cA (aU PE.zero) _ (bG hq) kU rfl au;refine aC (v:=l' (θ (aU PE.zero))) (by simp[results,results315,results325,C,Act.put,asAddr]) rfl ⟨by rw[f.o],dF I _ _ _ (H B.A Y.a)⟩
 have t:J (ne=e2):=HN.o;have f:=aL Y.a B.a.1;have g:=aL Y.a B.a.2.1;have D:=aL Y.a B.a.2.2;have u:l≠δ w.1+1+1:=by rintro rfl;have h:=Y.b;rw[D]at h;simp at h
 have z:bb≠δ w.1+1+1:=by rintro rfl;have h:=Y.B;rw[D]at h;simp at h
 clear D;go_upto_region 4 with fail
 refine wp_region_held_drew (S:=λW'=>Bl w W'/\W'.1[δ w.1]?=B' (k' (θ (aU e)) cA (0,0))/\W'.1[δ w.1+1]?=B' (k' #[m' bu,i' wa wl wc,G x,G var,G op,G test,j' nA.aS,G nA.var,G nA.cq,j' T.aS,G T.var,G T.cq,i' ea el ec,m' bB] 152 (0,0))/\W'.1[l]?=B' (k' #[(dM F),(dL F)] i? (0,0))/\W'.1[bb]?=B' (k' #[(dM yy),(dL yy)] i? (0,0))) au ⟨(H B.A Y.a).drew,f,g,Y.b,Y.B⟩ (λaM=>?_);refine tq 0 (.iface g! (l' #[])) ?_;refine tq 1 (.iface g! (l' #[])) ?_;refine tz 2 (l' (θ (aU e))) ?_ (y:=yieldsIf_load_mid au _ _ rfl _ _ rfl _ _ (λW' bN=>bG bN.2.1) kU rfl au);refine tq 3 (o' (B' (O (δ w.1+1) 6))) ?_;refine tr 4 (l' (cT nA.aS nA.var nA.cq)) (λW' bN=>A ((M bN.2.2.1).1) (A ((M bN.2.2.2.1).1) ((M bN.2.2.2.2).1))) ?_;refine tr 5 (l' #[(dM F),(dL F)]) (λW' bN=>A ((M bN.2.2.1).1) (A ((M bN.2.2.2.1).1) ((M bN.2.2.2.2).1))) ?_;refine tq 7 (o' (B' (O (δ w.1+1) 9))) ?_;refine tr 8 (l' (cT T.aS T.var T.cq)) (λW' bN=>A ((M bN.2.2.1).1) (A ((M bN.2.2.2.1).1) ((M bN.2.2.2.2).1))) ?_;refine tr 9 (l' #[(dM yy),(dL yy)]) (λW' bN=>A ((M bN.2.2.1).1) (A ((M bN.2.2.2.1).1) ((M bN.2.2.2.2).1))) ?_;refine r1 6 λK hK=>?_;go_simp;refine(HN1.o _).mono ?_;rintro r f ⟨rfl,hb⟩;have g:J (Bl X4 f):=H ay hb;clear hb;refine hK.out _ _ ⟨H B.A (H Y.a g.o),aL g.o (aL Y.a B.a.1),aL g.o (aL Y.a B.a.2.1),aL g.o Y.b,aL g.o Y.B⟩ (λaM=>?_);clear hK K;refine pt ?_;refine r1 10 λK hK=>?_;go_simp;refine(s.o _).mono ?_;rintro r f ⟨rfl,hb⟩;have F:J (Bl X4 f):=H (H g.o ay) hb;clear hb;refine hK.out _ _ ⟨H B.A (H Y.a F.o),aL F.o (aL Y.a B.a.1),aL F.o (aL Y.a B.a.2.1),aL F.o Y.b,aL F.o Y.B⟩ (λaM=>?_);clear hK K;refine pt ?_;refine r1 11 λK hK=>?_;rw[aB au];have U:=cY (n:=17) (aL F.o (aL Y.a B.a.2.2)) rfl;refine wp_store_mid cA (.tmp 8) (.tmp 47) rfl (δ w.1+1+1) 0 (θ (aU e2)) rfl rfl U au (bH _) ?_;refine hK.out _ _ ⟨dF I _ _ _ (H B.A (H Y.a F.o)),(jI _ _ _ _ _ I).trans (aL F.o (aL Y.a B.a.1)),(jI _ _ _ _ _ I).trans (aL F.o (aL Y.a B.a.2.1)),(jI _ _ _ _ _ u).trans (aL F.o Y.b),(jI _ _ _ _ _ z).trans (aL F.o Y.B)⟩ (λaM=>?_);clear hK K;refine pt ?_;refine wpAnyH_done au ?_ _;go_wp2_with fail;have hq:=df (cs:=vx) (aL F.o (aL Y.a B.a.2.2)) (vs:=aU e2) rfl;have C:=run_loadVar_mid (P:=Tryz.prog) (ψ f (δ w.1+1+1) 0 (aU e2)) (δ w.1+1+1) 0 cA (aU e2) _ (bG hq) kU rfl au
 refine aC (v:=l' (θ (aU e2))) (by simp[results,results315,results325,C,Act.put,asAddr]) rfl ⟨by rw[t.o],dF I _ _ _ (H B.A (H Y.a F.o))⟩):p:=h
open KC in
def KC.vy(e:PE)(bu:ByteArray)(wa ea:Option Addr)(wl wc el ec:Nat)(n:SN)(so:Bool)(w:World)(ha:n.a.aS=true->0<=n.a.var/\n.a.var<8)(hb:n.b.aS=true->0<=n.b.var/\n.b.var<8)(qU:dT (bZ (ja e n.a)))(qT:dT (bZ (ja e n.b))):
 Cl 315 #[.iface 328 (.agg #[]),.agg (θ (KC.aU e)),.agg (aR bu (.slice wa wl wc) n (.slice ea el ec)),.bool so] w (Rb w (.agg (θ (KC.aU (KC.rL e n so))))):=by exact qs4
open KB in
def KB.vy(e:PE)(bu:ByteArray)(wa ea:Option Addr)(wl wc el ec:Nat)(n:SN)(so:Bool)(w:World)(ha:n.a.aS=true->0<=n.a.var/\n.a.var<8)(hb:n.b.aS=true->0<=n.b.var/\n.b.var<8)(qU:dT (bZ (ja e n.a)))(qT:dT (bZ (ja e n.b))):
 Cl 325 #[.iface 331 (.agg #[]),.agg (θ (KB.aU e)),.agg (aR bu (.slice wa wl wc) n (.slice ea el ec)),.bool so] w (Rb w (.agg (θ (KB.aU (KB.rL e n so))))):=by exact qs4
end
section
def ael{p:Prop}(h:p:=by
 have Y:=hid (λW=>vy e bu wa ea wl wc el ec n so W ha hb qU qT);clear ha hb qU qT;generalize rL e n so=c at Y⊢;obtain⟨x,q,i,b,d,T,g⟩:=n;simp only[aR]at Y hn⊢;go_enter aeN,aex;go_upto_region 1 with fail
 generalize u:(w.alloc (k' (θ (aU e)) cA)).alloc (k' kV cA)=V;have B:J ((V.1[δ w.1]?=B' (k' (θ (aU e)) cA (0,0))/\V.1[δ w.1+1]?=B' (k' kV cA (0,0)))/\Bl w V/\V.1[nb]?=B' (k' #[m' bu,i' wa wl wc,G x,G q,G i,G b,j' d.aS,G d.var,G d.cq,j' T.aS,G T.var,G T.cq,i' ea el ec,m' g] 152 (0,0))/\V.1[db]?=B' (k' #[.iface g! (l' #[])] xZ (0,0))/\V.1[fb]?=B' (xj so)):=by subst u;exact⟨fC,cG,aL cG hn,aL cG hd,aL cG hf⟩
 clear u;clear hn hd hf;have E:δ w.1+1<δ V.1:=blt B.a.2;have b:=M B.c;have W:=M B.d;have K:=M B.D;go_wp2_with (first|(refine wpList_load_mid rfl cA (.tmp 4) rfl w.1.size 0 rfl (aU e) _ (bG B.a.1) kU rfl au ?_)|((first|go_at_call 315 | go_at_call 325);refine(Y.o _).mono ?_;rintro r b ⟨rfl,hb⟩;have f:J (Bl V b):=hb;clear hb;have U:=cY (n:=17) (aL f.o B.a.2) rfl)|(refine wpList_store_mid rfl cA (.tmp 5) (.tmp 10) rfl (δ w.1+1) 0 (θ (aU c)) rfl rfl U au (bH _) ?_));have d:=df (cs:=vx) (aL f.o B.a.2) (vs:=aU c) rfl;have C:=run_loadVar_mid (P:=Tryz.prog) (ψ b (δ w.1+1) 0 (aU c)) (δ w.1+1) 0 cA (aU c) _ (bG d) kU rfl au
 refine aC (v:=l' (θ (aU c))) (by simp[results,results314,results324,C,Act.put,asAddr]) rfl ⟨rfl,dF I _ _ _ (H B.b f.o)⟩):p:=h
open KC in
def KC.yd(e:PE)(bu:z')(wa ea:x')(wl wc el ec:Nat)(n:SN)(so:Bool)(nb db fb:Nat)(w:u')(hn:w.1[nb]?=B' (k' (aR bu (i' wa wl wc) n (i' ea el ec)) 152 (0,0)))(hd:w.1[db]?=B' (k' #[.iface 328 (l' #[])] 381 (0,0)))(hf:w.1[fb]?=B' (xj so))(ha:n.a.aS=O'->0<=n.a.var/\n.a.var<8)(hb:n.b.aS=O'->0<=n.b.var/\n.b.var<8)(qU:dT (bZ (ja e n.a)))(qT:dT (bZ (ja e n.b))):
 Cl 314 #[l' (θ (KC.aU e)),o' (B' (O db 0)),o' (B' (O nb 0)),o' (B' (O fb 0))] w (Rb w (l' (θ (KC.aU (KC.rL e n so))))):=by exact ael
open KB in
def KB.yd(e:PE)(bu:z')(wa ea:x')(wl wc el ec:Nat)(n:SN)(so:Bool)(nb db fb:Nat)(w:u')(hn:w.1[nb]?=B' (k' (aR bu (i' wa wl wc) n (i' ea el ec)) 152 (0,0)))(hd:w.1[db]?=B' (k' #[.iface 331 (l' #[])] 386 (0,0)))(hf:w.1[fb]?=B' (xj so))(ha:n.a.aS=O'->0<=n.a.var/\n.a.var<8)(hb:n.b.aS=O'->0<=n.b.var/\n.b.var<8)(qU:dT (bZ (ja e n.a)))(qT:dT (bZ (ja e n.b))):
 Cl 324 #[l' (θ (KB.aU e)),o' (B' (O db 0)),o' (B' (O nb 0)),o' (B' (O fb 0))] w (Rb w (l' (θ (KB.aU (KB.rL e n so))))):=by exact ael
end
section
variable {a b k:Key} {R:List Key}
structure nU(k:Key):Prop where
  av:(Lit.int .i64 k.1.2.1).wf=O'
  ac:(Lit.int .i64 k.1.2.2).wf=O'
  op:(Lit.int .i64 k.2.1).wf=O'
  bv:(Lit.int .i64 k.2.2.2.1).wf=O'
  bc:(Lit.int .i64 k.2.2.2.2).wf=O'
def kxL(k:Key):List Lit:=[.bool k.1.1,.int .i64 k.1.2.1,.int .i64 k.1.2.2,.int .i64 k.2.1,.bool k.2.2.1,.int .i64 k.2.2.2.1,.int .i64 k.2.2.2.2]
theorem WN:kxL a=kxL b↔a=b:=by obtain⟨⟨N,c,c⟩,C,t,U,e⟩:=a;obtain⟨⟨a,o,x⟩,j,l,g,c⟩:=b;simp[kxL,and_assoc]
def UB:Tryz.prog.cellsOf 430=7:=au
def UC:Tryz.prog.cellsOf 150=3:=au
def UD:Tryz.prog.cellsOf 147=1:=au
def acJ:Tryz.prog.cellsOf 4=1:=au
def acK:Tryz.prog.cellsOf 3=1:=au
def acL:Tryz.prog.cellsOf 2=1:=au
def MW(h:nU k):Tryz.prog.keyLits 5 430 (t? k).toList=B' (kxL k):=by obtain⟨⟨N,a,b⟩,C,t,U,e⟩:=k;obtain⟨C,a,N,d,l⟩:=h;simp only at C a N d l;simp[Program.keyLits,t?,kxL,underlying430,underlying147,underlying150,underlying4,underlying3,underlying2,UB,UC,UD,acJ,acK,acL,C,a,N,d,l];rw[aB aj,aB aj];rfl
def abZ:Tryz.prog.keyTypeAt 5 430=O':=au
def afG(d:nU a)(e:nU b)(w:u'):(binOp .eql 430 (l' (t? a)) (l' (t? b))).run Tryz.prog w=.ok (j' (decide (a=b))) w:=by
 rw[run_eql_struct];obtain⟨r,c,S⟩:=IK (P:=Tryz.prog) 9995 5 430 abZ w 5 5 (l' (t? a)) (l' (t? b)) _ _ au au (MW d) (MW e);rw[WN]at S;have:r=decide (a=b):=by rw[cj,S];simp
 rw[<-this];simp only[Nat.reduceAdd]at c;rw[c];rfl
def Ib(w:u')(ao:x')(ks:List Key):Prop:=∀j k,ks[j]?=B' k->∃b o,ao=B' (O b o)/\∀i v,(t? k)[i]?=B' v->χ w (O b (o+j*7+i))=B' v
def Ib.below{w a:u'}{q:x'}(h:Ib w q R)(d:Bl w a):Ib a q R:=by intro j k f;obtain⟨b,o,e,c⟩:=h j k f;exact⟨b,o,e,λi v S=>ax (c i v S) d⟩
def Am(ks:List Key)(k:Key):Int:=if k∈ks then(ks.idxOf k:Nat) else -1
def WU{j:Nat}(K:k∉R.take j)(f:R[j]?=B' k):Am R k=j:=by
 unfold Am;have X:=(bm.1 f).1;rw[aB (aT f)];congr 1;have e:=(oT j R).symm;rw[e,w!,aA K];have u:R.drop j=k::R.drop (j+1):=by rw[qF X,(bm.1 f).2]
 rw[u,idxOf_cons_self,gC];omega
def B4(a:x')(c:Nat)(R:List Key)(k:Key)(w:u')(h:Ib w a R)(b:nU k)(N:∀x∈R,nU x)(X:ζ R<=100):
  Cl 332 #[i' a (ζ R) c,l' (t? k)] w (Rb w (G (Am R k))):=by
 have s:=hid (A h (A b N));clear h b N;simp only[t?];go_enter func332,ntmps332;go_wp2;generalize u:w.alloc (k' #[j' k.1.1,G k.1.2.1,G k.1.2.2,G k.2.1,j' k.2.2.1,G k.2.2.2.1,G k.2.2.2.2] 430)=a;have U:J (Bl w a/\d' a w.1.size #[j' k.1.1,G k.1.2.1,G k.1.2.2,G k.2.1,j' k.2.2.1,G k.2.2.2.1,G k.2.2.2.2] 430):=by subst u;exact⟨bf,bV⟩
 clear u;go_loopw[8] (λy wr=>∃j:Nat,j<=ζ R/\y=G j/\J (k∉R.take j/\Bl a wr)) (λy _=>ζ R-(intOf y).toNat)
 ·exact⟨0,bj,rfl,ak,aQ⟩
 obtain⟨j,f,rfl,a⟩:=hrel;by_cases L:j<ζ R;rotate_left
 ·have b:¬(j:Int)<(ζ R:Int):=I;have c:J (Am R k=-1):=by have C:=a.a;rw[cH I]at C;show _=_;rw[Am,aA C]
  go_wp2;go_ret;exact⟨by rw[c.o];rfl,H U.a a.A⟩
 have b:(j:Int)<(ζ R:Int):=I;obtain⟨x,F⟩:=La L;obtain⟨b,o,rfl,X⟩:=(s.a.below (H U.a a.A)) j x F;have T:χ wr (O b (o+j*7))=B' (j' x.1.1):=X 0 _ rfl;have Q:χ wr (O b (o+j*7+1))=B' (G x.1.2.1):=X 1 _ rfl;have p:χ wr (O b (o+j*7+2))=B' (G x.1.2.2):=X 2 _ rfl;have d:χ wr (O b (o+j*7+3))=B' (G x.2.1):=X 3 _ rfl;have P:χ wr (O b (o+j*7+4))=B' (j' x.2.2.1):=X 4 _ rfl;have d:χ wr (O b (o+j*7+5))=B' (G x.2.2.2.1):=X 5 _ rfl;have g:χ wr (O b (o+j*7+6))=B' (G x.2.2.2.2):=X 6 _ rfl;have E:=M (aL a.A U.A);have b:=λw=>afG s.b (s.B x (aT F)) w;simp only[t?]at b;have V:Tryz.prog.eqGuardType Tryz.prog.depth 430=P':=au;have d:=hid F;clear X F;by_cases l:k=x
 ·rw[ei l]at b;have c:=hid (WU a.a (by rw[l];exact d.o));have v:=hid l;clear l;go_wp2
  go_region
  all_goals
   go_wp2;go_ret;exact⟨by rw[c.o];rfl,(H U.a a.A).drew⟩
 rw[cV l]at b;have v:=hid l;clear l;go_wp2
 go_region
 all_goals
  go_wp2;go_roundw
  ·
   refine⟨j+1,L,f',?_,a.A.drew⟩;rw[cX L,(bm.1 d.o).2];simp only[eE,jg,not_or];exact⟨a.a,v.o⟩
  exact G'
def Pz(a:x')(c:Nat)(R:List Key)(k:Key)(w:u')(h:Ib w a R)(d:nU k)(N:∀x∈R,nU x)(X:ζ R<=100):
  Cl 331 #[i' a (ζ R) c,l' (t? k)] w (Rb w (j' (decide (k∈R)))):=by
 have f:=hid λW j=>B4 a c R k W (h.below j) d N X;clear h d N;obtain⟨d,Q⟩:=Ea (Am R k);have B:J (decide (k∈R)=decide (0<=d)):=by show _=_;rw[Q];unfold Am;split<;>simp_all
 rw[<-Q]at f;clear Q;simp only[t?]at f⊢;go_enter func331,ntmps331;go_wp2_with (go_at_call 332;refine E' (f.o _ bf) λt U=>?_);go_ret;exact⟨by rw[B.o];rfl,H bf U.o⟩
end
section
variable {P:Pm}
def ab9:(Tryz.prog.info? 430).map (λi=>(i.zero,i.size,i.bytes))=B' (B' (l' EA),7,56):=au
def lE(ks:List Key):List A':=ks.flatMap λk=>(t? k).toList
def yM:∀(R:List Key) (j:Nat) (k:Key),R[j]?=B' k->∀i v,(t? k)[i]?=B' v->(lE R)[j*7+i]?=B' v
 |[],j,k,h,i,v,hv=>by simp at h
 |a::r,0,k,h,i,v,hv=>by simp at h;subst h;have S:=(aY.1 hv).1;simp only[lE,cN,e?,bW];rw[jN (I' S)];simpa using hv
 |a::r,j+1,k,h,i,v,hv=>by have:=yM r j k (I' h) i v hv;simp only[lE,cN]at this⊢;rw[ek (by simp[t?];omega),<-this];congr 1;simp[t?];omega
def yL{B n c:Nat}{a:x'}{b:List Key}(h:ρ w B 430 7 (i' a n c) n (lE b)):Ib w a b:=by
 intro j k f;have a:=yM b j k f 0 _ rfl;rcases h.2 with⟨R,_⟩|⟨g,c,Y,R,_⟩
 ·exfalso;have C:=h.1;simp at R;have:=(bm.1 a).1;simp_all
 simp at R;obtain⟨rfl,rfl⟩:=R;refine⟨g,0,rfl,λi v R=>?_⟩;have:=h.cells (g:=g) rfl _ _ (yM b j k f i v R);rwa[eX,<-e9]at this
def G6{n:SN}(h:P.nd[k]?=B' n):ze ((P.nd.take (k+1)).map t!)=eF (ze ((P.nd.take k).map t!)) (t! n):=by have X:=(bm.1 h).1;rw[cX X,(bm.1 h).2,eW];simp[ze]
def T8(k:Nat)(P:Pm):ζ (ze ((P.nd.take k).map t!))<=k:=by have:=Nj ((P.nd.take k).map t!);rw[b!,gC]at this;omega
def DH:∀(k:Nat) (P:Pm),(∀n∈P.nd,nU (jB n))->∀x∈ze ((P.nd.take k).map t!),nU x
 |0,P,_,x,hx=>by simp[ze]at hx
 |k+1,P,h,x,hx=>by
  have B:=DH k P h;by_cases a:k<ζ P.nd;rotate_left
  ·rw[cH I]at hx;rw[cH I]at B;exact B x hx
  rw[G6 (bR a),DI]at hx;split at hx;rotate_left
  ·exact B x hx
  unfold eF at hx;simp only at hx;split at hx
  ·exact B x hx
  rcases eE.1 hx with hx|hx
  ·exact B x hx
  rw[jg.1 hx];exact h _ (lX a)
def ae3{X:u'}{q:Nat}{a b c d e f h:A'}{t:TypeId}(V:X.1[q]?=B' (k' #[a,b,c,d,e,f,h] t (0,0))):∀(j:Nat) (u:A'),[a,b,c,d,e,f,h][j]?=B' u->χ X (((O q 0):Addr).add j)=B' u:=by intro j u f;rw[eX,bW,(M V).1];simpa using f
def mR{g a:Nat}{D:List NC}{c:NC}(h:PM w g a D P)(T:D[k]?=B' c)(j:Nat)(f:j<14):χ w (O g (k*14+j))=(aR c.bu c.wv c.n c.ev)[j]?:=h.row.cells k c T j f
def aan{p:Prop}(h:p:=by
 exact((H Q.A D.a).alloc (H Q.A D.a).size _).grown W.A (by have:=(H Q.A D.a).size;simp;omega) (λq e=>((aZ Q.a D.a).lt q e).1)):p:=h
def B3(g f Q:Nat)(D:List NC)(P:Pm)(w:u')(hP:PM w g f D P)(p:ζ P.nd<=60)(d:∀n∈P.nd,nU (jB n)):
  Cl 286 #[i! g (ζ P.nd) f Q] w λe E=>∃a c,e=p' (aO a (ζ P.ex) c)/\ρ E w.1.size 430 7 (aO a (ζ P.ex) c) (ζ P.ex) (lE P.ex)/\Bl w E:=by
 obtain⟨i0,S,D,h,b⟩:=cQ ab9;have HI:J (_/\_/\_/\_):=⟨S,D,h,b⟩;clear S D h b;have s:=hid (A hP d);obtain⟨N,b⟩:=Ea (ζ P.nd);rw[<-b]at p⊢;have K:=hid b;clear hP d b;simp only[i!];go_enter func286,ntmps286;go_wp2;generalize u:w.alloc (k' #[i' (B' (O g 0)) N f,G Q] 86)=b;have U:J (Bl w b):=by subst u;exact bf
 clear u;go_loopw[3,11] (λr y wr=>∃(i:Nat) (a:x') (c:Nat),i<=N/\y=G i/\r=i' a (ζ (ze ((P.nd.take i).map t!))) c/\J (ρ wr w.1.size 430 7 (i' a (ζ (ze ((P.nd.take i).map t!))) c) (ζ (ze ((P.nd.take i).map t!))) (lE (ze ((P.nd.take i).map t!)))/\Bl w wr)) (λ_ y _=>N-(intOf y).toNat)
 ·exact⟨0,C',0,bj,rfl,rfl,cb,U.o⟩
 obtain⟨i,a,c,S,rfl,rfl,Q⟩:=hrel;by_cases L:i<N;rotate_left
 ·have b:¬(i:Int)<N:=I;have l:ze ((P.nd.take i).map t!)=P.ex:=by rw[cH (by rw[<-K.o];omega)];rfl
  rw[l]at Q⊢;go_wp2;go_ret;exact⟨a,c,rfl,Q.a,Q.A⟩
 have b:(i:Int)<N:=I;obtain⟨r,R,T,z,_,_,_,_⟩:=s.a.nodes (by rw[<-K.o];exact L);have X:=λj (f:j<14)=>(mR (s.a.below Q.A) T j f);obtain⟨v,j⟩:=Ea r.n;rw[<-j]at X z;have b:=G6 z;have u:=T8 i P;have B:=DH i P s.A;have p:=s.A v (aT z);obtain⟨R,N⟩:=Ea (ze ((P.nd.take i).map t!));rw[<-N]at Q b u B⊢;rw[DI]at b;simp only[NC.wv,NC.ev]at X;generalize r.bu=h at X;generalize r.wa=y at X;generalize r.wl=wl at X;generalize r.wc=wc at X;generalize r.ea=U at X;generalize r.el=D at X;generalize r.ec=r at X;have C:J (∀W,Cl 330 #[l' (aR h (i' y wl wc) v (i' U D r))] W (Rb W (t' #[l' (t? (jB v)),j' (K4 v)]))):=λW=>G5 h (i' y wl wc) (i' U D r) v W;obtain⟨t,o⟩:=Ea (K4 v);rw[<-o]at C b;obtain⟨T,d⟩:=Ea (jB v);rw[<-d]at b p;obtain⟨x,q,op,l,⟨S,f,ac⟩,⟨F,bv,K⟩,g⟩:=v;have v:J (t? T=#[j' S,G f,G ac,G op,j' F,G bv,G K]):=by rw[d];rfl
 have k:=hid b;rw[<-d,v.o]at C;have Y:=N9 X;simp only[aR]at C;clear X b o d j z N;have s:J (∀W,Bl wr W->Cl 331 #[i' a (ζ R) c,l' #[j' S,G f,G ac,G op,j' F,G bv,G K]] W (Rb W (j' (decide (T∈R))))):=by intro W j;rw[<-v.o];exact Pz a c R T W (yL (aZ Q.a j)) p B I
 have b:ζ R<=60:=I;clear B p u;go_upto_region 5 with(fail)
 generalize b:wr.alloc (k' #[m' h,i' y wl wc,G x,G q,G op,G l,j' S,G f,G ac,j' F,G bv,G K,i' U D r,m' g] 152)=V;have B:J (Bl wr V/\d' V wr.1.size #[m' h,i' y wl wc,G x,G q,G op,G l,j' S,G f,G ac,j' F,G bv,G K,i' U D r,m' g] 152):=by subst b;exact⟨bf,bV⟩
 clear b Y;have E:=M B.A;go_upto_region 6 with(go_at_call 330;refine D' (C.o _) λb l=>?_;have r:=hid (H B.a l);clear l E)
 generalize p:b.alloc (k' #[j' S,G f,G ac,G op,j' F,G bv,G K] 430)=d;have h:J (Bl wr d/\d' d b.1.size #[j' S,G f,G ac,G op,j' F,G bv,G K] 430):=by subst p;exact⟨H r.o bf,bV⟩
 clear p;generalize δ b.1=y at h⊢;have E:=M h.A;cases t
 ·rw[aA ak]at k;have b:J (ze ((P.nd.take (i+1)).map t!)=R):=k.o;go_wp2;go_roundw
  ·
   refine⟨i+1,a,c,L,f',by rw[b.o],?_⟩;rw[b.o];exact⟨aZ Q.a h.a,H Q.A h.a⟩
  exact G'
 rw[aB rfl]at k;by_cases d:T∈R
 ·rw[ei d]at s;have b:J (ze ((P.nd.take (i+1)).map t!)=R):=by show _=_;rw[k.o];simp[eF,d]
  go_wp2_with (go_at_call 331;refine D' (s.o _ h.a) λo Y=>?_;have D:=hid (H h.a Y);clear Y E);go_roundw
  ·
   refine⟨i+1,a,c,L,f',by rw[b.o],?_⟩;rw[b.o];exact⟨aZ Q.a D.o,H Q.A D.o⟩
  exact G'
 rw[cV d]at s;have b:J (ze ((P.nd.take (i+1)).map t!)=R++[T]):=by show _=_;rw[k.o];simp[eF,d]
 go_wp2_with (first|(go_at_call 331;refine D' (s.o _ h.a) λo Y=>?_;have D:=hid (A (H h.a Y) (aL Y h.A));clear Y E;have E:=M D.A)|(at_builtin;refine gu rfl _ _ 400 rfl w.1.size 430 i0 (l' EA) 7 56 underlying400 HI.a HI.b HI.c HI.C rfl aj (aO a (ζ R) c) (ζ R) (lE R) rfl ((aZ Q.a D.a).alloc _) (O o.1.size 0) 1 1 [j' S,G f,G ac,G op,j' F,G bv,G K] rfl rfl (ae3 (cv o _)) (by intro u C;simp at C;rcases C with rfl|rfl|rfl|rfl|rfl|rfl|rfl<;>rfl) (by simp only[maxLen];omega) I (by have:=(H Q.A D.a).size;simp;omega) ?_;intro U l k a _;obtain⟨d,c,rfl⟩:=aV k;have W:=hid (A k a);clear k a E));go_roundw
 ·
  refine⟨i+1,d,c,L,f',by rw[b.o,bF];rfl,?_⟩;rw[b.o];refine⟨?_,?_⟩
  ·rw[bF,fF,show lE (R++[T])=lE R++[j' S,G f,G ac,G op,j' F,G bv,G K] by simp[lE,v.o]];exact W.a
  exact aan
 exact G'
end
def zi(ks:List Key)(n:SN):BS:=if K4 n then eY [ks.idxOf (jB n)] else(0,0)
def qW(k:z')(y:x')(wl wc:Nat)(p:x')(V B:Nat)(n:SN)(a:x')(R:Nat)(c:List Key)(w:u')(h:Ib w a c)(N:∀x∈c,nU x)(X:ζ c<=60)(b:K4 n=O'->nU (jB n)/\jB n∈c):
  Cl 287 #[l' (aR k (i' y wl wc) n (i' p V B)),i' a (ζ c) R] w (Rb w (dh (zi c n))):=by
 have C:J (∀W,Cl 330 #[l' (aR k (i' y wl wc) n (i' p V B))] W (Rb W (t' #[l' (t? (jB n)),j' (K4 n)]))):=λW=>G5 k _ _ n W;have Y:J (K4 n=O'->∀W,Bl w W->Cl 332 #[i' a (ζ c) R,l' (t? (jB n))] W (Rb W (G ((c.idxOf (jB n):Nat):Int)))):=by intro l W j;have:=B4 a R c (jB n) W (h.below j) (b l).1 N I;unfold Am at this;rwa[aB (b l).2]at this
 have j:J (K4 n=O'->c.idxOf (jB n)<128):=λl=>by have:=sj (b l).2;omega
 obtain⟨m,R⟩:=Ea (c.idxOf (jB n));obtain⟨t,o⟩:=Ea (K4 n);have W:J (zi c n=if t then eY [m] else(0,0)):=by show _=_;rw[o,R];rfl
 rw[<-R,<-o]at Y j;rw[<-o]at C;clear R o h N b;obtain⟨x,q,op,R,⟨L,f,b⟩,⟨F,D,X⟩,g⟩:=n;simp only[aR,t?,jB,jW]at C Y⊢;generalize zi c _=z at W⊢;go_enter func287,ntmps287;go_upto_region 1 with(fail)
 generalize u:(w.alloc (k' #[m' k,i' y wl wc,G x,G q,G op,G R,j' L,G f,G b,j' F,G D,G X,i' p V B,m' g] 152)).alloc fY=l;have U:J (Bl w l/\d' l w.1.size #[m' k,i' y wl wc,G x,G q,G op,G R,j' L,G f,G b,j' F,G D,G X,i' p V B,m' g] 152/\l.1[δ w.1+1]?=B' jj):=by subst u;exact⟨cG,fC.1,fC.2⟩
 clear u;have E:=M U.b;go_upto_region 2 with(go_at_call 330;refine(C.o _).mono ?_;rintro e g ⟨rfl,l⟩;have r:=hid (A (H U.a l) (aL l U.B));clear l E)
 generalize u:g.alloc (k' #[j' L,G f,G b,G op,j' F,G D,G X] 430)=p;have R:J (Bl w p/\d' p g.1.size #[j' L,G f,G b,G op,j' F,G D,G X] 430/\p.1[δ w.1+1]?=B' jj):=by subst u;exact⟨H r.a bf,bV,aL bf r.A⟩
 clear u;generalize δ g.1=y at R⊢;have E:=M R.b;have l:=M R.B;cases t
 ·rw[aA ak]at W;go_wp2;have v:=R.B;have g:χ (κ p (O (δ w.1+1) 0) (Z 0)) (O (δ w.1+1) 0)=B' (Z 0):=by rw[(M (aq v _)).1];rfl
  have r1:χ (κ (κ p (O (δ w.1+1) 0) (Z 0)) (O (δ w.1+1) 1) (Z 0)) (O (δ w.1+1) 1)=B' (Z 0):=by rw[(M (aq (aq v _) _)).1];rfl
  refine aC (v:=dh (0,0)) (by simp[results287,go_sem,dh,g,r1]) rfl ⟨by rw[W.o],?_⟩;exact zqT
 rw[aB rfl]at W;have f:=j.o rfl;have s:J (∀X b,χ X (O b 0)=B' (G m)->Cl 241 (qK b) X (Rb X (dh (eY [m])))):=λX b T=>nM X b m f T;rw[<-W.o]at s;simp only[dh]at s;go_wp2_with (first|(go_at_call 332;refine(Y.o rfl _ R.a).mono ?_;rintro e o ⟨rfl,Y⟩;have D:=hid (A (H R.a Y) (aL Y R.B));clear Y E l)|(go_at_call 241;refine(s.o _ _ ak).mono ?_;rintro e b ⟨rfl,v⟩;have k:=hid (A (H D.a (H bf v)) (aL v (aL bf D.A)));clear v;have l:=M k.A));have v:=k.A;have g:χ (κ b (O (δ w.1+1) 0) (Z z.1)) (O (δ w.1+1) 0)=B' (Z z.1):=by rw[(M (aq v _)).1];rfl
 have r1:χ (κ (κ b (O (δ w.1+1) 0) (Z z.1)) (O (δ w.1+1) 1) (Z z.2)) (O (δ w.1+1) 1)=B' (Z z.2):=by rw[(M (aq (aq v _) _)).1];rfl
 refine aC (v:=dh z) (by simp[results287,go_sem,dh,g,r1]) rfl ⟨rfl,?_⟩;exact(k.a.setCell H' _).setCell H' _
def kx0:Key:=((P',0,0),0,(P',0,0))
def Iq(ks:List Key)(v:Int)(m:Nat):BS:=(range m).foldl (λs i=>if qS (ks.getD i kx0) v then oo s (eY [i]) else s) (0,0)
def Eo(ks:List Key)(n:SN):BS:=if gU n then Iq ks n.var (ζ ks) else(0,0)
def yN(R:List Key)(v:Int)(m:Nat):Iq R v (m+1)=if qS (R.getD m kx0) v then oo (Iq R v m) (eY [m]) else Iq R v m:=by simp[Iq,nY]
def KG(R:List Key)(v:Int):∀m,m<=128->cL (Iq R v m)
 |0,_=>(show cL (0,0)from⟨aj,aj⟩)
 |m+1,h=>by
  have B:=KG R v m I;rw[yN];split
  ·exact rN B (pz I)
  exact B
def BL(N:z')(wa:x')(wl wc:Nat)(ea:x')(V B:Nat)(n:SN)(a:x')(c:Nat)(r:List Key)(w:u')(h:Ib w a r)(hl:ζ r<=60)(b:0<=n.aG):
  Cl 288 #[l' (aR N (i' wa wl wc) n (i' ea V B)),i' a (ζ r) c] w (Rb w (dh (Eo r n))):=by
 have Ec:J (∀W,Cl 282 #[l' (aR N (i' wa wl wc) n (i' ea V B))] W (Rb W (j' (gU n)))):=λW=>(lL N _ _ n W b).mono λe w' c=>⟨c.1,by rw[c.2];exact bf⟩;obtain⟨t,o⟩:=Ea (gU n);have HE:J (Eo r n=if t then Iq r n.var (ζ r) else(0,0)):=by show _=_;rw[o];rfl
 rw[<-o]at Ec;have HH:=hid h;clear o h b;obtain⟨x,q,op,Y,⟨ai,f,ac⟩,⟨bi,D,bc⟩,g⟩:=n;simp only[aR]at Ec HE⊢;generalize Eo r _=z at HE⊢;go_enter func288,ntmps288;go_upto_region 2 with(fail)
 generalize j:((w.alloc (k' #[m' N,i' wa wl wc,G x,G q,G op,G Y,j' ai,G f,G ac,j' bi,G D,G bc,i' ea V B,m' g] 152)).alloc fY).alloc fY=c;have U:J (Bl w c/\d' c w.1.size #[m' N,i' wa wl wc,G x,G q,G op,G Y,j' ai,G f,G ac,j' bi,G D,G bc,i' ea V B,m' g] 152/\c.1[δ w.1+1]?=B' jj/\c.1[δ w.1+1+1]?=B' jj):=by subst j;obtain⟨c,e1,e2,_⟩:=qp w (k' #[m' N,i' wa wl wc,G x,G q,G op,G Y,j' ai,G f,G ac,j' bi,G D,G bc,i' ea V B,m' g] 152) fY fY (k' #[] 0);rw[bQ (by simp;try omega)]at c e1 e2;exact⟨gB,c,e1,e2⟩
 clear j;have E:=M U.b;have c:=blt U.C;cases t
 ·rw[aA ak]at HE;go_wp2_with (go_at_call 282;refine(Ec.o _).mono ?_;rintro e t ⟨rfl,l⟩;have R:=hid l;clear l E;have E:=M (aL R.o U.C);have y1:=M (aL R.o U.c));have v:=aL R.o U.c;have r0:χ (κ t (O (δ w.1+1) 0) (Z 0)) (O (δ w.1+1) 0)=B' (Z 0):=by rw[(M (aq v _)).1];rfl
  have r1:χ (κ (κ t (O (δ w.1+1) 0) (Z 0)) (O (δ w.1+1) 1) (Z 0)) (O (δ w.1+1) 1)=B' (Z 0):=by rw[(M (aq (aq v _) _)).1];rfl
  refine aC (v:=dh (0,0)) (by simp[results288,go_sem,dh,r0,r1]) rfl ⟨by rw[HE.o],?_⟩;exact((H U.a R.o).setCell H' _).setCell H' _
 rw[aB rfl]at HE;go_wp2_with (go_at_call 282;refine(Ec.o _).mono ?_;rintro e t ⟨rfl,l⟩;have R:=hid l;clear l E);generalize l' #[m' N,i' wa wl wc,G x,G q,G op,G Y,j' ai,G f,G ac,j' bi,G D,G bc,i' ea V B,m' g]=c;go_loopw[14] (λc wr=>∃j:Nat,j<=ζ r/\c=G j/\J (Bl w wr/\wr.1[δ w.1]?=B' (k' #[m' N,i' wa wl wc,G x,G q,G op,G Y,j' ai,G f,G ac,j' bi,G D,G bc,i' ea V B,m' g] 152 (0,0))/\wr.1[δ w.1+1]?=B' jj/\wr.1[δ w.1+1+1]?=B' (k' #[Z ((Iq r q j).1:Int),Z ((Iq r q j).2:Int)] 267 (0,0)))) (λc _=>ζ r-(intOf c).toNat)
 ·exact⟨0,bj,rfl,H U.a R.o,aL R.o U.b,aL R.o U.c,aL R.o U.C⟩
 clear R;obtain⟨j,f,rfl,R⟩:=hrel;have D:=blt R.C;by_cases L:j<ζ r;rotate_left
 ·have c:¬(j:Int)<(ζ r:Int):=I;have f:j=ζ r:=I;have x:=R.C;rw[f,<-HE.o]at x;have E:=M x;have y1:=M R.c;have n1:δ w.1+1≠δ w.1+1+1:=I;go_wp2;have v:=R.c;have r0:χ (κ wr (O (δ w.1+1) 0) (Z z.1)) (O (δ w.1+1) 0)=B' (Z z.1):=by rw[(M (aq v _)).1];rfl
  have r1:χ (κ (κ wr (O (δ w.1+1) 0) (Z z.1)) (O (δ w.1+1) 1) (Z z.2)) (O (δ w.1+1) 1)=B' (Z z.2):=by rw[(M (aq (aq v _) _)).1];rfl
  refine aC (v:=dh z) (by simp[results288,go_sem,dh,r0,r1]) rfl ⟨rfl,?_⟩;exact zqT
 have c:(j:Int)<(ζ r:Int):=I;obtain⟨k,F⟩:=La L;obtain⟨b,o,rfl,X⟩:=(HH.o.below R.a) j k F;have T:χ wr (O b (o+j*7))=B' (j' k.1.1):=X 0 _ rfl;have c1:χ wr (O b (o+j*7+1))=B' (G k.1.2.1):=X 1 _ rfl;have p:χ wr (O b (o+j*7+2))=B' (G k.1.2.2):=X 2 _ rfl;have c3:χ wr (O b (o+j*7+3))=B' (G k.2.1):=X 3 _ rfl;have c4:χ wr (O b (o+j*7+4))=B' (j' k.2.2.1):=X 4 _ rfl;have c5:χ wr (O b (o+j*7+5))=B' (G k.2.2.2.1):=X 5 _ rfl;have c6:χ wr (O b (o+j*7+6))=B' (G k.2.2.2.2):=X 6 _ rfl;have l:Iq r q (j+1)=if qS k q then oo (Iq r q j) (eY [j]) else Iq r q j:=by rw[yN,getD,F];rfl
 have TO:=KG r q j I;obtain⟨u,C⟩:=Ea (Iq r q j);rw[<-C]at l TO;have HX:=hid (A l (show wr.1[δ w.1+1+1]?=B' (vf u.1 u.2)by rw[C];exact R.C));have HHS:J (∀W,Cl 333 #[l' (t? k),G q] W (Rb W (j' (qS k q)))):=λW=>Px k q W;obtain⟨yes,s⟩:=Ea (qS k q);rw[<-s]at HHS HX;simp only[t?]at HHS;clear C l F X s;go_upto_region 7 with(fail)
 generalize l:wr.alloc (k' #[j' k.1.1,G k.1.2.1,G k.1.2.2,G k.2.1,j' k.2.2.1,G k.2.2.2.1,G k.2.2.2.2] 430)=V;have HV:J (Bl wr V/\d' V wr.1.size #[j' k.1.1,G k.1.2.1,G k.1.2.2,G k.2.1,j' k.2.2.1,G k.2.2.2.1,G k.2.2.2.2] 430):=by subst l;exact⟨bf,bV⟩
 clear l T c1 p c3 c4 c5 c6;have E:=M HV.A;have y1:=M (aL HV.a R.b);cases yes
 ·go_wp2_with (go_at_call 333;refine(HHS.o _).mono ?_;rintro e F ⟨rfl,p⟩;have l:=hid (H HV.a p);clear p E y1);go_roundw
  ·
   refine⟨j+1,L,f',H R.a l.o,aL l.o R.b,aL l.o R.c,?_⟩;rw[HX.a];exact aL l.o HX.A
  exact G'
 have s:J (∀X b,χ X (O b 0)=B' (G j)->Cl 241 (qK b) X (Rb X (dh (eY [j])))):=λX b T=>nM X b j I T;have HU:J (∀(X:u') b,χ X (O b 0)=B' (Z u.1)->χ X (O b 1)=B' (Z u.2)->χ X (O b 2)=B' (Z ((eY [j]).1:Int))->χ X (O b 3)=B' (Z ((eY [j]).2:Int))->Cl 267 (xk b) X (Rb X (dh (oo u (eY [j]))))):=λX b D C c N=>by have:=kz X b u (eY [j]) TO (pz I) D C c N;exact this
 have HN:J (Iq r q (j+1)=oo u (eY [j])):=by rw[HX.a];rfl
 obtain⟨b,Es⟩:=Ea (eY [j]);obtain⟨y,hy⟩:=Ea (oo u (eY [j]));rw[<-hy]at HN HU;rw[<-Es]at s HU;clear Es hy TO;simp only[dh]at s HU;go_upto_region 8 with(go_at_call 333;refine(HHS.o _).mono ?_;rintro e F ⟨rfl,p⟩;have l:=hid (H HV.a p);clear p E y1)
 have E:=M (aL l.o HX.A);have b:=l.o.size;have n1:δ w.1+1+1≠δ F.1:=I;have c:=n1.symm;have c:∀(o:Obj) (i:Nat),χ (F.alloc o) (O (δ w.1+1+1) i)=(#[Z u.1,Z u.2]:Array A')[i]?:=λo i=>(cw (qq F o _ I)).trans (E.1 i)
 go_region_law (first|(go_simp;refine bK (s.o _ _ ak) ?_;rintro e o ⟨rfl,Y⟩;have D:J (Bl F o):=H ay Y;clear E Y;have E:=M (aL D.o (aL l.o HX.A)))|(go_simp;refine bK (HU.o _ _ ak ak ak ak) ?_;rintro e b ⟨rfl,v⟩;have k:J (Bl F b):=H (H D.o ay) v;clear E v;have E:=M (aL k.o (aL l.o HX.A))))
 all_goals
  go_wp2;go_roundw
  ·
   have p:=H l.o k.o;refine⟨j+1,L,f',((H R.a p).setCell H' _).setCell H' _,?_,?_,?_⟩
   ·rw[aJ H',aJ H'];exact aL p R.b
   ·rw[aJ H',aJ H'];exact aL p R.c
   rw[HN.o];exact afR (aL p HX.A) y
  exact G'
section
variable {p:Nat} {c:List RR} {r:RR} {F:Nat->RA}
abbrev kr(N:Nat)(F:Nat->RA):List RA:=(range N).map F
def BE(N k:Nat)(F:Nat->RA)(g:RA->RA):(kr N F).modify k g=kr N λn=>if n=k then g (F n) else F n:=by
 refine lV λj=>?_;rw[IQ,cg,cg];by_cases f:j<N
 ·rw[w7 f];by_cases e:k=j
  ·subst e;simp
  simp[e,gG e]
 rw[dA (I' f)];simp
def NI(N t:Nat)(F:Nat->RA)(x:Nat×A'):wo (kr N F) t x=kr N λn=>if n=t then((F n).1,(F n).2++[x]) else F n:=BE N t F _
def UI(N k:Nat)(e:A'):∀(R:List Nat) (F:Nat->RA),R.foldl (λl t=>wo l k (t,e)) (kr N F)=kr N λn=>if n=k then((F n).1,(F n).2++R.map λt=>(t,e)) else F n
 |[],F=>by rw[wX];refine iD λn _=>?_;split<;>simp
 |t::R,F=>by
  rw[iC,NI,UI N k e R];congr 1;funext n;split
  ·rename_i h;simp[h]
  rename_i h;simp[h]
def TW(N:Nat)(x:Nat×A'):∀(R:List Nat) (j:Nat) (F:Nat->RA),R.foldl (λl t=>wo l t x) (kr N F)=kr N λn=>((F n).1,(F n).2++(fA n j R).map λ_=>x)
 |[],j,F=>by rw[wX];refine iD λn _=>?_;simp[fA]
 |t::R,j,F=>by
  rw[iC,NI,TW N x R (j+1)];congr 1;funext n;simp only[fA];by_cases h:n=t
  ·subst h;simp
  have s:¬t=n:=λe=>h e.symm;simp[h,s]
def Sys.start{s z:BS}(h:Sys W B a 2 T p c)(U:p≠T)(v:c[k]?=B' r)(y:r.st=fz s):
  Sys (κ (κ W (O a (k*3)) (Z z.1)) (O a (k*3+1)) (Z z.2)) B a 2 T p (c.set k ⟨fz z,r.ea,r.ec,r.es⟩):=by
 have o:=(bm.1 v).1;have b:∀q,q≠a->(κ (κ W (O a (k*3)) (Z z.1)) (O a (k*3+1)) (Z z.2)).1[q]?=W.1[q]?:=λq a=>(aJ a).trans (aJ a);refine⟨?_,h.low,?_,?_,?_⟩
 ·rw[aq (aq h.lQ _) _];congr 2;rw[cJ,cJ];congr 1;have V:=pZ c k r ⟨[Z z.1,Z s.2],r.ea,r.ec,r.es⟩ 0 (Z z.1) h.len v I (by simp[rz,y,fz,RR.ev]);rw[gD]at V;rw[V];have u:=pZ (c.set k ⟨[Z z.1,Z s.2],r.ea,r.ec,r.es⟩) k ⟨[Z z.1,Z s.2],r.ea,r.ec,r.es⟩ ⟨fz z,r.ea,r.ec,r.es⟩ 1 (Z z.2) (by intro x F;rcases mZ F with F|rfl;(· exact h.len x F);rfl) (by rw[fG,aB rfl,aB o]) I (by simp[rz,fz,RR.ev]);rw[u,Ck]
 ·intro x F;rcases mZ F with F|rfl
  ·exact h.len x F
  rfl
 ·intro x F
  have l:ρ W B p 2 x.ev (ζ x.es) (iV x.es):=by
   rcases mZ F with F|rfl
   ·exact h.row x F
   exact h.row r (aT v)
  refine⟨l.1,?_⟩;rcases l.2 with a|⟨g,e,Y,C,f,N,d⟩
  ·exact aI a
  refine aK ⟨g,e,Y,C,f,(b g ?_).trans N,d⟩;rintro rfl;rw[h.lQ]at N;simp at N;exact U N.2.symm
 intro i j a b S f t;have d:∀{i:Nat} {a:RR},(c.set k ⟨fz z,r.ea,r.ec,r.es⟩)[i]?=B' a->∃g,c[i]?=B' g/\g.ev=a.ev:=by
  intro i a S;rw[fG]at S;by_cases e:k=i
  ·subst e;rw[aB rfl,aB o]at S;cases S;exact⟨r,v,rfl⟩
  rw[aA e]at S;exact⟨a,S,rfl⟩
 obtain⟨g,c,e⟩:=d S;obtain⟨X,a,b⟩:=d f;rw[<-e,<-b];exact h.zp i j g X c a t
def Sys.sG{v v':A'}(h:Sys W B a 2 T p c):TF B T p W (κ (κ W (O a (k*3)) v) (O a (k*3+1)) v'):=by
 refine⟨(aQ.setCell h.low _).setCell h.low _,λq L t f e C b=>?_⟩;have s:q≠a:=by rintro rfl;rw[h.lQ]at e;simp at e;exact C e.2.1.symm
 rw[aJ s,aJ s]
def Kf{st:List A'}(U:c.map RR.pr=kr N F)(b:c[k]?=B' r):(c.set k ⟨st,r.ea,r.ec,r.es⟩).map RR.pr=kr N λn=>if n=k then(st,(F n).2) else F n:=by
 have e:(c.set k ⟨st,r.ea,r.ec,r.es⟩).map RR.pr=(c.map RR.pr).modify k λx=>(st,x.2):=by
  refine lV λj=>?_;rw[cg,fG,IQ,cg];by_cases s:k=j
  ·subst s;rw[aB rfl,aB (bm.1 b).1,b];simp[RR.pr]
  rw[aA s];cases c[j]?<;>simp[s]
 rw[e,U,BE]
def FP(U:c.map RR.pr=kr N F)(b:k<N):∃r,c[k]?=B' r/\r.st=(F k).1/\r.es=(F k).2:=by
 have X:ζ c=N:=by have:=dZ length U;simpa using this
 have h:=dZ (λl=>l[k]?) U;obtain⟨r,a⟩:=La (l:=c) (i:=k) I;simp only[cg,a,m?,w7 b,fD,RR.pr]at h;exact⟨r,a,by rw[<-h],by rw[<-h]⟩
def yn(U:c.map RR.pr=kr N F):ζ c=N:=by have:=dZ length U;simpa using this
def Dc{m:Nat}(U:c.map RR.pr=kr N F)(hF:∀n,n<N->ζ (F n).2<=m):∀r∈c,ζ r.es<=m:=by intro r a;obtain⟨j,f⟩:=oP.1 a;have X:=(bm.1 f).1;rw[yn U]at X;obtain⟨g,C,_,N⟩:=FP U X;rw[f]at C;cases C;rw[N];exact hF j X
end
section
variable {F:Nat->RA} {p:Prop} {c:List RR} {r:RR}
def ef0:Ef:=⟨(0,0),(0,0)⟩
def P?:RA:=([Z 0,Z 0],[])
def S0(n:SN):Ef:=if gU n then⟨eY [n.var.toNat],(0,0)⟩ else ef0
def SZ(P:Pm)(n:Nat):RA:=(fz (QP (P.at n)),(P.si n).map λt=>(t,vz (S0 (P.at n))))
def upto(F:Nat->RA)(k:Nat)(n:Nat):RA:=if n<k then F n else P?
def N1(F:Nat->RA)(N:Nat):kr N (upto F 0)=replicate N P?:=by refine IF.2 ⟨ak,λb a=>?_⟩;obtain⟨n,_,rfl⟩:=cZ.1 a;simp[upto]
def EM(F:Nat->RA)(N:Nat):kr N (upto F N)=kr N F:=iD λn K=>by simp[upto,eQ.1 K]
def EL(hF:∀n,n<N->ζ (F n).2<=m):∀n,n<N->ζ (upto F k n).2<=m:=by
 intro n K;unfold upto;split
 ·exact hF n K
 simp[P?]
def Km{P:Pm}(h:dC P){n:SN}(K:n∈P.nd):∀o∈nK n,o.aS=O'->0<=o.var/\o.var<128:=by
 have R:=h.nv;intro o a i;have b:=h.a n K;have c:=h.b n K;unfold nK at a;unfold d! at b c;split at a
 ·rename_i d;simp at a;subst a;have:=b (by split<;>simp_all) i;omega
 split at a
 ·rename_i d;simp at a;rcases a with rfl|rfl
  ·have:=b (by split<;>simp_all) i;omega
  have:=c (by simp_all) i;omega
 simp at a
def aac(h:p:=by
 refine⟨D.1,?_⟩;rcases D.2 with a|⟨g,b,Y,C,c,N⟩
 ·exact aI a
 exact aK ⟨g,b,Y,C,bD d c,N⟩):p:=h
def Sys.deep{f p:Nat}(h:Sys W B a m T p c)(d:f<=B):Sys W f a m T p c:=by refine⟨h.lQ,bD d h.low,h.len,λr a=>?_,h.zp⟩;have D:=h.row r a;exact aac
def Sys.two{p:Nat}{s:BS}(h:Sys W B a 2 T p c)(b:c[k]?=B' r)(y:r.st=fz s):(χ W (O a (k*3))=B' (Z s.1)/\W.frozen? (O a (k*3))=P')/\χ W (O a (k*3+1))=B' (Z s.2)/\W.frozen? (O a (k*3+1))=P':=
 ⟨h.cell (j:=0) b (by simp[rz,y,fz]),h.cell (j:=1) b (by simp[rz,y,fz])⟩
def zx{b:List RR}{st:List A'}{R:List Nat}{e:A'}(U:b.map RR.pr=kr N (upto F k))(c:b[k]?=B' r)(hF:F k=(st,R.map λt=>(t,e))):R.foldl (λl t=>wo l k (t,e)) ((b.set k ⟨st,r.ea,r.ec,r.es⟩).map RR.pr)=kr N (upto F (k+1)):=by
 rw[Kf U c,UI];refine iD λn _=>?_;by_cases h:n=k
 ·subst h;simp[upto,P?,hF]
 have:n<k+1↔n<k:=I;simp[h,upto,this]
def afE(h:p:=by
 subst u;have l:=H c.B (cz t (k' (fe rb N) 260));have hs:=c.a.below (cz t (k' (fe rb N) 260))
 exact⟨H U.a l,aL l U.b,aL l U.B,bV,hs.deep U.a.size,by rw[c.b,N1]⟩):p:=h
def S3(g cap:Nat)(nl:List NC)(P:Pm)(w:u')(hP:PM w g cap nl P)(h:dC P):
  Cl 221 #[i! g (ζ P.nd) cap P.nv] w λe w'=>∃rb d,e=p' (t' #[dx rb (ζ P.nd),G P.nv])/\Sys w' w.1.size rb 2 393 404 d/\d.map RR.pr=kr (ζ P.nd) (SZ P)/\Bl w w':=by
 have V:=h.most;have i:=h.nv;have y1:=hid (A hP h);have f:J (∀k,Cl 280 #[i! g (ζ P.nd) cap P.nv] k λe w'=>∃rb d,e=p' (dx rb (ζ P.nd))/\Sys w' k.1.size rb 2 393 404 d/\d.map RR.pr=replicate (ζ P.nd) P?/\Bl k w'):=λk=>lD g (ζ P.nd) cap P.nv k V;have a:∀n,n<ζ P.nd->ζ (SZ P n).2<=200:=by intro n K;obtain⟨c,R,_,_,_,b,B,_⟩:=hP.nodes K;have:=(h.nx R (aT b)).1;simp[SZ,B];omega
 obtain⟨N,W⟩:=Ea (ζ P.nd);obtain⟨Q,c⟩:=Ea P.nv;rw[<-W]at V a;rw[<-c]at i;rw[<-W,<-c]at f⊢;have K:=hid (A W (A c a));clear hP h W c a;simp only[i!,dx]at f⊢;go_enter func221,ntmps221;go_upto_region 1 with(fail)
 generalize u:(w.alloc (k' (e! g N cap Q) 86)).alloc (k' EB 260)=a;have U:J (Bl w a/\a.1[δ w.1]?=B' (k' (e! g N cap Q) 86 (0,0))/\a.1[δ w.1+1]?=B' mI):=by subst u;exact⟨cG,fC.1,fC.2⟩
 clear u;have E:=M U.b;go_upto_region 2 with(go_at_call 280;refine(f.o _).mono ?_;rintro e t ⟨rb,d,rfl,S,Y,l⟩;have c:=hid (A S (A Y l));clear S Y l E)
 generalize u:t.alloc (k' (fe rb N) 260)=F;have V:J (Bl w F/\F.1[δ w.1]?=B' (k' (e! g N cap Q) 86 (0,0))/\F.1[δ w.1+1]?=B' mI/\F.1[δ t.1]?=B' (k' (fe rb N) 260 (0,0))/\Sys F w.1.size rb 2 393 404 d/\d.map RR.pr=kr N (upto (SZ P) 0)):=by exact afE
 clear u;have a:δ w.1+1<δ t.1:=by have:=c.B.size;have:=blt U.B;omega
 have B:rb<δ t.1:=blt c.a.lQ;have W:δ w.1+1<rb:=by have:=c.a.low;have:=blt U.B;omega
 generalize δ t.1=sb at V a B⊢;have E:=M V.b;go_wp2;clear E;go_loopw[13] (λy wr=>∃(i:Nat) (ql:List RR),i<=N/\y=G i/\J (Sys wr w.1.size rb 2 393 404 ql/\ql.map RR.pr=kr N (upto (SZ P) i)/\TF w.1.size 393 404 F wr)) (λy _=>N-(intOf y).toNat)
 case atStart=>exact⟨0,d,bj,rfl,V.e,V.E,AF⟩
 obtain⟨i,ql,S,rfl,S⟩:=hrel;have s:=blt (S.B.box V.d aj aj);by_cases L:i<N;rotate_left
 ·have a:¬(i:Int)<N:=I;have d:i=N:=I;have Y:=S.B;have E:=M (Y.box V.d aj aj);have q:=M (Y.box V.b aj aj);have z1:=M (Y.box V.c aj aj);have n1:δ w.1+1≠sb:=I;have n2:=n1.symm;have c:δ w.1+1≠δ w.1:=I;clear Y;go_upto_region 11 with fail
  go_region_law fail
  all_goals
   go_wp2;have v:wr.1[δ w.1+1]?=B' mI:=S.B.box V.c aj aj;have W:=(M (aq (o:=2) (aq (o:=1) (aq (o:=0) v (dU rb N)) ji) n9)).1;refine aC (v:=t' #[dx rb N,G Q]) (by simp[results221,go_sem,(M (aq (o:=0) v (dU rb N))).1,(M (aq (o:=1) (aq (o:=0) v (dU rb N)) ji)).1,W,dx]) rfl ⟨rb,rfl,ql,?_,?_,?_⟩
   ·exact S.a.keep v ⟨aj,aj⟩ (λD W=>by show(((wr.setCell _ _).setCell _ _).setCell _ _).1[D]?=_;rw[aJ W,aJ W,aJ W])
   ·rw[S.b,d,EM]
   exact((((V.a.trans S.B.low)).setCell H' _).setCell H' _).setCell H' _ |>.drew
 have a:(i:Int)<N:=I;have D:=(y1.a.below V.a).tf S.B aj aj aj aj;obtain⟨r,R,T,z,B,_,TB,_⟩:=D.nodes (by rw[<-K.a];exact L);have X:=λj (f:j<14)=>(mR D T j f);have f:=aT z;obtain⟨j,GH⟩:=Ea r.n;rw[<-GH]at X z B f;simp only[NC.wv,NC.ev]at X;generalize r.bu=U at X;generalize r.wa=y at X;generalize r.wl=wl at X;generalize r.wc=wc at X;generalize r.ea=ea at X;generalize r.el=el at X;generalize r.ec=ec at X;have s:J (∀k,Cl 284 #[l' (aR U (i' y wl wc) j (i' ea el ec))] k (Rb k (dh (QP j)))):=λk=>QO U (i' y wl wc) (i' ea el ec) j k (Km y1.A f);have Ec:J (∀k,Cl 282 #[l' (aR U (i' y wl wc) j (i' ea el ec))] k (Rb k (j' (gU j)))):=λk=>(lL U _ _ j k (y1.A.aG j f).1).mono λe w' p=>⟨p.1,by rw[p.2];exact bf⟩;have U!:J (gU j=O'->0<=j.var/\j.var<8):=λh=>by have:=y1.A.var j f (by simpa[gU]using h);have:=y1.A.nv;omega
 obtain⟨c,p⟩:=Ea (QP j);obtain⟨ok,o⟩:=Ea (gU j);obtain⟨r,hr,R,Xa⟩:=FP S.b L;have d:J (ql[i]?=B' r/\r.st=fz (0,0)/\SZ P i=(fz c,(P.si i).map λt=>(t,vz (if ok then⟨eY [j.var.toNat],(0,0)⟩ else ef0)))):=⟨hr,by rw[R];simp[upto,P?,fz],by unfold SZ S0;rw[B,p,o]⟩;have gb:J (∀k e W,PM k g cap nl P->Sys k w.1.size rb 2 393 404 W->ζ W=N->δ w.1<=δ k.1->(∀r∈W,ζ r.es<=200)->Cl 285 #[dx rb N,i! g N cap Q,G i,Ev e] k λr w'=>(∃v,r=p' v)/\∃a,Sys w' w.1.size rb 2 393 404 a/\a.map RR.pr=(P.si i).foldl (λl t=>wo l i (t,vz e)) (W.map RR.pr)/\TF w.1.size 393 404 k w'):=by intro k e W C h2 h3 h4 l;have:=tS g cap Q rb w.1.size i nl P W e k C y1.A (by rw[<-K.a];exact L) h2 (by rw[<-K.a];exact h3) h4 l;rwa[<-K.a]at this
 have HF:J (∀x∈ql.set i ⟨fz c,r.ea,r.ec,r.es⟩,ζ x.es<=200):=by
  have W:=Dc S.b (EL K.B);intro x b;rcases mZ b with b|b
  ·exact W x b
  rw[b];exact W r (aT hr)
 have HL:=hid (yn S.b);rw[<-p]at s;rw[<-o]at Ec U!;obtain⟨x,b,op,K,⟨ai,av,W⟩,⟨bi,bv,bc⟩,l⟩:=j;have j:=N9 X;simp only[aR,dh]at s Ec U!;simp only[dx,i!,Ev]at gb;clear X p o GH z hr R Xa B f T D TB;go_upto_region 5 with(fail)
 generalize f:wr.alloc (k' #[m' U,i' y wl wc,G x,G b,G op,G K,j' ai,G av,G W,j' bi,G bv,G bc,i' ea el ec,m' l] 152)=p;have B:J (Below wr.1.size wr p/\p.1[δ wr.1]?=B' (k' #[m' U,i' y wl wc,G x,G b,G op,G K,j' ai,G av,G W,j' bi,G bv,G bc,i' ea el ec,m' l] 152 (0,0))):=by subst f;exact⟨bf,bV⟩
 clear f j;have E:=M (aL B.a (S.B.box V.d aj aj));have q:=M B.A;have X:=B.a.size;have n1:rb≠sb:=I;have n2:=n1.symm
 go_region_law (go_simp;refine bK (s.o _) ?_;rintro e o ⟨rfl,f⟩;have s:J (Bl p o):=H ay f;clear f E q;have E:=M (aL s.o (aL B.a (S.B.box V.d aj aj)));have q:=M (aL s.o B.A);have z1:=((S.a.below B.a).below s.o).two d.a d.b)
 all_goals
  generalize u:κ (κ o (O rb (i*3)) (Z c.1)) (O rb (i*3+1)) (Z c.2)=j;have X:J (Sys j w.1.size rb 2 393 404 (ql.set i ⟨fz c,r.ea,r.ec,r.es⟩)/\TF w.1.size 393 404 F j/\j.1[δ wr.1]?=B' (k' #[m' U,i' y wl wc,G x,G b,G op,G K,j' ai,G av,G W,j' bi,G bv,G bc,i' ea el ec,m' l] 152 (0,0))):=by subst u;have hs:=(S.a.below B.a).below s.o;have Y:=hs.sG (k:=i) (v:=Z c.1) (v':=Z c.2);exact⟨hs.start aj d.a d.b,(S.B.trans (TF.aX (H B.a s.o) I)).trans Y,Y.box (aL s.o B.A) aj aj⟩
  clear u;clear E q z1;generalize δ wr.1=s at X B⊢;go_upto_region 7 with fail
  generalize u:j.alloc (k' xi 397)=z;have f:J (Below j.1.size j z/\z.1[δ j.1]?=B' (k' xi 397 (0,0))/\δ w.1<=δ j.1/\δ F.1<=δ j.1):=by subst u;exact⟨bf,bV,by have:=X.b.low.size;have:=blt (X.b.box V.b aj aj);omega,X.b.low.size⟩
  clear u;have o:=hid (A f.a f.c);generalize δ j.1=D at f⊢;have E:=M (aL o.a X.B);have H6:J (∀k,Bl z k->PM k g cap nl P/\Sys k w.1.size rb 2 393 404 (ql.set i ⟨fz c,r.ea,r.ec,r.es⟩)/\δ w.1<=δ k.1/\TF w.1.size 393 404 F k/\k.1[s]?=B' (k' #[m' U,i' y wl wc,G x,G b,G op,G K,j' ai,G av,G W,j' bi,G bv,G bc,i' ea el ec,m' l] 152 (0,0))/\k.1[sb]?=B' (k' (fe rb N) 260 (0,0))/\k.1[δ w.1]?=B' (k' (e! g N cap Q) 86 (0,0))/\k.1[D]?=B' (k' xi 397 (0,0))):=by intro k j;have W:=H o.a j;have Y:=X.b.trans (TF.aX W o.A);exact⟨(y1.a.below V.a).tf Y aj aj aj aj,X.a.below W,bD o.A W.size,Y,aL W X.B,Y.box V.d aj aj,Y.box V.b aj aj,aL j f.b⟩
  have W:=f.C;cases ok
  ·go_upto_region 9 with(go_at_call 282;refine(Ec.o _).mono ?_;rintro e U ⟨rfl,f⟩;have u:=hid f;clear f E)
   obtain⟨B,y,l,Y,_,o,x,j⟩:=H6.o U u.o;have E:=M o;have q:=M x;have z1:=M j;have k:J (Cl 285 #[l' (fe rb N),l' (e! g N cap Q),G i,l' xi] U λr w'=>(∃v,r=p' v)/\∃a,Sys w' w.1.size rb 2 393 404 a/\a.map RR.pr=kr N (upto (SZ P) (i+1))/\TF w.1.size 393 404 F w'):=by refine bK (gb.o U ef0 _ B y (by rw[de];exact HL.o) l HF.o) ?_;rintro r w' ⟨C,a,h2,h3,h4⟩;exact⟨C,a,h2,h3.trans (zx S.b d.a d.B),Y.trans h4⟩
   clear B y l Y o x j;go_wp2_with (go_at_call 285;refine k.o.mono ?_;rintro e s ⟨⟨v,rfl⟩,a,p⟩;have W:=hid p;clear p E q z1);go_roundw
   case rel=>exact⟨i+1,a,L,f',W.o⟩
   exact G'
  have R:=U!.o rfl;obtain⟨K,rfl⟩:∃K:Nat,b=(K:Int):=⟨b.toNat,J' R.1⟩;have b:K<128:=by have:=R.2;omega
  have y1:J (∀X W,χ X (O W 0)=B' (G K)->Cl 241 (qK W) X (Rb X (dh (eY [K])))):=λX W T=>nM X W K b T;have T:J (SZ P i=(fz c,(P.si i).map λt=>(t,vz ⟨eY [K],(0,0)⟩))):=by show _=_;rw[d.B];simp
  obtain⟨W,b⟩:=Ea (eY [K]);rw[<-b]at y1 T;clear R b;simp only[dh]at y1;go_upto_region 8 with(go_at_call 282;refine(Ec.o _).mono ?_;rintro e U ⟨rfl,f⟩;have u:=hid f;clear f E)
  have E:=M (H6.o U u.o).2.2.2.2.1
  skip
  go_upto_region 9 with(go_at_call 241;refine(y1.o _ _ ak).mono ?_;rintro e s ⟨rfl,b⟩;have f:=hid (H u.o (H bf b));clear b E;have z1:=M (H6.o s f.o).2.2.2.2.2.2.2)
  have y1:J (PM (κ (κ s (O D 0) (Z W.1)) (O D 1) (Z W.2)) g cap nl P/\Sys (κ (κ s (O D 0) (Z W.1)) (O D 1) (Z W.2)) w.1.size rb 2 393 404 (ql.set i ⟨fz c,r.ea,r.ec,r.es⟩)/\δ w.1<=δ (κ (κ s (O D 0) (Z W.1)) (O D 1) (Z W.2)).1/\TF w.1.size 393 404 F (κ (κ s (O D 0) (Z W.1)) (O D 1) (Z W.2))/\(κ (κ s (O D 0) (Z W.1)) (O D 1) (Z W.2)).1[sb]?=B' (k' (fe rb N) 260 (0,0))/\(κ (κ s (O D 0) (Z W.1)) (O D 1) (Z W.2)).1[δ w.1]?=B' (k' (e! g N cap Q) 86 (0,0))/\(κ (κ s (O D 0) (Z W.1)) (O D 1) (Z W.2)).1[D]?=B' (k' #[Z W.1,Z W.2,Z 0,Z 0] 397 (0,0))):=by
   obtain⟨B,y,l,Y,_,o,x,j⟩:=H6.o s f.o;have c:∀b,b≠D->(κ (κ s (O D 0) (Z W.1)) (O D 1) (Z W.2)).1[b]?=s.1[b]?:=λb f=>(aJ f).trans (aJ f);have z:sb≠D:=by rintro rfl;rw[o]at j;simp at j
   have K:δ w.1≠D:=by intro h;rw[<-h,x]at j;simp at j
   refine⟨B.keep λb u t f e U=>c b ?_,y.keep j ⟨aj,aj⟩ c,?_,?_,(c _ z).trans o,(c _ K).trans x,?_⟩
   ·rintro rfl;rw[j]at e;simp at e;obtain⟨_,rfl,_⟩:=e;rcases U with h|h<;>exact absurd h aj
   ·simpa using l
   ·exact⟨(Y.low.setCell (by show _<=D;have:=V.a.size;omega) _).setCell (by show _<=D;have:=V.a.size;omega) _,λb u t f e C h2=>(c b (J' ((aY.1 e).1))).trans (Y.keep b u t f e C h2)⟩
   rw[aq (aq j _) _];rfl
  clear z1;generalize(κ s (O D 0) (Z W.1)).setCell (O D 1) (Z W.2)=c at y1⊢;obtain⟨B,y,l,Y,o,x,j⟩:=y1.o;have E:=M o;have q:=M x;have z1:=M j;have k:J (Cl 285 #[l' (fe rb N),l' (e! g N cap Q),G i,l' #[Z W.1,Z W.2,Z 0,Z 0]] c λr w'=>(∃v,r=p' v)/\∃a,Sys w' w.1.size rb 2 393 404 a/\a.map RR.pr=kr N (upto (SZ P) (i+1))/\TF w.1.size 393 404 F w'):=by refine bK (gb.o c ⟨W,(0,0)⟩ _ B y (by rw[de];exact HL.o) l HF.o) ?_;rintro r w' ⟨C,a,h2,h3,h4⟩;exact⟨C,a,h2,h3.trans (zx S.b d.a T.o),Y.trans h4⟩
  clear B y l Y o x j;go_wp2_with (go_at_call 285;refine k.o.mono ?_;rintro e l ⟨⟨v,rfl⟩,a,Y⟩;have k:=hid Y;clear Y E q z1);go_roundw
  case rel=>exact⟨i+1,a,L,f',k.o⟩
  exact G'
end
section
variable {P:Pm} {f t:Nat} {v:A'}
def uU(P:Pm)(st:Nat->List A')(E:Nat->Ef)(k n:Nat):RA:=(st n,(range k).flatMap λm=>(fA n 0 (P.si m)).map λ_=>(m,vz (E m)))
def GX(P:Pm)(E:Nat->Ef)(N:Nat):kr N (uU P (λ_=>fz (0,0)) E 0)=replicate N P?:=by refine IF.2 ⟨ak,λb a=>?_⟩;obtain⟨n,_,rfl⟩:=cZ.1 a;simp[uU,P?,fz]
def GY(P:Pm)(st:Nat->List A')(E:Nat->Ef)(N k:Nat):(P.si k).foldl (λl t=>wo l t (k,vz (E k))) (kr N (uU P st E k))=kr N (uU P st E (k+1)):=by rw[TW N (k,vz (E k)) (P.si k) 0];refine iD λn _=>?_;simp[uU,nY]
def Gz(n:Nat):∀(j:Nat) (R:List Nat),ζ (fA n j R)<=ζ R
 |_,[]=>by simp[fA]
 |j,t::R=>by have:=Gz n (j+1) R;simp only[fA];split<;>simp<;>omega
def wM{P:Pm}{st:Nat->List A'}{E:Nat->Ef}(b:∀m,ζ (P.si m)<=2){n:Nat}:∀k,ζ (uU P st E k n).2<=2*k
 |0=>by simp[uU]
 |k+1=>by have B:=wM b (st:=st) (E:=E) (n:=n) k;have C:=Gz n 0 (P.si k);have N:=b k;simp only[uU,nY,IG,bF,cN,flatMap_nil,gO,b!]at B⊢;omega
def tj(h:dC P)(m:Nat):ζ (P.si m)<=2:=by
 rw[Pm.si,getD];cases e:P.nx[m]? with
 |none=>simp
 |some l=>exact(h.nx l (aT e)).1
def yr{a:u'}{T p:Nat}{D:List A'}(h:ρ w B t m v n D)(e:TF f T p w a)(C:t≠T)(d:t≠p):ρ a B t m v n D:=by
 refine⟨h.1,?_⟩;rcases h.2 with a|⟨g,b,Y,V,u,c,f⟩
 ·exact aI a
 exact aK ⟨g,b,Y,V,u,(e.keep g _ _ _ c C d).trans c,f⟩
def pq{h:List A'}(D:ρ w B t m v n h)(d:f<=B):ρ w f t m v n h:=by exact aac
def rY(P:Pm):ζ P.ex<=ζ P.nd:=by have:=T8 (ζ P.nd) P;rwa[cH aF]at this
def T6(h:∀n∈P.nd,nU (jB n)):∀x∈P.ex,nU x:=by have:=DH (ζ P.nd) P h;rwa[cH aF]at this
def uW{n:SN}(K:n∈P.nd)(l:K4 n=O'):jB n∈P.ex:=by have:B' (jB n)∈P.nd.map t! := cZ.2 ⟨n,K,by rw[DI,aB l]⟩;exact(Xv _ _).2 this
def S2(ks:List Key)(n:SN):Ef:=⟨zi ks n,Eo ks n⟩
def lkS(ks:List Key)(n:Nat):List A':=fz (if n=0 then pW (ζ ks) else(0,0))
def lkR(P:Pm):Nat->RA:=uU P (lkS P.ex) (λm=>S2 P.ex (P.at m)) (ζ P.nd)
end
