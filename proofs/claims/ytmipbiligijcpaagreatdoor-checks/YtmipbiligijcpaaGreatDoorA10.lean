import Derived.Test.YtmipbiligijcpaaGreatDoorA08
import Derived.Test.YtmipbiligijcpaaGreatDoorA09
namespace Go.Proofs.YtmipbiligijcpaaGreatDoor
set_option linter.all false
set_option maxRecDepth 99999
set_option maxHeartbeats 0
open Go.RowKit Go.Proofs Go.Maps Tryz List open List renaming length→ζ,toArray→θ open _root_.Array renaming size→δ open World renaming setCell→κ,ownsRow→ρ,cell?→χ,grownBy→ξ,setCells→ψ open Value renaming ownBlock→φ open Value renaming slice→i',bool→j',agg→l',string→m',pointer→o',tuple→t' open Obj renaming cells→k' open Ending renaming returned→p' open Option renaming some→B',none→C' open Bool renaming true→O',false→P'
variable {B Q a c i j k n o q:Nat}{W w:u'}{g:Int}{p:Prop}{s:z'}
section
def qs5(h:p:=by
 obtain⟨k,t⟩:∃k:Nat,n.var=(k:Int):=⟨n.var.toNat,I⟩;have hk:k<8:=I;have s:n.var.toNat=k:=I;rw[s]
 first|(have _:=yJ;(first|(have _:=Da;have f:=hid (λW=>KH (l' #[]) W rfl))|(have f:=hid (λW=>Lm (l' #[]) W rfl)));(first|(have _:=Da;have o:=hid (λW=>kA e k VV.gT W hk))|(have o:=hid (λW=>kA e k VV.all W hk)));have g:=Bk;clear hv s)|(have f:=hid (λW=>jv e n.a W ha);have o:=hid (λW=>kA e k (ja e n.a) W hk);generalize ja e n.a=z at f o⊢;clear hv ha s)
 obtain⟨x,g,op,l,j,T,g⟩:=n;simp only at t;subst t
 first|(have _:=yJ;simp only[aR,KC.qv,KB.qv,eK,VV.gT,VV.all]at f o hn⊢;go_enter aeR,aeB)|(simp only[aR,KC.qv,KB.qv]at f o hn⊢;go_enter aeS,aeC)
 go_upto_region 1 with fail
 generalize u:(w.alloc (k' (θ (aU e)) cA)).alloc (k' kV cA)=V;have B:J ((V.1[δ w.1]?=B' (k' (θ (aU e)) cA (0,0))/\V.1[δ w.1+1]?=B' (k' kV cA (0,0)))/\Bl w V/\V.1[nb]?=B' (k' #[m' bu,i' wa wl wc,G x,G k,G op,G l,j' j.aS,G j.var,G j.cq,j' T.aS,G T.var,G T.cq,i' ea el ec,m' g] 152 (0,0))/\V.1[db]?=B' (k' #[.iface g! (l' #[])] xZ (0,0))):=by subst u;exact⟨fC,cG,aL cG hn,aL cG hd⟩
 clear u;have l:=hid (A hn hd);clear hn hd;have E:δ w.1+1<δ V.1:=blt B.a.2;refine wp_region_held_drew (S:=λW'=>Bl w W'/\W'.1[δ w.1]?=B' (k' (θ (aU e)) cA (0,0))) au ⟨B.b.drew,B.a.1⟩ (λaM=>?_);refine tz 0 (l' (θ (aU e))) ?_ (y:=yieldsIf_load_mid au _ _ rfl _ _ rfl _ _ (λW' bN=>bG bN.2) kU rfl au);refine tq 1 (qJ nb) ?_;refine tr 2 (G k) (λW' bN=>A ((M (aL bN.1 l.a)).1) ((M (aL bN.1 l.A)).1)) ?_;refine tr 3 (.iface g! (l' #[])) (λW' bN=>A ((M (aL bN.1 l.a)).1) ((M (aL bN.1 l.A)).1)) ?_
 first|(have _:=yJ;refine r1 4 λK g=>?_)|(refine tz 4 (l' (θ (aU e))) ?_ (y:=yieldsIf_load_mid au _ _ rfl _ _ rfl _ _ (λW' bN=>bG bN.2) kU rfl au);refine tq 5 (o' (B' (O nb 6))) ?_;refine tr 6 (l' (cT j.aS j.var j.cq)) (λW' bN=>A ((M (aL bN.1 l.a)).1) ((M (aL bN.1 l.A)).1)) ?_;refine r1 7 λK g=>?_)
 go_simp;refine(f.o _).mono ?_;rintro r j ⟨rfl,l⟩;have f:J (Bl V j):=H ay l;clear l;refine g.out _ _ ⟨H B.b f.o,aL f.o B.a.1⟩ (λaM=>?_);clear g K;refine pt ?_
 first|(have _:=yJ;refine r1 5 λK g=>?_)|(refine r1 8 λK g=>?_)
 go_simp;refine(o.o _).mono ?_;rintro r o ⟨rfl,l⟩;have j:J (Bl V o):=H (H f.o ay) l;clear l;refine g.out _ _ ⟨H B.b j.o,aL j.o B.a.1⟩ (λaM=>?_);clear g K;refine pt ?_
 first|(have _:=yJ;refine r1 6 λK g=>?_)|(refine r1 9 λK g=>?_)
 rw[aB au];have U:=cY (n:=17) (aL j.o B.a.2) rfl
 first|(have _:=yJ;(first|(have _:=Da;refine wp_store_mid cA (.tmp 4) (.tmp 10) rfl (δ w.1+1) 0 (θ (aU (e.put k ⟨true,0,0⟩))) rfl rfl U au (bH _) ?_)|(refine wp_store_mid cA (.tmp 4) (.tmp 10) rfl (δ w.1+1) 0 (θ (aU (e.put k ⟨false,-9223372036854775808,9223372036854775807⟩))) rfl rfl U au (bH _) ?_)))|(refine wp_store_mid cA (.tmp 4) (.tmp 13) rfl (δ w.1+1) 0 (θ (aU (e.put k z))) rfl rfl U au (bH _) ?_)
 refine g.out _ _ ⟨dF I _ _ _ (H B.b j.o),(jI _ _ _ _ _ I).trans (aL j.o B.a.1)⟩ (λaM=>?_);clear g K;refine pt ?_;refine wpAnyH_done au ?_ _;go_wp2_with fail
 first|(have _:=yJ;(first|(have _:=Da;have hq:=df (cs:=vx) (aL j.o B.a.2) (vs:=aU (e.put k ⟨true,0,0⟩)) rfl)|(have hq:=df (cs:=vx) (aL j.o B.a.2) (vs:=aU (e.put k ⟨false,-9223372036854775808,9223372036854775807⟩)) rfl));(first|(have _:=Da;have C:=run_loadVar_mid (P:=Tryz.prog) (ψ o (δ w.1+1) 0 (aU (e.put k ⟨true,0,0⟩))) (δ w.1+1) 0 cA (aU (e.put k ⟨true,0,0⟩)) _ (bG hq) kU rfl au)|(have C:=run_loadVar_mid (P:=Tryz.prog) (ψ o (δ w.1+1) 0 (aU (e.put k ⟨false,-9223372036854775808,9223372036854775807⟩))) (δ w.1+1) 0 cA (aU (e.put k ⟨false,-9223372036854775808,9223372036854775807⟩)) _ (bG hq) kU rfl au));(first|(have _:=Da;refine aC (v:=l' (θ (aU (e.put k ⟨true,0,0⟩)))) (by simp[results,results311,results321,C,Act.put,asAddr]) rfl ⟨rfl,dF I _ _ _ (H B.b j.o)⟩)|(refine aC (v:=l' (θ (aU (e.put k ⟨false,-9223372036854775808,9223372036854775807⟩)))) (by simp[results,results311,results321,C,Act.put,asAddr]) rfl ⟨rfl,dF I _ _ _ (H B.b j.o)⟩)))|(have hq:=df (cs:=vx) (aL j.o B.a.2) (vs:=aU (e.put k z)) rfl;have C:=run_loadVar_mid (P:=Tryz.prog) (ψ o (δ w.1+1) 0 (aU (e.put k z))) (δ w.1+1) 0 cA (aU (e.put k z)) _ (bG hq) kU rfl au;refine aC (v:=l' (θ (aU (e.put k z)))) (by simp[results,results308,results318,C,Act.put,asAddr]) rfl ⟨rfl,dF I _ _ _ (H B.b j.o)⟩)):p:=h
open KC in
def KC.yg(e:PE)(bu:ByteArray)(wa ea:Option Addr)(wl wc el ec:Nat)(n:SN)(nb db:Nat)(w:World)(hn:w.heap[nb]?=some (.cells (aR bu (.slice wa wl wc) n (.slice ea el ec)) 152 (0,0)))(hd:w.heap[db]?=some (.cells #[.iface 328 (.agg #[])] 381 (0,0)))(hv:0<=n.var/\n.var<8)(ha:n.a.aS=true->0<=n.a.var/\n.a.var<8):
 Cl 308 #[.agg (KC.aU e).toArray,.pointer (some (O nb 0)),.pointer (some (O db 0))] w (Rb w (.agg (KC.aU (e.put n.var.toNat (ja e n.a))).toArray)):=by exact qs5
open KB in
def KB.yg(e:PE)(bu:ByteArray)(wa ea:Option Addr)(wl wc el ec:Nat)(n:SN)(nb db:Nat)(w:World)(hn:w.heap[nb]?=some (.cells (aR bu (.slice wa wl wc) n (.slice ea el ec)) 152 (0,0)))(hd:w.heap[db]?=some (.cells #[.iface 331 (.agg #[])] 386 (0,0)))(hv:0<=n.var/\n.var<8)(ha:n.a.aS=true->0<=n.a.var/\n.a.var<8):
 Cl 318 #[.agg (KB.aU e).toArray,.pointer (some (O nb 0)),.pointer (some (O db 0))] w (Rb w (.agg (KB.aU (e.put n.var.toNat (ja e n.a))).toArray)):=by exact qs5
theorem qs6(h:p:=by
 have yJ:=True.intro
 exact qs5):p:=h
open KC in
theorem KC.yf(e:PE)(bu:ByteArray)(wa ea:Option Addr)(wl wc el ec:Nat)(n:SN)(nb db:Nat)(w:World)(hn:w.heap[nb]?=some (.cells (aR bu (.slice wa wl wc) n (.slice ea el ec)) 152 (0,0)))(hd:w.heap[db]?=some (.cells #[.iface 328 (.agg #[])] 381 (0,0)))(hv:0<=n.var/\n.var<8):
 Cl 311 #[.agg (KC.aU e).toArray,.pointer (some (O nb 0)),.pointer (some (O db 0))] w (Rb w (.agg (KC.aU (e.put n.var.toNat VV.gT)).toArray)):=by exact qs6
open KB in
theorem KB.yf(e:PE)(bu:ByteArray)(wa ea:Option Addr)(wl wc el ec:Nat)(n:SN)(nb db:Nat)(w:World)(hn:w.heap[nb]?=some (.cells (aR bu (.slice wa wl wc) n (.slice ea el ec)) 152 (0,0)))(hd:w.heap[db]?=some (.cells #[.iface 331 (.agg #[])] 386 (0,0)))(hv:0<=n.var/\n.var<8):
 Cl 321 #[.agg (KB.aU e).toArray,.pointer (some (O nb 0)),.pointer (some (O db 0))] w (Rb w (.agg (KB.aU (e.put n.var.toNat VV.all)).toArray)):=by exact qs6
def qs7(h:p:=by
 have Y:=hid (λW=>sZ e bu wa ea wl wc el ec n W hv ha hb qU qT);clear hv ha hb qU qT;generalize rK e n=c at Y⊢;obtain⟨x,q,i,b,d,T,g⟩:=n;simp only[aR]at Y hn⊢;go_enter aeQ,aeA;go_upto_region 1 with fail
 generalize u:(w.alloc (k' (θ (aU e)) cA)).alloc (k' kV cA)=V;have B:J ((V.1[δ w.1]?=B' (k' (θ (aU e)) cA (0,0))/\V.1[δ w.1+1]?=B' (k' kV cA (0,0)))/\Bl w V/\V.1[nb]?=B' (k' #[m' bu,i' wa wl wc,G x,G q,G i,G b,j' d.aS,G d.var,G d.cq,j' T.aS,G T.var,G T.cq,i' ea el ec,m' g] 152 (0,0))/\V.1[db]?=B' (k' #[.iface g! (l' #[])] xZ (0,0))):=by subst u;exact⟨fC,cG,aL cG hn,aL cG hd⟩
 clear u;have l:=hid (A hn hd);clear hn hd;have E:δ w.1+1<δ V.1:=blt B.a.2;have b:=M B.c;have W:=M B.C;go_wp2_with (first|(refine wpList_load_mid rfl cA (.tmp 3) rfl w.1.size 0 rfl (aU e) _ (bG B.a.1) kU rfl au ?_)|((first|go_at_call 313 | go_at_call 323);refine(Y.o _).mono ?_;rintro r b ⟨rfl,hb⟩;have f:J (Bl V b):=hb;clear hb;have U:=cY (n:=17) (aL f.o B.a.2) rfl)|(refine wpList_store_mid rfl cA (.tmp 4) (.tmp 8) rfl (δ w.1+1) 0 (θ (aU (c))) rfl rfl U au (bH _) ?_));have d:=df (cs:=vx) (aL f.o B.a.2) (vs:=aU (c)) rfl;have C:=run_loadVar_mid (P:=Tryz.prog) (ψ b (δ w.1+1) 0 (aU (c))) (δ w.1+1) 0 cA (aU (c)) _ (bG d) kU rfl au
 refine aC (v:=l' (θ (aU (c)))) (by simp[results,results312,results322,C,Act.put,asAddr]) rfl ⟨rfl,dF I _ _ _ (H B.b f.o)⟩):p:=h
open KC in
def KC.ye(e:PE)(bu:z')(wa ea:x')(wl wc el ec:Nat)(n:SN)(nb db:Nat)(w:u')(hn:w.1[nb]?=B' (k' (aR bu (i' wa wl wc) n (i' ea el ec)) 152 (0,0)))(hd:w.1[db]?=B' (k' #[.iface 328 (l' #[])] 381 (0,0)))(hv:0<=n.var/\n.var<8)(ha:n.a.aS=O'->0<=n.a.var/\n.a.var<8)(hb:n.b.aS=O'->0<=n.b.var/\n.b.var<8)(qU:dT (bZ (ja e n.a)))(qT:dT (bZ (ja e n.b))):
 Cl 312 #[l' (θ (KC.aU e)),o' (B' (O db 0)),o' (B' (O nb 0))] w (Rb w (l' (θ (KC.aU (KC.rK e n))))):=by exact qs7
open KB in
def KB.ye(e:PE)(bu:z')(wa ea:x')(wl wc el ec:Nat)(n:SN)(nb db:Nat)(w:u')(hn:w.1[nb]?=B' (k' (aR bu (i' wa wl wc) n (i' ea el ec)) 152 (0,0)))(hd:w.1[db]?=B' (k' #[.iface 331 (l' #[])] 386 (0,0)))(hv:0<=n.var/\n.var<8)(ha:n.a.aS=O'->0<=n.a.var/\n.a.var<8)(hb:n.b.aS=O'->0<=n.b.var/\n.b.var<8)(qU:dT (bZ (ja e n.a)))(qT:dT (bZ (ja e n.b))):
 Cl 322 #[l' (θ (KB.aU e)),o' (B' (O db 0)),o' (B' (O nb 0))] w (Rb w (l' (θ (KB.aU (KB.rK e n))))):=by exact qs7
def qs8(h:p:=by
 go_enter aeP,aez;go_upto_region 1 with fail
 generalize u:(w.alloc (k' (θ (aU e)) cA)).alloc (k' kV cA)=V;have B:J ((V.1[δ w.1]?=B' (k' (θ (aU e)) cA (0,0))/\V.1[δ w.1+1]?=B' (k' kV cA (0,0)))/\Bl w V):=by subst u;exact⟨fC,cG⟩
 clear u;have U:=cY (n:=17) B.a.2 rfl;go_wp2_with (first|(refine wpList_load_mid rfl cA (.tmp 1) rfl w.1.size 0 rfl (aU e) _ (bG B.a.1) kU rfl au ?_)|(refine wpList_store_mid rfl cA (.tmp 2) (.tmp 3) rfl (δ w.1+1) 0 (θ (aU e)) rfl rfl U au (bH _) ?_));have b:=df (cs:=vx) B.a.2 (vs:=aU e) rfl;have C:=run_loadVar_mid (P:=Tryz.prog) (ψ V (δ w.1+1) 0 (aU e)) (δ w.1+1) 0 cA (aU e) _ (bG b) kU rfl au
 refine aC (v:=l' (θ (aU e))) (by simp[results,results316,results326,C,Act.put,asAddr]) rfl ⟨rfl,dF I _ _ _ B.A⟩):p:=h
open KC in
def KC.yb(e:PE)(w:World):
 Cl 316 #[.agg (θ (KC.aU e))] w (Rb w (.agg (θ (KC.aU e)))):=by exact qs8
open KB in
def KB.yb(e:PE)(w:World):
 Cl 326 #[.agg (θ (KB.aU e))] w (Rb w (.agg (θ (KB.aU e)))):=by exact qs8
end
section
def qs9{p:Prop}(h:p:=by
 obtain⟨b,c⟩:=Ea e.r;have d:(aU e)[0]?=B' (j' b):=by rw[c];rfl
 rw[<-c]at hh⊢;clear c;have s:=hid hh;clear hh;go_enter aeO,aey;go_upto_region 1 with fail
 generalize u:(w.alloc (k' (θ (aU e)) cA)).alloc (k' kV cA)=V;have B:J ((V.1[δ w.1]?=B' (k' (θ (aU e)) cA (0,0))/\V.1[δ w.1+1]?=B' (k' kV cA (0,0)))/\Bl w V/\V.1[sb]?=B' (k' #[.func (.func fk) #[] SO] J? (0,0))):=by subst u;exact⟨fC,cG,aL cG hs⟩
 clear u;clear hs;have f:δ w.1+1<δ V.1:=blt B.a.2;have t:χ V (O w.1.size 0)=B' (j' b):=by rw[(M B.a.1).1];exact(eu ..).trans d
 cases b
 ·have U:=cY (n:=17) B.a.2 rfl;go_wp2_with (refine wpList_store_mid rfl cA (.tmp 3) (.tmp 7) rfl (δ w.1+1) 0 (θ (aU PE.zero)) rfl rfl U au (bH _) ?_);have b:=df (cs:=vx) B.a.2 (vs:=aU PE.zero) rfl;have C:=run_loadVar_mid (P:=Tryz.prog) (ψ V (δ w.1+1) 0 (aU PE.zero)) (δ w.1+1) 0 cA (aU PE.zero) _ (bG b) kU rfl au;refine aC (v:=l' (θ (aU PE.zero))) (by simp[results,results317,results327,C,Act.put,asAddr]) rfl ⟨rfl,dF I _ _ _ B.b⟩
 have d:=M B.B;have Y:=hid (s.o rfl V B.b);go_wp2_with (first|(refine wpList_load_mid rfl cA (.tmp 2) rfl w.1.size 0 rfl (aU e) _ (bG B.a.1) kU rfl au ?_)|(refine Y.o.mono ?_;rintro r d ⟨rfl,c⟩;have f:J (Bl V d):=c;clear c;have U:=cY (n:=17) (aL f.o B.a.2) rfl)|(refine wpList_store_mid rfl cA (.tmp 3) (.tmp 10) rfl (δ w.1+1) 0 (θ (aU e2)) rfl rfl U au (bH _) ?_));have b:=df (cs:=vx) (aL f.o B.a.2) (vs:=aU e2) rfl;have C:=run_loadVar_mid (P:=Tryz.prog) (ψ d (δ w.1+1) 0 (aU e2)) (δ w.1+1) 0 cA (aU e2) _ (bG b) kU rfl au
 refine aC (v:=l' (θ (aU e2))) (by simp[results,results317,results327,C,Act.put,asAddr]) rfl ⟨rfl,dF I _ _ _ (H B.b f.o)⟩):p:=h
open KC in
def KC.jx(e e2:PE)(sb fk:Nat)(SO:Array Value)(w:World)(hs:w.heap[sb]?=some (.cells #[.func (.func fk) #[] SO] 376 (0,0)))(E:∀D w,(callFunc fk D).run Tryz.prog w=.ok (.enter fk D) w)
 (hh:e.r=true->∀W,Bl w W->Cl fk (#[.agg (KC.aU e).toArray]++SO) W (Rb W (.agg (KC.aU e2).toArray))):
 Cl 317 #[.agg (KC.aU e).toArray,.pointer (some (O sb 0))] w (Rb w (.agg (KC.aU (if e.r then e2 else PE.zero)).toArray)):=by exact qs9
open KB in
def KB.jx(e e2:PE)(sb fk:Nat)(SO:Array Value)(w:World)(hs:w.heap[sb]?=some (.cells #[.func (.func fk) #[] SO] 338 (0,0)))(E:∀D w,(callFunc fk D).run Tryz.prog w=.ok (.enter fk D) w)
 (hh:e.r=true->∀W,Bl w W->Cl fk (#[.agg (KB.aU e).toArray]++SO) W (Rb W (.agg (KB.aU e2).toArray))):
 Cl 327 #[.agg (KB.aU e).toArray,.pointer (some (O sb 0))] w (Rb w (.agg (KB.aU (if e.r then e2 else PE.zero)).toArray)):=by exact qs9
end
section
variable {a:u'} {n:SN} {g:Bool}
def KC.ZL(aG:Int)(nb db fb fk:Nat)(SO:Array A'):Prop:=
 (aG=0/\fk=308/\SO=(n! nb db))\/(aG=2/\fk=311/\SO=(n! nb db))\/(aG=1/\fk=312/\SO=(n! db nb))\/(aG=4/\fk=314/\SO=#[o' (B' (O db 0)),o' (B' (O nb 0)),o' (B' (O fb 0))])\/((aG≠0/\aG≠1/\aG≠2/\aG≠4)/\fk=316/\SO=#[])
def KB.ZL(aG:Int)(nb db fb fk:Nat)(SO:Array A'):Prop:=
 (aG=0/\fk=318/\SO=(n! nb db))\/(aG=2/\fk=321/\SO=(n! nb db))\/(aG=1/\fk=322/\SO=(n! db nb))\/(aG=4/\fk=324/\SO=#[o' (B' (O db 0)),o' (B' (O nb 0)),o' (B' (O fb 0))])\/((aG≠0/\aG≠1/\aG≠2/\aG≠4)/\fk=326/\SO=#[])
def KC.p6(w:u')(sb:Nat)(n:SN)(so:Bool):Prop:=∃(bu:z') (wa ea:x') (wl wc el ec nb db fb fk:Nat) (SO:Array A'),w.1[db]?=B' (k' #[.iface 328 (l' #[])] 381 (0,0))/\w.1[nb]?=B' (k' (aR bu (i' wa wl wc) n (i' ea el ec)) 152 (0,0))/\w.1[fb]?=B' (xj so)/\w.1[sb]?=B' (k' #[.func (.func fk) #[] SO] 376 (0,0))/\KC.ZL n.aG nb db fb fk SO
def KB.p6(w:u')(sb:Nat)(n:SN)(so:Bool):Prop:=∃(bu:z') (wa ea:x') (wl wc el ec nb db fb fk:Nat) (SO:Array A'),w.1[db]?=B' (k' #[.iface 331 (l' #[])] 386 (0,0))/\w.1[nb]?=B' (k' (aR bu (i' wa wl wc) n (i' ea el ec)) 152 (0,0))/\w.1[fb]?=B' (xj so)/\w.1[sb]?=B' (k' #[.func (.func fk) #[] SO] 338 (0,0))/\KB.ZL n.aG nb db fb fk SO
def aek(h:p:=by
 obtain⟨x,q,i,j,⟨L,f,k⟩,⟨F,D,X⟩,g⟩:=n;have K:=hid (λ(a b c d:Obj)=>r! w a b c d);simp only[aR];cases l:(x==0);rotate_left
 ·have b:J (ZL x (δ w.1+1) w.1.size (δ w.1+1+1) Wf #[o' (B' (O (δ w.1+1) 0)),o' (dO w.1.size)]):=aI ⟨I' l,rfl,rfl⟩;go_enter OP,OO;go_wp2;obtain⟨s,v,a,t⟩:=H! w (k' #[.iface g! (l' #[])] xZ) (k' #[m' bu,i' wa wl wc,G x,G q,G i,G j,j' L,G f,G k,j' F,G D,G X,i' ea el ec,m' g] 152) (k' #[j' so] 4) (k' #[.func (.func Wf) #[] #[o' (B' (O (δ w.1+1) 0)),o' (dO w.1.size)]] J?);refine aC (v:=.func (.func J!) #[] #[o' (B' (O (δ w.1+1+1+1) 0))]) (by simp[results274,results279,go_sem]) rfl ⟨δ w.1+3,rfl,I,⟨bu,wa,ea,wl,wc,el,ec,δ w.1+1,δ w.1,δ w.1+2,Wf,#[o' (B' (O (δ w.1+1) 0)),o' (dO w.1.size)],s,v,a,t,b.o⟩,K.o _ _ _ _⟩
 cases c:(x==2);rotate_left
 ·have b:J (ZL x (δ w.1+1) w.1.size (δ w.1+1+1) Wg #[o' (B' (O (δ w.1+1) 0)),o' (dO w.1.size)]):=aK (aI ⟨I' c,rfl,rfl⟩);go_enter OP,OO;go_wp2;obtain⟨s,v,a,t⟩:=H! w (k' #[.iface g! (l' #[])] xZ) (k' #[m' bu,i' wa wl wc,G x,G q,G i,G j,j' L,G f,G k,j' F,G D,G X,i' ea el ec,m' g] 152) (k' #[j' so] 4) (k' #[.func (.func Wg) #[] #[o' (B' (O (δ w.1+1) 0)),o' (dO w.1.size)]] J?);refine aC (v:=.func (.func J!) #[] #[o' (B' (O (δ w.1+1+1+1) 0))]) (by simp[results274,results279,go_sem]) rfl ⟨δ w.1+3,rfl,I,⟨bu,wa,ea,wl,wc,el,ec,δ w.1+1,δ w.1,δ w.1+2,Wg,#[o' (B' (O (δ w.1+1) 0)),o' (dO w.1.size)],s,v,a,t,b.o⟩,K.o _ _ _ _⟩
 cases C:(x==1);rotate_left
 ·have b:J (ZL x (δ w.1+1) w.1.size (δ w.1+1+1) Wh #[o' (dO w.1.size),o' (B' (O (δ w.1+1) 0))]):=aK (aK (aI ⟨I' C,rfl,rfl⟩));go_enter OP,OO;go_wp2;obtain⟨s,v,a,t⟩:=H! w (k' #[.iface g! (l' #[])] xZ) (k' #[m' bu,i' wa wl wc,G x,G q,G i,G j,j' L,G f,G k,j' F,G D,G X,i' ea el ec,m' g] 152) (k' #[j' so] 4) (k' #[.func (.func Wh) #[] #[o' (dO w.1.size),o' (B' (O (δ w.1+1) 0))]] J?);refine aC (v:=.func (.func J!) #[] #[o' (B' (O (δ w.1+1+1+1) 0))]) (by simp[results274,results279,go_sem]) rfl ⟨δ w.1+3,rfl,I,⟨bu,wa,ea,wl,wc,el,ec,δ w.1+1,δ w.1,δ w.1+2,Wh,#[o' (dO w.1.size),o' (B' (O (δ w.1+1) 0))],s,v,a,t,b.o⟩,K.o _ _ _ _⟩
 cases d:(x==4)
 ·have b:J (ZL x (δ w.1+1) w.1.size (δ w.1+1+1) Wj #[]):=aK (aK (aK (aK ⟨by simp at l C c d;exact⟨l,C,c,d⟩,rfl,rfl⟩)));go_enter OP,OO;go_wp2;obtain⟨s,v,a,t⟩:=H! w (k' #[.iface g! (l' #[])] xZ) (k' #[m' bu,i' wa wl wc,G x,G q,G i,G j,j' L,G f,G k,j' F,G D,G X,i' ea el ec,m' g] 152) (k' #[j' so] 4) (k' #[.func (.func Wj) #[] #[]] J?);refine aC (v:=.func (.func J!) #[] #[o' (B' (O (δ w.1+1+1+1) 0))]) (by simp[results274,results279,go_sem]) rfl ⟨δ w.1+3,rfl,I,⟨bu,wa,ea,wl,wc,el,ec,δ w.1+1,δ w.1,δ w.1+2,Wj,#[],s,v,a,t,b.o⟩,K.o _ _ _ _⟩
 have b:J (ZL x (δ w.1+1) w.1.size (δ w.1+1+1) Wi #[o' (dO w.1.size),o' (B' (O (δ w.1+1) 0)),o' (B' (O (δ w.1+1+1) 0))]):=aK (aK (aK (aI ⟨I' d,rfl,rfl⟩)));go_enter OP,OO;go_wp2;obtain⟨s,v,a,t⟩:=H! w (k' #[.iface g! (l' #[])] xZ) (k' #[m' bu,i' wa wl wc,G x,G q,G i,G j,j' L,G f,G k,j' F,G D,G X,i' ea el ec,m' g] 152) (k' #[j' so] 4) (k' #[.func (.func Wi) #[] #[o' (dO w.1.size),o' (B' (O (δ w.1+1) 0)),o' (B' (O (δ w.1+1+1) 0))]] J?)
 refine aC (v:=.func (.func J!) #[] #[o' (B' (O (δ w.1+1+1+1) 0))]) (by simp[results274,results279,go_sem]) rfl ⟨δ w.1+3,rfl,I,⟨bu,wa,ea,wl,wc,el,ec,δ w.1+1,δ w.1,δ w.1+2,Wi,#[o' (dO w.1.size),o' (B' (O (δ w.1+1) 0)),o' (B' (O (δ w.1+1+1) 0))],s,v,a,t,b.o⟩,K.o _ _ _ _⟩):p:=h
open KC in
def KC.Bu(bu:z')(wa ea:x')(wl wc el ec:Nat)(n:SN)(so:Bool)(w:u'):
 Cl 274 #[.iface 328 (l' #[]),l' (aR bu (i' wa wl wc) n (i' ea el ec)),j' so] w λr e=>∃o,r=p' (.func (.func 317) #[] #[o' (B' (O o 0))])/\δ w.1<=o/\KC.p6 e o n so/\Bl w e:=by exact aek
open KB in
def KB.Bu(bu:z')(wa ea:x')(wl wc el ec:Nat)(n:SN)(so:Bool)(w:u'):
 Cl 279 #[.iface 331 (l' #[]),l' (aR bu (i' wa wl wc) n (i' ea el ec)),j' so] w λr e=>∃o,r=p' (.func (.func 327) #[] #[o' (B' (O o 0))])/\δ w.1<=o/\KB.p6 e o n so/\Bl w e:=by exact aek
def Yi(h:p:=by
 obtain⟨c,y,i,wl,wc,V,B,f,s,g,u,a,C,e,N,d,l⟩:=h
 exact⟨c,y,i,wl,wc,V,B,f,s,g,u,a,aL b C,aL b e,aL b N,aL b d,l⟩):p:=h
def KC.p6.below(h:KC.p6 w o n g)(b:Bl w a):KC.p6 a o n g:=by exact Yi
def KB.p6.below(h:KB.p6 w o n g)(b:Bl w a):KB.p6 a o n g:=by exact Yi
end
section
variable {sb f:Nat} {d W' V:u'} {n:SN} {g:Bool} {b:List RR} {P:Pm} {D:Nat->List (Nat×Nat)} {es:List (Nat×A')} {L:Array A'} {t:TypeId} {r:RR}
abbrev KC.hJ(rb db n:Nat):A':=l' #[i' (B' (O rb 0)) n n,.func (.func 270) #[] (di db),.func (.func 272) #[] (di db)]
abbrev KB.hJ(rb db n:Nat):A':=l' #[i' (B' (O rb 0)) n n,.func (.func 275) #[] (di db),.func (.func 277) #[] (di db)]
abbrev KC.Bt(sb:Nat):A':=.func (.func 317) #[] (di sb)
abbrev KB.Bt(sb:Nat):A':=.func (.func 327) #[] (di sb)
def KC.Kb(W:u')(P:Pm)(es:List (Nat×A'))(xs:List (Nat×Nat)):Prop:=ζ es=ζ xs/\∀(j:Nat) (e:Nat×A') (x:Nat×Nat),es[j]?=B' e->xs[j]?=B' x->e.1=x.1/\∃sb,e.2=KC.Bt sb/\KC.p6 W sb (P.at x.1) (decide (x.2=0))
def KB.Kb(W:u')(P:Pm)(es:List (Nat×A'))(xs:List (Nat×Nat)):Prop:=ζ es=ζ xs/\∀(j:Nat) (e:Nat×A') (x:Nat×Nat),es[j]?=B' e->xs[j]?=B' x->e.1=x.1/\∃sb,e.2=KB.Bt sb/\KB.p6 W sb (P.at x.1) (decide (x.2=0))
structure KC.oN(W:u')(B rb:Nat)(P:Pm)(xs:Nat->List (Nat×Nat))(ql:List RR):Prop where
  sys:Sys W B rb 17 375 378 ql
  len:ζ ql=ζ P.nd
  st:∀k r,ql[k]?=B' r->r.st=KC.aU (sh k)
  es:∀k r,ql[k]?=B' r->KC.Kb W P r.es (xs k)
structure KB.oN(W:u')(B rb:Nat)(P:Pm)(xs:Nat->List (Nat×Nat))(ql:List RR):Prop where
  sys:Sys W B rb 17 337 340 ql
  len:ζ ql=ζ P.nd
  st:∀k r,ql[k]?=B' r->r.st=KB.aU (sh k)
  es:∀k r,ql[k]?=B' r->KB.Kb W P r.es (xs k)
def aec(h:p:=by
 obtain⟨c,y,i,wl,wc,V,f,k,s,j,u,b,C,e,N,d,l⟩:=h
 exact⟨c,y,i,wl,wc,V,f,k,s,j,u,b,hf.box C aj aj,hf.box e aj aj,hf.box N aj aj,hf.box d aj aj,l⟩):p:=h
open KC in
def KC.p6.tf{a:u'}(h:KC.p6 w o n g)(hf:TF B 375 378 w a):KC.p6 a o n g:=aec
open KB in
def KB.p6.tf{a:u'}(h:KB.p6 w o n g)(hf:TF B 337 340 w a):KB.p6 a o n g:=aec
def KC.Kb.mono{b:u'}{a:List (Nat×A')}{D:List (Nat×Nat)}(h:KC.Kb W P a D)(B:∀o n g,KC.p6 W o n g->KC.p6 b o n g):KC.Kb b P a D:=
 ⟨h.1,λj e x l F=>by obtain⟨C,o,a,N⟩:=h.2 j e x l F;exact⟨C,o,a,B _ _ _ N⟩⟩
def KB.Kb.mono{b:u'}{a:List (Nat×A')}{D:List (Nat×Nat)}(h:KB.Kb W P a D)(B:∀o n g,KB.p6 W o n g->KB.p6 b o n g):KB.Kb b P a D:=
 ⟨h.1,λj e x l F=>by obtain⟨C,o,a,N⟩:=h.2 j e x l F;exact⟨C,o,a,B _ _ _ N⟩⟩
def aeb(h:p:=by
 refine⟨by simp[h.1],λk e x l F=>?_⟩;by_cases a:k<ζ es
 ·rw[jN a]at l;rw[jN (by rw[<-h.1];exact a)]at F;exact h.2 k e x l F
 rw[ek I]at l;rw[ek (J' h.1)]at F;have o:k-ζ es=0:=by have:=(bm.1 l).1;simp at this;exact this
 rw[o]at l;rw[<-h.1,o]at F;simp at l F;subst l F
 exact⟨rfl,sb,rfl,hd⟩):p:=h
open KC in
def KC.Kb.snoc{D:List (Nat×Nat)}(h:KC.Kb W P es D)(hd:KC.p6 W sb (P.at i) (decide (j=0))):KC.Kb W P (es++[(i,KC.Bt sb)]) (D++[(i,j)]):=aeb
open KB in
def KB.Kb.snoc{D:List (Nat×Nat)}(h:KB.Kb W P es D)(hd:KB.p6 W sb (P.at i) (decide (j=0))):KB.Kb W P (es++[(i,KB.Bt sb)]) (D++[(i,j)]):=aeb
def KC.oN.below(h:KC.oN W B a P D b)(c:Bl W d):KC.oN d B a P D b:=
 ⟨h.sys.below c,h.len,h.st,λk r a=>(h.es k r a).mono λ_ _ _ Q=>Q.below c⟩
def KB.oN.below(h:KB.oN W B a P D b)(c:Bl W d):KB.oN d B a P D b:=
 ⟨h.sys.below c,h.len,h.st,λk r a=>(h.es k r a).mono λ_ _ _ Q=>Q.below c⟩
def aea(h:p:=by
 obtain⟨b,y,r,wl,wc,V,B,i,s,j,e,a,C,f,N,d,l⟩:=h;have k:∀{p:Nat} {c:Array A'} {u:TypeId},W.1[p]?=B' (c7 c u)->u≠adY->W'.1[p]?=B' (c7 c u):=by intro p c u U c;refine(hh p ?_).trans U;rintro rfl;rw[U]at hq;simp at hq;exact c (hq.2.trans ht)
 exact⟨b,y,r,wl,wc,V,B,i,s,j,e,a,k C aj,k f aj,k N aj,k d aj,l⟩):p:=h
open KC in
def KC.p6.yO(h:KC.p6 W o n g)(hq:W.1[q]?=B' (c7 L t))(ht:t=233)(hh:∀k,k≠q->W'.1[k]?=W.1[k]?):KC.p6 W' o n g:=aea
open KB in
def KB.p6.yO(h:KB.p6 W o n g)(hq:W.1[q]?=B' (c7 L t))(ht:t=242)(hh:∀k,k≠q->W'.1[k]?=W.1[k]?):KB.p6 W' o n g:=aea
def KC.oN.yO(h:KC.oN W B c P D b)(a:W.1[q]?=B' (k' L 233 (0,0)))(V:∀k,k≠q->d.1[k]?=W.1[k]?):KC.oN d B c P D b:=
 ⟨h.sys.keep a ⟨aj,aj⟩ V,h.len,h.st,λk r b=>(h.es k r b).mono λ_ _ _ Q=>Q.yO a rfl V⟩
def KB.oN.yO(h:KB.oN W B c P D b)(a:W.1[q]?=B' (k' L 242 (0,0)))(V:∀k,k≠q->d.1[k]?=W.1[k]?):KB.oN d B c P D b:=
 ⟨h.sys.keep a ⟨aj,aj⟩ V,h.len,h.st,λk r b=>(h.es k r b).mono λ_ _ _ Q=>Q.yO a rfl V⟩
def KC.s6(h:Bl w V)(Y:TF w.1.size 375 378 V W):Bl w W:=h.trans Y.low
def KB.s6(h:Bl w V)(Y:TF w.1.size 337 340 V W):Bl w W:=h.trans Y.low
def ad9(h:p:=by
 have L:=(bm.1 hr).1;refine⟨hs,by rw[de];exact h.len,λk q l=>?_,λk q l=>?_⟩
 ·rw[fG]at l;by_cases e:t=k
  ·subst e;rw[aB rfl,aB L]at l;cases l;exact h.st t r hr
  rw[aA e]at l;exact h.st k q l
 rw[fG]at l;rw[hx];by_cases e:t=k
 ·subst e;rw[aB rfl,aB L]at l;cases l;rw[aB rfl];exact((h.es t r hr).mono λ_ _ _ hd=>hd.tf hf).snoc hd
 rw[aA e]at l;rw[aA e,gO]
 exact(h.es k q l).mono λ_ _ _ hd=>hd.tf hf):p:=h
open KC in
def KC.oN.next{a:u'}{d t:Nat}{c:Nat->List (Nat×Nat)}{g:x'}(h:KC.oN W B d P D b)(hr:b[t]?=B' r)(hs:Sys a B d 17 375 378 (b.set t ⟨r.st,g,f,r.es++[(i,KC.Bt o)]⟩))(hf:TF B 375 378 W a)(hd:KC.p6 a o (P.at i) (decide (j=0)))(hx:∀k,c k=D k++(if t=k then[(i,j)] else[])):KC.oN a B d P c (b.set t ⟨r.st,g,f,r.es++[(i,KC.Bt o)]⟩):=ad9
open KB in
def KB.oN.next{a:u'}{d t:Nat}{c:Nat->List (Nat×Nat)}{g:x'}(h:KB.oN W B d P D b)(hr:b[t]?=B' r)(hs:Sys a B d 17 337 340 (b.set t ⟨r.st,g,f,r.es++[(i,KB.Bt o)]⟩))(hf:TF B 337 340 W a)(hd:KB.p6 a o (P.at i) (decide (j=0)))(hx:∀k,c k=D k++(if t=k then[(i,j)] else[])):KB.oN a B d P c (b.set t ⟨r.st,g,f,r.es++[(i,KB.Bt o)]⟩):=ad9
def KC.oN.low(h:KC.oN W B a P D b)(c:f<=B):KC.oN W f a P D b:=⟨h.sys.lower c,h.len,h.st,h.es⟩
def KB.oN.low(h:KB.oN W B a P D b)(c:f<=B):KB.oN W f a P D b:=⟨h.sys.lower c,h.len,h.st,h.es⟩
def KC.yi(W:u')(B rb:Nat)(P:Pm):Prop:=∃ql,KC.oN W B rb P P.ins ql
def KB.yi(W:u')(B rb:Nat)(P:Pm):Prop:=∃ql,KB.oN W B rb P P.ins ql
def KC.yi.below{b:u'}(h:KC.yi W B a P)(c:Bl W b):KC.yi b B a P:=by obtain⟨b,h⟩:=h;exact⟨b,h.below c⟩
def KB.yi.below{b:u'}(h:KB.yi W B a P)(c:Bl W b):KB.yi b B a P:=by obtain⟨b,h⟩:=h;exact⟨b,h.below c⟩
def KC.Bq:(Tryz.prog.info? 375).map (λi=>(i.zero,i.size,i.bytes))=B' (B' (l' (θ (KC.aU PE.zero++[i' C' 0 0]))),18,160):=au
def KB.Bq:(Tryz.prog.info? 337).map (λi=>(i.zero,i.size,i.bytes))=B' (B' (l' (θ (KB.aU PE.zero++[i' C' 0 0]))),18,160):=au
def KC.Br:(Tryz.prog.info? 378).map (λi=>(i.zero,i.size,i.bytes))=B' (B' (l' #[G 0,.nilFunc]),2,16):=au
def KB.Br:(Tryz.prog.info? 340).map (λi=>(i.zero,i.size,i.bytes))=B' (B' (l' #[G 0,.nilFunc]),2,16):=au
def ad8(h:p:=by
 obtain⟨n,e⟩:∃n,ζ P.nd=n+1:=⟨ζ P.nd-1,I⟩;rw[e,gF]at h;refine⟨_,h.first aj rfl,by rw[e];simp,λk r c=>?_,λk r c=>?_⟩
 ·cases k with
  |zero=>simp at c;subst c;rfl
  |succ k=>rw[nj]at c;rw[q! (aT c),EZ]
 rw[EC];have:r.es=[]:=by
  cases k with
  |zero=>simp at c;subst c;rfl
  |succ k=>rw[nj]at c;rw[q! (aT c)]
 rw[this]
 exact⟨rfl,λj e x l _=>by simp at l⟩):p:=h
open KC in
def KC.oN.start(K:0<ζ P.nd)(h:Sys W B a 17 375 378 (replicate (ζ P.nd) ⟨KC.aU PE.zero,C',0,[]⟩)):∃b,KC.oN (ψ W a 0 (KC.aU (sh 0))) B a P (xn P.nx 0 0) b:=ad8
open KB in
def KB.oN.start(K:0<ζ P.nd)(h:Sys W B a 17 337 340 (replicate (ζ P.nd) ⟨KB.aU PE.zero,C',0,[]⟩)):∃b,KB.oN (ψ W a 0 (KB.aU (sh 0))) B a P (xn P.nx 0 0) b:=ad8
def ad7(h:p:=by
 obtain⟨X,hi,j,o,l⟩:=cQ Bq;have r:J (_/\_/\_/\_):=⟨hi,j,o,l⟩;clear hi j o l;obtain⟨i0,hi,j,o,l⟩:=cQ Br;have HJ:J (_/\_/\_/\_):=⟨hi,j,o,l⟩;clear hi j o l;have l:=hO.most;have x:=hO.pos;have HH:=hid (A hP hO);clear hP hO;obtain⟨N,j⟩:=Ea (ζ P.nd);rw[<-j]at l x⊢;have HN:=hid j;clear j;simp only[i!];go_enter aeH,aeq;go_upto_region 1 with fail
 refine agu (F:=Code.wp _ _ _ _) λV B=>?_;obtain⟨E,z⟩:=M B.a.1;have j:(0:Int)<N:=I;go_upto_region 2 with(at_make;refine j8 _ rfl (.tmp 13) (.tmp 13) adX rfl w.1.size sV X _ 18 adV r.a r.b r.c .i64 .i64 N N N rfl rfl rfl rfl (by rw[r.C];omega) (by unfold maxLen;omega) (J' B.b.size) ?_;intro t l j;have o:=hid (A l j);clear l j)
 clear E z;have j:J (Sys t w.1.size V.1.size 17 sV oG (replicate N ⟨aU PE.zero,C',0,[]⟩)/\Bl w t/\t.1[δ w.1]?=V.1[δ w.1]?/\t.1[δ w.1+1]?=V.1[δ w.1+1]?/\t.1[δ w.1+1+1]?=V.1[δ w.1+1+1]?):=by have C:=o.a;have l:=B.B;rw[ik _ 18 rfl N]at C;exact⟨Sys.made _ C rfl,B.b.grown o.A I (λq e=>by cases e),o.A.block _ I ak,o.A.block _ I ak,o.A.block _ I ak⟩
 refine gS (F:=Code.wp _ _ _ _) λF u=>?_;have o:J (Sys F w.1.size V.1.size 17 sV oG (replicate N ⟨aU PE.zero,C',0,[]⟩)/\Bl w F/\δ V.1<δ t.1/\(_/\_/\_)/\_):=⟨j.a.below u.b,H j.b u.b,blt j.a.lQ,⟨aL u.b (j.c.trans B.a.1),aL u.b (j.d.trans B.a.2.1),aL u.b (j.D.trans B.a.2.2)⟩,u.a⟩;have j:=hid B.B;generalize δ t.1=sx at o⊢;generalize δ V.1=rb at o j⊢;have U:F.there rb 0 17:=adG o.a.lQ (by rw[kL,A8 _ o.a.len,II];omega);obtain⟨u,C⟩:=M o.D;go_upto_region 3 with(refine wpList_store_mid rfl cA (.tmp 22) (.tmp 20) rfl rb 0 (θ (aU (sh 0))) rfl rfl U au (bH _) ?_)
 clear u C U;obtain⟨r,l⟩:=oN.start (P:=P) (by rw[<-HN.o];exact x) (by rw[<-HN.o];exact o.a);have K:∀{k:Nat} {x:Obj},F.1[k]?=B' x->k≠rb->(ψ F rb 0 (aU (sh 0))).1[k]?=B' x:=scb;have HX:J (oN (ψ F rb 0 (aU (sh 0))) w.1.size rb P (xn P.nx 0 0) r/\Bl w (ψ F rb 0 (aU (sh 0)))/\(_/\_/\_)/\_):=⟨l,dF o.a.low _ _ _ o.b,⟨K o.d.1 (J' j.o),K o.d.2.1 (J' j.o),K o.d.2.2 (J' j.o)⟩,K o.D (J' o.c)⟩;clear l K;generalize ψ F rb 0 (aU (sh 0))=W3 at HX⊢;obtain⟨E,z⟩:=M HX.c.1;simp only[Act.put];go_wp2;go_loopw[26] (λj wr=>∃(i:Nat) (Y:List RR),i<=N/\j=G i/\J (oN wr w.1.size rb P (xn P.nx i 0) Y/\TF w.1.size sV oG W3 wr)) (λj _=>N-(intOf j).toNat)
 ·exact⟨0,r,bj,rfl,HX.a,AF⟩
 obtain⟨i,Y,hi,rfl,t⟩:=hrel;by_cases L:i<N;rotate_left
 ·have l:¬(i:Int)<N:=I;obtain rfl:N=i:=I;obtain⟨u,C⟩:=M (t.A.box HX.C aj aj);obtain⟨z1,z2⟩:=M (t.A.box HX.c.2.2 aj aj);go_wp2;have o:=t.A.box HX.c.2.2 aj aj;have j:=hid (A (aq (o:=0) o (dU rb N)) (A (aq (o:=1) (aq (o:=0) o (dU rb N)) (.func (.func OL) #[] #[o' (B' (O (δ w.1+1) 0))])) (aq (o:=2) (aq (o:=1) (aq (o:=0) o (dU rb N)) (.func (.func OL) #[] #[o' (B' (O (δ w.1+1) 0))])) (.func (.func OJ) #[] #[o' (B' (O (δ w.1+1) 0))]))));refine aC (v:=hJ rb (δ w.1+1) N) (by simp[results212,results213,go_sem,(M j.a).1,(M j.b).1,(M j.B).1]) rfl ⟨rb,δ w.1+1,rfl,⟨Y,?_⟩,?_,?_⟩
  ·have e:xn P.nx N 0=P.ins:=funext λk=>by rw[HN.o,<-HH.a.WI];exact LK P.nx k
   rw[<-e];exact t.a.yO o (λk hk=>by rw[aJ hk,aJ hk,aJ hk])
  ·rw[aJ (by dsimp only;omega),aJ (by dsimp only;omega),aJ (by dsimp only;omega)];exact t.A.box HX.c.2.1 aj aj
  exact(((s6 HX.b t.A).setCell H' _).setCell H' _).setCell H' _
 have l:(i:Int)<N:=I;have E:=(HH.a.below HX.b).tf t.A aj aj aj aj;obtain⟨r,l,T,F,W,Qc,TB,U⟩:=E.nodes (k:=i) (by rw[<-HN.o];exact L);have X:=λj (hj:j<14)=>(E.row.cells i r T j hj);obtain⟨nd,GH⟩:=Ea r.n;rw[<-GH]at X F W;obtain⟨ta,C,htI⟩:=U.ints;rw[b!]at C;rw[C]at X;simp only[NC.wv]at X;generalize r.bu=x at X;generalize r.wa=L at X;generalize r.wl=wl at X;generalize r.wc=wc at X;obtain⟨u,o⟩:=Ea (aR x (i' L wl wc) nd (i' ta (ζ l) (ζ l)));have z:u.all (·.oneCell')=O':=by rw[o];simp[aR,Value.oneCell']
 have x:u.size=14:=by rw[o];rfl
 have h12:u[12]?=B' (i' ta (ζ l) (ζ l)):=by rw[o];rfl
 have L:wr.rangeAt g (i*14) u.toList:=λj v hv=>by
  have hj:j<14:=by have:=(bm.1 hv).1;rwa[IH,x]at this
  rw[X j hj,<-o];simpa using hv
 have Tn:=hid (A o (A Qc (A W (A T C))));have agE:=(HH.A.nx l (aT Qc)).1;clear o X W GH F T E TB U C htI Qc;go_upto_region 6 with(first|(refine wpList_load_mid rfl 152 (.tmp 29) rfl g (i*14) rfl u.toList _ L underlying152 rfl (by rw[IH,x];kernel_rfl) ?_)|(refine wpList_store_mid rfl 152 (.tmp 7) (.tmp 30) rfl wr.1.size 0 u rfl rfl (cY bV (by rw[x];rfl)) (by rw[x];kernel_rfl) z ?_))
 refine TV (F:=Code.wp _ _ _ _) (by simp[x]) λV B=>?_;obtain⟨z1,z2⟩:=M B.a;have o:χ V (O wr.1.size 12)=B' (i' ta (ζ l) (ζ l)):=by rw[z1];simpa using h12
 have z:=bD HX.b.size t.A.low.size;simp only[Act.put];clear z1 z2 L;go_wp2;clear o;have X:J (TF w.1.size sV oG W3 V/\oN V w.1.size rb P (xn P.nx i 0) Y):=⟨t.A.trans (TF.aX B.A z),t.a.below B.A⟩;have U:=hid B.a;clear z;generalize δ wr.1=nb at U⊢;go_loopw[34] (λo wr=>∃(j:Nat) (pl:List RR),j<=ζ l/\o=G j/\J (oN wr w.1.size rb P (xn P.nx i j) pl/\TF w.1.size sV oG V wr)) (λo _=>ζ l-(intOf o).toNat)
 ·exact⟨0,Y,bj,rfl,X.A,AF⟩
 obtain⟨j,pl,hj,rfl,HL⟩:=hrel;by_cases z:j<ζ l;rotate_left
 ·have o:¬(j:Int)<(ζ l:Int):=I;obtain rfl:j=ζ l:=I;go_wp2;go_roundw
  ·
   refine⟨i+1,pl,I,f',?_,X.a.trans HL.A⟩;have e:xn P.nx (i+1) 0=xn P.nx i (ζ l):=funext λk=>LJ Tn.b k;rw[e];exact HL.a
  exact G'
 have o:(j:Int)<(ζ l:Int):=I;obtain⟨t,F⟩:=La z;have L:t<N:=by rw[HN.o];exact(HH.A.nx l (aT Tn.b)).2 t (aT F)
 have B:=hid (X.a.trans HL.A);have z:=(HH.a.below HX.b).tf B.o aj aj aj aj;obtain⟨C,X,o⟩:=(z.nx i r l Tn.d Tn.b).ints;rw[b!,Tn.D]at X;obtain rfl:ta=C:=I' X;obtain⟨l,l,rfl,T⟩:=o j (t:Int) (by rw[cg,F];rfl);clear z o X;go_upto_region 9 with fail
 clear T;have E:=bG (HL.A.box U.o aj aj);obtain⟨z1,z2⟩:=M (B.o.box HX.c.2.1 aj aj);have Y:J (∀W,Cl aen #[.iface g! (l' #[]),l' u,j' ((j:Int)==0)] W λr w'=>∃o,r=p' (Bt o)/\δ W.1<=o/\p6 w' o nd (decide (j=0))/\Bl W w'):=by
  have e:((j:Int)==0)=decide (j=0):=by rw[cj];simp
  rw[e,Tn.a];exact λW=>Bu _ _ _ _ _ _ _ _ _ W
 go_upto_region 10 with(first|(refine wpList_load_mid rfl 152 (.tmp 7) rfl nb 0 rfl u.toList _ E underlying152 rfl (by rw[IH,x];kernel_rfl) ?_)|((first|go_at_call 274 | go_at_call 279);refine(Y.o _).mono ?_;rintro e Y ⟨o,rfl,_,x,u⟩;have l:=hid (A x u);clear x u))
 refine gS (F:=Code.wp _ _ _ _) λU u=>?_;have z:J (Below wr.1.size wr U/\δ wr.1<=δ Y.1):=⟨H l.A u.b,l.A.size⟩;have HEU:=hid (l.a.below u.b);have C:=bD HX.b.size B.o.low.size;have HTU:=hid (B.o.trans (TF.aX z.a C));obtain⟨r,hr⟩:=La (l:=pl) (i:=t) (by rw[HL.a.len,<-HN.o];exact L);have x:=hid (A hr F);have l:(t:Int)<N:=I;have l:ζ r.es<=130:=by rw[(HL.a.es t r hr).1];have:=VC (λl X=>(HH.A.nx l X).1) i j t (nx:=P.nx);have:=HH.a.WI;have:=HN.o;omega
 have B:=blt HL.a.sys.lQ;clear hr F z1 z2 E;generalize δ Y.1=Y at u z⊢;refine wp_region_held_drew (S:=λW'=>TF w.1.size sV oG W3 W'/\d' W' Y #[G i,Bt o] oG) au ⟨HTU.o.trans (TF.aX aQ.drew (bD C z.a.size)),u.a⟩ (λaM=>?_);refine tq 0 (vh sx) ?_;refine tr 1 (dU rb N) (λW' bN=>(M (bN.1.box HX.C aj aj)).1) ?_;refine tq 2 (G t) ?_;refine tq 3 (vh sx) ?_;refine tr 4 (dU rb N) (λW' bN=>(M (bN.1.box HX.C aj aj)).1) ?_;refine tq 5 (G t) ?_;refine tq 6 (o' (B' (O rb (t*18)))) ?_;refine tq 7 (o' (B' (O rb (t*18+17)))) ?_;refine tr 9 (l' #[G i,Bt o]) (λW' bN=>(M bN.2).1) ?_;have N:=bD C z.a.size;refine wpAnyH_ready (rs:=[8,10]) au ak ?_;refine AllReadyH.cons rfl (λK F=>?oA) (AllReadyH.cons rfl (λK F=>?oB) AllReadyH.nil)
 case' oA=>
  obtain⟨k1,T⟩:=(HL.a.sys.below (H z.a aQ.drew)).cell (j:=17) x.a (v:=r.ev) (uA (HL.a.sys.len r (aT x.a)));simp only[Nat.reduceAdd,RR.ev]at k1 T;go_simp;refine F.out _ _ aM (λaM=>?_);clear k1 T;clear F K;refine pt ?_;refine r1 10 λK F=>?_;go_simp;refine F.out _ _ ⟨aM.1.trans (TF.aX bf N),aL bf aM.2⟩ (λaM=>?_);clear F K;refine pt ?_
 case' oB=>
  go_simp;refine F.out _ _ ⟨aM.1.trans (TF.aX bf N),aL bf aM.2⟩ (λaM=>?_);clear F K;refine pt ?_;refine r1 8 λK F=>?_;obtain⟨k1,T⟩:=(HL.a.sys.below (H z.a ((cz U (k' #[G i,Bt o] oG)).drew))).cell (j:=17) x.a (v:=r.ev) (uA (HL.a.sys.len r (aT x.a)));simp only[Nat.reduceAdd,RR.ev]at k1 T;go_simp;refine F.out _ _ aM (λaM=>?_);clear k1 T;clear F K;refine pt ?_
 all_goals
  clear aM;refine Xl (F:=λV=>wpAnyH _ _ _ _ _ _ _ _ V) λX L=>?_;have aM:TF w.1.size sV oG W3 X/\d' X Y #[G i,Bt o] oG:=⟨HTU.o.trans (TF.aX L.A N),aL L.A u.a⟩;have l:J (Sys X w.1.size rb 17 sV oG pl/\Below wr.1.size wr X):=⟨HL.a.sys.below (H z.a L.A),H z.a L.A⟩;refine r1 11 λK F=>?_;refine jq rfl (.tmp 54) (.tmp 56) adW rfl w.1.size oG i0 (l' #[G 0,.nilFunc]) 2 16 adU HJ.a HJ.b HJ.c HJ.C rfl aj (i' r.ea (ζ r.es) r.ec) (ζ r.es) (iV r.es) (by simp[Act.eval,Act.put]) (l.a.row r (aT x.a)) (O U.1.size 0) 1 1 [G i,Bt o] (by simp[Act.eval,Act.put]) rfl (F? L.a) (by intro u u;simp at u;rcases u with rfl|rfl<;>rfl) (by unfold maxLen;omega) I (bD C l.A.size) ?_;intro E U u W E;obtain⟨V,X,rfl⟩:=aV u;have B:=hid (A u (A W E));clear u W E;have u:d' U Y #[G i,Bt o] oG:=(B.b.block Y (blt aM.2) (λe=>by have:=((HL.a.sys.row r (aT x.a)).lt Y e.symm).2;have:=z.A;omega)).trans aM.2;refine F.out _ _ ⟨aM.1.trans (l.a.acw x.a (bD C l.A.size) B.b),u⟩ (λaM=>?_);clear F K;refine pt ?_;refine tq 12 (o' (B' (O rb (t*18)))) ?_;refine tq 13 (o' (B' (O rb (t*18+17)))) ?_;refine r1 14 λK F=>?_;obtain⟨k1,T⟩:=l.a.UE (j:=17) aj x.a aQ B.b (v:=r.ev) (uA (l.a.len r (aT x.a)));simp only[Nat.reduceAdd,RR.ev]at k1 T;have Qc:=l.a.grow (e:=(i,Bt o)) aj x.a aQ B.b B.a B.B;have Y:=l.a.frame (v:=i' V (ζ r.es+1) X) x.a aQ (bD C l.A.size) B.b (t*18+17);have o:=hid (A Qc Y);clear Qc Y;go_simp;refine F.out _ _ ⟨(HTU.o.trans (TF.aX L.A N)).trans o.A,(aJ (by have:=z.A;dsimp only;omega)).trans u⟩ (λaM=>?_);clear k1 T;clear F K;refine pt ?_;refine wpAnyH_done au ?_ _;clear aM u;go_wp2;go_roundw
  ·
   refine⟨j+1,_,I,f',HL.a.next x.a o.a ((TF.aX l.A C).trans o.A) (by rw[Tn.c];exact(HEU.o.below L.A).tf o.A) (ED Tn.b x.A),(HL.A.trans (TF.aX l.A C)).trans o.A⟩
  exact G'):p:=h
open KC in
def KC.iM(g b f:Nat)(D:List NC)(P:Pm)(w:u')(hP:PM w g b D P)(hO:dC P):
 Cl 212 #[i! g (ζ P.nd) b f,.iface 328 (l' #[])] w λe w'=>∃rb s,e=p' (KC.hJ rb s (ζ P.nd))/\KC.yi w' w.1.size rb P/\w'.1[s]?=B' (k' #[.iface 328 (l' #[])] 381 (0,0))/\Bl w w':=ad7
open KB in
def KB.iM(g b f:Nat)(D:List NC)(P:Pm)(w:u')(hP:PM w g b D P)(hO:dC P):
 Cl 213 #[i! g (ζ P.nd) b f,.iface 331 (l' #[])] w λe w'=>∃rb s,e=p' (KB.hJ rb s (ζ P.nd))/\KB.yi w' w.1.size rb P/\w'.1[s]?=B' (k' #[.iface 331 (l' #[])] 386 (0,0))/\Bl w w':=ad7
end
section
def KC.fJ(e:PE)(n:SN)(so:Bool):PE:=if e.r then(if n.aG=0 then e.put n.var.toNat (ja e n.a) else if n.aG=2 then e.put n.var.toNat VV.gT else if n.aG=1 then KC.rK e n else if n.aG=4 then KC.rL e n so else e) else PE.zero
def KB.fJ(e:PE)(n:SN)(so:Bool):PE:=if e.r then(if n.aG=0 then e.put n.var.toNat (ja e n.a) else if n.aG=2 then e.put n.var.toNat VV.all else if n.aG=1 then KB.rK e n else if n.aG=4 then KB.rL e n so else e) else PE.zero
def aej{p:Prop}(h:p:=by
 obtain⟨b,y,i,wl,wc,V,B,f,s,o,u,c,C,c,N,d,l⟩:=h;rcases l with⟨K,rfl,rfl⟩|⟨K,rfl,rfl⟩|⟨K,rfl,rfl⟩|⟨K,rfl,rfl⟩|⟨⟨g,l,x,k⟩,rfl,rfl⟩
 ·have q:fJ e n so=if e.r then e.put n.var.toNat (ja e n.a) else PE.zero:=by(first|unfold KC.fJ|unfold KB.fJ);simp[K]
  rw[q];exact jx e _ sb _ _ w d (λD w=>aeZ D w) λ_ W j=>yg e b y i wl wc V B n f s W (aL j c) (aL j C) (hv I) (ha (by simp[d!,K]))
 ·first|(have _:=Da;have q:fJ e n so=if e.r then e.put n.var.toNat VV.gT else PE.zero:=by(first|unfold KC.fJ|unfold KB.fJ);simp[K])|(have q:fJ e n so=if e.r then e.put n.var.toNat VV.all else PE.zero:=by(first|unfold KC.fJ|unfold KB.fJ);simp[K])
  rw[q];exact jx e _ sb _ _ w d (λD w=>aeY D w) λ_ W j=>yf e b y i wl wc V B n f s W (aL j c) (aL j C) (hv I)
 ·have q:fJ e n so=if e.r then rK e n else PE.zero:=by(first|unfold KC.fJ|unfold KB.fJ);simp[K]
  rw[q];exact jx e _ sb _ _ w d (λD w=>aeX D w) λ_ W j=>ye e b y i wl wc V B n f s W (aL j c) (aL j C) (hv I) (ha (by simp[d!,K])) (hb (by simp[d!,K])) (qU (by simp[d!,K])) (qT (by simp[d!,K]))
 ·have q:fJ e n so=if e.r then rL e n so else PE.zero:=by(first|unfold KC.fJ|unfold KB.fJ);simp[K]
  rw[q];exact jx e _ sb _ _ w d (λD w=>aeW D w) λ_ W j=>yd e b y i wl wc V B n so f s o W (aL j c) (aL j C) (aL j N) (ha (by simp[d!,K])) (hb (by simp[d!,K])) (qU (by simp[d!,K])) (qT (by simp[d!,K]))
 have q:fJ e n so=if e.r then e else PE.zero:=by(first|unfold KC.fJ|unfold KB.fJ);simp[g,l,x,k]
 rw[q]
 exact jx e _ sb _ _ w d (λD w=>aeV D w) λ_ W j=>yb e W):p:=h
open KC in
def KC.Bn(e:PE)(n:SN)(so:Bool)(sb:Nat)(w:u')(h:KC.p6 w sb n so)(hv:n.aG<=2->0<=n.var/\n.var<8)(a:0<=n.aG)(ha:0<d! n->n.a.aS=O'->0<=n.a.var/\n.a.var<8)(hb:1<d! n->n.b.aS=O'->0<=n.b.var/\n.b.var<8)(qU:0<d! n->dT (bZ (ja e n.a)))(qT:1<d! n->dT (bZ (ja e n.b))):
 Cl 317 #[l' (θ (KC.aU e)),o' (B' (O sb 0))] w (Rb w (l' (θ (KC.aU (KC.fJ e n so))))):=aej
open KB in
def KB.Bn(e:PE)(n:SN)(so:Bool)(sb:Nat)(w:u')(h:KB.p6 w sb n so)(hv:n.aG<=2->0<=n.var/\n.var<8)(a:0<=n.aG)(ha:0<d! n->n.a.aS=O'->0<=n.a.var/\n.a.var<8)(hb:1<d! n->n.b.aS=O'->0<=n.b.var/\n.b.var<8)(qU:0<d! n->dT (bZ (ja e n.a)))(qT:1<d! n->dT (bZ (ja e n.b))):
 Cl 327 #[l' (θ (KB.aU e)),o' (B' (O sb 0))] w (Rb w (l' (θ (KB.aU (KB.fJ e n so))))):=aej
end
section
variable {e:PE} {E:List VV}
def PR(nv:Nat)(e:PE):EV->Prop
 |none=>e=PE.zero
 |some vs=>e.r=O'/\ζ vs=nv/\∀i,e.at i=vs.getD i VV.z
def oj(h:PR Q e (B' E))(o:lU):ja e o=gQ E o:=by rw[ja,gQ,h.2.2];rfl
def l9(h:PR Q e (B' E))(K:Q<=8)(a:k<Q)(x:VV):PR Q (e.put k x) (B' (E.set k x)):=by
 obtain⟨C,a,N⟩:=h;refine⟨C,by rw[de,a],λi=>?_⟩;rw[PE.lg _ I,N,getD,getD,fG];by_cases S:i=k
 ·subst S;rw[aB rfl,aB rfl,aB I];rfl
 rw[aA S,aA (λh=>S h.symm)]
def Wq(h:PR Q e (B' E))(K:Q<=8)(a:k<Q):PR Q (e.put k (e.at k)) (B' E):=by
 obtain⟨C,a,N⟩:=h;refine⟨C,a,λi=>?_⟩;rw[PE.lg _ I];split
 ·rename_i S;rw[S,N]
 exact N i
def MD(h:PR Q e (B' E))(K:Q<=8)(o:lU)(a:o.aS=O'->0<=o.var/\o.var<Q)(x:VV):PR Q (KC.gx e o x) (B' E):=by
 unfold KC.gx;split
 ·rename_i T;rw[bh]at T;have:=a T.2;exact Wq h K I
 exact h
def Sr{v:EV}(h:PR Q e v)(K:Q<=8)(n:SN)(g:Nat)(R:n.aG<=2->0<=n.var/\n.var<Q)(a:0<=n.aG)(c:n.aG=1->0<=n.op/\n.op<=3)(d:0<d! n->n.a.aS=O'->0<=n.a.var/\n.a.var<Q)(b:1<d! n->n.b.aS=O'->0<=n.b.var/\n.b.var<Q):PR Q (KC.fJ e n (decide (g=0))) (Ag 5 n g v):=by
 cases v with
 |none=>have D:e=PE.zero:=h;subst D;show KC.fJ PE.zero n _=PE.zero;unfold KC.fJ;rfl
 |some E=>
  show PR Q (KC.fJ e n (decide (g=0))) (Em n g E);rw[KC.fJ,Em,aB h.1];by_cases U:n.aG=0
  ·rw[aB U,aA I,aB U,oj h];exact l9 h K (J' (R I)) _
  rw[aA U];by_cases k:n.aG=2
  ·rw[aB k,aB k];exact l9 h K (J' (R I)) _
  rw[aA k,aA k,aA U];by_cases a:n.aG=1;rotate_left
  ·rw[aA a,aA a];by_cases w:n.aG=4;rotate_left
   ·rw[aA w,aA w];exact h
   rw[aB w,aB w];rw[KC.rL,KC.OM,oj h,oj h];by_cases Q:((gQ E n.a).any||(gQ E n.b).any||ru n.test (gQ E n.a).lo (gQ E n.b).lo==decide (g=0))=O'
   ·rw[aB Q,aB Q];exact MD (MD h K n.a (d (by simp[d!,w])) _) K n.b (b (by simp[d!,w])) _
   rw[aA Q,aA Q];rfl
  rw[aB a,aA I,aB a];rw[KC.rK,KC.Wn,oj h,oj h];by_cases Q:n.op=3/\(gQ E n.b).any=P'/\(gQ E n.b).lo=0
  ·rw[aB Q,aB Q];rfl
  rw[aA Q,aA Q];by_cases p:((gQ E n.a).any||(gQ E n.b).any)=O'
  ·rw[aB p,aB p];exact l9 h K (J' (R I)) _
  rw[aA p,aA p];have o:vV n.op (gQ E n.b).lo=O':=by
   have:=c a;have a:(gQ E n.b).any=P':=by rw[je,q8]at p;exact p.2
   unfold vV;by_cases P:(gQ E n.b).lo=0
   ·have:n.op≠3:=λb=>Q ⟨b,a,P⟩;simp;omega
   simp[P]
  rw[aB o];exact l9 h K (J' (R I)) _
end
section
variable {a b x:VV} {e:PE} {o:lU}
structure Vt(a:VV):Prop where
  any:a.any=P'
  le:a.lo<=a.hi
  lo:-2^63<=a.lo
  hi:a.hi<=9223372036854775807
def YC{p:Prop}(h:p:=by
 by_cases h:p.1<=p.2/\q.1<=q.2
 ·rw[aB (by simp[h]),aA H']
 rw[aA H',aB H']):p:=h
def M3(a b:VV)(p q:BB)(x y:VV)(F:x=wD a p)(B:y=wD b q):(if (jk p q).2.2 then B' (wD a (jk p q).1,wD b (jk p q).2.1) else C')=yv (x,y):=by subst F B;unfold jk yv wD;exact YC
def M1(a b:VV)(p q:BB)(x y:VV)(F:x=wD a q)(B:y=wD b p):(if (N2 (jk p q)).2.2 then B' (wD a (N2 (jk p q)).1,wD b (N2 (jk p q)).2.1) else C')=yv (x,y):=by subst F B;unfold jk yv wD N2;exact YC
def DZ(h:Vt a)(u:Int):cK a (-9223372036854775808) u=wD a (a.lo,min a.hi u):=by unfold cK wD;have:=h.lo;rw[aA I];congr 1;split<;>simp<;>omega
def D0(h:Vt a)(u:Int):cK a u 9223372036854775807=wD a (max a.lo u,a.hi):=by unfold cK wD;have:=h.hi;rw[aA (c:=(9223372036854775807:Int)<a.hi) I];congr 1;split<;>simp<;>omega
def XW(d:Vt a)(e:Vt b)(t:Int)(g:Bool):KB.OM t g a b=oK t g a b:=by
 by_cases c:t=0
 ·subst c;cases g
  ·have r:oK 0 false a b=yv (cK a b.lo 9223372036854775807,cK b (-9223372036854775808) a.hi):=by unfold oK wQ;simp
   rw[r];exact M1 a b (b.lo,min b.hi a.hi) (max a.lo b.lo,a.hi) _ _ (by rw[D0 d]) (by rw[DZ e])
  by_cases T:b.hi=-9223372036854775808\/a.lo=9223372036854775807
  ·have r:oK 0 true a b=C':=by unfold oK wQ;simp[T]
   have l:cM 0 true (bZ a) (bZ b)=((0,0),(0,0),false):=by show iO (bZ a) (bZ b)=_;unfold iO;rw[aB (by exact T)]
   unfold KB.OM;rw[r,l];rfl
  have r:oK 0 true a b=yv (cK a (-9223372036854775808) (b.hi-1),cK b (a.lo+1) 9223372036854775807):=by unfold oK wQ;simp[T]
  have l:cM 0 true (bZ a) (bZ b)=jk (a.lo,min a.hi (b.hi-1)) (max b.lo (a.lo+1),b.hi):=by show iO (bZ a) (bZ b)=_;unfold iO;rw[aA (by exact T)];rfl
  unfold KB.OM;rw[r,l];exact M3 a b _ _ _ _ (by rw[DZ d]) (by rw[D0 e])
 by_cases S:t=1
 ·subst S;cases g;rotate_left
  ·have r:oK 1 true a b=yv (cK a (-9223372036854775808) b.hi,cK b a.lo 9223372036854775807):=by unfold oK wQ;simp
   rw[r];exact M3 a b (a.lo,min a.hi b.hi) (max b.lo a.lo,b.hi) _ _ (by rw[DZ d]) (by rw[D0 e])
  by_cases T:a.hi=-9223372036854775808\/b.lo=9223372036854775807
  ·have r:oK 1 false a b=C':=by unfold oK wQ;simp[T]
   have l:cM 1 false (bZ a) (bZ b)=((0,0),(0,0),false):=by show N2 (iO (bZ b) (bZ a))=_;unfold iO;rw[aB (by exact T)];rfl
   unfold KB.OM;rw[r,l];rfl
  have r:oK 1 false a b=yv (cK a (b.lo+1) 9223372036854775807,cK b (-9223372036854775808) (a.hi-1)):=by unfold oK wQ;simp[T]
  have l:cM 1 false (bZ a) (bZ b)=N2 (jk (b.lo,min b.hi (a.hi-1)) (max a.lo (b.lo+1),a.hi)):=by show N2 (iO (bZ b) (bZ a))=_;unfold iO;rw[aA (by exact T)];rfl
  unfold KB.OM;rw[r,l];exact M1 a b _ _ _ _ (by rw[D0 d]) (by rw[DZ e])
 have f:(if (kc (bZ a) (bZ b)).2.2 then B' (wD a (kc (bZ a) (bZ b)).1,wD b (kc (bZ a) (bZ b)).2.1) else C')=yv (cK a b.lo b.hi,cK a b.lo b.hi):=by
  unfold kc yv;rw[Hj a b];have V:wD a (bZ (cK a b.lo b.hi))=cK a b.lo b.hi:=rfl;have u:wD b (bZ (cK a b.lo b.hi))=cK a b.lo b.hi:=by unfold wD bZ cK;rw[d.any,e.any]
  by_cases T:(bZ (cK a b.lo b.hi)).1<=(bZ (cK a b.lo b.hi)).2
  ·have K:(cK a b.lo b.hi).lo<=(cK a b.lo b.hi).hi:=T;rw[aB (by simpa using T),aA (by simp;omega),V,u]
  have K:¬(cK a b.lo b.hi).lo<=(cK a b.lo b.hi).hi:=T;rw[aA (by simpa using T),aB (by left;simp;omega)]
 have z:(if (fM (bZ a) (bZ b)).2.2 then B' (wD a (fM (bZ a) (bZ b)).1,wD b (fM (bZ a) (bZ b)).2.1) else C')=(match (if a.lo=a.hi/\VV.rZ a b=true then C' else B' (a,b))with|none=>C'|some q=>yv q):=by
  obtain⟨N,j,i⟩:=a;obtain⟨h,o,x⟩:=b;have C:=d.any;have h:=e.any;have N:=d.le;have d:=e.le;simp only at C h N d;subst C h;unfold fM bZ wD VV.rZ;by_cases T:j=i/\(j=o/\i=x)
  ·rw[aA (by simp;omega),aB (by simp;omega)]
  rw[aB (by simp;omega),aA (by simp;omega)];simp only[yv];rw[aA (by simp;omega)]
 by_cases d:t=2
 ·subst d;cases g
  ·have r:oK 2 false a b=(match (if a.lo=a.hi/\VV.rZ a b=true then C' else B' (a,b))with|none=>C'|some q=>yv q):=by unfold oK wQ;simp;rfl
   rw[r];exact z
  have r:oK 2 true a b=yv (cK a b.lo b.hi,cK a b.lo b.hi):=by unfold oK wQ;simp
  rw[r];exact f
 cases g
 ·have r:oK t false a b=yv (cK a b.lo b.hi,cK a b.lo b.hi):=by unfold oK wQ;simp[c,S,d]
  have l:cM t false (bZ a) (bZ b)=kc (bZ a) (bZ b):=by unfold cM;simp[c,S,d]
  unfold KB.OM;rw[r,l];exact f
 have r:oK t true a b=(match (if a.lo=a.hi/\VV.rZ a b=true then C' else B' (a,b))with|none=>C'|some q=>yv q):=by unfold oK wQ;simp[c,S,d];rfl
 have l:cM t true (bZ a) (bZ b)=fM (bZ a) (bZ b):=by unfold cM;simp[c,S,d]
 unfold KB.OM;rw[r,l];exact z
def ac0(e:Vt a)(f:Vt b){t:Int}{g:Bool}{q:VV×VV}(h:oK t g a b=B' q):(a.lo<=q.1.lo/\q.1.hi<=a.hi/\q.1.lo<=q.1.hi/\q.1.any=P')/\(b.lo<=q.2.lo/\q.2.hi<=b.hi/\q.2.lo<=q.2.hi/\q.2.any=P'):=by
 have X:∀x y:VV,yv (x,y)=B' q->(a.lo<=x.lo/\x.hi<=a.hi/\x.any=P')->(b.lo<=y.lo/\y.hi<=b.hi/\y.any=P')->(a.lo<=q.1.lo/\q.1.hi<=a.hi/\q.1.lo<=q.1.hi/\q.1.any=P')/\(b.lo<=q.2.lo/\q.2.hi<=b.hi/\q.2.lo<=q.2.hi/\q.2.any=P'):=by
  intro x y c F B;unfold yv at c;split at c
  ·cases c
  rename_i T;simp only[fD]at c;subst c;simp only[not_or,Int.not_lt]at T;exact⟨⟨F.1,F.2.1,T.1,F.2.2⟩,B.1,B.2.1,T.2,B.2.2⟩
 have c:∀(v:VV) (l u:Int),Vt v->v.lo<=(cK v l u).lo/\(cK v l u).hi<=v.hi/\(cK v l u).any=P':=by intro v l u R;unfold cK;refine⟨?_,?_,R.any⟩<;>simp only<;>split<;>omega
 have d:b.lo<=(cK a b.lo b.hi).lo/\(cK a b.lo b.hi).hi<=b.hi:=by unfold cK;refine⟨?_,?_⟩<;>simp only<;>split<;>omega
 unfold oK at h;cases U:wQ t g a b with
 |none=>rw[U]at h;cases h
 |some z=>
  rw[U]at h;obtain⟨x,y⟩:=z;refine X x y h ?_ ?_
  ·unfold wQ at U;split at U
   ·split at U
    ·cases U
    simp only[fD,eR]at U;rw[<-U.1];exact c _ _ _ e
   split at U
   ·simp only[fD,eR]at U;rw[<-U.1];exact c _ _ _ e
   split at U
   ·simp only[fD,eR]at U;rw[<-U.1];exact c _ _ _ e
   split at U
   ·split at U
    ·cases U
    simp only[fD,eR]at U;rw[<-U.1];exact c _ _ _ e
   split at U
   ·simp only[fD,eR]at U;rw[<-U.1];exact c _ _ _ e
   split at U
   ·cases U
   simp only[fD,eR]at U;rw[<-U.1];exact⟨uh _,uh _,e.any⟩
  unfold wQ at U;split at U
  ·split at U
   ·cases U
   simp only[fD,eR]at U;rw[<-U.2];exact c _ _ _ f
  split at U
  ·simp only[fD,eR]at U;rw[<-U.2];exact c _ _ _ f
  split at U
  ·simp only[fD,eR]at U;rw[<-U.2];exact c _ _ _ f
  split at U
  ·split at U
   ·cases U
   simp only[fD,eR]at U;rw[<-U.2];exact c _ _ _ f
  split at U
  ·simp only[fD,eR]at U;rw[<-U.2];exact⟨d.1,d.2,(c _ _ _ e).2.2⟩
  split at U
  ·cases U
  simp only[fD,eR]at U;rw[<-U.2];exact⟨uh _,uh _,f.any⟩
def acE{v:VV}(C:v.lo<=x.lo)(a:x.hi<=v.hi)(N:v.any=x.any):cK v x.lo x.hi=x:=by
 obtain⟨c,b,b⟩:=x;simp only at C a N;rw[cK,N];simp only;congr 1
 ·split<;>omega
 split<;>omega
def MO(c:e.r=O')(a:o.aS=O')(C:(e.at o.var.toNat).lo<=x.lo)(b:x.hi<=(e.at o.var.toNat).hi)(N:(e.at o.var.toNat).any=x.any)(d:x.lo<=x.hi):KB.gx e o x=e.put o.var.toNat x:=by rw[KB.gx,KB.Ve,c,a,acE C b N,aB d];rfl
def MN(a:o.aS=P'):KB.gx e o x=e:=by rw[KB.gx,a];simp
def ae2{b:Nat}{E:List VV}(h:PR b e (B' E))(o:b<=8)(n:SN)(l:n.a.aS=O'->0<=n.a.var/\n.a.var<b)(f:n.b.aS=O'->0<=n.b.var/\n.b.var<b){y:VV}(F:(gQ E n.a).lo<=x.lo/\x.hi<=(gQ E n.a).hi/\x.lo<=x.hi/\x.any=P')(B:(gQ E n.b).lo<=y.lo/\y.hi<=(gQ E n.b).hi/\y.lo<=y.hi/\y.any=P')(j:(gQ E n.a).any=P')(k:(gQ E n.b).any=P'):PR b (KB.gx (KB.gx e n.a x) n.b y) (chV n E x y):=by
 rw[<-oj h]at F j;rw[<-oj h]at B k;have U:∀L,(n.a.aS=O'->L=e.put n.a.var.toNat x)->(n.a.aS=P'->L=e)->PR b L (B' (if 0<=l? n.a then E.set (l? n.a).toNat x else E)):=by
  intro L C b;cases R:n.a.aS
  ·rw[b R];have:l? n.a=-1:=by rw[l?,R];rfl
   rw[this];exact h
  rw[C R];have:l? n.a=n.a.var:=by rw[l?,R];rfl
  rw[this,aB (l R).1];exact l9 h o (J' (l R)) x
 have T:KB.gx e n.a x=if n.a.aS then e.put n.a.var.toNat x else e:=by
  cases R:n.a.aS
  ·rw[MN R];rfl
  have q:ja e n.a=e.at n.a.var.toNat:=by rw[ja,R];rfl
  rw[q]at F j;rw[MO h.1 R F.1 F.2.1 (by rw[j,F.2.2.2]) F.2.2.1];rfl
 have Y:=U (KB.gx e n.a x) (λR=>by rw[T,R];rfl) (λR=>by rw[T,R];rfl);unfold chV Uy;cases z:n.b.aS
 ·have:l? n.b=-1:=by rw[l?,z];rfl
  rw[this,aA aj,MN z];exact Y
 have c:l? n.b=n.b.var:=by rw[l?,z];rfl
 have b:=f z;rw[c,aB b.1];have b:ja e n.b=e.at n.b.var.toNat:=by rw[ja,z];rfl
 rw[b]at B k;by_cases b:n.b.var=l? n.a;rotate_left
 ·have W:(KB.gx e n.a x).at n.b.var.toNat=e.at n.b.var.toNat:=by
   rw[T];cases f:n.a.aS
   ·rfl
   have g:l? n.a=n.a.var:=by rw[l?,f];rfl
   have:=l f;show(e.put n.a.var.toNat x).at _=_;rw[PE.lg _ I,aA I]
  rw[aA b,aA I,MO Y.1 z (by rw[W];exact B.1) (by rw[W];exact B.2.1) (by rw[W,k,B.2.2.2]) B.2.2.1];exact l9 Y o I _
 have f:n.a.aS=O':=by
  cases R:n.a.aS
  ·have:l? n.a=-1:=by rw[l?,R];rfl
   omega
  rfl
 have g:l? n.a=n.a.var:=by rw[l?,f];rfl
 have W:(KB.gx e n.a x).at n.b.var.toNat=x:=by rw[T,f];show(e.put n.a.var.toNat x).at _=x;rw[PE.lg _ (J' (l f)),aB (by rw[b,g])]
 rw[aB b];have p:∀V:PE,V.r=O'->V.at n.b.var.toNat=x->KB.gx V n.b y=(match KB.Ve x y with|some m=>V.put n.b.var.toNat m|none=>PE.zero):=by intro V r1 N;rw[KB.gx,r1,z,N];rfl
 rw[p _ Y.1 W];unfold KB.Ve;by_cases T:(cK x y.lo y.hi).lo<=(cK x y.lo y.hi).hi
 ·rw[aB T,aA I];exact l9 Y o I _
 rw[aA T,aB I];rfl
def Ss{Q:Nat}{v:EV}(h:PR Q e v)(K:Q<=8)(n:SN)(g:Nat)(c:∀E,v=B' E->0<d! n->Vt (gQ E n.a))(b:∀E,v=B' E->1<d! n->Vt (gQ E n.b))(R:n.aG<=2->0<=n.var/\n.var<Q)(a:0<=n.aG)(i:0<d! n->n.a.aS=O'->0<=n.a.var/\n.a.var<Q)(d:1<d! n->n.b.aS=O'->0<=n.b.var/\n.b.var<Q):PR Q (KB.fJ e n (decide (g=0))) (Ag 6 n g v):=by
 cases v with
 |none=>have D:e=PE.zero:=h;subst D;show KB.fJ PE.zero n _=PE.zero;unfold KB.fJ;rfl
 |some E=>
  show PR Q (KB.fJ e n (decide (g=0))) (El n g E);rw[KB.fJ,El,aB h.1];by_cases U:n.aG=0
  ·rw[aB U,aA I,aB U,oj h];exact l9 h K (J' (R I)) _
  rw[aA U];by_cases k:n.aG=2
  ·rw[aB k,aB k];exact l9 h K (J' (R I)) _
  rw[aA k,aA k,aA U];by_cases a:n.aG=1
  ·rw[aB a,aA I,aB a];rw[KB.rK,oj h,oj h];have q:KB.Wn n.op (gQ E n.a) (gQ E n.b)=cpV n.op (gQ E n.a) (gQ E n.b):=rfl;rw[q];cases cpV n.op (gQ E n.a) (gQ E n.b)with
   |none=>rfl
   |some m=>exact l9 h K (J' (R I)) _
  rw[aA a,aA a];by_cases w:n.aG=4;rotate_left
  ·rw[aA w,aA w];exact h
  rw[aB w,aB w];have a:0<d! n:=by simp[d!,w]
  have f:1<d! n:=by simp[d!,w]
  have l:=c E rfl a;have c:=b E rfl f;rw[KB.rL,oj h,oj h,XW l c];cases b:oK n.test (decide (g=0)) (gQ E n.a) (gQ E n.b)with
  |none=>rfl
  |some q=>have S:=ac0 l c b;exact ae2 h K n (i a) (d f) S.1 S.2 l.any c.any
end
section
variable {a b:VV} {e:PE} {v u:EV}
def UZ(e:PE){i:Nat}(h:8<=i):e.at i=VV.z:=by unfold PE.at;repeat rw[aA I]
structure zK(v:VV):Prop where
  hi:v.hi=v.lo
  any:v.any=O'->v.lo=0
def zQ(v:VV):Prop:=v.any=P'
def ab2(c:zK a)(d:zK b):KC.vT a b=kh 5 a b:=by rw[KC.vT,kh,VV.rZ,aB rfl,c.hi,d.hi];congr 1;rw[eq_iff_iff];simp
def UU(c:zK a)(e:zK b):KC.Ka a b=VV.rZ (kh 5 a b) b:=by
 obtain⟨N,d,f⟩:=a;obtain⟨a,o,x⟩:=b;have C:=c.hi;have b:=e.hi;have g:=c.any;have d:=e.any;simp only at C b g d;subst C b;rw[KC.Ka,kh,aB rfl];by_cases T:VV.rZ ⟨N,f,f⟩ ⟨a,x,x⟩=O'
 ·rw[aB T,T];unfold VV.rZ at T;simp at T;simp[T]
 rw[aA T];unfold VV.rZ at T;cases a
 ·simp[VV.rZ,VV.gT]at T⊢;intro h;exact T h
 simp[VV.rZ,VV.gT,d rfl]
def ab3(_:zQ a)(_:zQ b):KB.vT a b=kh 6 a b:=by
 rw[KB.vT,kh,aA aj];congr 1
 ·split<;>omega
 split<;>omega
def UW(c:zQ a)(d:zQ b):KB.Ka a b=VV.rZ (kh 6 a b) b:=by obtain⟨N,e,e⟩:=a;obtain⟨a,o,x⟩:=b;have C:N=P':=c;have b:a=P':=d;subst C b;rw[KB.Ka,kh,VV.rZ,aA aj,cj];simp;omega
def Dt(a e:PE):∀(k:Nat),k<=8->∀j,j<k->(KC.lx a e k).at j=KC.vT (a.at j) (e.at j)
 |0,_,j,hj=>I
 |k+1,b,j,hj=>by
  rw[KC.gy,PE.lg _ I];by_cases h:j=k
  ·rw[aB h,h]
  rw[aA h,Dt a e k I j I]
def YA(h:p:=by
 have C:E[i]?=B' E[i]:=bR I;have f:c[i]?=B' c[i]:=bR I
 simp[getD,I9,C,f]):p:=h
def abq(K:Q<=8){a:PE}(d:PR Q a v)(l:PR Q e u)(g:∀i,zK (a.at i))(h:∀i,zK (e.at i)):PR Q (KC.Bp a e) (Iu 5 v u):=by
 cases v with
 |none=>have D:a=PE.zero:=d;subst D;exact l
 |some E=>
  cases u with
  |none=>have D:e=PE.zero:=l;subst D;rw[KC.Bp,aB d.1];exact d
  |some c=>
   obtain⟨N,f,b⟩:=d;obtain⟨V,u,d⟩:=l;rw[KC.Bp,aB N,aB V];refine⟨by rw[KC.x8];exact N,by simp[f,u],λi=>?_⟩;by_cases S:i<Q
   ·rw[Dt a e 8 aF i I,ab2 (g i) (h i),b,d];exact YA
   have f:(zipWith (kh 5) E c).getD i VV.z=VV.z:=by rw[getD,dA H'];rfl
   rw[f];by_cases W:i<8
   ·rw[Dt a e 8 aF i W,b,d,getD,getD,dA I,dA I];rfl
   exact UZ _ I
def YB(h:p:=by
 by_cases B:i<Q
 ·have C:E[i]?=B' E[i]:=bR I;have a:c[i]?=B' c[i]:=bR I;rw[getD,getD,C,a];exact y (E[i],c[i]) (oP.2 ⟨i,by rw[u3];exact⟨C,a⟩⟩)
 rw[getD,getD,dA I,dA I]
 rfl):p:=h
def Sv(K:Q<=8){a:PE}(d:PR Q a v)(l:PR Q e u)(g:∀i,zK (a.at i))(h:∀i,zK (e.at i)):KC.oH a e=Ew 5 v u:=by
 cases v with
 |none=>have D:a=PE.zero:=d;subst D;rfl
 |some E=>
  cases u with
  |none=>have D:e=PE.zero:=l;subst D;rw[KC.oH,d.1];rfl
  |some c=>
   obtain⟨N,b,b⟩:=d;obtain⟨V,u,f⟩:=l;rw[KC.oH,N,V,aB (show(O'&&O')=O' by decide)];show(range 8).all (λi=>KC.Ka (a.at i) (e.at i))=(zip E c).all (λx=>VV.rZ (kh 5 x.1 x.2) x.2);rw[cj,cF,cF];constructor
   ·intro y x F;obtain⟨i,S⟩:=oP.1 F;rw[u3]at S;have d:=(bm.1 S.1).1;have:=y i (eQ.2 I);rwa[UU (g i) (h i),b,f,getD,getD,S.1,S.2]at this
   intro y i S;rw[eQ]at S;rw[UU (g i) (h i),b,f];exact YB
def Du(a e:PE):∀(k:Nat),k<=8->∀j,j<k->(KB.lx a e k).at j=KB.vT (a.at j) (e.at j)
 |0,_,j,hj=>I
 |k+1,b,j,hj=>by
  rw[KB.gy,PE.lg _ I];by_cases h:j=k
  ·rw[aB h,h]
  rw[aA h,Du a e k I j I]
def abr(K:Q<=8){a:PE}(d:PR Q a v)(l:PR Q e u)(g:∀i,zQ (a.at i))(h:∀i,zQ (e.at i)):PR Q (KB.Bp a e) (Iu 6 v u):=by
 cases v with
 |none=>have D:a=PE.zero:=d;subst D;exact l
 |some E=>
  cases u with
  |none=>have D:e=PE.zero:=l;subst D;rw[KB.Bp,aB d.1];exact d
  |some c=>
   obtain⟨N,f,b⟩:=d;obtain⟨V,u,d⟩:=l;rw[KB.Bp,aB N,aB V];refine⟨by rw[KB.x8];exact N,by simp[f,u],λi=>?_⟩;by_cases S:i<Q
   ·rw[Du a e 8 aF i I,ab3 (g i) (h i),b,d];exact YA
   have f:(zipWith (kh 6) E c).getD i VV.z=VV.z:=by rw[getD,dA H'];rfl
   rw[f];by_cases W:i<8
   ·rw[Du a e 8 aF i W,b,d,getD,getD,dA I,dA I];rfl
   exact UZ _ I
def abu(K:Q<=8){a:PE}(d:PR Q a v)(l:PR Q e u)(g:∀i,zQ (a.at i))(h:∀i,zQ (e.at i)):KB.oH a e=Ew 6 v u:=by
 cases v with
 |none=>have D:a=PE.zero:=d;subst D;rfl
 |some E=>
  cases u with
  |none=>have D:e=PE.zero:=l;subst D;rw[KB.oH,d.1];rfl
  |some c=>
   obtain⟨N,b,b⟩:=d;obtain⟨V,u,f⟩:=l;rw[KB.oH,N,V,aB (show(O'&&O')=O' by decide)];show(range 8).all (λi=>KB.Ka (a.at i) (e.at i))=(zip E c).all (λx=>VV.rZ (kh 6 x.1 x.2) x.2);rw[cj,cF,cF];constructor
   ·intro y x F;obtain⟨i,S⟩:=oP.1 F;rw[u3]at S;have d:=(bm.1 S.1).1;have:=y i (eQ.2 I);rwa[UW (g i) (h i),b,f,getD,getD,S.1,S.2]at this
   intro y i S;rw[eQ]at S;rw[UW (g i) (h i),b,f];exact YB
end
section
variable {v:Vl} {r:Int} {x:Nd}
def Qu(b:Bool)(i:Nat):(PE.at ⟨b,VV.z,VV.z,VV.z,VV.z,VV.z,VV.z,VV.z,VV.z⟩ i)=VV.z:=by unfold PE.at;simp
def Yz{p:Prop}(h:p:=by
 by_cases h:j=k
 ·rw[aB h,aB I,h]
 rw[aA h];by_cases a:j<k
 ·rw[aB a,aB I]
 rw[aA a,aA I]):p:=h
def KJ(E:List Vl)(r:Int):∀k,k<=8->∀j,(Ir E r k).at j=if j<k then Tl (E.getD j ⟨0,0,0,P',0,0⟩) r else VV.z
 |0,_,j=>by rw[aA I];exact Qu O' j
 |k+1,a,j=>by rw[yP,PE.lg _ I,KJ E r k I j];exact Yz
def Tm(E:List Vl)(r:Int):∀k,(Ir E r k).r=O'
 |0=>rfl
 |k+1=>by rw[yP];exact Tm E r k
def Sg(e:Bool)(E:List Vl):∀k,k<=8->∀j,(CV e E k).at j=if j<k then⟨P',(E.getD j ⟨0,0,0,P',0,0⟩).lo,(E.getD j ⟨0,0,0,P',0,0⟩).hi⟩ else VV.z
 |0,_,j=>by rw[aA I];exact Qu e j
 |k+1,a,j=>by rw[xQ,PE.lg _ I,Sg e E k I j];exact Yz
def ZH(e:Bool)(E:List Vl):∀k,(CV e E k).r=e
 |0=>rfl
 |k+1=>by rw[xQ];exact ZH e E k
def ab1(N:v.aG≠3)(a:0<=r):Tl v r=eZ r v:=by
 rw[Tl,eZ,aA N];by_cases C:v.aG=1
 ·rw[aB C,aB C]
 rw[aA C,aA C];simp[a]
def Tj(N:v.aG≠3)(a:v.rank<=100000):Tl v 100001=eZ (-1) v:=by
 rw[Tl,eZ,aA N];by_cases C:v.aG=1
 ·rw[aB C,aB C]
 rw[aA C,aA C];have:decide ((100001:Int)<=v.rank)=P':=by simp;omega
 simp[this]
def Db(K:Q<=8){E:List Vl}(X:ζ E=Q){f:Vl->VV}{e:PE}(a:e.r=O')(h:∀j,e.at j=if j<Q then f (E.getD j ⟨0,0,0,P',0,0⟩) else VV.z):PR Q e (B' (E.map f)):=by
 refine⟨a,by rw[b!,X],λj=>?_⟩;rw[h j];by_cases f:j<Q
 ·have C:E[j]?=B' E[j]:=bR I;rw[aB f,getD,getD,cg,C];rfl
 rw[aA f,getD,dA H'];rfl
def abp(K:Q<=8)(X:x.aD=O'->ζ x.vals=Q)(N:∀v∈x.vals,v.aG≠3)(a:0<=r):PR Q (Vf x.aD x.rank x.vals r) (oO x r):=by
 unfold Vf oO;cases F:x.aD
 ·rw[aB (aI rfl)];rfl
 by_cases T:x.rank<r;rotate_left
 ·have V:¬(O'&&decide (x.rank<r))=O':=by simp;omega
  have u:O'=P'\/(0<=r/\r<=x.rank):=aK ⟨a,I⟩;rw[aA V,aB u];rfl
 have V:(O'&&decide (x.rank<r))=O':=by simp[T]
 have u:¬(O'=P'\/(0<=r/\r<=x.rank)):=by simp;omega
 rw[aB V,aA u];have i:=X F;refine Db K i (Tm _ _ _) λj=>?_;rw[i,KJ _ _ _ K];by_cases f:j<Q
 ·have C:x.vals[j]?=B' x.vals[j]:=bR I;rw[aB f,aB f,getD,C];exact ab1 (N _ (aT C)) a
 rw[aA f,aA f]
def OU(K:Q<=8)(X:x.aD=O'->ζ x.vals=Q)(N:∀v∈x.vals,v.aG≠3/\v.rank<=100000)(a:x.rank<=100000):PR Q (Vf x.aD x.rank x.vals 100001) (oO x (-1)):=by
 unfold Vf oO;cases F:x.aD
 ·rw[aB (aI rfl)];rfl
 have V:(O'&&decide (x.rank<100001))=O':=by simp;omega
 have u:¬(O'=P'\/((0:Int)<=-1/\-1<=x.rank)):=ak;rw[aB V,aA u];have i:=X F;refine Db K i (Tm _ _ _) λj=>?_;rw[i,KJ _ _ _ K];by_cases f:j<Q
 ·have C:x.vals[j]?=B' x.vals[j]:=bR I;rw[aB f,aB f,getD,C];have:=N _ (aT C);exact Tj this.1 this.2
 rw[aA f,aA f]
def abo(K:Q<=8)(X:x.aD=O'->ζ x.vals=Q)(D:x.aD=P'->x.vals=[])(N:∀v∈x.vals,v.aG=3):PR Q (CV x.aD x.vals (ζ x.vals)) (oO x (-1)):=by
 unfold oO;cases F:x.aD
 ·rw[aB (aI rfl),D F];rfl
 rw[aA ak];have i:=X F;refine Db K i (ZH _ _ _) λj=>?_;rw[i,Sg _ _ _ K];by_cases f:j<Q
 ·have C:x.vals[j]?=B' x.vals[j]:=bR I;rw[aB f,aB f,getD,C];have:=N _ (aT C);unfold eZ;exact(aB (this)).symm
 rw[aA f,aA f]
end
section
variable {nv:Nat} {e:PE} {v:EV}
def KC.eg(h:PR nv e v)(a:kf 5 nv v):∀i,zK (e.at i)/\dT (bZ (e.at i)):=by
 have f:zK VV.z/\dT (bZ VV.z):=⟨⟨rfl,λ_=>rfl⟩,aj,aj⟩;intro i;cases v with
 |none=>have D:e=PE.zero:=h;rw[D,KC.qPE.su];exact f
 |some E=>
  rw[h.2.2];by_cases S:i<ζ E;rotate_left
  ·rw[getD,dA I];exact f
  have C:=bR S;rw[getD,C];have R:=(a E rfl).2 _ (aT C);have Y:=R.form;rw[aB rfl]at Y;show zK E[i]/\dT (bZ E[i]);refine⟨?_,f64.2 R.bd.lo,f64.2 R.bd.hi⟩;rcases Y with Y|Y
  ·rw[Y];exact⟨rfl,λ_=>rfl⟩
  rw[Y];exact⟨rfl,λh=>by cases h⟩
def FN{Q:Nat}(K:Q<=8):∀(l:List (PE×EV)) (e:PE) (v:EV),PR Q e v->kf 5 Q v->(∀q∈l,PR Q q.1 q.2/\kf 5 Q q.2)->PR Q ((l.map Prod.fst).foldl KC.Bp e) ((l.map Prod.snd).foldl (Iu 5) v)/\kf 5 Q ((l.map Prod.snd).foldl (Iu 5) v)
 |[],e,v,h,a,_=>⟨h,a⟩
 |q::l,e,v,h,a,hl=>by have b:=hl q ak;exact FN K l _ _ (abq K h b.1 (λi=>(KC.eg h a i).1) (λi=>(KC.eg b.1 b.2 i).1)) (KL a b.2) (λx F=>hl x (by simp[F]))
def KB.eg(h:PR nv e v)(a:kf 6 nv v):∀i,zQ (e.at i)/\dT (bZ (e.at i)):=by
 have f:zQ VV.z/\dT (bZ VV.z):=⟨rfl,aj,aj⟩;intro i;cases v with
 |none=>have D:e=PE.zero:=h;rw[D,KC.qPE.su];exact f
 |some E=>
  rw[h.2.2];by_cases S:i<ζ E;rotate_left
  ·rw[getD,dA I];exact f
  have C:=bR S;rw[getD,C];have R:=(a E rfl).2 _ (aT C);have Y:=R.form;rw[aA aj]at Y;show zQ E[i]/\dT (bZ E[i]);refine⟨?_,f64.2 R.bd.lo,f64.2 R.bd.hi⟩;exact Y.1
def FO{Q:Nat}(K:Q<=8):∀(l:List (PE×EV)) (e:PE) (v:EV),PR Q e v->kf 6 Q v->(∀q∈l,PR Q q.1 q.2/\kf 6 Q q.2)->PR Q ((l.map Prod.fst).foldl KB.Bp e) ((l.map Prod.snd).foldl (Iu 6) v)/\kf 6 Q ((l.map Prod.snd).foldl (Iu 6) v)
 |[],e,v,h,a,_=>⟨h,a⟩
 |q::l,e,v,h,a,hl=>by have b:=hl q ak;exact FO K l _ _ (abr K h b.1 (λi=>(KB.eg h a i).1) (λi=>(KB.eg b.1 b.2 i).1)) (KL a b.2) (λx F=>hl x (by simp[F]))
end
section
variable {P:Pm} {held:Nat->PE} {at_:Nat->EV}
def RH(n i:Nat):(sh n).at i=VV.z:=Qu _ i
def ZM(P:Pm)(n:Nat):PR P.nv (sh n) (P.Ij n):=by
 unfold Pm.Ij;cases n with
 |zero=>rw[aB rfl];refine⟨rfl,ak,λi=>?_⟩;rw[RH,getD,oV];split<;>rfl
 |succ n=>rw[aA I];exact EZ n
def qA(P:Pm):Prop:=∀n∈P.nd,n.aG=1->0<=n.op/\n.op<=3
def KC.iy(P:Pm)(held:Nat->PE)(n:Nat):PE:=((P.ins n).map λx=>KC.fJ (held x.1) (P.at x.1) (decide (x.2=0))).foldl KC.Bp (sh n)
def KB.iy(P:Pm)(held:Nat->PE)(n:Nat):PE:=((P.ins n).map λx=>KB.fJ (held x.1) (P.at x.1) (decide (x.2=0))).foldl KB.Bp (sh n)
def D6{i:Nat}(h:i<ζ P.nd):P.at i∈P.nd:=by rw[Pm.at,getD,bR h];exact lX h
def rg_of{v:VV}(h:okV 6 v):Vt v:=by have Y:=h.form;rw[aA aj]at Y;exact⟨Y.1,Y.2,h.bd.lo.1,h.bd.hi.2⟩
def KP(F:ζ P.nx=ζ P.nd){n:Nat}{x:Nat×Nat}(h:x∈P.ins n):P.at x.1∈P.nd:=D6 (J' (tD n P.nx 0 x h))
def KC.nD(a:dC P)(T:wR P)(b:qA P)(F:ζ P.nx=ζ P.nd)(V:∀m,PR P.nv (held m) (at_ m)/\kf 5 P.nv (at_ m))(n:Nat):
  PR P.nv (KC.iy P held n) (P.say 5 n at_)/\kf 5 P.nv (P.say 5 n at_):=by
 have C:=FN a.nv ((P.ins n).map λx=>(KC.fJ (held x.1) (P.at x.1) (decide (x.2=0)),Ag 5 (P.at x.1) x.2 (at_ x.1))) (sh n) (P.Ij n) (ZM P n) (CL 5 P n) (λq c=>by
  obtain⟨x,L,rfl⟩:=cZ.1 c;have d:=KP F L
  exact⟨Sr (V x.1).1 a.nv (P.at x.1) x.2 (a.var _ d) (a.aG _ d).1 (b _ d) (a.a _ d) (a.b _ d),uL (aI rfl) (T x.1) (V x.1).2⟩)
 rw[lW,lW]at C;have u:P.say 5 n at_=((P.ins n).map (Prod.snd∘λx=>(KC.fJ (held x.1) (P.at x.1) (decide (x.2=0)),Ag 5 (P.at x.1) x.2 (at_ x.1)))).foldl (Iu 5) (P.Ij n):=by rw[foldl_map];rfl
 rw[u];exact C
def KB.nD(a:dC P)(T:wR P)(F:ζ P.nx=ζ P.nd)(V:∀m,PR P.nv (held m) (at_ m)/\kf 6 P.nv (at_ m))(n:Nat):
  PR P.nv (KB.iy P held n) (P.say 6 n at_)/\kf 6 P.nv (P.say 6 n at_):=by
 have C:=FO a.nv ((P.ins n).map λx=>(KB.fJ (held x.1) (P.at x.1) (decide (x.2=0)),Ag 6 (P.at x.1) x.2 (at_ x.1))) (sh n) (P.Ij n) (ZM P n) (CL 6 P n) (λq b=>by
  obtain⟨x,L,rfl⟩:=cZ.1 b;have d:=KP F L
  exact⟨Ss (V x.1).1 a.nv (P.at x.1) x.2 (λE R _=>rg_of (kY ((V x.1).2 E R).2 _ (T x.1).1)) (λE R _=>rg_of (kY ((V x.1).2 E R).2 _ (T x.1).2)) (a.var _ d) (a.aG _ d).1 (a.a _ d) (a.b _ d),uL (aK rfl) (T x.1) (V x.1).2⟩)
 rw[lW,lW]at C;have u:P.say 6 n at_=((P.ins n).map (Prod.snd∘λx=>(KB.fJ (held x.1) (P.at x.1) (decide (x.2=0)),Ag 6 (P.at x.1) x.2 (at_ x.1)))).foldl (Iu 6) (P.Ij n):=by rw[foldl_map];rfl
 rw[u];exact C
end
def Gy:(Tryz.prog.info? 73).map (λi=>(i.zero,i.size,i.bytes))=B' (B' (l' jn),6,48):=au
def pvC(v:Vl):List A':=[G v.aG,G v.lo,G v.hi,j' P',G 0,G 0]
def mL(vs:List Vl):List A':=vs.flatMap pvC
def yj{E:List Vl}{k:Nat}{v:Vl}(h:E[k]?=B' v):mL (E.take (k+1))=mL (E.take k)++pvC v:=by have X:=(bm.1 h).1;rw[cX X,(bm.1 h).2];simp[mL]
def pB{X:u'}{q:Nat}{L:List A'}{t:TypeId}(h:X.1[q]?=B' (c7 (θ L) t)):∀(j:Nat) (u:A'),L[j]?=B' u->χ X (((O q 0):Addr).add j)=B' u:=by intro j u f;rw[eX,bW,(M h).1];simpa using f
def Ae(z:x')(x:Nat)(E:List Vl)(w:u')(h:lk w z E)(K:ζ E<=1000):
  Cl 96 #[i' z (ζ E) x] w λe b=>∃a c,e=p' (aO a (ζ E) c)/\ρ b w.1.size 73 6 (aO a (ζ E) c) (ζ E) (mL E)/\Bl w b:=by
 obtain⟨N,S,X,P,b⟩:=cQ Gy;have g:J (_/\_/\_/\_):=⟨S,X,P,b⟩;clear S X P b;have s:=hid h;clear h;obtain⟨n,Q⟩:=Ea (ζ E);rw[<-Q]at K⊢;have K:=hid Q;clear Q;go_enter func96,ntmps96;go_wp2;go_loopw[3,8] (λr y wr=>∃(j:Nat) (a:x') (c:Nat),j<=n/\y=G j/\r=i' a j c/\J (ρ wr w.1.size 73 6 (i' a j c) j (mL (E.take j))/\Bl w wr)) (λ_ y _=>n-(intOf y).toNat)
 ·exact⟨0,C',0,bj,rfl,rfl,cb,aQ⟩
 obtain⟨j,a,c,f,rfl,rfl,Q⟩:=hrel;by_cases L:j<n;rotate_left
 ·have b:¬(j:Int)<n:=I;obtain rfl:j=n:=I;go_wp2;refine aC (v:=i' a j c) (by simp[results96,go_sem]) rfl ⟨a,c,rfl,?_,Q.A⟩;have C:=Q.a;rw[cH (by rw[K.o];exact aF)]at C;exact C
 have b:(j:Int)<n:=I;obtain⟨v,R⟩:=La (l:=E) (i:=j) (by rw[<-K.o];exact L);obtain⟨b,o,rfl,T,d,p,f,P,h⟩:=s.o j v R;have t:=ax T Q.A;have Y:=ax d Q.A;have i:=ax p Q.A;have k:=ax f Q.A;have F:=ax P Q.A;have B:=ax h Q.A;have b:=hid (yj R);clear T d p f P h R;go_upto_region 5 with fail
 generalize u:wr.alloc (k' #[G v.aG,G v.lo,G v.hi,j' v.bJ,G v.first,G v.rank] 73)=T;have D:J (Bl wr T/\d' T wr.1.size #[G v.aG,G v.lo,G v.hi,j' v.bJ,G v.first,G v.rank] 73):=by subst u;exact⟨bf,bV⟩
 clear u;clear t Y i k F B;have f:=M D.A;go_wp2_with (at_builtin;refine gu rfl _ _ 71 rfl w.1.size 73 N (l' jn) 6 48 underlying71 g.a g.b g.c g.C rfl aj (i' a j c) j (mL (E.take j)) rfl ((aZ Q.a D.a).alloc _) (O T.1.size 0) 1 1 (pvC v) rfl rfl (pB (cv T _)) (by intro u C;simp[pvC]at C;rcases C with rfl|rfl|rfl|rfl|rfl<;>rfl) (by simp only[maxLen];omega) I (by have:=(H Q.A D.a).size;simp;omega) ?_;intro U l k F _;obtain⟨c,a,rfl⟩:=aV k;have W:=hid (A k F);clear k F);go_roundw
 ·
  refine⟨j+1,c,a,L,f',rfl,?_,?_⟩
  ·rw[b.o];exact W.a
  exact aan
 exact G'
section
variable {a:x'} {es:List PE} {e:PE} {r:RR} {x:Nat×A'} {P:Pm} {b:Nat->PE} {o:lU}
def KC.bM(es:List PE):List A':=es.flatMap KC.aU
def KB.bM(es:List PE):List A':=es.flatMap KB.aU
def KC.kB:∀(l:List PE) (j:Nat) (e:PE) (i:Nat),l[j]?=B' e->i<17->(KC.bM l)[j*17+i]?=(KC.aU e)[i]?
 |[],j,e,i,h,_=>by simp at h
 |a::l,0,e,i,h,hi=>by simp at h;subst h;simp only[KC.bM,cN,e?,bW];exact jN hi
 |a::l,j+1,e,i,h,hi=>by have B:=KC.kB l j e i (I' h) hi;simp only[KC.bM,cN]at B⊢;have o:ζ (KC.aU a)=17:=rfl;rw[ek I,<-B];congr 1;omega
def KB.kB:∀(l:List PE) (j:Nat) (e:PE) (i:Nat),l[j]?=B' e->i<17->(KB.bM l)[j*17+i]?=(KB.aU e)[i]?
 |[],j,e,i,h,_=>by simp at h
 |a::l,0,e,i,h,hi=>by simp at h;subst h;simp only[KB.bM,cN,e?,bW];exact jN hi
 |a::l,j+1,e,i,h,hi=>by have B:=KB.kB l j e i (I' h) hi;simp only[KB.bM,cN]at B⊢;have o:ζ (KB.aU a)=17:=rfl;rw[ek I,<-B];congr 1;omega
def ad6(h:p:=by
 intro j e f;rcases h.2 with⟨R,_⟩|⟨g,b,Y,R,_⟩
 ·exfalso;have D:=kB es j e 0 f I;simp at R;have:=(bm.1 (D.trans (bR (show 0<ζ (aU e) from Nat.succ_pos 16)))).1;rw[h.1,R.2.1]at this;omega
 simp at R;obtain⟨rfl,rfl⟩:=R;refine⟨g,0,rfl,λi v S=>?_⟩;have L:=(bm.1 S).1;have U:=h.cells (g:=g) rfl (j*17+i) v (by rw[kB es j e i f L];exact S);rw[eX,bW]at U;rw[bW]
 exact U):p:=h
open KC in
def KC.FL(h:ρ W B 228 17 (i' a n c) n (KC.bM es)):KC.jy W a es:=ad6
open KB in
def KB.FL(h:ρ W B 250 17 (i' a n c) n (KB.bM es)):KB.jy W a es:=ad6
def KC.FG(h:W.1[q]?=B' (k' (θ (KC.aU e)) 228 (0,0)))(v:B<=q):ρ W B 228 17 (i' (B' (O q 0)) 1 1) 1 (KC.bM [e]):=by refine⟨rfl,aK ⟨q,1,θ (KC.aU e),rfl,v,h,aF,?_,rfl,rfl⟩⟩;unfold maxLen;decide
def KB.FG(h:W.1[q]?=B' (k' (θ (KB.aU e)) 250 (0,0)))(v:B<=q):ρ W B 250 17 (i' (B' (O q 0)) 1 1) 1 (KB.bM [e]):=by refine⟨rfl,aK ⟨q,1,θ (KB.aU e),rfl,v,h,aF,?_,rfl,rfl⟩⟩;unfold maxLen;decide
def KC.sW:(Tryz.prog.info? 228).map (λi=>(i.zero,i.size,i.bytes))=B' (B' (l' (θ (KC.aU PE.zero))),17,136):=au
def KB.sW:(Tryz.prog.info? 250).map (λi=>(i.zero,i.size,i.bytes))=B' (B' (l' (θ (KB.aU PE.zero))),17,136):=au
def ad5(h:p:=by
 have o:=(bm.1 hk).1;have F:=zk r.es k x hk;rcases h.2 with⟨_,e⟩|⟨g,a,Y,R,_⟩
 ·omega
 simp[RR.ev]at R;refine⟨g,R.1,?_,?_⟩
 ·have:=h.cells (g:=g) (by simp[RR.ev,Value.ownBlock,R.1]) _ _ F.1;rwa[eX,bW]at this
 have:=h.cells (g:=g) (by simp[RR.ev,Value.ownBlock,R.1]) _ _ F.2
 rwa[eX,bW]at this):p:=h
open KC in
def KC.Mx(h:ρ W B 378 2 r.ev (ζ r.es) (iV r.es))(hk:r.es[k]?=B' x):∃g,r.ea=B' (O g 0)/\χ W (O g (k*2))=B' (G x.1)/\χ W (O g (k*2+1))=B' x.2:=ad5
open KB in
def KB.Mx(h:ρ W B 340 2 r.ev (ζ r.es) (iV r.es))(hk:r.es[k]?=B' x):∃g,r.ea=B' (O g 0)/\χ W (O g (k*2))=B' (G x.1)/\χ W (O g (k*2+1))=B' x.2:=ad5
def KC.Sn(P:Pm)(held:Nat->PE)(x:Nat×Nat):PE:=KC.fJ (held x.1) (P.at x.1) (decide (x.2=0))
def KB.Sn(P:Pm)(held:Nat->PE)(x:Nat×Nat):PE:=KB.fJ (held x.1) (P.at x.1) (decide (x.2=0))
def KC.Ac(P:Pm)(held:Nat->PE):Prop:=∀m,∃v,PR P.nv (held m) v/\kf 5 P.nv v
def KB.Ac(P:Pm)(held:Nat->PE):Prop:=∀m,∃v,PR P.nv (held m) v/\kf 6 P.nv v
def KC.Ac.bin(h:KC.Ac P b)(m i:Nat):dT (bZ ((b m).at i)):=by obtain⟨v,C,a⟩:=h m;exact(KC.eg C a i).2
def KB.Ac.bin(h:KB.Ac P b)(m i:Nat):dT (bZ ((b m).at i)):=by obtain⟨v,C,a⟩:=h m;exact(KB.eg C a i).2
def KC.Ac.op(h:KC.Ac P b)(m:Nat)(a:Hm o):dT (bZ (ja (b m) o)):=by
 unfold ja;split
 ·exact h.bin m _
 exact⟨f64.2 a,f64.2 a⟩
def KB.Ac.op(h:KB.Ac P b)(m:Nat)(a:Hm o):dT (bZ (ja (b m) o)):=by
 unfold ja;split
 ·exact h.bin m _
 exact⟨f64.2 a,f64.2 a⟩
def ad4(h:p:=by
 obtain⟨v,C,a⟩:=h x.1;have t:=KP hx hm
 first|(have _:=Da;refine(eg (nv:=P.nv) (v:=Ag 5 (P.at x.1) x.2 v) ?_ (uL aj (hc x.1) a) i).2)|(refine(eg (nv:=P.nv) (v:=Ag 6 (P.at x.1) x.2 v) ?_ (uL aj (hc x.1) a) i).2)
 first|(have _:=Da;exact Sr C hO.nv (P.at x.1) x.2 (hO.var _ t) (hO.aG _ t).1 (ho _ t) (hO.a _ t) (hO.b _ t))|(exact Ss C hO.nv (P.at x.1) x.2 (λE R _=>rg_of (kY (a E R).2 _ (hc x.1).1)) (λE R _=>rg_of (kY (a E R).2 _ (hc x.1).2)) (hO.var _ t) (hO.aG _ t).1 (hO.a _ t) (hO.b _ t))):p:=h
open KC in
def KC.Ac.made(h:KC.Ac P b)(hO:dC P)(hc:wR P)(ho:qA P)(hx:ζ P.nx=ζ P.nd){x:Nat×Nat}(hm:x∈P.ins n)(i:Nat):dT (bZ ((KC.Sn P b x).at i)):=ad4
open KB in
def KB.Ac.made(h:KB.Ac P b)(hO:dC P)(hc:wR P)(ho:qA P)(hx:ζ P.nx=ζ P.nd){x:Nat×Nat}(hm:x∈P.ins n)(i:Nat):dT (bZ ((KB.Sn P b x).at i)):=ad4
def KC.Sp{a b:VV}(c:dT (bZ a))(d:dT (bZ b)):dT (bZ (KC.vT a b)):=by
 unfold KC.vT;split
 ·exact c
 exact⟨aj,aj⟩
def KB.Sp{a b:VV}(c:dT (bZ a))(d:dT (bZ b)):dT (bZ (KB.vT a b)):=by
 unfold KB.vT;refine⟨?_,?_⟩
 ·show aP (min a.lo b.lo)=O';rcases Int.le_total a.lo b.lo with h|h
  ·rw[Int.min_eq_left h];exact c.lo
  rw[Int.min_eq_right h];exact d.lo
 show aP (max a.hi b.hi)=O';rcases Int.le_total a.hi b.hi with h|h
 ·rw[Int.max_eq_right h];exact d.hi
 rw[Int.max_eq_left h];exact c.hi
def KC.Mu(h:KC.Ac P b)(c:dC P)(T:wR P)(a:qA P)(F:ζ P.nx=ζ P.nd)(n:Nat):∀i,dT (bZ ((KC.iy P b n).at i)):=by obtain⟨f,Y⟩:=Classical.axiomOfChoice h;have C:=KC.nD c T a F Y n;exact λi=>(KC.eg C.1 C.2 i).2
def KB.Mu(h:KB.Ac P b)(a:dC P)(T:wR P)(c:qA P)(F:ζ P.nx=ζ P.nd)(n:Nat):∀i,dT (bZ ((KB.iy P b n).at i)):=by obtain⟨f,Y⟩:=Classical.axiomOfChoice h;have C:=KB.nD a T F Y n;exact λi=>(KB.eg C.1 C.2 i).2
def ad3(h:p:=by
 have hN:=hO.most;obtain⟨ql,hE⟩:=hE;obtain⟨r,hr⟩:=La (l:=ql) (i:=n) (by rw[hE.len];exact hn);have TC:=hE.st n r hr;have Xa:=hE.es n r hr;have hrg:=hE.sys.range hr;have afm:=hE.sys.row r (aT hr);have afq:=rU n P.nx 0 (λl hl=>(hO.nx l hl).1);have hL:ζ r.es=ζ (P.ins n):=Xa.1;simp only[rz,TC,RR.ev]at hrg;rw[hL]at hrg;obtain⟨L,hLL⟩:=Ea (ζ (P.ins n));rw[<-hLL]at hrg;have hL2:L<=120:=by rw[hLL];show(dQ n 0 P.nx).length<=120;omega
 have HH:=hid (A hE (A hd (A hO (A hc (A ho (A hx (A hH (A hh (A Xa (A afm hLL))))))))));clear hE hd hO hc ho hx hH hh Xa afm hLL TC hr afq hL;obtain⟨i0,hi,Qa,tF,WV⟩:=cQ sW;have HI:J (_/\_/\_/\_):=⟨hi,Qa,tF,WV⟩;clear hi Qa tF WV;obtain⟨N,hNN⟩:=Ea (ζ P.nd);rw[<-hNN]at hN hn⊢;have HN:=hid hNN;have hni:(n:Int)<N:=I;have agF:∀e,ζ (aU e)=17:=λ_=>rfl;clear hNN;simp only[KC.hJ,KB.hJ];go_enter aeG,aep;go_upto_region 1 with fail
 refine vZ (F:=Code.wp _ _ _ _) λW0 HB=>?_;have x1:=M HB.a.1;have hr0:=ig hrg HB.b;clear hrg;go_upto_region 2 with(first|(refine wpList_load_mid rfl sV (.tmp 14) rfl rb (n*18) rfl (aU (sh n)++[i' r.ea L r.ec]) _ hr0 adT rfl au ?_)|(refine wpList_store_mid rfl sV (.tmp 7) (.tmp 15) rfl W0.1.size 0 (θ (aU (sh n)++[i' r.ea L r.ec])) rfl rfl (cY (n:=18) bV rfl) au (all_oneCell_toArray (λv hv=>by rcases eE.1 hv with hv|hv;(· exact sY _ v hv);simp at hv;subst hv;rfl)) ?_))
 refine TV (F:=Code.wp _ _ _ _) rfl λW1 H1=>?_;have hqr:=blt HB.a.2;have HW1:J (Bl w W1/\_/\_):=⟨H HB.b H1.A,aL H1.A HB.a.1,aL H1.A HB.a.2⟩;have HQ:=hid (A HB.B H1.a);clear H1 HB hr0 x1;generalize δ W0.1=qr at HQ hqr⊢;have hr1:W1.rangeAt qr 0 (aU (sh n)):=λj v hv=>bG HQ.A j v (by rw[jN (bm.1 hv).1];exact hv);simp only[Act.put];go_upto_region 3 with(refine wpList_load_mid rfl cA (.tmp 16) rfl qr 0 rfl (aU (sh n)) _ hr1 kU rfl au ?_)
 refine gS (F:=Code.wp _ _ _ _) λW2 H2=>?_;have h2:=H2.a;rw[G3 (l:=aU (sh n)) (z:=vx) rfl]at h2;have hq1:=blt HQ.A;have Qk:J (Bl w W2/\_/\_/\_/\_):=⟨H HW1.a H2.b,aL H2.b HW1.b,aL H2.b HW1.B,aL H2.b HQ.A,h2⟩;have HQ2:=hid HQ.a;clear h2 H2 HW1 HQ hr1;generalize δ W1.1=b0 at Qk hq1⊢;have x1:=M Qk.d;have e17:χ W2 (O qr 17)=B' (i' r.ea L r.ec):=by rw[x1.1];rfl
 clear x1;go_wp2_with fail;clear e17;generalize l' #[i' (B' (O rb 0)) N N,.func (.func OL) #[] (di db),.func (.func OJ) #[] (di db)]=sv0;generalize l' (θ (aU (sh n)++[i' r.ea L r.ec]))=sv1;generalize l' (θ (aU (sh n)))=sv2;go_loopw[8,22] (λlv iv wr=>∃(k:Nat) (a:x') (c:Nat),k<=L/\iv=G k/\lv=i' a (k+1) c/\J (ρ wr b0 cA 17 (i' a (k+1) c) (k+1) (bM (sh n::((P.ins n).take k).map (Sn P held)))/\Below b0 W2 wr)) (λ_ iv _=>L-(intOf iv).toNat)
 case atStart=>exact⟨0,_,_,bj,rfl,rfl,FG Qk.D aF,aQ⟩
 obtain⟨k,a,c,hk,rfl,rfl,HK⟩:=hrel;have hqw:δ w.1+1+1=qr:=HQ2.o.symm;have gb:J (Bl w wr):=Qk.a.trans (HK.A.mono I);have hsr:=HK.A.size;clear hqw;by_cases rW:k<L;rotate_left
 ·have iz:¬(k:Int)<L:=I;obtain rfl:L=k:=I
  have htk:(P.ins n).take L=P.ins n:=cH (by rw[<-HH.J];exact aF);rw[htk]at HK;have HJ:J (∀W,Below wr.1.size wr W->Cl OL #[i' a (L+1) c,o' (B' (O db 0))] W (Rb W (l' (θ (aU (iy P held n)))))):=by
   intro W hW;have hl:ζ (sh n::(P.ins n).map (Sn P held))=L+1:=by rw[cC,b!,<-HH.J]
   have:=x7 a c db (sh n::(P.ins n).map (Sn P held)) W (aL (H gb.o hW) HH.b) (FL (aZ HK.a hW)) (by rw[hl];omega) (by
    intro e he i;rcases dr.1 he with rfl|he
    ·rw[RH];exact⟨aj,aj⟩
    ·obtain⟨x,hx,rfl⟩:=cZ.1 he
     exact HH.g.made HH.c HH.d HH.e HH.f hx i) (λ_ _ ha hb=>Sp ha hb)
   rw[hl]at this;exact this
  obtain⟨z,hz⟩:=Ea (iy P held n);rw[<-hz]at HJ;have HZ:=hid hz;clear hz htk;have hq9:δ w.1+1<b0:=I;have x1:=M (u0 HK.A Qk.b I);go_wp2_with (first|((first|go_at_call 270 | go_at_call 275);refine(HJ.o _ aQ).mono ?_;rintro e Y ⟨rfl,hb⟩;have HY:=hid hb;clear hb x1;have ht:=cY (n:=17) (aL HY.o (u0 HK.A Qk.c hq9)) rfl)|(refine wpList_store_mid rfl cA (.tmp 6) (.tmp 40) rfl (δ w.1+1) 0 (θ (aU z)) rfl rfl ht au (bH _) ?_));have hq:=df (cs:=vx) (aL HY.o (u0 HK.A Qk.c hq9)) (vs:=aU z) rfl;have hL:=run_loadVar_mid (P:=Tryz.prog) (ψ Y (δ w.1+1) 0 (aU z)) (δ w.1+1) 0 cA (aU z) _ (bG hq) kU rfl au;refine aC (v:=l' (θ (aU z))) (by simp[results,results210,results216,hL,Act.put,asAddr]) rfl ⟨by rw[HZ.o],dF I _ _ _ (H gb.o HY.o)⟩
 have iz:(k:Int)<L:=I;obtain⟨x,hx⟩:=La (l:=(P.ins n)) (i:=k) (by rw[<-HH.J];exact rW);obtain⟨y,hy⟩:=La (l:=r.es) (i:=k) (by rw[HH.i.1,<-HH.J];exact rW);obtain⟨he1,sb,he2,hEd⟩:=HH.i.2 k y x hy hx;obtain⟨g,hg,e0,e1⟩:=Mx (aZ HH.j gb.o) hy;rw[he1]at e0;rw[he2]at e1;have hxm:=aT hx;have WW:x.1<ζ P.nd:=by have:=tD n P.nx 0 x hxm;have:=HH.f;omega
 have GI:=D6 WW;have HX:=hid hx;have HC:J (∀W,Bl w W->Cl fk (#[G x.1]++SO) W (Rb W (l' (θ (aU (held x.1)))))):=HH.h x.1 WW;have HM:J (∀W,Bl w W->Cl J! #[l' (θ (aU (held x.1))),o' (B' (O sb 0))] W (Rb W (l' (θ (aU (Sn P held x)))))):=by intro W hW;have h8:=HH.c.nv;exact Bn (held x.1) (P.at x.1) (decide (x.2=0)) sb W (hEd.below hW) (λh=>by have:=HH.c.var _ GI h;omega) (HH.c.aG _ GI).1 (λh1 h2=>by have:=HH.c.a _ GI h1 h2;omega) (λh1 h2=>by have:=HH.c.b _ GI h1 h2;omega) (λ_=>HH.g.op _ (HH.d x.1).1) (λ_=>HH.g.op _ (HH.d x.1).2)
 clear hx hy he1 he2 hEd hxm WW GI;generalize held x.1=hd0 at HC HM;obtain⟨md,hmd⟩:=Ea (Sn P held x);rw[<-hmd]at HM;have HMD:=hid hmd;clear hmd;generalize x.1=xf at HC e0;rw[hg];go_upto_region 6 with fail
 clear e0 e1;refine gS (F:=Code.wp _ _ _ _) λV HV=>?_;have Vc:J (Below wr.1.size wr V/\Below b0 W2 V/\Bl w V):=⟨HV.b,HK.A.trans (HV.b.mono (by have:=blt Qk.D;omega)),H gb.o HV.b⟩;have HE6:=hid HV.a;clear HV;generalize agG:δ wr.1=eb at HE6⊢;have heb:b0<eb:=by have:=blt Qk.D;omega
 refine wp_region_held_drew (S:=λW'=>Below b0 W2 W'/\W'.1[eb]?=B' (k' #[G xf,Bt sb] oG (0,0))) au ⟨Vc.b.drew,HE6.o⟩ (λaM=>?_);refine tq 0 (i' a (k+1) c) ?_;refine tq 1 (o' (B' (O eb 1))) ?_;refine tr 2 (Bt sb) (λW' bN=>(M bN.2).1) ?_;refine tq 3 (.func (.func fk) #[] SO) ?_;refine tq 4 (vh eb) ?_;refine tr 5 (G xf) (λW' bN=>(M bN.2).1) ?_;refine r1 6 λK hK=>?_;go_simp;refine(HC.o _ (Vc.B.drew)).mono ?_;rintro e Y1 ⟨rfl,hb⟩;have H1:J (Bl V Y1):=H aQ.drew hb;clear hb;refine hK.out _ _ ⟨Vc.b.trans (H1.o.mono (by have:=Vc.a.size;omega)),aL H1.o HE6.o⟩ (λaM=>?_);clear hK K;refine pt ?_;refine r1 7 λK hK=>?_;go_simp;refine(HM.o _ (H Vc.B H1.o)).mono ?_;rintro e Y2 ⟨rfl,hb⟩;have H2:J (Bl V Y2):=H H1.o hb;clear hb;refine hK.out _ _ ⟨Vc.b.trans (H2.o.mono (by have:=Vc.a.size;omega)),aL H2.o HE6.o⟩ (λaM=>?_);clear hK K;refine pt ?_;refine r1 8 λK hK=>?_;go_simp;refine hK.out _ _ ⟨aM.1.trans (bf.mono (bD (by have:=Vc.a.size;omega) H2.o.size)),aL bf aM.2⟩ (λaM=>?_);clear hK K;refine pt ?_;clear aM;refine gS (F:=λV=>wpAnyH _ _ _ _ _ _ _ _ V) λX HX2=>?_;have hx2:=HX2.a;rw[G3 (l:=aU md) (z:=vx) rfl]at hx2;have Qj:J (Bl V X/\X.1[δ Y2.1]?=B' (k' (θ (aU md)) cA (0,0))/\Below wr.1.size wr X/\Below b0 W2 X/\eb<δ X.1):=⟨H H2.o HX2.b,hx2,H Vc.a (H H2.o HX2.b),Vc.b.trans ((H H2.o HX2.b).mono (by have:=Vc.a.size;omega)),blt (aL (H H2.o HX2.b) HE6.o)⟩;clear hx2 HX2;have aM:Below b0 W2 X/\X.1[eb]?=B' (k' #[G xf,Bt sb] oG (0,0)):=⟨Qj.d,aL Qj.a HE6.o⟩;refine r1 9 λK hK=>?_;refine jq rfl (.tmp 26) (.tmp 34) abl rfl b0 cA i0 (l' (θ (aU PE.zero))) 17 136 adS HI.a HI.b HI.c HI.C rfl aj (i' a (k+1) c) (k+1) (bM (sh n::((P.ins n).take k).map (Sn P held))) (by simp[Act.eval,Act.put]) (aZ HK.a Qj.c) (O Y2.1.size 0) 1 1 (aU md) (by simp[Act.eval,Act.put]) rfl (pB Qj.b) (sY md) (by unfold maxLen;omega) I (by have:=Qj.D;omega) ?_;intro v4 W4 tG TJ afo;obtain⟨a4,c4,rfl⟩:=aV tG;have H4:=hid (A tG TJ);clear tG TJ afo;have mO:=aZ HK.a Qj.c;refine hK.out _ _ ⟨aM.1.grown H4.A (by have:=Qj.D;omega) (λq e=>(mO.lt q e).1),(H4.A.block eb Qj.D (λe=>eh mO aM.2 aj e.symm)).trans aM.2⟩ (λaM=>?_);clear hK K;refine pt ?_;refine tq 10 (i' a4 (k+1+1) c4) ?_;refine wpAnyH_done au ?_ _;clear mO;go_wp2_with fail;go_roundw
 case rel=>
  refine⟨k+1,a4,c4,rW,f',rfl,?_,aM.1⟩;have he:bM (sh n::((P.ins n).take (k+1)).map (Sn P held))=bM (sh n::((P.ins n).take k).map (Sn P held))++aU md:=by rw[cX (bm.1 HX.o).1,(bm.1 HX.o).2,eW,HMD.o];simp[KC.bM,KB.bM]
  rw[he];exact H4.a
 simp[intOf];omega):p:=h
open KC in
theorem KC.uG(rb db B n fk:Nat)(P:Pm)(SO:Array Value)(held:Nat->PE)(w:World)(hE:KC.yi w B rb P)(hd:w.heap[db]?=some (.cells #[.iface 328 (.agg #[])] 381 (0,0)))(hO:dC P)(hc:wR P)(ho:qA P)(hx:P.nx.length=P.nd.length)(hn:n<P.nd.length)(hH:KC.Ac P held)(hfn:∀xs w,(callFunc fk xs).run Tryz.prog w=.ok (.enter fk xs) w)
 (hh:∀m,m<P.nd.length->∀W,Bl w W->Cl fk (#[G m]++SO) W (Rb W (.agg (KC.aU (held m)).toArray))):
 Cl 210 #[KC.hJ rb db P.nd.length,G n,.func (.func fk) #[] SO] w (Rb w (.agg (KC.aU (KC.iy P held n)).toArray)):=by exact ad3
open KB in
theorem KB.uG(rb db B n fk:Nat)(P:Pm)(SO:Array Value)(held:Nat->PE)(w:World)(hE:KB.yi w B rb P)(hd:w.heap[db]?=some (.cells #[.iface 331 (.agg #[])] 386 (0,0)))(hO:dC P)(hc:wR P)(ho:qA P)(hx:P.nx.length=P.nd.length)(hn:n<P.nd.length)(hH:KB.Ac P held)(hfn:∀xs w,(callFunc fk xs).run Tryz.prog w=.ok (.enter fk xs) w)
 (hh:∀m,m<P.nd.length->∀W,Bl w W->Cl fk (#[G m]++SO) W (Rb W (.agg (KB.aU (held m)).toArray))):
 Cl 216 #[KB.hJ rb db P.nd.length,G n,.func (.func fk) #[] SO] w (Rb w (.agg (KB.aU (KB.iy P held n)).toArray)):=by exact ad3
end
section
variable {c:Ct} {P:Pm}
def wL(hs:List PE)(n:Nat):PE:=hs.getD n PE.zero
def KC.oh(P:Pm)(hs:List PE)(k:Nat):Bool:=(range k).all λn=>KC.oH (KC.iy P (wL hs) n) (wL hs n)
def KB.oh(P:Pm)(hs:List PE)(k:Nat):Bool:=(range k).all λn=>KB.oH (KB.iy P (wL hs) n) (wL hs n)
def k8(r:Int)(x:Nd):PE:=Vf x.aD x.rank x.vals r
def Ek(x:Nd):PE:=CV x.aD x.vals (ζ x.vals)
def wK{f:Nd->PE}(D:f uK=PE.zero)(c:Ct)(n:Nat):wL (c.nodes.map f) n=f (c.at n):=by
 rw[wL,Ct.at,getD,getD,cg];cases c.nodes[n]? with
 |none=>exact D.symm
 |some x=>rfl
structure U9(c:Ct)(nv:Nat):Prop where
  env:afZ c nv
  rank:∀x∈c.nodes,0<=x.rank/\x.rank<=100000
  vals:∀x∈c.nodes,∀v∈x.vals,v.aG≠3/\0<=v.rank/\v.rank<=100000
def Z1(o:jz c=O')(U:c.aE=5)(B:∀x∈c.nodes,dY x)(R:c.nodes.all (An (Q:Int))=O'):U9 c Q:=by
 have K:∀x∈c.nodes,bA 5 c.grade x=O':=by have:=o;unfold jz at this;rw[bh,cF,U]at this;exact this.2
 have d:∀x∈c.nodes,x.aD=P'->x.vals=[]/\x.facts=[]/\x.rank=0:=by intro x F b;have:=K x F;unfold bA fX at this;simp[b]at this;exact⟨this.2,this.1.1.2,this.1.1.1⟩
 have l:∀x∈c.nodes,x.aD=O'->x.facts=[]/\(0<=x.rank/\x.rank<=100000)/\∀v∈x.vals,eM 5 c.grade x.rank v=O':=by intro x F b;have:=K x F;unfold bA eN rk at this;simp[b]at this;exact⟨this.1.1.1.1.1,this.1.1.2,this.2⟩
 have u:∀x∈c.nodes,x.aD=O'->∀v∈x.vals,((v.aG=1/\v.bJ=P'/\v.rank=0)\/(v.aG=2/\v.bJ=O'/\x.rank<v.rank/\v.lo=0/\v.rank<=100000)\/(v.aG=2/\v.bJ=P'/\v.lo=0/\v.rank=0))/\v.hi=0:=by
  intro x F b v R;have C:=(l x F b).2.2 v R;unfold eM nL at C;cases a:v.bJ
  ·simp[a]at C;rcases C with C|C
   ·exact⟨aI ⟨C.1.1.1,rfl,C.2⟩,C.1.1.2⟩
   exact⟨aK (aK ⟨C.1.1.1.1,rfl,C.1.1.1.2,C.2⟩),C.1.1.2⟩
  simp[a]at C;exact⟨aK (aI ⟨C.1.1.2,rfl,C.1.1.1.1.2,C.1.2,C.1.1.1.2⟩),C.2⟩
 have a:∀x∈c.nodes,∀v∈x.vals,x.aD=O':=by
  intro x F v R;cases b:x.aD
  ·rw[(d x F b).1]at R;simp at R
  rfl
 refine⟨⟨U,λx F b=>⟨?_,(l x F b).2.1.1,λv R=>?_⟩,λx F v R=>?_,λx F v R=>(u x F (a x F v R) v R).2,λx F=>⟨?_,λb=>(d x F b).1⟩⟩,λx F=>?_,λx F v R=>?_⟩
 ·rw[cF]at R;have:=R x F;unfold An at this;simp[b]at this;omega
 ·rcases(u x F b v R).1 with h|h|h
  ·exact aI ⟨h.1,h.2.1⟩
  ·exact aK (aI ⟨h.1,h.2.1,h.2.2.1,h.2.2.2.1⟩)
  exact aK (aK ⟨h.1,h.2.1,h.2.2.1⟩)
 ·exact⟨((B x F).vals v R).lo,((B x F).vals v R).first⟩
 ·cases b:x.aD
  ·exact(d x F b).2.1
  exact(l x F b).1
 ·cases b:x.aD
  ·rw[(d x F b).2.2];omega
  exact(l x F b).2.1
 have D:=(l x F (a x F v R)).2.1;rcases(u x F (a x F v R) v R).1 with h|h|h<;>omega
def Hx(c:Ct)(n:Nat):c.at n∈c.nodes\/c.at n=uK:=by
 rw[Ct.at,getD];cases e:c.nodes[n]? with
 |none=>exact aK rfl
 |some x=>exact aI (aT e)
def U9.at{c:Ct}{Q:Nat}(h:U9 c Q)(n:Nat):((c.at n).aD=O'->ζ (c.at n).vals=Q)/\(∀v∈(c.at n).vals,v.aG≠3/\0<=v.rank/\v.rank<=100000)/\0<=(c.at n).rank/\(c.at n).rank<=100000/\((c.at n).aD=P'->(c.at n).vals=[]):=by
 rcases Hx c n with C|C
 ·exact⟨λa=>(h.env.ok _ C a).1,h.vals _ C,(h.rank _ C).1,(h.rank _ C).2,(h.env.bare _ C).2⟩
 rw[C];exact⟨λa=>by simp[uK]at a,λv R=>by simp[uK]at R,by simp[uK],by simp[uK],λ_=>rfl⟩
def U9.last(h:U9 c Q)(K:Q<=8)(n:Nat):PR Q (k8 100001 (c.at n)) (jL c (-1) n):=
 OU K (h.at n).1 (λv R=>⟨((h.at n).2.1 v R).1,((h.at n).2.1 v R).2.2⟩) (h.at n).2.2.2.1
def U9.rk(h:U9 c Q)(K:Q<=8){r:Int}(a:0<=r)(n:Nat):PR Q (k8 r (c.at n)) (jL c r n):=
 abp K (h.at n).1 (λv R=>((h.at n).2.1 v R).1) a
def N7(a:dC P)(T:wR P)(b:qA P)(F:ζ P.nx=ζ P.nd)(h:U9 c P.nv):KC.oh P (c.nodes.map (k8 100001)) (ζ P.nd)=qt P c:=by unfold KC.oh qt;congr 1;funext n;have e:wL (c.nodes.map (k8 100001))=λm=>k8 100001 (c.at m):=funext λm=>wK rfl c m;rw[e,h.env.p];have C:=KC.nD a T b F (held:=λm=>k8 100001 (c.at m)) (at_:=jL c (-1)) (λm=>⟨h.last a.nv m,nR h.env _ _⟩) n;exact Sv a.nv C.1 (h.last a.nv n) (λi=>(KC.eg C.1 C.2 i).1) (λi=>(KC.eg (h.last a.nv n) (nR h.env _ _) i).1)
def abt{e:PE}{v:EV}(h:PR Q e v)(j:Nat):(e.at j).any=K6 v j:=by
 cases v with
 |none=>have D:e=PE.zero:=h;rw[D,KC.qPE.su];rfl
 |some E=>rw[h.2.2 j];rfl
def JR(P:Pm)(c:Ct)(n:Nat):Bool:=KC.oH (k8 ((c.at n).rank+1) (c.at n)) (KC.iy P (λm=>k8 (c.at n).rank (c.at m)) n)&&(range (ζ (c.at n).vals)).all (erB (c.at n).vals λr=>KC.iy P (λm=>k8 r (c.at m)) n)
def Sf(a:dC P)(T:wR P)(e:qA P)(F:ζ P.nx=ζ P.nd)(h:U9 c P.nv):(range (ζ P.nd)).all (JR P c)=Ai P c:=by
 unfold Ai;congr 1;funext n;obtain⟨N,f,b,C,t⟩:=h.at n;have y:∀r:Int,0<=r->PR P.nv (KC.iy P (λm=>k8 r (c.at m)) n) (P.say 5 n (jL c r))/\kf 5 P.nv (P.say 5 n (jL c r)):=λr d=>KC.nD a T e F (held:=λm=>k8 r (c.at m)) (at_:=jL c r) (λm=>⟨h.rk a.nv d m,nR h.env _ _⟩) n;rw[JR,vW,h.env.p];cases d:(c.at n).aD
 ·have V:k8 ((c.at n).rank+1) (c.at n)=PE.zero:=by rw[k8,Vf,d];rfl
  rw[V,t d];rfl
 have u:=h.rk a.nv (r:=(c.at n).rank+1) I n;have C:=y (c.at n).rank b;have b:=Sv a.nv u C.1 (λi=>(KC.eg u (nR h.env _ _) i).1) (λi=>(KC.eg C.1 C.2 i).1);rw[b];show(_&&_)=(P'||(_&&_));rw[iE];congr 1
 rw[cj,cF,cF];have a:∀j,erB (c.at n).vals (λr=>KC.iy P (λm=>k8 r (c.at m)) n) j=(match (c.at n).vals[j]? with|some v=>!v.bJ||K6 (P.say 5 n (jL c v.rank)) j|none=>O'):=by
  intro j;unfold erB;cases R:(c.at n).vals[j]? with
  |none=>rfl
  |some v=>show(!v.bJ||_)=(!v.bJ||_);rw[abt (y v.rank (f v (aT R)).2.1).1]
 constructor
 ·intro k j f;exact(a j).symm.trans (k j f)
 intro k j f;exact(a j).trans (k j f)
structure RgC(c:Ct)(nv:Nat):Prop where
  p:c.aE=6
  len:∀x∈c.nodes,x.aD=O'->ζ x.vals=nv
  bare:∀x∈c.nodes,x.aD=P'->x.vals=[]
  vals:∀x∈c.nodes,∀v∈x.vals,v.aG=3/\v.lo<=v.hi/\lr v.lo/\lr v.hi
def Fp(o:jz c=O')(U:c.aE=6)(B:∀x∈c.nodes,dY x)(R:c.nodes.all (An (Q:Int))=O'):RgC c Q:=by
 have K:∀x∈c.nodes,bA 6 c.grade x=O':=by have:=o;unfold jz at this;rw[bh,cF,U]at this;exact this.2
 have b:∀x∈c.nodes,x.aD=P'->x.vals=[]:=by intro x F a;have:=K x F;unfold bA fX at this;simp[a]at this;exact this.2
 refine⟨U,λx F a=>?_,b,λx F v R=>?_⟩
 ·rw[cF]at R;have:=R x F;unfold An at this;simp[a]at this;omega
 have a:x.aD=O':=by
  cases a:x.aD
  ·rw[b x F a]at R;simp at R
  rfl
 have:=K x F;unfold bA eN at this;simp[a]at this;have C:=this.2 v R;unfold eM at C;simp at C;exact⟨C.1.1.1.1,C.2,((B x F).vals v R).lo,((B x F).vals v R).hi⟩
def RgC.at{c:Ct}{Q:Nat}(h:RgC c Q)(n:Nat):((c.at n).aD=O'->ζ (c.at n).vals=Q)/\((c.at n).aD=P'->(c.at n).vals=[])/\∀v∈(c.at n).vals,v.aG=3/\v.lo<=v.hi/\lr v.lo/\lr v.hi:=by
 rcases Hx c n with C|C
 ·exact⟨h.len _ C,h.bare _ C,h.vals _ C⟩
 rw[C];exact⟨λa=>by simp[uK]at a,λ_=>rfl,λv R=>by simp[uK]at R⟩
def RgC.pr(h:RgC c Q)(K:Q<=8)(n:Nat):PR Q (Ek (c.at n)) (jL c (-1) n):=
 abo K (h.at n).1 (h.at n).2.1 (λv R=>((h.at n).2.2 v R).1)
def RgC.ok(h:RgC c Q)(n:Nat):kf 6 Q (jL c (-1) n):=by
 unfold jL oO;split
 ·exact gl _ _
 rename_i K;intro E e;cases e;have a:(c.at n).aD=O':=by cases V:(c.at n).aD;(· exact absurd (aI V) K);rfl
 refine⟨by simp[(h.at n).1 a],λv R=>?_⟩;obtain⟨u,C,rfl⟩:=cZ.1 R;obtain⟨a,k,f,w⟩:=(h.at n).2.2 u C;rw[eZ,aB a];exact⟨⟨f,w⟩,by rw[aA aj];exact⟨rfl,k⟩⟩
def N8(a:dC P)(T:wR P)(F:ζ P.nx=ζ P.nd)(h:RgC c P.nv):KB.oh P (c.nodes.map Ek) (ζ P.nd)=qt P c:=by unfold KB.oh qt;congr 1;funext n;have e:wL (c.nodes.map Ek)=λm=>Ek (c.at m):=funext λm=>wK rfl c m;rw[e,h.p];have C:=KB.nD a T F (held:=λm=>Ek (c.at m)) (at_:=jL c (-1)) (λm=>⟨h.pr a.nv m,h.ok m⟩) n;exact abu a.nv C.1 (h.pr a.nv n) (λi=>(KB.eg C.1 C.2 i).1) (λi=>(KB.eg (h.pr a.nv n) (h.ok n) i).1)
def Ng(o:jz c=O')(U:5<=c.aE)(X:ζ c.nodes=ζ P.nd):v8 P c=c.nodes.all (An (P.nv:Int)):=by
 have K:∀x∈c.nodes,x.facts=[]:=by
  intro x F;have C:=o;unfold jz at C;rw[bh,cF]at C;have a:=C.2 x F;unfold bA eN fX at a;rw[aA I]at a;cases b:x.aD
  ·simp[b]at a;exact a.1.1.2
  simp[b]at a;exact a.1.1.1.1.1
 rw[v8,ei X,dW,cj,cF,cF];constructor
 ·intro h x F;have:=h x F;rw[bh]at this;have a:=this.2;unfold An;simp at a⊢;rcases a with a|a
  ·exact aI a
  exact aK I
 intro h x F;have:=h x F;rw[K x F];unfold An at this;simp at this⊢;rcases this with a|a
 ·exact aI a
 exact aK I
end
section
def aed{p:Prop}(h:p:=by
 obtain⟨b,o,rfl,f⟩:=h m e he;have g:(m:Int)<N:=I;clear h he;go_enter aeI,aer;go_upto_region 1 with fail
 generalize u:w.alloc (k' kV cA)=V;have B:J (V.1[δ w.1]?=B' (k' kV cA (0,0))/\Bl w V/\V.1[hb]?=B' (k' #[i' (B' (O b o)) N c] abl (0,0))/\V.rangeAt b (o+m*17) (aU e)):=by subst u;exact⟨bV,bf,aL bf hh,ig f bf⟩
 clear u;clear hh f;have W:=M B.c;have U:=cY (n:=17) B.a rfl;go_wp2_with (first|(refine wpList_load_mid rfl cA (.tmp 6) rfl b (o+m*17) rfl (aU e) _ B.C kU rfl au ?_)|(refine wpList_store_mid rfl cA (.tmp 3) (.tmp 7) rfl w.1.size 0 (θ (aU e)) rfl rfl U au (bH _) ?_));have b:=df (cs:=vx) B.a (vs:=aU e) rfl;have C:=run_loadVar_mid (P:=Tryz.prog) (ψ V w.1.size 0 (aU e)) w.1.size 0 cA (aU e) _ (bG b) kU rfl au
 refine aC (v:=l' (θ (aU e))) (by simp[results,results235,results239,C,Act.put,asAddr]) rfl ⟨rfl,dF aF _ _ _ B.b⟩):p:=h
open KC in
def KC.Bs(m hb N c:Nat)(q:x')(a:List PE)(e:PE)(w:u')(hh:w.1[hb]?=B' (k' #[i' q N c] 222 (0,0)))(h:KC.jy w q a)(he:a[m]?=B' e)(d:m<N):
 Cl 235 #[G m,o' (B' (O hb 0))] w (Rb w (l' (θ (KC.aU e)))):=by exact aed
open KB in
def KB.Bs(m hb N c:Nat)(q:x')(a:List PE)(e:PE)(w:u')(hh:w.1[hb]?=B' (k' #[i' q N c] 244 (0,0)))(h:KB.jy w q a)(he:a[m]?=B' e)(d:m<N):
 Cl 239 #[G m,o' (B' (O hb 0))] w (Rb w (l' (θ (KB.aU e)))):=by exact aed
end
section
def ad2{p:Prop}(h:p:=by
 have e:=hO.most;have s:=hid (A hE (A hd (A hO (A hc (A ho (A hx (A hl (A hS hH))))))));clear hE hd hO hc ho hx hl hS hH;obtain⟨N,b⟩:=Ea (ζ P.nd);rw[<-b]at e⊢;have Y:=hid b;clear b;simp only[KC.hJ,KB.hJ];go_enter aeF,aeo;go_upto_region 2 with fail
 refine vZ (F:=Code.wp _ _ _ _) λe U=>?_;have E:=M U.a.2;go_upto_region 3 with fail
 clear E;go_loopw[11] (λb wr=>∃k:Nat,k<=N/\b=G k/\J (oh P hs k=O'/\Bl e wr)) (λb _=>N-(intOf b).toNat)
 case atStart=>exact⟨0,bj,rfl,rfl,aQ⟩
 obtain⟨k,hk,rfl,E⟩:=hrel;have b:=E.A.size;have T:J (Bl w wr):=H U.b E.A;by_cases L:k<N;rotate_left
 ·have b:¬(k:Int)<N:=I;obtain rfl:N=k:=I;go_wp2;go_ret;exact⟨by rw[E.a];rfl,T.o⟩
 have b:(k:Int)<N:=I;have hx:hs[k]?=B' (wL hs k):=by rw[wL,getD,bR (by rw[s.g,<-Y.o];exact L)];rfl
 obtain⟨b,o,rfl,u⟩:=s.h k _ hx;have hr:=ig u T.o;obtain⟨t,f⟩:=Ea (oH (iy P (wL hs) k) (wL hs k));have HF:J (t=P'->oh P hs N=P'):=λh=>kR (k:=k) (f.symm.trans h) L
 have X:J (t=O'->oh P hs (k+1)=O'):=λh=>by
  have C:=E.a
  (first|unfold KC.oh at C⊢ | unfold KB.oh at C⊢)
  rw[c8,C,<-f,h];rfl
 have HP:J (∀W,Bl wr W->Cl OJ #[l' (θ (aU (iy P (wL hs) k))),l' (θ (aU (wL hs k))),o' (B' (O db 0))] W (Rb W (j' t))):=by rw[f];exact λW j=>pn _ _ db W (aL (H T.o j) s.b) (Mu s.H s.c s.d s.e s.f k) (s.H.bin k)
 have HS:J (∀W,Bl wr W->Cl aem #[hJ rb db N,G k,.func (.func abn) #[] #[o' (B' (O (δ w.1+1) 0))]] W (Rb W (l' (θ (aU (iy P (wL hs) k)))))):=by
  intro W j;have C:=H T.o j;rw[Y.o];refine uG rb db B k _ P _ (wL hs) W (s.a.below C) (aL C s.b) s.c s.d s.e s.f (by rw[<-Y.o];exact L) s.H (λD w=>aeU D w) λm D F r=>?_;have g:hs[m]?=B' (wL hs m):=by rw[wL,getD,bR (by rw[s.g];exact D)];rfl
  exact Bs m (δ w.1+1) N c _ hs _ F (aL r (aL j (aL E.A U.a.2))) (λj e l=>by obtain⟨b,o,q,hr⟩:=s.h j e l;exact⟨b,o,q,ig (ig hr C) r⟩) g (by rw[Y.o];exact D)
 simp only[KC.hJ,KB.hJ]at HS;generalize wL hs k=z at *;generalize iy P (wL hs) k=g at *;clear hx u f;go_upto_region 5 with(first|(refine wpList_load_mid rfl cA (.tmp 14) rfl b (o+k*17) rfl (aU z) _ hr kU rfl au ?_)|(refine wpList_store_mid rfl cA (.tmp 7) (.tmp 15) rfl wr.1.size 0 (θ (aU z)) rfl rfl (cY (n:=17) bV rfl) au (bH _) ?_))
 refine TV (F:=Code.wp _ _ _ _) rfl λV f=>?_;have b:J (Bl wr V/\_/\_):=⟨f.A,f.a,aL f.A (aL E.A U.a.1)⟩;clear hr;simp only[Act.put];refine wp_region_held_drew (S:=λW'=>Bl V W') au aQ.drew (λaM=>?_);refine tq 0 (o' (B' (O w.1.size 2))) ?_;refine tr 1 (.func (.func OJ) #[] (di db)) (λW' bN=>(M (aL bN b.B)).1) ?_;refine tr 2 (l' #[i' (B' (O rb 0)) N N,.func (.func OL) #[] (di db),.func (.func OJ) #[] (di db)]) (λW' bN=>(M (aL bN b.B)).1) ?_;refine tq 3 (G k) ?_;refine tq 4 (.func (.func abn) #[] #[o' (B' (O (δ w.1+1) 0))]) ?_;refine tz 6 (l' (θ (aU z))) ?_ (y:=yieldsIf_load_mid au _ _ rfl _ _ rfl _ _ (λW' bN=>bG (aL bN b.b)) kU rfl au);refine r1 5 λK j=>?_;go_simp;refine(HS.o _ b.a.drew).mono ?_;rintro e f ⟨rfl,g⟩;have l:J (Bl V f):=H aQ.drew g;clear g;refine j.out _ _ l.o (λaM=>?_);clear j K;refine pt ?_;refine r1 7 λK j=>?_;go_simp;refine(HP.o _ (H b.a l.o)).mono ?_;rintro e f ⟨rfl,g⟩;have u:J (Bl V f):=H l.o g;clear g;refine j.out _ _ u.o (λaM=>?_);clear j K;refine pt ?_;refine tq 8 (j' (!t)) ?_;refine wpAnyH_done au ?_ _;clear aM;cases t
 ·go_wp2;go_ret;exact⟨by rw[HF.o (by trivial)];rfl,H T.o (H b.a u.o)⟩
 go_wp2;go_roundw
 case rel=>exact⟨k+1,L,f',X.o (by trivial),H E.A (H b.a u.o)⟩
 exact G'):p:=h
open KC in
def KC.rH(rb db B c:Nat)(a:x')(P:Pm)(hs:List PE)(w:u')(hE:KC.yi w B rb P)(hd:w.1[db]?=B' (k' #[.iface 328 (l' #[])] 381 (0,0)))(hO:dC P)(hc:wR P)(ho:qA P)(hx:ζ P.nx=ζ P.nd)(hl:ζ hs=ζ P.nd)(hS:KC.jy w a hs)(hH:KC.Ac P (wL hs)):
 Cl 163 #[KC.hJ rb db (ζ P.nd),i' a (ζ P.nd) c] w (Rb w (j' (KC.oh P hs (ζ P.nd)))):=by exact ad2
open KB in
def KB.rH(rb db B c:Nat)(a:x')(P:Pm)(hs:List PE)(w:u')(hE:KB.yi w B rb P)(hd:w.1[db]?=B' (k' #[.iface 331 (l' #[])] 386 (0,0)))(hO:dC P)(hc:wR P)(ho:qA P)(hx:ζ P.nx=ζ P.nd)(hl:ζ hs=ζ P.nd)(hS:KB.jy w a hs)(hH:KB.Ac P (wL hs)):
 Cl 166 #[KB.hJ rb db (ζ P.nd),i' a (ζ P.nd) c] w (Rb w (j' (KB.oh P hs (ζ P.nd)))):=by exact ad2
end
section
variable {hb m:Nat} {D:List A'} {es l:List PE}
def adt(h:p:=by
 first|(have _:=Gp;have Y:=hid (λW (j:Bl w W)=>KB.iM g cap nv nl P W (hP.below j) hO))|(have Y:=hid (λW (j:Bl w W)=>KC.iM g cap nv nl P W (hP.below j) hO))
 clear hP hO;generalize ζ P.nd=N at Y⊢;simp only[i!]at Y⊢
 first|(have _:=Gp;go_enter func143,ntmps143)|(go_enter func139,ntmps139)
 go_upto_region 1 with fail
 refine vZ (F:=Code.wp _ _ _ _) λb U=>?_;have E:=M U.a.1
 first|(have _:=Gp;go_wp2_with (go_at_call 213;refine(Y.o _ U.b).mono ?_;rintro e t ⟨rb,db,rfl,i,Q,b⟩;have c:=hid (A i (A Q b));clear i Q b E;have E:=M (aL c.B U.a.2)))|(go_wp2_with (go_at_call 212;refine(Y.o _ U.b).mono ?_;rintro e t ⟨rb,db,rfl,i,Q,b⟩;have c:=hid (A i (A Q b));clear i Q b E;have E:=M (aL c.B U.a.2)))
 have f:=aL c.B U.a.2
 first|(have _:=Gp;have d:=hid (A (aq (o:=0) f (dU rb N)) (A (aq (o:=1) (aq (o:=0) f (dU rb N)) (.func (.func 275) #[] (di db))) (aq (o:=2) (aq (o:=1) (aq (o:=0) f (dU rb N)) (.func (.func 275) #[] (di db))) (.func (.func 277) #[] (di db))))))|(have d:=hid (A (aq (o:=0) f (dU rb N)) (A (aq (o:=1) (aq (o:=0) f (dU rb N)) (.func (.func 270) #[] (di db))) (aq (o:=2) (aq (o:=1) (aq (o:=0) f (dU rb N)) (.func (.func 270) #[] (di db))) (.func (.func 272) #[] (di db))))))
 have r:=(M d.a).1;have R:=(M d.b).1;have F:=(M d.B).1;have v:db≠δ w.1+1:=by rintro rfl;have C:=c.b;rw[f]at C;simp at C
 first|(have _:=Gp;refine aC (v:=KB.hJ rb db N) (by simp[results143,go_sem,r,R,F]) rfl ⟨rb,db,rfl,?_,?_,?_⟩)|(refine aC (v:=KC.hJ rb db N) (by simp[results139,go_sem,r,R,F]) rfl ⟨rb,db,rfl,?_,?_,?_⟩)
 ·obtain⟨b,i⟩:=c.a;exact⟨b,(i.yO f (λk b=>by rw[aJ b,aJ b,aJ b])).low U.b.size⟩
 ·rw[aJ v,aJ v,aJ v];exact c.b
 exact(((H U.b c.B).setCell H' _).setCell H' _).setCell H' _):p:=h
def AI(g cap nv:Nat)(nl:List NC)(P:Pm)(w:u')(hP:PM w g cap nl P)(hO:dC P):
  Cl 139 #[i! g (ζ P.nd) cap nv] w λe a=>∃rb db,e=p' (KC.hJ rb db (ζ P.nd))/\KC.yi a w.1.size rb P/\a.1[db]?=B' (k' #[.iface 328 (l' #[])] 381 (0,0))/\Bl w a:=by
 exact adt
def Lw(g cap nv:Nat)(nl:List NC)(P:Pm)(w:u')(hP:PM w g cap nl P)(hO:dC P):
  Cl 143 #[i! g (ζ P.nd) cap nv] w λe a=>∃rb db,e=p' (KB.hJ rb db (ζ P.nd))/\KB.yi a w.1.size rb P/\a.1[db]?=B' (k' #[.iface 331 (l' #[])] 386 (0,0))/\Bl w a:=by
 have Gp:=True.intro;exact adt
def YM(h:p:=by
 induction n with
 |zero=>rfl
 |succ n B=>rw[gF,oU,B,gF];rfl):p:=h
def KC.rJ(n:Nat):(replicate n (KC.aU PE.zero)).flatten=KC.bM (replicate n PE.zero):=by exact YM
def KB.rJ(n:Nat):(replicate n (KB.aU PE.zero)).flatten=KB.bM (replicate n PE.zero):=by exact YM
def KC.nG(a b:List PE):KC.bM (a++b)=KC.bM a++KC.bM b:=IG
def KB.nG(a b:List PE):KB.bM (a++b)=KB.bM a++KB.bM b:=IG
def KC.nF(l:List PE):ζ (KC.bM l)=ζ l*17:=by
 induction l with
 |nil=>rfl
 |cons e l B=>have h:ζ (KC.aU e)=17:=rfl;simp only[KC.bM,cN,bF,cC]at B⊢;omega
def KB.nF(l:List PE):ζ (KB.bM l)=ζ l*17:=by
 induction l with
 |nil=>rfl
 |cons e l B=>have h:ζ (KB.aU e)=17:=rfl;simp only[KB.bM,cN,bF,cC]at B⊢;omega
def ad1(h:p:=by
 rcases h.2 with⟨e,_⟩|⟨g,b,Y,e,C,b,N,_,l,c⟩
 ·simp at e
 simp at e;obtain⟨rfl,rfl⟩:=e;refine⟨?_,C⟩;rw[b];rw[cH (by simp[l])]at c
 rw[<-c]):p:=h
open KC in
def KC.x4(h:ρ W B 228 17 (dU a n) n D):W.1[a]?=B' (k' (θ D) 228 (0,0))/\B<=a:=ad1
open KB in
def KB.x4(h:ρ W B 250 17 (dU a n) n D):W.1[a]?=B' (k' (θ D) 250 (0,0))/\B<=a:=ad1
def ad0(h:p:=by
 intro j e f;refine⟨hb,0,rfl,λi v S=>?_⟩;have L:=(bm.1 S).1;rw[(M h).1,eu,bW,kB es j e i f L]
 exact S):p:=h
open KC in
def KC.x!(h:W.1[hb]?=B' (k' (θ (KC.bM es)) 228 (0,0))):KC.jy W (B' (O hb 0)) es:=ad0
open KB in
def KB.x!(h:W.1[hb]?=B' (k' (θ (KB.bM es)) 250 (0,0))):KB.jy W (B' (O hb 0)) es:=ad0
def adZ(h:p:=by
 have V:bM (l++replicate (m+1) PE.zero)=bM l++aU PE.zero++bM (replicate m PE.zero):=by rw[nG,gF,ef];rfl
 have u:bM ((l++[e])++replicate m PE.zero)=bM l++aU e++bM (replicate m PE.zero):=by rw[nG,nG];congr 1
 rw[V]at h;rw[u]
 exact CM hb _ (aU e) _ _ _ W (k*17) (by rw[nF,hk]) h rfl):p:=h
open KC in
def KC.x?(e:PE)(h:W.1[hb]?=B' (k' (θ (KC.bM (l++replicate (m+1) PE.zero))) 228 (0,0)))(hk:ζ l=k):(ψ W hb (k*17) (KC.aU e)).1[hb]?=B' (k' (θ (KC.bM ((l++[e])++replicate m PE.zero))) 228 (0,0)):=adZ
open KB in
def KB.x?(e:PE)(h:W.1[hb]?=B' (k' (θ (KB.bM (l++replicate (m+1) PE.zero))) 250 (0,0)))(hk:ζ l=k):(ψ W hb (k*17) (KB.aU e)).1[hb]?=B' (k' (θ (KB.bM ((l++[e])++replicate m PE.zero))) 250 (0,0)):=adZ
def KC.rI(h:W.1[a]?=B' (k' (θ (KC.bM l)) 228 (0,0)))(b:k<ζ l):W.there a (k*17) 17:=λj f=>by refine⟨?_,(M h).2 _⟩;rw[(M h).1,oQ (by rw[kL,KC.nF];omega)];rfl
def KB.rI(h:W.1[a]?=B' (k' (θ (KB.bM l)) 250 (0,0)))(b:k<ζ l):W.there a (k*17) 17:=λj f=>by refine⟨?_,(M h).2 _⟩;rw[(M h).1,oQ (by rw[kL,KB.nF];omega)];rfl
end
def adq {p:Prop} (h:p:=by
  have i:=hO.most;have l:=Ng Qb I hl
  first
    |(
       have _:=jV;have k:jF P c=if c.nodes.all (An (P.nv:Int)) then(if qt P c then(if decide (c.grade=1)&&!Ai P c then 8 else 0) else 7) else 6:=by
         unfold jF;rw[l,hp,aA (show ¬(5:Int)<=4 by decide)];by_cases a:c.grade=1
         · cases c.nodes.all (An (P.nv:Int))<;>cases qt P c<;>cases Ai P c<;>simp[a]
         · cases c.nodes.all (An (P.nv:Int))<;>cases qt P c<;>simp[a])
    |(have k:jF P c=if c.nodes.all (An (P.nv:Int)) then(if qt P c then 0 else 7) else 6:=by
         unfold jF;rw[l,hp,aA (show ¬(6:Int)<=4 by decide)];have a:c.grade≠1:=by intro a;unfold jz known at Qb;rw[hp,a]at Qb;simp at Qb
         cases c.nodes.all (An (P.nv:Int))<;>cases qt P c<;>simp[a])
  have s:=hid (A hP (A hO (A hC (A ho (A hx (A h (A M9 (A Qb (A hl hp)))))))));have B:J (∀W,Bl w W->Cl 161 #[i' na (ζ P.nd) nc,G P.nv] W (Rb W (j' (c.nodes.all (An (P.nv:Int)))))):=by intro W j;have:=y5 na nc P.nv c.nodes W (h.below j) I;rwa[hl]at this
  clear hP hO hC ho hx h M9 Qb l hp
  first|(have _:=jV;obtain⟨T,S,D,b,a⟩:=cQ KC.sW)|(obtain⟨T,S,D,b,a⟩:=cQ KB.sW)
  have r:J (_/\_/\_/\_):=⟨S,D,b,a⟩;clear S D b a;have Vx:=hid k;clear k;generalize jF P c=a at Vx⊢;generalize a:c.aE=u;generalize hgr:c.grade=gr;obtain⟨R,a⟩:=Ea (c.nodes.all (An (P.nv:Int)));rw[<-a]at Vx B;have d:=hid a;have f:=hid hl;clear a hl;obtain⟨N,a⟩:=Ea (ζ P.nd);rw[<-a]at i B⊢;have K:=hid a;clear a;simp only[i!]
  first|(have _:=jV;go_enter func93,ntmps93)|(go_enter func94,ntmps94)
  go_upto_region 1 with fail
  refine vZ (F:=Code.wp _ _ _ _) λa U=>?_;have E:=M U.a.1;have y1:=M U.a.2;cases R
  · go_wp2_with (go_at_call 161;refine(B.o _ U.b).mono ?_;rintro e t ⟨rfl,R⟩;have a:=hid R;clear R E y1)
    go_ret;exact⟨by rw[Vx.o];rfl,H U.b a.o⟩
  go_upto_region 3 with(go_at_call 161;refine(B.o _ U.b).mono ?_;rintro e t ⟨rfl,R⟩;have a:=hid R;clear R E y1)
  first|(have _:=jV;have D:=hid (Z1 s.h s.I s.g d.o.symm))|(have D:=hid (Fp s.h s.I s.g d.o.symm))
  have i:J (Bl w t/\_/\_):=⟨H U.b a.o,aL a.o U.a.1,aL a.o U.a.2⟩;clear U a B
  first
    |(
       have _:=jV;have E:=M i.b;have HR:J (∀W,Bl w W->Cl 139 #[l' (e! g N cap P.nv)] W λe w'=>∃rb db,e=p' (KC.hJ rb db N)/\KC.yi w' W.1.size rb P/\w'.1[db]?=B' (k' #[.iface 328 (l' #[])] 381 (0,0))/\Bl W w'):=by intro W j;have:=AI g cap P.nv nl P W (s.a.below j) s.b;rwa[<-K.o]at this
       simp only[KC.hJ]at HR;go_upto_region 4 with(go_at_call 139;refine(HR.o _ i.a).mono ?_;rintro e Y ⟨rb,db,rfl,hE,Q,l⟩;have HY:=hid (A hE (A Q l));clear hE Q l E)
       refine gS (F:=Code.wp _ _ _ _) λX v=>?_;have a:J (Bl w X/\_/\_/\KC.yi X t.1.size rb P/\_/\_):=⟨H i.a (H HY.B v.b),aL v.b (aL HY.B i.b),aL v.b (aL HY.B i.B),HY.a.below v.b,aL v.b HY.b,v.a⟩;clear v HY i HR;generalize δ t.1=B0 at a;generalize δ Y.1=o at a⊢;have y1:=M a.c;have o:=blt a.c;have z:=blt a.E;have L:=blt a.e;go_upto_region 5 with(at_make;refine j8 _ rfl (.tmp 19) (.tmp 19) 222 rfl X.1.size 228 T _ 17 underlying222 r.a r.b r.c .i64 .i64 N N N rfl rfl rfl rfl (by rw[r.C];omega) (by unfold maxLen;omega) aF ?_;intro F k d;have y:=hid (A k d);clear k d y1)
       have u:J (F.1[δ X.1]?=B' (k' (θ (KC.bM (replicate N PE.zero))) 228 (0,0))/\Below X.1.size X F):=by
         have C:=y.a;rw[ik _ 17 rfl N]at C
         exact⟨by rw[<-KC.rJ];exact(KC.x4 C).1,aQ.grown y.A aF (λq e=>by cases e)⟩)
    |(
       have o:=blt i.B;have y1:=M i.B;go_upto_region 4 with(at_make;refine j8 _ rfl (.tmp 16) (.tmp 16) 244 rfl t.1.size 250 T _ 17 underlying244 r.a r.b r.c .i64 .i64 N N N rfl rfl rfl rfl (by rw[r.C];omega) (by unfold maxLen;omega) aF ?_;intro F k d;have y:=hid (A k d);clear k d y1)
       have u:J (F.1[δ t.1]?=B' (k' (θ (KB.bM (replicate N PE.zero))) 250 (0,0))/\Below t.1.size t F):=by
         have C:=y.a;rw[ik _ 17 rfl N]at C
         exact⟨by rw[<-KB.rJ];exact(KB.x4 C).1,aQ.grown y.A aF (λq e=>by cases e)⟩)
  clear y
  first|(have _:=jV;have T:J (Bl w F/\_/\_/\_/\KC.yi F B0 rb P/\_/\_):=⟨H a.a u.A,aL u.A a.b,aL u.A a.c,u.a,a.d.below u.A,aL u.A a.e,aL u.A a.E⟩;(have HXX:J (∀(V:u'),Below X.1.size F V->KC.yi V B0 rb P/\δ w.1<=δ X.1):=λV d=>⟨a.d.below ((aQ.trans (u.A)).trans d),a.a.size⟩);clear u a;generalize δ X.1=R at T o z L HXX⊢)|(have T:J (Bl w F/\_/\_/\_):=⟨H i.a u.A,aL u.A i.b,aL u.A i.B,u.a⟩;clear u i;generalize δ t.1=R at T o⊢)
  have y1:=M T.c;go_wp2;clear y1
  first
    |(
       have _:=jV;go_loopw[24] (λy wr=>∃i:Nat,i<=N/\y=G i/\J (wr.1[R]?=B' (k' (θ (KC.bM ((c.nodes.take i).map (k8 100001)++replicate (N-i) PE.zero))) 228 (0,0))/\Below R F wr)) (λy _=>N-(intOf y).toNat)
       case atStart=>exact⟨0,bj,rfl,by rw[lY,ri];exact T.d,aQ⟩)
    |(
       go_loopw[21] (λy wr=>∃i:Nat,i<=N/\y=G i/\J (wr.1[R]?=B' (k' (θ (KB.bM ((c.nodes.take i).map Ek++replicate (N-i) PE.zero))) 250 (0,0))/\Below R F wr)) (λy _=>N-(intOf y).toNat)
       case atStart=>exact⟨0,bj,rfl,by rw[lY,ri];exact T.C,aQ⟩)
  obtain⟨i,S,rfl,y⟩:=hrel;have a:=y.A.size
  first|(have _:=jV;have a:=blt T.d)|(have a:=blt T.C)
  have gb:J (Bl w wr):=T.a.trans (y.A.mono I);by_cases rW:i<N
  · have iz:(i:Int)<N:=I
    obtain⟨x,hx⟩:=La (l:=c.nodes) (i:=i) (by rw[f.o,<-K.o];exact rW);obtain⟨b,o,o,k,z,q,rc,t,rfl,c0,U,L,c3,c4,u⟩:=s.f.below gb.o i x hx;have a:ζ x.vals<=8:=by
      have d:=aT hx;cases r:x.aD
      · first|(have _:=jV;rw[(D.o.env.bare x d).2 r];simp)|(rw[D.o.bare x d r];simp)
      first|(have _:=jV;rw[(D.o.env.ok x d r).1];exact s.b.nv)|(rw[D.o.len x d r];exact s.b.nv)
    first|(have _:=jV;(have X:J (∀W,Bl wr W->Cl 162 #[l' #[i' o (ζ x.facts) q,i' k (ζ x.aW) rc,j' x.aD,.int .i64 x.rank,i' z (ζ x.vals) t],.int .i64 100001] W (Rb W (l' (θ (KC.aU (k8 100001 x)))))):=λW j=>mx o k z _ q _ rc t x.aD x.rank 100001 x.vals W (u.vals.below j) a))|((have X:J (∀W,Bl wr W->Cl 165 #[l' #[i' o (ζ x.facts) q,i' k (ζ x.aW) rc,j' x.aD,.int .i64 x.rank,i' z (ζ x.vals) t]] W (Rb W (l' (θ (KB.aU (Ek x)))))):=λW j=>J9 o k z _ q _ rc t x.aD x.rank x.vals W (u.vals.below j) a))
    have v:=hid hx;clear hx u a;generalize ζ x.facts=a at X c0;generalize ζ x.aW=a at X U;generalize x.aD=a at X L;generalize x.rank=a at X c3;generalize ζ x.vals=t at X c4
    first|(have _:=jV;(go_upto_region 8 with fail))|((go_upto_region 7 with fail))
    clear c0 U L c3 c4;refine gS (F:=Code.wp _ _ _ _) λV B=>?_;have a:=hid (A B.b (aL B.b y.a));have E:=M B.a;obtain⟨m,d⟩:∃m,N-i=m+1:=⟨N-i-1,I⟩
    first
      |(
         have _:=jV;have k:ζ ((c.nodes.take i).map (k8 100001))=i:=by rw[b!,gC,f.o,<-K.o,nX S]
         go_upto_region 9 with(first|(go_at_call 162;refine(X.o _ a.a).mono ?_;rintro e Y ⟨rfl,L⟩;have HY:=hid L;clear L E;have U:=KC.rI (aL HY.o a.A) (show i<_ by rw[bF,k,II];omega))|(refine wpList_store_mid rfl 228 (.tmp 33) (.tmp 32) rfl R (i*17) (θ (KC.aU (k8 100001 x))) rfl rfl U au (KC.bH _) ?_))
         generalize u:ψ Y R (i*17) (KC.aU (k8 100001 x))=o;have q:J (o.1[R]?=B' (k' (θ (KC.bM ((c.nodes.take (i+1)).map (k8 100001)++replicate (N-(i+1)) PE.zero))) 228 (0,0))/\Below R F o):=by
           subst u;have C:=aL HY.o a.A;rw[d]at C;have r:=KC.x? (k8 100001 x) C k;have V:N-(i+1)=m:=I;have t:(c.nodes.take (i+1)).map (k8 100001)=(c.nodes.take i).map (k8 100001)++[k8 100001 x]:=by rw[cX (bm.1 v.o).1,(bm.1 v.o).2,eW];rfl
           rw[V,t]
           exact⟨r,dF aF _ _ _ (y.A.trans ((H a.a HY.o).mono I))⟩)
      |(
         have k:ζ ((c.nodes.take i).map Ek)=i:=by rw[b!,gC,f.o,<-K.o,nX S]
         go_upto_region 8 with(first|(go_at_call 165;refine(X.o _ a.a).mono ?_;rintro e Y ⟨rfl,L⟩;have HY:=hid L;clear L E;have U:=KB.rI (aL HY.o a.A) (show i<_ by rw[bF,k,II];omega))|(refine wpList_store_mid rfl 250 (.tmp 30) (.tmp 29) rfl R (i*17) (θ (KB.aU (Ek x))) rfl rfl U au (KB.bH _) ?_))
         generalize u:ψ Y R (i*17) (KB.aU (Ek x))=o;have q:J (o.1[R]?=B' (k' (θ (KB.bM ((c.nodes.take (i+1)).map Ek++replicate (N-(i+1)) PE.zero))) 250 (0,0))/\Below R F o):=by
           subst u;have C:=aL HY.o a.A;rw[d]at C;have r:=KB.x? (Ek x) C k;have V:N-(i+1)=m:=I;have t:(c.nodes.take (i+1)).map Ek=(c.nodes.take i).map Ek++[Ek x]:=by rw[cX (bm.1 v.o).1,(bm.1 v.o).2,eW];rfl
           rw[V,t]
           exact⟨r,dF aF _ _ _ (y.A.trans ((H a.a HY.o).mono I))⟩)
    clear u;clear U d k;simp only[Act.put];go_wp2;go_roundw
    case rel=>exact⟨i+1,rW,f',q.o⟩
    exact G'
  have iz:¬(i:Int)<N:=I;obtain rfl:N=i:=I
  first
    |(
       have _:=jV;have v:J (wr.1[R]?=B' (k' (θ (KC.bM (c.nodes.map (k8 100001)))) 228 (0,0))):=by have C:=y.a;rw[kH,Cm,gO,cH (by rw[f.o,<-K.o];exact aF)]at C;exact C
       have a:KC.Ac P (wL (c.nodes.map (k8 100001))):=λm=>⟨jL c (-1) m,by rw[wK rfl c m];exact D.o.last s.b.nv m,nR D.o.env _ _⟩;have d:=N7 s.b s.c s.d s.e D.o;have i:=Sf s.b s.c s.d s.e D.o;have r:=hid (HXX.o _ y.A).1;have k:J (∀(W:u'),Bl wr W->Cl 163 #[KC.hJ rb db N,i' (B' (O R 0)) N N] W (Rb W (j' (qt P c)))):=by intro W j;have:=KC.rH rb db B0 N (B' (O R 0)) P (c.nodes.map (k8 100001)) W (r.o.below j) (aL j (u0 y.A T.f I)) s.b s.c s.d s.e (by rw[b!];exact f.o) (KC.x! (aL j v.o)) a;rwa[d,<-K.o]at this
       have q:J (∀(W:u'),Bl wr W->Cl 164 #[KC.hJ rb db N,i' na N nc] W (Rb W (j' (Ai P c)))):=by
         intro W j;have:=tP rb db B0 nc na P c W (r.o.below j) (aL j (u0 y.A T.f I)) s.b s.c s.d s.e f.o D.o (s.f.below (H gb.o j));rw[i,<-K.o]at this
         exact this)
    | (have v:J (wr.1[R]?=B' (k' (θ (KB.bM (c.nodes.map Ek))) 250 (0,0))):=by
         have C:=y.a;rw[kH,Cm,gO,cH (by rw[f.o,<-K.o];exact aF)]at C;exact C
       have a:KB.Ac P (wL (c.nodes.map Ek)):=λm=>⟨jL c (-1) m,by rw[wK rfl c m];exact D.o.pr s.b.nv m,D.o.ok m⟩;have d:=N8 s.b s.c s.e D.o;have HR:J (∀W,Bl w W->Cl 143 #[l' (e! g N cap P.nv)] W λe w'=>∃rb db,e=p' (KB.hJ rb db N)/\KB.yi w' W.1.size rb P/\w'.1[db]?=B' (k' #[.iface 331 (l' #[])] 386 (0,0))/\Bl W w'):=by intro W j;have:=Lw g cap P.nv nl P W (s.a.below j) s.b;rwa[<-K.o]at this
       have k:J (∀(W:u') (B rb db:Nat),Bl wr W->KB.yi W B rb P->W.1[db]?=B' (k' #[.iface 331 (l' #[])] 386 (0,0))->Cl 166 #[KB.hJ rb db N,i' (B' (O R 0)) N N] W (Rb W (j' (qt P c)))):=by
         intro W B rb db j hE Q;have:=KB.rH rb db B N (B' (O R 0)) P (c.nodes.map Ek) W hE Q s.b s.c s.d s.e (by rw[b!];exact f.o) (KB.x! (aL j v.o)) a;rw[d,<-K.o]at this
         exact this)
  obtain⟨s,f⟩:=Ea (qt P c)
  first|(have _:=jV;obtain⟨r,j⟩:=Ea (Ai P c))|skip
  rw[<-f]at k Vx
  first|(have _:=jV;rw[<-j]at q Vx;rw[hgr]at Vx;clear f j d i a;simp only[KC.hJ]at k q;have b:=u0 y.A T.F I;have j:=u0 y.A T.c I;have i:=hid (A b j);have E:=M b;clear b j)|(clear f d a;simp only[KB.hJ]at HR k;have E:=M (u0 y.A T.b I))
  cases s
  first
    |(
       have _:=jV
       · go_wp2_with (go_at_call 163;refine(k.o _ aQ).mono ?_;rintro e o ⟨rfl,l⟩;have a:=hid l;clear l E)
         go_ret;exact⟨by rw[Vx.o];rfl,H gb.o a.o⟩
       · go_upto_region 12 with(go_at_call 163;refine(k.o _ aQ).mono ?_;rintro e o ⟨rfl,l⟩;have a:=hid l;clear l E)
         have E:=M (aL a.o i.a);have y1:=M (aL a.o i.A);by_cases b:gr=1
         · subst b
           cases r
           all_goals
             go_wp2_with (go_at_call 164;refine(q.o _ a.o).mono ?_;rintro e Y ⟨rfl,l⟩;have HY:=hid l;clear l E y1);go_ret;exact⟨by rw[Vx.o];rfl,H gb.o (H a.o HY.o)⟩
         · have q:decide (gr=1)=P':=cV b
           go_wp2;go_ret
           exact⟨by rw[Vx.o,q];rfl,H gb.o a.o⟩)
    |(all_goals
         go_wp2_with (first|(go_at_call 143;refine(HR.o _ gb.o).mono ?_;rintro e Y ⟨rb,db,rfl,hE,Q,l⟩;have HY:=hid (A hE (A Q l));clear hE Q l E)|(go_at_call 166;refine(k.o _ _ _ _ HY.B HY.a HY.b).mono ?_;rintro e o ⟨rfl,l⟩;have a:=hid l;clear l));go_ret
         exact⟨by rw[Vx.o];rfl,H (H gb.o HY.B) a.o⟩)):p:=h
def wj(g cap nc:Nat)(na:x')(nl:List NC)(P:Pm)(c:Ct)(w:u')(hP:PM w g cap nl P)(hO:dC P)(hC:wR P)(ho:qA P)(hx:ζ P.nx=ζ P.nd)(h:b9 w na c.nodes)(M9:∀x∈c.nodes,dY x)(Qb:jz c=O')(hl:ζ c.nodes=ζ P.nd)(hp:c.aE=6):
  Cl 94 #[i! g (ζ P.nd) cap P.nv,l' #[G c.aE,G c.grade,i' na (ζ P.nd) nc]] w (Rb w (G (jF P c))):=by
 exact adq
def Gl(g cap Q:Nat)(D:List NC)(P:Pm)(w:u')(hP:PM w g cap D P)(q:dC P)(d:∀n∈P.nd,nU (jB n)):
  Cl 222 #[i! g (ζ P.nd) cap Q] w λe w'=>∃rb f,e=p' (t' #[dx rb (ζ P.nd),G (ζ P.ex)])/\Sys w' w.1.size rb 2 393 404 f/\f.map RR.pr=kr (ζ P.nd) (lkR P)/\Bl w w':=by
 have p:=q.most;have j:=q.pos;have b:=rY P;have s:=hid (A hP (A q d));have l:J (∀W,Cl 280 #[i! g (ζ P.nd) cap Q] W λe w'=>∃rb f,e=p' (dx rb (ζ P.nd))/\Sys w' W.1.size rb 2 393 404 f/\f.map RR.pr=replicate (ζ P.nd) P?/\Bl W w'):=λW=>lD g (ζ P.nd) cap Q W p;have o:J (∀W,Bl w W->Cl 286 #[i! g (ζ P.nd) cap Q] W λe w'=>∃a c,e=p' (aO a (ζ P.ex) c)/\ρ w' W.1.size 430 7 (aO a (ζ P.ex) c) (ζ P.ex) (lE P.ex)/\Bl W w'):=λW hW=>B3 g cap Q D P W (hP.below hW) p d;obtain⟨N,c⟩:=Ea (ζ P.nd);obtain⟨R,i⟩:=Ea P.ex;rw[<-c]at p j b;rw[<-i]at b;rw[<-c,<-i]at o⊢;rw[<-c]at l;have K:=hid (A c i);have k:J (∀W,Cl 208 #[G (ζ R)] W (Rb W (dh (pW (ζ R))))):=λW=>xt (ζ R) W I;obtain⟨h,a⟩:=Ea (pW (ζ R));rw[<-a]at k;have r:=hid a;clear hP q c i d a;simp only[i!,dx,dh]at l o k⊢;go_enter func222,ntmps222;go_upto_region 1 with(fail)
 generalize u:(w.alloc (k' (e! g N cap Q) 86)).alloc (k' EB 260)=a;have U:J (Bl w a/\d' a w.1.size (e! g N cap Q) 86/\a.1[δ w.1+1]?=B' mI):=by subst u;exact⟨cG,fC.1,fC.2⟩
 clear u;have E:=M U.b;go_upto_region 2 with(go_at_call 280;refine(l.o _).mono ?_;rintro e t ⟨rb,f,rfl,S,Y,l⟩;have c:=hid (A S (A Y l));clear S Y l E)
 generalize u:t.alloc (k' (fe rb N) 260)=F;have b:J (Bl w F/\d' F w.1.size (e! g N cap Q) 86/\F.1[δ w.1+1]?=B' mI/\d' F t.1.size (fe rb N) 260/\Sys F w.1.size rb 2 393 404 f/\f.map RR.pr=kr N (uU P (λ_=>fz (0,0)) (λm=>S2 R (P.at m)) 0)):=by subst u;have l:=H c.B (cz t (k' (fe rb N) 260));have y:=c.a.below (cz t (k' (fe rb N) 260));exact⟨H U.a l,aL l U.b,aL l U.B,bV,y.deep U.a.size,by rw[c.b,GX]⟩
 clear u;have a:δ w.1+1<δ t.1:=by have:=c.B.size;have:=blt U.B;omega
 have B:rb<δ t.1:=blt c.a.lQ;generalize δ t.1=sb at b a B⊢;have E:=M b.b;go_upto_region 3 with(go_at_call 286;refine(o.o _ b.a).mono ?_;rintro e o ⟨q,t,rfl,a,Y⟩;have z:=hid (A a Y);clear a Y E)
 obtain⟨c,d,uS,_⟩:=FP b.E j;have a:J (f[0]?=B' c/\c.st=fz (0,0)):=⟨d,uS⟩;clear d uS;have E:=M (aL z.A b.d);have j:rb≠sb:=I;have x:=j.symm;have d:(0:Int)<N:=I
 go_region_law (go_simp;refine bK (k.o _) ?_;rintro e i ⟨rfl,v⟩;have k:J (Bl o i):=H ay v;clear v E;have E:=M (aL k.o (aL z.A b.d));have d:=((b.e.below z.A).below k.o).two a.a a.A;simp only[e?,bW]at d;have o:=d)
 all_goals
  generalize u:κ (κ i (O rb 0) (Z h.1)) (O rb 1) (Z h.2)=C;have U:J (Bl w C/\PM C g cap D P/\ρ C w.1.size 430 7 (i' q (ζ R) t) (ζ R) (lE R)/\Sys C w.1.size rb 2 393 404 (f.set 0 ⟨fz h,c.ea,c.ec,c.es⟩)/\(f.set 0 ⟨fz h,c.ea,c.ec,c.es⟩).map RR.pr=kr N (uU P (lkS R) (λm=>S2 R (P.at m)) 0)/\d' C w.1.size (e! g N cap Q) 86/\C.1[δ w.1+1]?=B' mI/\d' C sb (fe rb N) 260):=by
   subst u;have c:=H z.A k.o;have y:=b.e.below c;have Y:=y.sG (k:=0) (v:=Z h.1) (v':=Z h.2);have d:=y.start aj a.a a.A (z:=h);simp only[e?,bW]at Y d;have p:=H b.a c;refine⟨p.trans Y.low,(s.a.below p).tf Y aj aj aj aj,yr (aZ (pq z.a b.a.size) k.o) Y aj aj,d,?_,Y.box (aL c b.b) aj aj,Y.box (aL c b.c) aj aj,Y.box (aL c b.d) aj aj⟩;rw[Kf b.E a.a];refine iD λn _=>?_;by_cases a:n=0
   ·subst a;simp[uU,lkS,r.o]
   simp[uU,lkS,a]
  clear u;clear E o;have E:=M U.f;go_wp2;clear E;go_loopw[22] (λy wr=>∃(i:Nat) (b:List RR),i<=N/\y=G i/\J (Sys wr w.1.size rb 2 393 404 b/\b.map RR.pr=kr N (uU P (lkS R) (λm=>S2 R (P.at m)) i)/\TF w.1.size 393 404 C wr)) (λy _=>N-(intOf y).toNat)
  case atStart=>exact⟨0,_,bj,rfl,U.d,U.e,AF⟩
  obtain⟨i,b,S,rfl,u⟩:=hrel;have Ep:δ w.1<=δ wr.1:=bD U.a.size u.B.low.size;by_cases L:i<N;rotate_left
  ·have a:¬(i:Int)<N:=I;have d:i=N:=I;have Y:=u.B;have v:=Y.box U.g aj aj;have E:=M (Y.box U.G aj aj);have o:=M v;have j:δ w.1+1≠sb:=I;have x:=j.symm;clear Y;go_wp2;have F:=(M (aq (o:=2) (aq (o:=1) (aq (o:=0) v (dU rb N)) ji) n9)).1;refine aC (v:=t' #[dx rb N,G (ζ R)]) (by simp[results222,go_sem,(M (aq (o:=0) v (dU rb N))).1,(M (aq (o:=1) (aq (o:=0) v (dU rb N)) ji)).1,F,dx]) rfl ⟨rb,rfl,b,?_,?_,?_⟩
   ·exact u.a.keep v ⟨aj,aj⟩ (λk c=>by rw[aJ c,aJ c,aJ c])
   ·rw[u.b,d,lkR,<-K.a,<-K.A]
   exact(((U.a.trans u.B.low).setCell H' _).setCell H' _).setCell H' _
  have a:(i:Int)<N:=I;have S:=U.b.tf u.B aj aj aj aj;obtain⟨r,a,T,V,hat,_,TB,_⟩:=S.nodes (by rw[<-K.a];exact L);have X:=λj (f:j<14)=>(mR S T j f);have h:=aT V;obtain⟨j,GH⟩:=Ea r.n;rw[<-GH]at X V hat h;simp only[NC.wv,NC.ev]at X;generalize r.bu=k at X;generalize r.wa=y at X;generalize r.wl=wl at X;generalize r.wc=wc at X;generalize r.ea=ea at X;generalize r.el=Y at X;generalize r.ec=B at X;have o:=yr U.c u.B aj aj;have HEV:J (∀W,Bl wr W->Cl 287 #[l' (aR k (i' y wl wc) j (i' ea Y B)),i' q (ζ R) t] W (Rb W (dh (zi R j)))):=λW hW=>qW k y wl wc ea Y B j q t R W (yL (aZ o hW)) (by rw[K.A];exact T6 s.B) I (λa=>⟨s.B j h,by rw[K.A];exact uW h a⟩);have d:J (∀W,Bl wr W->Cl 288 #[l' (aR k (i' y wl wc) j (i' ea Y B)),i' q (ζ R) t] W (Rb W (dh (Eo R j)))):=λW hW=>BL k y wl wc ea Y B j q t R W (yL (aZ o hW)) I (s.b.aG j h).1;have E:J (∀W,Bl wr W->Cl 283 #[dx rb N,i! g N cap Q,G i,Ev ⟨zi R j,Eo R j⟩] W λr w'=>(∃v,r=p' v)/\∃a,Sys w' w.1.size rb 2 393 404 a/\a.map RR.pr=kr N (uU P (lkS R) (λm=>S2 R (P.at m)) (i+1))/\TF w.1.size 393 404 C w'/\TF w.1.size 393 404 W w'):=by intro W hW;have:=vG g cap Q rb w.1.size i D P b ⟨zi R j,Eo R j⟩ W (S.below hW) s.b (by rw[<-K.a];exact L) (u.a.below hW) (by rw[<-K.a];exact yn u.b) (bD Ep hW.size) (Dc u.b λn _=>by have:=wM (st:=lkS R) (E:=λm=>S2 R (P.at m)) (n:=n) (tj s.b) i;omega);rw[<-K.a]at this;refine this.mono ?_;rintro r w' ⟨C,a,h2,K,s⟩;refine⟨C,a,h2,?_,(u.B.trans (TF.aX hW Ep)).trans s,s⟩;rw[K,u.b,<-GY,hat];rfl
  obtain⟨b,C⟩:=Ea (zi R j);obtain⟨c,v⟩:=Ea (Eo R j);rw[<-C]at HEV E;rw[<-v]at d E;obtain⟨x,q,op,r,⟨P,f,b⟩,⟨bi,D,z⟩,c⟩:=j;have t:=N9 X;simp only[aR,dh,dx,i!,Ev]at HEV d E;clear X C v GH V hat h T S TB o;go_upto_region 7 with(fail)
  generalize h:wr.alloc (k' #[m' k,i' y wl wc,G x,G q,G op,G r,j' P,G f,G b,j' bi,G D,G z,i' ea Y B,m' c] 152)=V;have j:J (Bl wr V/\d' V wr.1.size #[m' k,i' y wl wc,G x,G q,G op,G r,j' P,G f,G b,j' bi,G D,G z,i' ea Y B,m' c] 152/\d' V sb (fe rb N) 260/\d' V w.1.size (e! g N cap Q) 86):=by subst h;exact⟨bf,bV,aL bf (u.B.box U.G aj aj),aL bf (u.B.box U.f aj aj)⟩
  clear h t;have S:J (∀W,TF w.1.size 393 404 V W->χ W (O wr.1.size 0)=B' (m' k)/\χ W (O wr.1.size 1)=B' (i' y wl wc)/\χ W (O wr.1.size 2)=B' (G x)/\χ W (O wr.1.size 3)=B' (G q)/\χ W (O wr.1.size 4)=B' (G op)/\χ W (O wr.1.size 5)=B' (G r)/\χ W (O wr.1.size 6)=B' (j' P)/\χ W (O wr.1.size 7)=B' (G f)/\χ W (O wr.1.size 8)=B' (G b)/\χ W (O wr.1.size 9)=B' (j' bi)/\χ W (O wr.1.size 10)=B' (G D)/\χ W (O wr.1.size 11)=B' (G z)/\χ W (O wr.1.size 12)=B' (i' ea Y B)/\χ W (O wr.1.size 13)=B' (m' c)/\χ W (O sb 0)=B' (dU rb N)/\χ W (O sb 1)=B' ji/\χ W (O sb 2)=B' n9/\χ W (O w.1.size 0)=B' (iF g N cap)/\χ W (O w.1.size 1)=B' (G Q)):=by intro W hW;have R:=(M (hW.box j.b aj aj)).1;have F:=(M (hW.box j.c aj aj)).1;have h:=(M (hW.box j.C aj aj)).1;exact⟨R 0,R 1,R 2,R 3,R 4,R 5,R 6,R 7,R 8,R 9,R 10,R 11,R 12,R 13,F 0,F 1,F 2,h 0,h 1⟩
  have h:δ w.1<=δ V.1:=bD Ep j.a.size;have o:=S.o V AF
  go_region_held3 (λw'=>χ w' (O wr.1.size 0)=B' (m' k)/\χ w' (O wr.1.size 1)=B' (i' y wl wc)/\χ w' (O wr.1.size 2)=B' (G x)/\χ w' (O wr.1.size 3)=B' (G q)/\χ w' (O wr.1.size 4)=B' (G op)/\χ w' (O wr.1.size 5)=B' (G r)/\χ w' (O wr.1.size 6)=B' (j' P)/\χ w' (O wr.1.size 7)=B' (G f)/\χ w' (O wr.1.size 8)=B' (G b)/\χ w' (O wr.1.size 9)=B' (j' bi)/\χ w' (O wr.1.size 10)=B' (G D)/\χ w' (O wr.1.size 11)=B' (G z)/\χ w' (O wr.1.size 12)=B' (i' ea Y B)/\χ w' (O wr.1.size 13)=B' (m' c)/\χ w' (O sb 0)=B' (dU rb N)/\χ w' (O sb 1)=B' ji/\χ w' (O sb 2)=B' n9/\χ w' (O w.1.size 0)=B' (iF g N cap)/\χ w' (O w.1.size 1)=B' (G Q)) (go_keep) ((first|(go_at_call 287;refine(HEV.o _ (H j.a ay)).mono ?_;rintro e f ⟨rfl,l⟩;have p:Bl V f:=H ay l;have D:=hid p;have P:=S.o f (TF.aX p h);clear l p)|(go_at_call 288;refine(d.o _ (H j.a (H D.o ay))).mono ?_;rintro e b ⟨rfl,X⟩;have p:Bl V b:=H (H D.o ay) X;have c:=hid p;have o0:=S.o b (TF.aX p h);clear X p)|(go_at_call 283;refine(E.o _ (H j.a (H c.o ay))).mono ?_;rintro e E ⟨⟨b,rfl⟩,a,h2,K,s,b⟩;have l:=hid (A h2 (A K s));have Q:=S.o E ((TF.aX (H c.o ay) h).trans b);clear h2 K s b)))
  all_goals
   go_wp2;go_roundw
   case rel=>exact⟨i+1,a,L,f',l.o⟩
   exact G'
section
variable {R:List Key} {n:SN}
def ZT(ks:List Key)(n:SN):BS:=if n.aG=6 then pW (ζ ks) else vQ (Eo ks n) (zi ks n)
def ZU(ks:List Key)(n:SN):Ef:=⟨zi ks n,(0,0)⟩
def SY(P:Pm)(n:Nat):RA:=(fz (ZT P.ex (P.at n)),(P.si n).map λt=>(t,vz (ZU P.ex (P.at n))))
def K5(h:K4 n=O'->jB n∈R)(X:ζ R<=60):cL (zi R n):=by
 unfold zi;split
 ·rename_i l;exact pz (J' (sj (h l)))
 exact⟨aj,aj⟩
def Te(X:ζ R<=60):cL (Eo R n):=by
 unfold Eo;split
 ·exact KG _ _ _ I
 exact⟨aj,aj⟩
def YH{p:Prop}(h:p:=by
 go_wp2_with (go_at_call 285;refine k.o.mono ?_;rintro e s ⟨⟨v,rfl⟩,a,p⟩;have W:=hid p;clear p E q z1);go_roundw
 case rel=>exact⟨i+1,a,L,f',W.o⟩
 exact G'):p:=h
def S?(g cap Q:Nat)(D:List NC)(P:Pm)(w:u')(hP:PM w g cap D P)(k:dC P)(d:∀n∈P.nd,nU (jB n)):
  Cl 223 #[i! g (ζ P.nd) cap Q] w λe w'=>∃rb f,e=p' (t' #[dx rb (ζ P.nd),G (ζ P.ex)])/\Sys w' w.1.size rb 2 393 404 f/\f.map RR.pr=kr (ζ P.nd) (SY P)/\Bl w w':=by
 have p:=k.most;have j:=k.pos;have b:=rY P;have s:=hid (A hP (A k d));have i:J (∀W,Cl 280 #[i! g (ζ P.nd) cap Q] W λe w'=>∃rb f,e=p' (dx rb (ζ P.nd))/\Sys w' W.1.size rb 2 393 404 f/\f.map RR.pr=replicate (ζ P.nd) P?/\Bl W w'):=λW=>lD g (ζ P.nd) cap Q W p;have h:J (∀W,Bl w W->Cl 286 #[i! g (ζ P.nd) cap Q] W λe w'=>∃a c,e=p' (aO a (ζ P.ex) c)/\ρ w' W.1.size 430 7 (aO a (ζ P.ex) c) (ζ P.ex) (lE P.ex)/\Bl W w'):=λW hW=>B3 g cap Q D P W (hP.below hW) p d;obtain⟨N,c⟩:=Ea (ζ P.nd);obtain⟨R,hks⟩:=Ea P.ex;rw[<-c]at p j b;rw[<-hks]at b;rw[<-c,<-hks]at h⊢;rw[<-c]at i;have K:=hid (A c hks);have HUP:J (∀W,Cl 208 #[G (ζ R)] W (Rb W (dh (pW (ζ R))))):=λW=>xt (ζ R) W I;obtain⟨up,a⟩:=Ea (pW (ζ R));rw[<-a]at HUP;have HU:=hid a;clear hP k c hks d a;simp only[i!,dx,dh]at i h HUP⊢;go_enter func223,ntmps223;go_upto_region 1 with(fail)
 generalize u:(w.alloc (k' (e! g N cap Q) 86)).alloc (k' EB 260)=a;have U:J (Bl w a/\d' a w.1.size (e! g N cap Q) 86/\a.1[δ w.1+1]?=B' mI):=by subst u;exact⟨cG,fC.1,fC.2⟩
 clear u;have E:=M U.b;go_upto_region 2 with(go_at_call 280;refine(i.o _).mono ?_;rintro e t ⟨rb,f,rfl,S,Y,l⟩;have c:=hid (A S (A Y l));clear S Y l E)
 generalize u:t.alloc (k' (fe rb N) 260)=F;have b:J (Bl w F/\d' F w.1.size (e! g N cap Q) 86/\F.1[δ w.1+1]?=B' mI/\d' F t.1.size (fe rb N) 260/\Sys F w.1.size rb 2 393 404 f/\f.map RR.pr=kr N (upto (SY P) 0)):=by exact afE
 clear u;have a:δ w.1+1<δ t.1:=by have:=c.B.size;have:=blt U.B;omega
 have B:rb<δ t.1:=blt c.a.lQ;generalize δ t.1=sb at b a B⊢;have E:=M b.b;go_upto_region 3 with(go_at_call 286;refine(h.o _ b.a).mono ?_;rintro e o ⟨c,p,rfl,a,Y⟩;have z:=hid (A a Y);clear a Y E)
 have HT:J (Bl w o/\PM o g cap D P/\ρ o w.1.size 430 7 (aO c (ζ R) p) (ζ R) (lE R)/\Sys o w.1.size rb 2 393 404 f/\f.map RR.pr=kr N (upto (SY P) 0)/\d' o w.1.size (e! g N cap Q) 86/\o.1[δ w.1+1]?=B' mI/\d' o sb (fe rb N) 260):=
  ⟨H b.a z.A,s.a.below (H b.a z.A),pq z.a b.a.size,b.e.below z.A,b.E,aL z.A b.b,aL z.A b.c,aL z.A b.d⟩
 have a:∀n,n<N->ζ (SY P n).2<=200:=by intro n _;have:=tj s.b n;simp[SY];omega
 have q:=hid a;clear a;have E:=M HT.f;go_wp2;clear E;go_loopw[16] (λy wr=>∃(i:Nat) (b:List RR),i<=N/\y=G i/\J (Sys wr w.1.size rb 2 393 404 b/\b.map RR.pr=kr N (upto (SY P) i)/\TF w.1.size 393 404 o wr)) (λy _=>N-(intOf y).toNat)
 case atStart=>exact⟨0,f,bj,rfl,HT.d,HT.e,AF⟩
 obtain⟨i,b,S,rfl,HK⟩:=hrel;have Ep:δ w.1<=δ wr.1:=bD HT.a.size HK.B.low.size;by_cases L:i<N;rotate_left
 ·have a:¬(i:Int)<N:=I;have d:i=N:=I;have U:=HK.B;have M! := U.box HT.g aj aj;have E:=M (U.box HT.G aj aj);have z1:=M M!;have f:δ w.1+1≠sb:=I;have x:=f.symm;clear U;go_wp2;have q2:=(M (aq (o:=2) (aq (o:=1) (aq (o:=0) M! (dU rb N)) ji) n9)).1;refine aC (v:=t' #[dx rb N,G (ζ R)]) (by simp[results223,go_sem,(M (aq (o:=0) M! (dU rb N))).1,(M (aq (o:=1) (aq (o:=0) M! (dU rb N)) ji)).1,q2,dx]) rfl ⟨rb,rfl,b,?_,?_,?_⟩
  ·exact HK.a.keep M! ⟨aj,aj⟩ (λk hk=>by rw[aJ hk,aJ hk,aJ hk])
  ·rw[HK.b,d,EM]
  exact(((HT.a.trans HK.B.low).setCell H' _).setCell H' _).setCell H' _
 have a:(i:Int)<N:=I;have hPr:=HT.b.tf HK.B aj aj aj aj;obtain⟨r,a,T,V,hat,_,TB,_⟩:=hPr.nodes (by rw[<-K.a];exact L);have X:=λj (f:j<14)=>(mR hPr T j f);have h:=aT V;obtain⟨j,GH⟩:=Ea r.n;rw[<-GH]at X V hat h;simp only[NC.wv,NC.ev]at X;generalize r.bu=k at X;generalize r.wa=y at X;generalize r.wl=wl at X;generalize r.wc=wc at X;generalize r.ea=ea at X;generalize r.el=el at X;generalize r.ec=B at X;have S:=yr HT.c HK.B aj aj;have HEV:J (∀W,Bl wr W->Cl 287 #[l' (aR k (i' y wl wc) j (i' ea el B)),i' c (ζ R) p] W (Rb W (dh (zi R j)))):=λW hW=>qW k y wl wc ea el B j c p R W (yL (aZ S hW)) (by rw[K.A];exact T6 s.B) I (λa=>⟨s.B j h,by rw[K.A];exact uW h a⟩);have d:J (∀W,Bl wr W->Cl 288 #[l' (aR k (i' y wl wc) j (i' ea el B)),i' c (ζ R) p] W (Rb W (dh (Eo R j)))):=λW hW=>BL k y wl wc ea el B j c p R W (yL (aZ S hW)) I (s.b.aG j h).1;have HWO:J (∀W,Cl 153 #[dh (Eo R j),dh (zi R j)] W (Rb W (dh (vQ (Eo R j) (zi R j))))):=λW=>o7 _ _ W (Te I) (K5 (λa=>by rw[K.A];exact uW h a) I)
 obtain⟨r,hr,TC,_⟩:=FP HK.b L;have gb:J (∀(W:u') (z:BS),(if j.aG=6 then up else vQ (Eo R j) (zi R j))=z->Sys W w.1.size rb 2 393 404 (b.set i ⟨fz z,r.ea,r.ec,r.es⟩)->TF w.1.size 393 404 o W->Cl 285 #[dx rb N,i! g N cap Q,G i,Ev ⟨zi R j,(0,0)⟩] W λr w'=>(∃v,r=p' v)/\∃a,Sys w' w.1.size rb 2 393 404 a/\a.map RR.pr=kr N (upto (SY P) (i+1))/\TF w.1.size 393 404 o w'):=by
  intro W z f C p;have c:=Dc HK.b (EL q.o)
  have:=tS g cap Q rb w.1.size i D P _ ⟨zi R j,(0,0)⟩ W (HT.b.tf p aj aj aj aj) s.b (by rw[<-K.a];exact L) C (by rw[de,<-K.a];exact yn HK.b) (bD HT.a.size p.low.size) (by
   intro x F;rcases mZ F with F|F
   ·exact c x F
   ·rw[F];exact c r (aT hr))
  rw[<-K.a]at this;refine this.mono ?_;rintro c w' ⟨q,a,s,h5,c⟩;refine⟨q,a,s,h5.trans (zx HK.b hr ?_),p.trans c⟩;rw[SY,ZT,ZU,hat,<-K.A,<-f,HU.o]
 have HR:J (b[i]?=B' r/\r.st=fz (0,0)):=⟨hr,by rw[TC];simp[upto,P?,fz]⟩;obtain⟨C,D⟩:=Ea (zi R j);obtain⟨c,f⟩:=Ea (Eo R j);rw[<-D]at HEV;rw[<-f]at d;rw[<-D,<-f]at gb HWO;obtain⟨K,hwo⟩:=Ea (vQ c C);rw[<-hwo]at gb HWO;obtain⟨c,q,op,s,⟨ai,av,ac⟩,⟨F,bv,z⟩,p⟩:=j;have t:=N9 X;simp only[aR,dh,dx,i!,Ev]at HEV d HWO gb;clear X D f hwo GH V hat h T hPr TB S hr TC;go_upto_region 6 with(fail)
 generalize f:wr.alloc (k' #[m' k,i' y wl wc,G c,G q,G op,G s,j' ai,G av,G ac,j' F,G bv,G z,i' ea el B,m' p] 152)=V;have j:J (Bl wr V/\d' V wr.1.size #[m' k,i' y wl wc,G c,G q,G op,G s,j' ai,G av,G ac,j' F,G bv,G z,i' ea el B,m' p] 152):=by subst f;exact⟨bf,bV⟩
 clear f t;have E:=M j.A;go_upto_region 7 with(go_at_call 287;refine(HEV.o _ j.a).mono ?_;rintro e f ⟨rfl,l⟩;have D:=hid l;clear l E)
 generalize u:f.alloc (qH C.1 C.2)=X;have h:J (Bl wr X/\d' X wr.1.size #[m' k,i' y wl wc,G c,G q,G op,G s,j' ai,G av,G ac,j' F,G bv,G z,i' ea el B,m' p] 152/\X.1[δ f.1]?=B' (vf C.1 C.2)/\d' X sb (fe rb N) 260/\d' X w.1.size (e! g N cap Q) 86):=by subst u;have t:=H (H j.a D.o) (cz f (qH C.1 C.2));exact⟨t,aL bf (aL D.o j.A),bV,aL t (HK.B.box HT.G aj aj),aL t (HK.B.box HT.f aj aj)⟩
 clear u;have l:δ wr.1<δ f.1:=by have:=D.o.size;have:=blt j.A;omega
 have j:=blt HK.a.lQ;generalize δ f.1=j at h l⊢;have S:J (∀W,TF w.1.size 393 404 X W->χ W (O wr.1.size 0)=B' (m' k)/\χ W (O wr.1.size 1)=B' (i' y wl wc)/\χ W (O wr.1.size 2)=B' (G c)/\χ W (O wr.1.size 3)=B' (G q)/\χ W (O wr.1.size 4)=B' (G op)/\χ W (O wr.1.size 5)=B' (G s)/\χ W (O wr.1.size 6)=B' (j' ai)/\χ W (O wr.1.size 7)=B' (G av)/\χ W (O wr.1.size 8)=B' (G ac)/\χ W (O wr.1.size 9)=B' (j' F)/\χ W (O wr.1.size 10)=B' (G bv)/\χ W (O wr.1.size 11)=B' (G z)/\χ W (O wr.1.size 12)=B' (i' ea el B)/\χ W (O wr.1.size 13)=B' (m' p)/\χ W (O sb 0)=B' (dU rb N)/\χ W (O j 0)=B' (Z C.1)/\χ W (O j 1)=B' (Z C.2)):=by intro W hW;have f:=(M (hW.box h.b aj aj)).1;have q2:=(M (hW.box h.d aj aj)).1;have l:=(M (hW.box h.c aj aj)).1;exact⟨f 0,f 1,f 2,f 3,f 4,f 5,f 6,f 7,f 8,f 9,f 10,f 11,f 12,f 13,q2 0,l 0,l 1⟩
 have f:δ w.1<=δ X.1:=bD Ep h.a.size;have l:=S.o X AF;have D:rb≠sb:=I;have T:rb≠δ wr.1:=I;have l:rb≠j:=I;have V:=D.symm;have D:=T.symm;have D:=l.symm
 go_region_held3 (λw'=>χ w' (O wr.1.size 0)=B' (m' k)/\χ w' (O wr.1.size 1)=B' (i' y wl wc)/\χ w' (O wr.1.size 2)=B' (G c)/\χ w' (O wr.1.size 3)=B' (G q)/\χ w' (O wr.1.size 4)=B' (G op)/\χ w' (O wr.1.size 5)=B' (G s)/\χ w' (O wr.1.size 6)=B' (j' ai)/\χ w' (O wr.1.size 7)=B' (G av)/\χ w' (O wr.1.size 8)=B' (G ac)/\χ w' (O wr.1.size 9)=B' (j' F)/\χ w' (O wr.1.size 10)=B' (G bv)/\χ w' (O wr.1.size 11)=B' (G z)/\χ w' (O wr.1.size 12)=B' (i' ea el B)/\χ w' (O wr.1.size 13)=B' (m' p)/\χ w' (O sb 0)=B' (dU rb N)/\χ w' (O j 0)=B' (Z C.1)/\χ w' (O j 1)=B' (Z C.2)) (go_keep) ((first|(go_at_call 288;refine(d.o _ (H h.a ay)).mono ?_;rintro e d ⟨rfl,Y⟩;have p:Bl X d:=H ay Y;have l:=hid p;have j:=S.o d (TF.aX p f);clear Y p)|(go_at_call 153;refine(HWO.o _).mono ?_;rintro e j ⟨rfl,M!⟩;have p:Bl X j:=H (H l.o ay) M!;have d:=hid p;have o0:=S.o j (TF.aX p f);have z1:=((HK.a.below h.a).below p).two HR.a HR.A;clear M! p)))
 all_goals
  generalize u:κ (κ j (O rb (i*3)) (Z K.1)) (O rb (i*3+1)) (Z K.2)=j;have Y:J (Sys j w.1.size rb 2 393 404 (b.set i ⟨fz K,r.ea,r.ec,r.es⟩)/\TF w.1.size 393 404 o j/\TF w.1.size 393 404 X j):=by subst u;have t:=H h.a d.o;have hs:=HK.a.below t;have U:=hs.sG (k:=i) (v:=Z K.1) (v':=Z K.2);exact⟨hs.start aj HR.a HR.A,(HK.B.trans (TF.aX t Ep)).trans U,(TF.aX d.o f).trans U⟩
  clear u
  try clear z1
  have hks:=dZ (λx=>x) (rfl:ζ R=ζ R);have E:=M (Y.B.box h.b aj aj);by_cases hk:c=6;rotate_left
  ·clear E;have E:=M (Y.B.box h.b aj aj);go_upto_region 10 with fail
   clear E;have k:J (Cl 285 #[l' (fe rb N),l' (e! g N cap Q),G i,l' #[Z C.1,Z C.2,Z 0,Z 0]] j λr w'=>(∃v,r=p' v)/\∃a,Sys w' w.1.size rb 2 393 404 a/\a.map RR.pr=kr N (upto (SY P) (i+1))/\TF w.1.size 393 404 o w'):=gb.o j _ (by simp[hk]) Y.a Y.b;have E:=M (Y.B.box h.d aj aj);have q:=M (Y.B.box h.D aj aj);have z1:=M (Y.B.box h.c aj aj);exact YH
  go_upto_region 9 with fail
  clear E;have E:=M (Y.B.box h.d aj aj);have z1:=Y.a.two (k:=i) (r:=⟨fz K,r.ea,r.ec,r.es⟩) (s:=K) (by rw[fG,aB rfl,aB (bm.1 HR.a).1]) rfl
  go_region_law (go_simp;refine bK (HUP.o _) ?_;rintro e l ⟨rfl,d⟩;have c:J (Bl j l):=H ay d;clear d E z1;have E:=M (aL c.o (Y.B.box h.d aj aj));have z1:=(Y.a.below c.o).two (k:=i) (r:=⟨fz K,r.ea,r.ec,r.es⟩) (s:=K) (by rw[fG,aB rfl,aB (bm.1 HR.a).1]) rfl)
  all_goals
   generalize u:κ (κ l (O rb (i*3)) (Z up.1)) (O rb (i*3+1)) (Z up.2)=l;have d:J (Sys l w.1.size rb 2 393 404 (b.set i ⟨fz up,r.ea,r.ec,r.es⟩)/\TF w.1.size 393 404 o l/\TF w.1.size 393 404 X l):=by subst u;have hs:=Y.a.below c.o;have h5:δ w.1<=δ j.1:=bD f Y.B.low.size;have U:=hs.sG (k:=i) (v:=Z up.1) (v':=Z up.2);have TC:=hs.start (k:=i) (r:=⟨fz K,r.ea,r.ec,r.es⟩) (s:=K) (z:=up) aj (by rw[fG,aB rfl,aB (bm.1 HR.a).1]) rfl;rw[Ck]at TC;exact⟨TC,(Y.b.trans (TF.aX c.o h5)).trans U,(Y.B.trans (TF.aX c.o h5)).trans U⟩
   clear u;clear E z1;have k:J (Cl 285 #[l' (fe rb N),l' (e! g N cap Q),G i,l' #[Z C.1,Z C.2,Z 0,Z 0]] l λr w'=>(∃v,r=p' v)/\∃a,Sys w' w.1.size rb 2 393 404 a/\a.map RR.pr=kr N (upto (SY P) (i+1))/\TF w.1.size 393 404 o w'):=gb.o l _ (by simp[hk]) d.a d.b;have E:=M (d.B.box h.d aj aj);have q:=M (d.B.box h.D aj aj);have z1:=M (d.B.box h.c aj aj);exact YH
end
section
variable {P:Pm} {f:Nat}
def UR(S:i<ζ P.nd)(X:ζ P.nd<=60)(Y:f<128):bt (zi P.ex (P.at i)) f=P.ev i f:=by
 have d:P.at i∈P.nd:=by rw[Pm.at,getD,bR S];exact lX S
 have R:=rY P;rw[zi,Pm.ev,DI];by_cases l:K4 (P.at i)=O';rotate_left
 ·rw[aA l,aA l,mU]
 have L:=sj (uW d l);rw[aB l,aB l,mV _ _ Y H'];cases F:P.ex[f]? with
 |none=>have:ζ P.ex<=f:=List.getElem?_eq_none_iff.1 F;simp;omega
 |some y=>
  have j:=(bm.1 F).1;have b:P.ex.Nodup:=Py _;simp only[jg];refine wY.2 ⟨λe=>?_,λe=>?_⟩
  ·subst e;have:=Ex L;have a:=(bm.1 F).2;rw[<-a,this]
  subst e;have a:=(bm.1 F).2;have:=b.idxOf_getElem f j;rw[a]at this;exact this.symm
def UQ{ks:List Key}{v:Int}{f:Nat}(Y:f<128):∀m,m<=60->m<=ζ ks->bt (Iq ks v m) f=(decide (f<m)&&match ks[f]? with|some y=>qS y v|none=>P')
 |0,_,_=>by simp[Iq,mU]
 |m+1,h,hl=>by
  have B:=UQ (ks:=ks) (v:=v) Y m I I;have a:ks.getD m kx0=ks[m]:=by rw[getD,bR I];rfl
  rw[yN,a];have y:∀b:Bool,(decide (f<m+1)&&b)=((decide (f<m)&&b)||(decide (f=m)&&b)):=by
   intro b;cases b
   ·simp
   simp only[rh];rw[<-Bool.decide_or];exact wY.2 I
  split
  ·rename_i R;rw[zy,B,mV _ _ Y H',y];congr 1;by_cases e:f=m
   ·subst e;rw[bR I];simp[R]
   simp[e]
  rename_i R;rw[B,y];by_cases e:f=m
  ·subst e;rw[bR I];simp[R]
  simp[e]
def aau(X:ζ P.nd<=60)(Y:f<128):bt (Eo P.ex (P.at i)) f=P.kl i f:=by
 have R:=rY P;unfold Eo Pm.kl;cases Q:gU (P.at i)
 ·simp[mU]
 rw[aB rfl,UQ Y _ I aF];simp only[dW];cases F:P.ex[f]? with
 |none=>simp
 |some y=>have:=(bm.1 F).1;simp[this]
end
section
variable {f:Nat} {P:Pm} {S:SN->BS} {E:Nat->Ef} {r:BS×List (Nat×Ef)}
def UL{f:Nat}(Y:f<128):∀(a:List lU) (u:BS),(∀o∈a,o.aS=O'->0<=o.var/\o.var<128)->bt (a.foldl (λs o=>if o.aS then oo s (eY [o.var.toNat]) else s) u) f=(bt u f||a.any λo=>o.aS&&o.var==(f:Int))
 |[],u,_=>ak
 |o::a,u,h=>by
  rw[iC,UL Y a _ (λx F=>h x (by simp[F])),q?];cases R:o.aS
  ·simp
  have D:=h o ak R;rw[aB rfl,zy,mV _ _ Y H',q9];congr 1;congr 1;simp only[dW,jg];rw[cj,ud,bT];omega
def afO{n:SN}(h:∀o∈nK n,o.aS=O'->0<=o.var/\o.var<128)(Y:f<128):bt (QP n) f=VJ n (f:Int):=by
 rw[QP,Ii,UL Y _ _ h,mU,iE];unfold nK VJ d!;split
 ·simp
 split
 ·simp
 simp
def VI(h:dC P){n:SN}(K:n∈P.nd)(C:VJ n (f:Int)=O'):f<P.nv:=by
 unfold VJ at C;simp only[gX,bh,bq,bT]at C;rcases C with⟨⟨C,a⟩,N⟩|⟨⟨C,a⟩,N⟩
 ·have:=h.a n K C a;omega
 have:=h.b n K C a;omega
def wm(P:Pm)(S:SN->BS)(E:SN->Ef):RS:=(range (ζ P.nd)).map λn=>(S (P.at n),(P.si n).map λt=>(t,E (P.at n)))
def UJ(P:Pm)(S:SN->BS)(E:SN->Ef):P7 (wm P S E)=kr (ζ P.nd) λn=>(fz (S (P.at n)),(P.si n).map λt=>(t,vz (E (P.at n)))):=by rw[P7,wm,lW];refine iD λn _=>?_;simp[Function.comp]
def YF(h:p:=by
 have X:=(bm.1 h).1;simp at X;rw[cg,w7 X]at h;simp at h
 exact⟨X,h.symm⟩):p:=h
def iZ{E:SN->Ef}(h:(wm P S E)[n]?=B' r):n<ζ P.nd/\r=(S (P.at n),(P.si n).map λt=>(t,E (P.at n))):=by unfold wm at h;exact YF
def abH(h:dC P)(m:Nat):∀t∈P.si m,t<ζ P.nd:=by
 rw[Pm.si,getD];cases e:P.nx[m]? with
 |none=>simp
 |some l=>exact(h.nx l (aT e)).2
def at_mem{i:Nat}(S:i<ζ P.nd):P.at i∈P.nd:=by rw[Pm.at,getD,bR S];exact lX S
def Nt{E:SN->Ef}(h:dC P)(u:∀n∈P.nd,cL (S n))(a:∀n∈P.nd,Ed (E n)):Lv (wm P S E) (ζ P.nd):=by
 refine⟨by simp[wm],h.most,λr b=>?_⟩;obtain⟨n,K⟩:=oP.1 b;obtain⟨X,rfl⟩:=iZ K;refine⟨u _ (at_mem X),?_,λe l=>?_⟩
 ·have:=tj h n;simp;omega
 obtain⟨t,U,rfl⟩:=cZ.1 l;exact⟨a _ (at_mem X),abH h n t U⟩
def CB:cL (0,0):=⟨aj,aj⟩
def abO(h:dC P){n:SN}(K:n∈P.nd):Ed (S0 n):=by
 unfold S0;split
 ·rename_i Q;have:=h.var n K (by simpa[gU]using Q);have:=h.nv;exact⟨pz I,CB⟩
 exact⟨CB,CB⟩
def WH(h:dC P):Ia P 2 (wm P QP S0):=by
 have a:=h.nv;have E:P.facts 2=P.nv:=by simp[Pm.facts]
 refine⟨Nt h (λn K=>by have:=Ji (ζ (nK n)) (nK n) (Km h K);rwa[cH aF]at this) (λn K=>abO h K),I,?_,?_,?_,?_⟩
 ·intro n r a f Y;obtain⟨X,rfl⟩:=iZ a;have d:=at_mem X;simp only;rw[afO (Km h d) Y,E];have e:P.st 2 n f=VJ (P.at n) f:=by simp[Pm.st]
  rw[e];cases C:VJ (P.at n) (f:Int)
  ·simp
  simp[VI h d C]
 ·intro n r a;obtain⟨X,rfl⟩:=iZ a;simp[Pm.P!,ui]
 ·intro n r a e l f Y;obtain⟨X,rfl⟩:=iZ a;obtain⟨t,U,rfl⟩:=cZ.1 l;have:(S0 (P.at n)).add=(0,0):=by unfold S0;split<;>rfl
  simp only;rw[this,mU];simp[Pm.ad]
 intro n r a e l f Y;obtain⟨X,rfl⟩:=iZ a;obtain⟨t,U,rfl⟩:=cZ.1 l;have u:P.ps 2 n t f=!(gU (P.at n)&&(P.at n).var==(f:Int)):=by simp[Pm.ps]
 simp only;rw[u,ug];unfold S0;cases Q:gU (P.at n)
 ·simp[ef0,mU]
 have R:=h.var _ (at_mem X) (by simpa[gU]using Q);rw[aB rfl,mV _ _ I H'];simp only[dW,jg];rw[cj,ud,bT];omega
def YG(h:p:=by
 intro i f b;unfold Pm.kl at b;cases F:P.ex[f]? with
 |none=>rw[F]at b;simp at b
 |some y=>exact(bm.1 F).1):p:=h
def WK(h:dC P):Ia P 4 (wm P (ZT P.ex) (ZU P.ex)):=by
 have p:=h.most;have b:=rY P;have j:P.facts 4=ζ P.ex:=by simp[Pm.facts]
 have z:∀n∈P.nd,cL (zi P.ex n):=λn K=>K5 (λl=>uW K l) I;have a:∀i f,P.kl i f=O'->f<ζ P.ex:=by exact YG
 refine⟨Nt h (λn K=>?_) (λn K=>⟨z n K,CB⟩),I,?_,?_,?_,?_⟩
 ·unfold ZT;split
  ·exact xw _ I
  exact CD _ _
 ·intro n r c f Y;obtain⟨X,rfl⟩:=iZ c;have e:P.st 4 n f=((P.at n).aG==6||(P.kl n f&&!P.ev n f)):=by simp[Pm.st]
  simp only;rw[e,j];unfold ZT;by_cases b:(P.at n).aG=6
  ·rw[aB b,Nv _ _ I Y];simp[b]
  rw[aA b,Nu _ _ _ (z _ (at_mem X)) Y,aau p Y,UR X p Y];have:((P.at n).aG==6)=P':=by simp[b]
  rw[this,iE];cases o:P.kl n f
  ·simp
  simp[a n f o]
 ·intro n r c;obtain⟨X,rfl⟩:=iZ c;simp[Pm.P!,ui]
 ·intro n r c e l f Y;obtain⟨X,rfl⟩:=iZ c;obtain⟨t,U,rfl⟩:=cZ.1 l;simp[ZU,mU,Pm.ad]
 intro n r c e l f Y;obtain⟨X,rfl⟩:=iZ c;obtain⟨t,U,rfl⟩:=cZ.1 l;have u:P.ps 4 n t f=!P.ev n f:=by simp[Pm.ps]
 simp only[ZU];rw[u,ug,UR X p I]
def v7(P:Pm)(S:Nat->BS)(E:Nat->Ef):RS:=(range (ζ P.nd)).map λn=>(S n,(range (ζ P.nd)).flatMap λm=>(fA n 0 (P.si m)).map λ_=>(m,E m))
def TY(P:Pm)(S:Nat->BS)(E:Nat->Ef):P7 (v7 P S E)=kr (ζ P.nd) (uU P (λn=>fz (S n)) E (ζ P.nd)):=by rw[P7,v7,lW];refine iD λn _=>?_;simp[ui,uU,map_flatMap]
def iU{S:Nat->BS}(h:(v7 P S E)[n]?=B' r):n<ζ P.nd/\r=(S n,(range (ζ P.nd)).flatMap λm=>(fA n 0 (P.si m)).map λ_=>(m,E m)):=by unfold v7 at h;exact YF
def BP(n:Nat):∀(l:List (List Nat)) (i:Nat),(dQ n i l).map Prod.fst=(range (ζ l)).flatMap λj=>(fA n 0 (l.getD j [])).map λ_=>i+j
 |[],i=>by simp[dQ]
 |x::l,i=>by
  rw[dQ,eW,BP n l (i+1),cC,range_succ_eq_map,cN,flatMap_map];congr 1
  ·simp[ui]
  have e:∀j,i+1+j=i+(j+1):=λj=>I;simp[e]
def yG{e:Nat×Ef}(h:e∈(range (ζ P.nd)).flatMap λm=>(fA n 0 (P.si m)).map λ_=>(m,E m)):e.1<ζ P.nd/\e.2=E e.1:=by obtain⟨m,d,l⟩:=mem_flatMap.1 h;obtain⟨_,_,rfl⟩:=cZ.1 l;exact⟨eQ.1 d,rfl⟩
def Nb{S:Nat->BS}(h:dC P)(u:∀n,cL (S n))(a:∀m,m<ζ P.nd->Ed (E m)):Lv (v7 P S E) (ζ P.nd):=by
 refine⟨by simp[v7],h.most,λr b=>?_⟩;obtain⟨n,K⟩:=oP.1 b;obtain⟨X,rfl⟩:=iU K;refine⟨u n,?_,λe l=>?_⟩
 ·have C:=wM (st:=λn=>fz (S n)) (E:=E) (n:=n) (tj h) (ζ P.nd);have b:=h.most;have N:ζ ((range (ζ P.nd)).flatMap λm=>(fA n 0 (P.si m)).map λ_=>(m,E m))=ζ (uU P (λn=>fz (S n)) E (ζ P.nd) n).2:=by simp[uU,length_flatMap]
  simp only;rw[N];omega
 obtain⟨C,b⟩:=yG l;exact⟨by rw[b];exact a _ C,C⟩
def TX{p:Int}(U:p=1\/p=3)(F:ζ P.nx=ζ P.nd):((range (ζ P.nd)).flatMap λm=>(fA n 0 (P.si m)).map λ_=>(m,E m)).map Prod.fst=P.P! p n:=by have z:¬(p=2\/p=4):=I;rw[Pm.P!,Pm.ins,aA z,BP,F,map_flatMap];simp[ui,Pm.si]
def KD(h:dC P)(F:ζ P.nx=ζ P.nd):Ia P 3 (v7 P (λn=>if n=0 then pW (ζ P.ex) else(0,0)) (λm=>S2 P.ex (P.at m))):=by
 have p:=h.most;have b:=rY P;have u:P.facts 3=ζ P.ex:=by simp[Pm.facts]
 have z:∀n∈P.nd,cL (zi P.ex n):=λn K=>K5 (λl=>uW K l) I;have a:∀i f,P.kl i f=O'->f<ζ P.ex:=by exact YG
 refine⟨Nb h (λn=>?_) (λm d=>⟨z _ (at_mem d),Te I⟩),I,?_,?_,?_,?_⟩
 ·split
  ·exact xw _ I
  exact CB
 ·intro n r b f Y;obtain⟨X,rfl⟩:=iU b;have e:P.st 3 n f=(n==0):=by simp[Pm.st]
  simp only;rw[e,u];by_cases D:n=0
  ·rw[aB D,Nv _ _ I Y];simp[D]
  rw[aA D,mU];simp[D]
 ·intro n r b;obtain⟨X,rfl⟩:=iU b;exact TX (aK rfl) F
 ·intro n r b e l f Y;obtain⟨X,rfl⟩:=iU b;obtain⟨C,c⟩:=yG l;have d:P.ad 3 e.1 f=P.kl e.1 f:=by simp[Pm.ad]
  rw[c,d,u];simp only[S2];rw[aau p Y];cases o:P.kl e.1 f
  ·simp
  simp[a _ f o]
 intro n r b e l f Y;obtain⟨X,rfl⟩:=iU b;obtain⟨C,c⟩:=yG l;have d:P.ps 3 n e.1 f=!P.ev e.1 f:=by simp[Pm.ps]
 rw[c,d,ug];simp only[S2];rw[UR C p I]
end
section
variable {P:Pm} {f:Nat}
def DU:∀(l r:List SN) (i:Nat),oz i (l++r)=oz i l++oz (i+ζ l) r
 |[],r,i=>by simp[oz]
 |n::l,r,i=>by have B:=DU l r (i+1);have e:i+1+ζ l=i+(ζ l+1):=I;rw[cW,oz,oz,B,cC,e];split<;>simp
def DS:∀(l:List SN) (i m:Nat),m∈oz i l↔∃j n,l[j]?=B' n/\gU n=O'/\m=i+j
 |[],i,m=>by simp[oz]
 |x::l,i,m=>by
  have B:=DS l (i+1) m;constructor
  ·intro h;rw[oz]at h;split at h
   ·rename_i F;rcases dr.1 h with rfl|h
    ·exact⟨0,x,rfl,F,I⟩
    obtain⟨j,n,C,a,N⟩:=B.1 h;exact⟨j+1,n,I' C,a,I⟩
   obtain⟨j,n,C,a,N⟩:=B.1 h;exact⟨j+1,n,I' C,a,I⟩
  rintro⟨j,n,C,a,N⟩;rw[oz];cases j with
  |zero=>simp at C;subst C;rw[aB a];simp[N]
  |succ j=>
   have:=B.2 ⟨j,n,I' C,a,I⟩;split
   ·simp[this]
   exact this
def B5:∀(l:List SN) (i:Nat),(oz i l).Nodup
 |[],i=>by simp[oz]
 |x::l,i=>by
  have B:=B5 l (i+1);rw[oz];split
  ·refine uf.2 ⟨λh=>?_,B⟩;obtain⟨j,n,_,_,N⟩:=(DS l (i+1) i).1 h;omega
  exact B
def DT:∀(l:List SN) (i:Nat),ζ (oz i l)<=ζ l
 |[],i=>by simp[oz]
 |x::l,i=>by have B:=DT l (i+1);rw[oz];split<;>simp<;>omega
def qh(P:Pm)(k:Nat):Nat:=P.nv+ζ (oz 0 (P.nd.take k))
def Uh(P:Pm):qh P 0=P.nv:=by simp[qh,oz]
def XD(P:Pm):qh P (ζ P.nd)=P.facts 1:=by simp[qh,Pm.facts]
def Ui(a:k<ζ P.nd):qh P (k+1)=if gU (P.at k) then qh P k+1 else qh P k:=by
 have e:P.at k=P.nd[k]:=by unfold Pm.at;rw[getD,bR a];rfl
 unfold qh;rw[cX a,DU,e];simp only[oz];split<;>simp<;>omega
def K!(a:k<ζ P.nd)(Q:gU (P.at k)=O'):(oz 0 P.nd)[qh P k-P.nv]?=B' k:=by
 have e:P.at k=P.nd[k]:=by rw[Pm.at,getD,bR a];rfl
 have C:P.nd=P.nd.take k++P.nd[k]::P.nd.drop (k+1):=by rw[getElem_cons_drop,oT]
 have a:oz 0 P.nd=oz 0 (P.nd.take k)++k::oz (k+1) (P.nd.drop (k+1)):=by
  conv=>lhs;rw[C]
  rw[DU,oz,<-e,aB Q];have:0+ζ (P.nd.take k)=k:=by rw[gC];omega
  rw[this]
 rw[a];rw[qh,Nat.add_sub_cancel_left,ek aF];simp
def qi{m:Nat}:P.mT f=B' m↔m<ζ P.nd/\gU (P.at m)=O'/\f=qh P m:=by
 constructor;rotate_left
 ·rintro⟨X,Q,rfl⟩;rw[Pm.mT,aA (by unfold qh;omega)];exact K! X Q
 intro h;unfold Pm.mT at h;split at h
 ·cases h
 rename_i Y;obtain⟨j,n,C,a,N⟩:=(DS P.nd 0 m).1 (aT h);have f:m=j:=I;subst f;have X:=(bm.1 C).1;have Q:gU (P.at m)=O':=by rw[Pm.at,getD,C];exact a
 refine⟨X,Q,?_⟩;have l:=(getElem?_inj (bm.1 h).1 (B5 P.nd 0)).1 (h.trans (K! X Q).symm);have:P.nv<=qh P m:=by unfold qh;omega
 omega
def DV(a:k<ζ P.nd)(Q:gU (P.at k)=O'):qh P k<P.facts 1:=by
 have h:=(bm.1 (K! a Q)).1;have:P.nv<=qh P k:=by unfold qh;omega
 have e:P.facts 1=P.nv+ζ (oz 0 P.nd):=by simp[Pm.facts]
 omega
def y!(h:dC P):P.facts 1<=68:=by
 have e:P.facts 1=P.nv+ζ (oz 0 P.nd):=by simp[Pm.facts]
 have:=DT P.nd 0;have:=h.most;have:=h.nv;omega
def qP(P:Pm)(i:Nat):BS:=if gU (P.at i) then eY [qh P i] else(0,0)
def wA(P:Pm)(k v:Nat):BS:=(range k).foldl (λs i=>if gU (P.at i)&&(P.at i).var==(v:Int) then oo s (qP P i) else s) (eY [v])
def vt(P:Pm)(i:Nat):Ef:=if gU (P.at i) then⟨wA P (ζ P.nd) (P.at i).var.toNat,qP P i⟩ else ef0
def OE(P:Pm)(n:Nat):BS:=if n=0 then pW P.nv else(0,0)
def J5(h:dC P)(S:i<ζ P.nd):cL (qP P i):=by
 unfold qP;split
 ·rename_i Q;have:=DV S Q;have:=y! h;exact pz I
 exact CB
def ph(P:Pm)(k v:Nat):wA P (k+1) v=if gU (P.at k)&&(P.at k).var==(v:Int) then oo (wA P k v) (qP P k) else wA P k v:=by simp[wA,nY]
def C9{P:Pm}(h:dC P){v:Nat}(R:v<128):∀k,k<=ζ P.nd->cL (wA P k v)
 |0,_=>pz R
 |k+1,hk=>by
  rw[ph];split
  ·exact rN (C9 h R k I) (J5 h I)
  exact C9 h R k I
def acM(h:dC P)(S:i<ζ P.nd)(Y:f<128):bt (qP P i) f=(decide (f<P.facts 1)&&(P.mT f==B' i)):=by
 have t:=y! h;have e:(P.mT f==B' i)=decide (gU (P.at i)=O'/\f=qh P i):=by rw[cj,bT,ud,qi];exact⟨λx=>x.2,λx=>⟨S,x⟩⟩
 rw[e];unfold qP;by_cases Q:gU (P.at i)=O'
 ·have L:=DV S Q;rw[aB Q,mV _ _ Y H',cj];simp[Q];omega
 rw[aA Q,mU];simp[Q]
def UN{P:Pm}(h:dC P){v f:Nat}(R:v<128)(Y:f<128):∀k,k<=ζ P.nd->bt (wA P k v) f=(decide (f=v)||decide (∃i,i<k/\gU (P.at i)=O'/\(P.at i).var=(v:Int)/\f=qh P i))
 |0,_=>by rw[show wA P 0 v=eY [v] from rfl,mV _ _ Y (by simp;exact R)];simp
 |k+1,hk=>by
  have B:=UN h R Y k I;have t:=y! h;rw[ph];by_cases T:(gU (P.at k)&&(P.at k).var==(v:Int))=O';rotate_left
  ·rw[aA T,B];congr 1;refine wY.2 ⟨λ⟨i,C,a⟩=>⟨i,I,a⟩,λ⟨i,C,a,N,d⟩=>⟨i,?_,a,N,d⟩⟩;by_cases E:i=k
   ·subst E;exact absurd (by simp[a,N]) T
   omega
  rw[aB T,zy,B];simp only[bh,bT]at T;have L:=DV (P:=P) (k:=k) I T.1;have e:bt (qP P k) f=decide (f=qh P k):=by rw[qP,aB T.1,mV _ _ Y H'];simp
  rw[e,q9];congr 1;rw[cj];simp only[gX,bq];constructor
  ·rintro(⟨i,C,a⟩|C)
   ·exact⟨i,I,a⟩
   exact⟨k,I,T.1,T.2,C⟩
  rintro⟨i,C,a,N,d⟩;by_cases E:i=k
  ·subst E;exact aK d
  exact aI ⟨i,I,a,N,d⟩
end
section
variable {U:z'} {a E:Bool} {p:Int} {c:u'} {R:Nat} {P:Nat->Prop} {i:x'}
structure OcK(s:z')(bad:Bool)(b:UInt8)(s':z')(b':Bool):Prop where
  sz:s'.size<=s.size
  how:(b'=P'/\bad=P'/\s.1.1=b::s'.1.1)\/(b'=O'/\b=0/\(bad=O'\/s.1.1=[]))
def FQ(d:Nat)(s:z')(a:Bool)(w:u')(h:dq w d s a)(y:s.size<=60000):
  Cl 156 (di d) w λe f=>∃(b:UInt8) (c:z') (X:Bool),e=p' (.int .u8 (b.toNat:Int))/\OcK s a b c X/\dq f d c X/\ξ w f (B' d):=by
 refine(rM d s a w h y).mono ?_;rintro e f ⟨C,g⟩;rcases C with⟨b,c,i,a,rfl,d⟩|⟨i,rfl,c,a,d⟩
 ·obtain⟨C,e⟩:=MJ i;exact⟨b,c,P',rfl,⟨a,aI ⟨rfl,C,e⟩⟩,d,g⟩
 refine⟨0,c,O',rfl,⟨a,aK ⟨rfl,rfl,?_⟩⟩,d,g⟩;rcases mN i with h|⟨_,h⟩
 ·exact aI h
 right;unfold xI at h;split at h
 ·cases h
 assumption
def WQ(d:Int):known 0 d=P':=by simp[known]
def WO(p:Int):known p 0=P':=by simp[known]
def XM{a:z'}{b d:UInt8}{g:Bool}(C:OcK s P' b U E)(c:OcK U E d a g)(a:known (b.toNat:Int) (d.toNat:Int)=P'):ie s.1.1=C':=by
 rcases C.2 with⟨_,_,V⟩|⟨_,_,V⟩;rotate_left
 ·rcases V with V|V
  ·cases V
  rw[V];rfl
 rw[V];rcases c.2 with⟨_,_,u⟩|⟨_,_,u⟩
 ·rw[u];unfold ie;simp only;rw[a];simp
 rcases u with u|u;rotate_left
 ·rw[u];rfl
 subst u;rcases C.2 with⟨h,_⟩|⟨_,_,h⟩
 ·cases h
 rcases h with h|h
 ·cases h
 rw[h]at V;cases V
def Uz{c:z'}{b d:UInt8}{g:Bool}(C:OcK s P' b U E)(f:OcK U E d c g)(a:known (b.toNat:Int) (d.toNat:Int)=O'):g=P'/\s.1.1=b::d::c.1.1:=by
 rcases C.2 with⟨_,_,V⟩|⟨_,e,_⟩
 ·rcases f.2 with⟨h,_,u⟩|⟨_,e,_⟩
  ·exact⟨h,by rw[V,u]⟩
  subst e;have:=WO (b.toNat:Int);rw[show(((0:UInt8).toNat:Nat):Int)=0 from rfl]at a;rw[this]at a;cases a
 subst e;have:=WQ (d.toNat:Int);rw[show(((0:UInt8).toNat:Nat):Int)=0 from rfl]at a;rw[this]at a;cases a
def fr3(W:u')(b:Nat)(U N a:A'):Fr (λj=>j≠b) W (κ (κ (κ W (O b 0) U) (O b 1) N) (O b 2) a):=
 Fr.trans (Fr.trans qZ qZ (λ_ _ h=>h)) qZ (λ_ _ h=>h)
def LsN(W':u')(B n:Nat)(s:z')(bad:Bool)(p g:Int)(la:x')(ll lc:Nat)(s':z')(b':Bool):Prop:=
 s'.size<=s.size/\((b'=P'/\ll=n/\∃cl:List N5,et bad (bp (gE p g) n ()) s=B' ((cl.map N5.n,()),s'.1.1)/\ρ W' B 96 5 (i' la n lc) n (dJ cl)/\(∀c∈cl,eG W' B c)/\Eh cl)\/(b'=O'/\(bad=O'\/et bad (bp (gE p g) n ()) s=C')/\la=C'/\ll=0/\lc=0))
def U8.one{d:Nat}{b:Bool}{e:Ending}(h:U8 w c d n s b p g e):
  ∃i j R a X,e=p' (i' i j R)/\LsN c w.1.size n s b p g i j R a X/\dq c d a X:=by
 rcases h with⟨D,a,i,R,C,b,rfl,N,d,l,c,V⟩|⟨C,rfl,a,b,N⟩
 ·exact⟨i,n,R,a,P',rfl,⟨b,aI ⟨rfl,rfl,D,C,d,l,c⟩⟩,V⟩
 exact⟨C',0,0,a,O',rfl,⟨b,aK ⟨rfl,C,rfl,rfl,rfl⟩⟩,N⟩
def LsN.fr{f:Nat}{b:z'}{X:Bool}(h:LsN w B n s a p g i j R b X)(Y:Fr P w c)(U:∀k,B<=k->P k)(v:f<=B):LsN c f n s a p g i j R b X:=by
 refine⟨h.1,?_⟩;rcases h.2 with⟨C,a,D,N,d,l,b⟩|h
 ·exact aI ⟨C,a,D,N,a! (Y.own d (λk a=>U k (d.lt k a).1)) v,λc T=>(l c T).fr Y U v,b⟩
 exact aK h
def zN(W:u')(w:u')(rb sb:Nat)(p g:Int)(nv:A'):Prop:=W.1[δ w.1]?=B' (k' (di rb) 274 (0,0))/\W.1[δ w.1+1]?=B' (k' fZ 51 (0,0))/\W.1[δ w.1+2]?=B' (k' #[G p,G g,nv] 51 (0,0))/\W.1[sb]?=B' (ve p g)/\δ w.1+3<=sb/\sb<δ W.1
def zN.fr{b:u'}{a o:Nat}{Q:A'}(h:zN W w a o p g Q)(Y:Fr P W b)(U:∀j,δ w.1<=j->P j):zN b w a o p g Q:=
 ⟨Y.box h.1 (U _ I),Y.box h.2.1 (U _ I),Y.box h.2.2.1 (U _ I),Y.box h.2.2.2.1 (U _ (J' h.2.2.2.2.1)),h.2.2.2.2.1,mG h.2.2.2.2.2 Y.size⟩
def CtR(w W':u')(rb:Nat)(s:z')(e:Ending):Prop:=
 (∃(c:Ct) (cl:List N5) (s':z') (la:x') (lc:Nat),ie s.1.1=B' (c,s'.1.1)/\c.nodes=cl.map N5.n/\e=p' (l' (kM c.aE c.grade la (ζ c.nodes) lc))/\ρ W' w.1.size 96 5 (aO la (ζ c.nodes) lc) (ζ c.nodes) (dJ cl)/\(∀c∈cl,eG W' w.1.size c)/\Eh cl/\dq W' rb s' P')\/
 (ie s.1.1=C'/\∃(p g:Int) (la:x') (ll lc:Nat) (s':z'),e=p' (l' (kM p g la ll lc))/\dq W' rb s' O')
def UA{e k:Nat}{b d:UInt8}{g S P:z'}{q:Bool}(y:s.1.1=b::d::g.1.1)(l:known (b.toNat:Int) (d.toNat:Int)=O')(C:SmK g P' 60 k S q)(c:LsN W B k S q (b.toNat:Int) (d.toNat:Int) i j R P a)(v:δ w.1<=B)(p:dq W e P a):
  CtR w W e s (p' (l' (kM b.toNat d.toNat i j R))):=by
 cases a with
 |true=>
  refine aK ⟨?_,_,_,i,j,R,P,rfl,p⟩;rw[y];unfold ie;simp only;rw[aB l];rcases C.2 with⟨o,V,_⟩|⟨o,V,_⟩;rotate_left
  ·rw[show fH 60 g.1.1=C' from V]
  subst o;rw[show fH 60 g.1.1=B' (k,S.1.1)from V];simp only;rcases c.2 with⟨u,_⟩|⟨_,u,_⟩
  ·cases u
  rcases u with u|u
  ·cases u
  rw[show bp (gE (b.toNat:Int) (d.toNat:Int)) k () S.1.1=C' from u]
 |false=>
  rcases c.2 with⟨_,X,D,u,f,a,k⟩|⟨e,_⟩;rotate_left
  ·cases e
  obtain⟨o,h⟩:=eO u;subst o;rcases C.2 with⟨_,V,_⟩|⟨e,_⟩;rotate_left
  ·cases e
  have K:=dG _ _ _ _ _ _ _ h;subst X;refine aI ⟨⟨(b.toNat:Int),(d.toNat:Int),D.map N5.n⟩,D,P,i,R,?_,rfl,by simp only;rw[K],by simp only;rw[K];exact a! f v,λc T=>?_,k,p⟩
  ·rw[y];unfold ie;simp only;rw[aB l,show fH 60 g.1.1=B' (j,S.1.1)from V];simp only;rw[h]
  have:=a c T;exact⟨a! this.f v,a! this.r v,a! this.v v,this.ap⟩
def Ke(rb:Nat)(s:z')(w:u')(h:dq w rb s P')(hs:s.size<=60000):
  Cl 92 (di rb) w λe D=>CtR w D rb s e/\Fr (λj=>j≠rb) w D:=by
 have L:=h.lt;have HR:=(show J (dq w rb s P')from h);clear h;go_enter func92,ntmps92;go_upto_region 2 with(fail)
 obtain⟨v,X⟩:=Ea ((((w.alloc (k' (di rb) 274)).alloc (k' fZ 51)).alloc (k' fZ 51)));rw[<-X];have D:δ v.1=δ w.1+3:=by rw[X];simp
 have Q:v.1[δ w.1]?=B' (k' (di rb) 274 (0,0)):=by rw[X,bQ H',bQ ak,cv]
 have y:v.1[δ w.1+1]?=B' (k' fZ 51 (0,0)):=by rw[X,bQ ak];exact(bL w _ _).2
 have r:v.1[δ w.1+2]?=B' (k' fZ 51 (0,0)):=by rw[X];have:=cv ((w.alloc (k' (di rb) 274)).alloc (k' fZ 51)) (k' fZ 51);simpa using this
 have b:dq v rb s P':=by rw[X];exact((HR.o.alloc _).alloc _).alloc _
 have c:Fr (λj=>j≠rb) w v:=by rw[X];exact Fr.aX gB
 have a:=FQ rb s P' v b hs;have R:=hid (A a (A Q (A y (A r c))));have E:=M Q;clear Q y r b c X a;go_wp2_with fail;refine bK R.a ?_;rintro e t ⟨b,s1,y1,rfl,d,a,N⟩;have K:Fr (λj=>j≠rb) v t:=Fr.dj N (λj _ f=>by simpa using f);have Q:=K.box R.b H';have y:=K.box R.c H';have r:=K.box R.d H';have tF:=K.size;have s:=gV b;have T:J (∀V,V=κ t (O (δ w.1+2) 0) (G b.toNat)->V.1[δ w.1]?=B' (k' (di rb) 274 (0,0))/\V.1[δ w.1+1]?=B' (k' fZ 51 (0,0))/\V.1[δ w.1+2]?=B' (k' #[G b.toNat,G 0,i' C' 0 0] 51 (0,0))/\dq V rb s1 y1/\Fr (λj=>j≠rb) w V/\δ v.1<=δ V.1):=by intro V g;subst g;have o:=Vn t (δ w.1+2) 0 (G b.toNat);exact⟨o.box Q H',o.box y H',aq r _,a.fr o H',Fr.trans (Fr.trans R.D K (λ_ _ h=>h)) o (λj X _=>by show j≠_;omega),bD tF o.size⟩
 have c:=hid d;clear E Q y a N K d;have E:=M r;clear r;go_upto_region 3 with(fail)
 obtain⟨K,a⟩:=Ea (κ t (O (δ w.1+1+1) 0) (G b.toNat));rw[<-a];have U:=hid (T.o K a);have s:=U.E;clear a T E;have a:=FQ rb s1 y1 K U.d (J' c.o.sz);have u:=hid a;have E:=M U.a;clear a;go_wp2_with fail
 refine bK u.o ?_;rintro e F ⟨d,N,t,rfl,a,q,k⟩;have i:Fr (λj=>j≠rb) K F:=Fr.dj k (λj _ f=>by simpa using f);have Q:=i.box U.a H';have y:=i.box U.b H';have r:=i.box U.c H';have s:=i.size;have s:=gV d;have T:J (∀V,V=(κ F (O (δ w.1+2) 1) (G d.toNat)).alloc (fL b.toNat d.toNat)->zN V w rb F.1.size (b.toNat:Int) (d.toNat:Int) (i' C' 0 0)/\dq V rb N t/\Fr (λj=>j≠rb) w V):=by
  intro V g;subst g;have o:=Vn F (δ w.1+2) 1 (G d.toNat);have s:δ (κ F (O (δ w.1+2) 1) (G d.toNat)).1=δ F.1:=by simp[World.setCell]
  have t:=Fr.aX (P:=λ_=>True) (cz (κ F (O (δ w.1+2) 1) (G d.toNat)) (fL b.toNat d.toNat));have K:=cv (κ F (O (δ w.1+2) 1) (G d.toNat)) (fL b.toNat d.toNat);rw[s]at K;refine⟨⟨t.box (o.box Q H') trivial,t.box (o.box y H') trivial,t.box (aq r _) trivial,K,I,?_⟩,(q.fr o H').fr t trivial,Fr.trans (Fr.trans (Fr.trans U.e i (λ_ _ h=>h)) o (λj X _=>by show j≠_;omega)) t (λ_ _ _=>trivial)⟩;simp[s]
 have P:=hid a;clear E Q y q k i a u;have E:=M r;clear r;go_upto_region 5 with(fail)
 obtain⟨V2,p⟩:=Ea ((κ F (O (δ w.1+1+1) 1) (G d.toNat)).alloc (fL b.toNat d.toNat));rw[<-p];have q:=hid (T.o V2 p);clear p T U E;have E:=M q.a.2.2.2.1;have a:δ w.1+3<=δ F.1:=I;obtain⟨kb,C⟩:∃kb:Bool,known (b.toNat:Int) (d.toNat:Int)=kb:=⟨_,rfl⟩;cases kb with
 |false=>go_wp2_with fail;refine(lF _ _ _).mono ?_;rw[C];rintro e p ⟨rfl,i⟩;have t:Fr (λ_=>True) V2 p:=Fr.aX (by rw[i];exact bf);have Y:=q.a.fr t (λ_ _=>trivial);have a:=q.b.fr t trivial;have u:=Fr.trans q.B t (λ_ _ _=>trivial);have B:=hid (A a u);clear E;have E:=M Y.1;have l:=M Y.2.1;have W:=M a;clear i t Y a u;have s:¬rb=δ w.1:=I;have s:¬rb=δ w.1+1:=I;have s:¬δ w.1+1=rb:=I;go_wp2_with fail;refine aC (v:=l' fZ) (by simp[results92,go_sem,l.1]) rfl ?_;have o:=Vn p rb 1 (j' O');have y:=fr3 (κ p (O rb 1) (j' O')) (δ w.1+1) (G 0) (G 0) (i' C' 0 0);have s:dq (κ p (O rb 1) (j' O')) rb N O':=aq B.a _;exact⟨aK ⟨XM c.o P.o C,0,0,C',0,0,N,rfl,s.fr y H'⟩,Fr.trans (Fr.trans B.A o (λ_ _ h=>h)) y (λj X h2=>by show j≠_;omega)⟩
 |true=>
  go_wp2_with fail;refine(lF _ _ _).mono ?_;rw[C];rintro e p ⟨rfl,i⟩;have t:Fr (λ_=>True) V2 p:=Fr.aX (by rw[i];exact bf);have Y:=q.a.fr t (λ_ _=>trivial);have a:=q.b.fr t trivial;have u:=Fr.trans q.B t (λ_ _ _=>trivial);have B:=hid (A Y (A a u));clear E i t;have E:=M Y.1;clear Y a u;go_upto_region 8 with(fail)
  have a:=Uz c.o P.o C;obtain⟨k,i⟩:=a;subst k;have a:N.size<=60000:=by have:=c.o.sz;have:=P.o.sz;omega
  have T:=λ(V:u') (g:dq V rb N P')=>nH rb N P' 60 V g a ⟨I,I⟩;have a:=λ(V:u') (k:Nat) (S:z') (x:Bool) (z:S.size<=60000) (r:k<=60) (g:dq V rb S x) (o:pR F.1.size w.1.size rb (b.toNat:Int) (d.toNat:Int) V)=>Kj (b.toNat:Int) (d.toNat:Int) w.1.size F.1.size rb k S x V I I g o z I;have Q:=hid (A T (A a (A B.a (A i (A B.b B.B)))));clear T a i c P B;have a:δ F.1<δ p.1:=Q.c.2.2.2.2.2
  go_cut [] from 24 (λq=>∃(i:x') (c u k:Nat) (S P:z') (x Y:Bool),J (zN q w rb F.1.size (b.toNat:Int) (d.toNat:Int) (i' i c u)/\SmK N P' 60 k S x/\LsN q p.1.size k S x (b.toNat:Int) (d.toNat:Int) i c u P Y/\dq q rb P Y/\Fr (λj=>j≠rb) w q/\δ p.1<=δ q.1))
  case first=>
   go_region_law (first|(have _:=B;go_simp;refine(Q.b _ k S x z hk8 (by exact B.b) (by exact⟨B.c.2.2.2.1,B.c.1⟩)).mono ?_;rintro e W5 ⟨h5,f5⟩;obtain⟨i,c,u,P,Y,rfl,U,T⟩:=h5.one;have a:=f5.box B.c.2.2.1 (show _≠_ by omega);have W:=M a;have s:=hid (A U (A T f5));clear U T f5 h5 a)|(go_simp;refine(Q.a _ (by exact Q.e)).mono ?_;rintro e g ⟨k,S,x,rfl,r,e,o⟩;have a:Fr (λj=>j≠rb) p g:=Fr.trans (Fr.aX (P:=λj=>j≠rb) (by repeat(first|with_reducible exact aQ|with_reducible refine below_drewN ?_ _|with_reducible refine jh ?_))) (Fr.dj o (λj _ f=>by simpa using f)) (λ_ _ f=>f);have v:=Q.c.fr a (λj f=>by show j≠rb;omega);have z:S.size<=60000:=(J' r.1);have hk8:k<=60:=(by rcases r.2 with⟨_,_,q⟩|⟨_,_,q⟩<;>omega);have l:=M v.1;have B:=hid (A r (A e (A v a)));clear r e v a o))
   all_goals
    go_wp2_with fail
    go_meet
    obtain⟨t,q,p⟩:=s.o;have a:=p.size;have e:=B.C;have r:=e.size;have o:Fr (λj=>j≠rb) g W5:=Fr.trans (Fr.aX (P:=λj=>j≠rb) (by repeat(first|with_reducible exact aQ|with_reducible refine below_drewN ?_ _|with_reducible refine jh ?_))) p (λ_ _ h=>h);have z:=B.c.fr o (λj f=>by show j≠rb;omega);have R:=Vn W5 (δ w.1+2) 2 (i' i c u);refine⟨i,c,u,k,S,P,x,Y,⟨R.box z.1 H',R.box z.2.1 H',aq z.2.2.1 _,R.box z.2.2.2.1 H',z.2.2.2.2.1,mG z.2.2.2.2.2 R.size⟩,B.a,t.fr R (λj f=>by show j≠_;omega) r,q.fr R H',?_,bD (bD r a) R.size⟩;exact Fr.trans (Fr.trans (Fr.trans Q.E e (λ_ _ h=>h)) o (λj X h2=>h2)) R (λj X _=>by show j≠_;omega)
  obtain⟨i,c,u,k,S,P,x,Y,a⟩:=hcut
  rename u'=>U
  clear E;have E:=M a.a.2.2.1;have l:=M a.a.2.1;go_wp2_with fail;refine aC (v:=l' (kM b.toNat d.toNat i c u)) (by simp[results92,go_sem,l.1]) rfl ?_;have y:=fr3 U (δ w.1+1) (G b.toNat) (G d.toNat) (i' i c u);refine⟨UA Q.d C a.b (a.c.fr y (λj f=>by show j≠_;omega) aF) I (a.d.fr y H'),?_⟩;exact Fr.trans a.e y (λj X h2=>by show j≠_;omega)
end
def TP(s p:z')(w:u'):Cl 229 #[m' s,m' p] w λe a=>e=p' (j' (Lib.hasPrefix s.1.1 p.1.1))/\a=w:=by
 rw[<-Lib.hasPrefix_of_take,<-Lib.size_eq,<-Lib.size_eq];go_enter func229,ntmps229;go_wp2
 ·rename_i h;go_ret;refine⟨?_,rfl⟩;show p' (j' ((s.extract 0 p.size).toList==p.toList))=_;rw[Lib.extract_toList,Lib.toList_data];simp[h]
 rename_i h;go_ret;refine⟨?_,rfl⟩;show p' (j' P')=_;simp[h]
def BW{p:z'}(h:Lib.hasPrefix s.1.1 p.1.1=O'):p.size<=s.size:=by rw[<-Lib.hasPrefix_raw]at h;simp only[bh,bq]at h;exact h.1
def Q9(h:p:=by
 have Y:=hid T;clear T;go_enter func155,ntmps155;go_wp2_with (go_at_call 229;refine bK Y.o ?_;rintro e t ⟨rfl,rfl⟩);go_ret2
 exact⟨rfl,rfl⟩):p:=h
def Uo(s p:z')(w:u'):Cl 155 #[m' s,m' p] w λe a=>e=p' (t' #[m' (if Lib.hasPrefix s.1.1 p.1.1=O' then s.extract p.size s.size else s),j' (Lib.hasPrefix s.1.1 p.1.1)])/\a=w:=by
 have T:=TP s p w;obtain⟨b,a⟩:∃b,Lib.hasPrefix s.1.1 p.1.1=b:=⟨_,rfl⟩;rw[a]at T⊢;cases b with
 |true=>have U:=BW a;exact Q9
 |false=>exact Q9
def PH(s p:z')(w:u'):Cl 91 #[m' s,m' p] w λe a=>e=p' (t' #[m' (if Lib.hasPrefix s.1.1 p.1.1=O' then s.extract p.size s.size else s),j' (Lib.hasPrefix s.1.1 p.1.1)])/\a=w:=by
  have T:=Uo s p w;obtain⟨b,a⟩:∃b,Lib.hasPrefix s.1.1 p.1.1=b:=⟨_,rfl⟩;rw[a]at T⊢;have Y:=hid T;clear T
  cases b<;>(
    go_enter func91,ntmps91;go_wp2_with (go_at_call 155;refine bK Y.o ?_;rintro e t ⟨rfl,rfl⟩);go_ret2
    exact⟨rfl,rfl⟩)
def vF:z':=⟨#[87,67,1]⟩
def Pt(h:Lib.hasPrefix s.1.1 vF.1.1=O'):s.1.1=[87,67,1]++(s.extract vF.size s.size).1.1:=by
 have U:=BW h;have C:s.1.1.take 3=[87,67,1]:=by have:=isPrefixOf_iff_prefix.1 (show[87,67,1].isPrefixOf s.1.1=O' from h);exact(prefix_iff_eq_take.1 this).symm
 have a:(s.extract vF.size s.size).1.1=s.1.1.drop 3:=by rw[<-Lib.toList_data,Lib.extract_toList];exact cH (by rw[nW];exact aF)
 rw[a,<-C,oT]
def TL(h:Lib.hasPrefix s.1.1 vF.1.1=P'):dec s.1.1=C':=by
 unfold dec;split
 ·rename_i r e;rw[e]at h;simp[Lib.hasPrefix,vF]at h
 rfl
def acD{r:y'}(h:s.1.1=[87,67,1]++r)(X:s.size<=60000):(∀c,ie r=B' (c,[])->jz c=O'->dec s.1.1=B' c)/\(∀c,ie r=B' (c,[])->jz c=P'->dec s.1.1=C')/\(∀c b q,ie r=B' (c,b::q)->dec s.1.1=C')/\(ie r=C'->dec s.1.1=C'):=by
 have C:ζ s.1.1=s.size:=rfl;rw[h]at C⊢;simp only[cW,ej]at C⊢;have L:ζ (87::67::1::r)<=60000:=I;refine⟨λc T a=>?_,λc T a=>?_,λc b q T=>?_,λT=>?_⟩<;>(unfold dec;simp only;rw[aB L,T])
 ·simp only;rw[aB a]
 simp only;rw[a];rfl
def CtK(W:u')(B:Nat)(l:y')(p g:Int)(la:x')(ll lc:Nat)(s':z')(bb:Bool):Prop:=
 (bb=P'/\∃cl:List N5,ie l=B' (⟨p,g,cl.map N5.n⟩,s'.1.1)/\ll=ζ cl/\ρ W B 96 5 (i' la ll lc) ll (dJ cl)/\(∀c∈cl,eG W B c)/\Eh cl)\/(bb=O'/\ie l=C')
def CtR.one{w W:u'}{c:Nat}{e:Ending}(h:CtR w W c s e):∃(p g:Int) (i:x') (j R:Nat) (a:z') (b:Bool),e=p' (l' (kM p g i j R))/\dq W c a b/\CtK W w.1.size s.1.1 p g i j R a b:=by
 rcases h with⟨c,D,a,i,R,V,u,e,f,o,b,d⟩|⟨V,p,g,i,j,R,a,e,d⟩;rotate_left
 ·exact⟨p,g,i,j,R,a,O',e,d,aK ⟨rfl,V⟩⟩
 have X:ζ c.nodes=ζ D:=by rw[u];simp
 obtain⟨p,g,v⟩:=c;simp only at u e f X;subst u;rw[X]at e f;exact⟨p,g,i,ζ D,R,a,P',e,d,aI ⟨rfl,D,V,rfl,f,o,b⟩⟩
def DcR(w W':u')(s:z')(e:Ending):Prop:=
 (∃(c:Ct) (cl:List N5) (la:x') (lc:Nat),dec s.1.1=B' c/\c.nodes=cl.map N5.n/\e=p' (t' #[l' (kM c.aE c.grade la (ζ c.nodes) lc),G 0])/\ρ W' w.1.size 96 5 (aO la (ζ c.nodes) lc) (ζ c.nodes) (dJ cl)/\(∀c∈cl,eG W' w.1.size c)/\Eh cl)\/
 (dec s.1.1=C'/\e=p' (t' #[l' fZ,G 5]))
def Q?(h:p:=by
 go_enter func44,ntmps44;go_wp2_with (go_at_call 91;refine bK (Y.o _) ?_;rintro e t ⟨rfl,rfl⟩);refine aC (v:=.tuple #[.agg fZ,G 5]) (by simp[results,results44,go_sem]) rfl ?_
 exact⟨aK ⟨K.o,rfl⟩,bf⟩):p:=h
def FW(s:z')(w:u'):
  Cl 44 #[m' s] w λe a=>DcR w a s e/\Bl w a:=by
 have T:=λW=>PH s vF W;obtain⟨b,c⟩:∃b,Lib.hasPrefix s.1.1 vF.1.1=b:=⟨_,rfl⟩;rw[c]at T;have K:∀W,Cl 91 #[m' s,m' ⟨#[87,67,1]⟩] W λe a=>e=p' (t' #[m' (if b=true then s.extract 3 s.size else s),j' b])/\a=W:=T;have Y:=hid K;clear T K;cases b with
 |false=>
  have K:=hid (TL c)
  skip
  exact Q?
 |true=>
  have a:=hid (Pt c)
  skip
  by_cases L:s.size<=60000;rotate_left
  ·have i:(60000:Int)<(s.size:Int):=I;have b:dec s.1.1=C':=by rw[a.o];unfold dec;simp only[cW,ej];rw[aA];intro h;have:=dZ length a.o;simp only[bF,cC,gN]at this h;have C:ζ s.1.1=s.size:=rfl;omega
   have K:=hid b;clear b;exact Q?
  have i:¬(60000:Int)<(s.size:Int):=I;have HD:=hid (acD a.o L)
  skip
  have f:(s.extract 3 s.size).size<=60000:=by have:=dZ length a.o;rw[bF]at this;have C:ζ s.1.1=s.size:=rfl;have b:ζ (s.extract vF.size s.size).1.1=(s.extract 3 s.size).size:=rfl;rw[C,b]at this;omega
  go_enter func44,ntmps44;go_upto_region 6 with(go_at_call 91;refine bK (Y.o _) ?_;rintro e t ⟨rfl,rfl⟩)
  obtain⟨S,X⟩:=Ea (((w.alloc (k' fZ 51)).alloc (k' #[m' (s.extract 3 s.size),j' false] 178)));rw[<-X];have D:δ S.1=δ w.1+2:=by rw[X];simp
  obtain⟨Q,y⟩:=bL w (k' fZ 51) (k' #[m' (s.extract 3 s.size),j' false] 178);rw[<-X]at Q y;have L:Bl w S:=by rw[X];exact cG
  refine(Ke (δ w.1+1) (s.extract 3 s.size) S y f).mono ?_;rintro e K ⟨b,B⟩;have U:=B.box Q (by show _≠_;omega);have a:=B.size;have a:Bl w K:=L.trans (B.below I (λk C=>by show k≠_;omega));clear X Q y L B;obtain⟨p,g,i,j,R,c,l,rfl,d,C⟩:=b.one;have v:=hid (A C (A U (A d a)));clear b C U d a;go_upto_region 6 with(fail)
  obtain⟨b,d⟩:=Ea (K.alloc (k' (kM p g i j R) 51));rw[<-d];have t:Fr (λ_=>True) K b:=Fr.aX (by rw[d];exact bf);have Q:=t.box v.b trivial;have y:=v.c.fr t trivial;have r:b.1[δ K.1]?=B' (k' (kM p g i j R) 51 (0,0)):=by rw[d];exact bV
  have a:δ b.1=δ K.1+1:=by rw[d];simp
  have P:Bl w b:=v.C.trans (by rw[d];exact(cz K _).mono I);have B:=hid (A Q (A y (A r (A t P))));have E:=M Q;have U:=M y;have L:=M r;clear d t Q y r P;cases l with
  |true=>go_wp2_with fail;refine aC (v:=t' #[l' fZ,G 5]) (by simp[results,results44,go_sem,E.1]) rfl ?_;exact⟨aK ⟨HD.C (by rcases v.a with⟨h,_⟩|⟨_,h⟩;(cases h);exact h),rfl⟩,B.D.trans ((fr3 b w.1.size (.int .i64 0) (.int .i64 0) (i' C' 0 0)).below I (λk C=>by show k≠_;omega))⟩
  |false=>
   by_cases r:c.size=0;rotate_left
   ·have z:=Rz (Nat.pos_of_ne_zero r);go_wp2_with fail
    have W:dec s.1.1=C':=by
     rcases v.a with⟨_,D,h,_⟩|⟨h,_⟩
     ·cases d:c.1.1 with
      |nil=>exact absurd (show c.size=0 by rw[<-VP,d];rfl) r
      |cons a q=>rw[d]at h;exact HD.c _ _ _ h
     cases h
    refine aC (v:=t' #[l' fZ,G 5]) (by simp[results,results44,go_sem,E.1]) rfl ?_;exact⟨aK ⟨W,rfl⟩,B.D.trans ((fr3 b w.1.size (G 0) (G 0) (i' C' 0 0)).below I (λk C=>by show k≠_;omega))⟩
   have l:c=⟨#[]⟩:=data_inj (by have:ζ c.1.1=0:=r;simpa using du.1 this);subst l;obtain⟨D,N,u,o,d,a⟩:∃D:List N5,ie (s.extract 3 s.size).1.1=B' (⟨p,g,D.map N5.n⟩,[])/\j=ζ D/\ρ K S.1.size 96 5 (i' i j R) j (dJ D)/\(∀c∈D,eG K S.1.size c)/\Eh D:=by
    rcases v.a with⟨_,h⟩|⟨h,_⟩
    ·exact h
    cases h
   subst u;have j:zM ⟨p,g,D.map N5.n⟩:=FD (by show(s.extract 3 s.size).1.1.length<=60000;exact f) N;have W:b9 b i (D.map N5.n):=kE (B.d.own o (λ_ _=>trivial)) (λx F=>((d x F).fr B.d (λ_ _=>trivial) aF).own);have u:=KM i R ⟨p,g,D.map N5.n⟩ b W j;simp only[b!]at u;obtain⟨f,l⟩:∃f,jz ⟨p,g,D.map N5.n⟩=f:=⟨_,rfl⟩;rw[l]at u;have F:=hid (A u (A N (A o (A d (A a l)))));clear u N o d a j W r;cases f with
   |true=>
    go_wp2_with fail;refine bK F.a ?_;clear E U L;rintro e l ⟨rfl,v⟩;have a:Fr (λ_=>True) b l:=Fr.aX v;have E:=M (a.box B.a trivial);have L:=M (a.box B.c trivial);have d:=hid a;clear a v;go_wp2_with fail;have o:=d.o.size;refine aC (v:=t' #[l' (kM p g i (ζ D) R),G 0]) (by simp[results,results44,go_sem,E.1]) rfl ?_;have r:=fr3 l w.1.size (G p) (G g) (aO i (ζ D) R);have q:Fr (λj=>j≠δ w.1) K _:=Fr.trans (Fr.trans (B.d.mono (λ_ _ _=>trivial)) d.o (λ_ _ _=>trivial)) r (λ_ _ h=>h);refine⟨aI ⟨⟨p,g,D.map N5.n⟩,D,i,R,HD.a _ F.b F.E,rfl,ak,?_,λc T=>(F.d c T).fr q (λj f=>by show j≠_;omega) I,F.e⟩,?_⟩
    ·simp only[b!];exact a! (q.own F.c (λk C=>by have:=(F.c.lt k C).1;show k≠_;omega)) I
    exact(B.D.trans (d.o.below I (λ_ _=>trivial))).trans (r.below I (λk C=>by show k≠_;omega))
   |false=>go_wp2_with fail;refine bK F.a ?_;clear E U L;rintro e l ⟨rfl,v⟩;have a:Fr (λ_=>True) b l:=Fr.aX v;have E:=M (a.box B.a trivial);have L:=M (a.box B.c trivial);have d:=hid a;clear a v;go_wp2_with fail;have o:=d.o.size;refine aC (v:=t' #[l' fZ,G 5]) (by simp[results,results44,go_sem,E.1]) rfl ?_;exact⟨aK ⟨HD.b _ F.b F.E,rfl⟩,(B.D.trans (d.o.below I (λ_ _=>trivial))).trans ((fr3 l w.1.size (G 0) (G 0) (i' C' 0 0)).below I (λk C=>by show k≠_;omega))⟩
section
variable {p:Int}
def i7.alloc{W w:u'}{T:x'}{D r c:Nat}{x:N5}{a:Nat}{b:Bool}(h:i7 W w p g T D r c s x a b)(o:Obj):i7 (W.alloc o) w p g T D r c s x a b:=by have f:=h.lt;have X:∀(k:Nat) (L:Array A') (t:TypeId),W.1[k]?=B' (k' L t (0,0))->(W.alloc o).1[k]?=B' (k' L t (0,0)):=λk L t a=>(bQ (aY.1 a).1).trans a;exact⟨⟨X _ _ _ h.bx.1,X _ _ _ h.bx.2.1,X _ _ _ h.bx.2.2⟩,X _ _ _ h.rd,gp h.gr o,⟨h.ok.f.alloc o,h.ok.r.alloc o,h.ok.v.alloc o,h.ok.ap⟩⟩
def abJ(W:u')(v:Vl):∀(j:Nat) (u:A'),(eT v)[j]?=B' u->χ (W.alloc (k' #[G v.aG,G v.lo,G v.hi,j' v.bJ,G v.first,G v.rank] 73)) (((O W.1.size 0):Addr).add j)=B' u:=by intro j u f;rw[eX,bW,AL];simpa[eT]using f
def EG{C t i k:Nat}{j l:Bool}{E:List Vl}{rk:Int}(b:dz s C j (bp (stepW p g) i ()) (E,()) t l)(d:i<=k)(a:l=O'\/i=k):dz s C j (eL (bp (stepW p g) k ()) (λc=>jP (⟨[],[],O',rk,c.1⟩:Nd))) ⟨[],[],O',rk,E⟩ t l:=by
 rcases a with h|h
 ·subst h;exact(b.cut d (E,())).bind (dz.ret O' _ b.sz)
 subst h;exact b.bind (dz.ret l _ b.sz)
def Zd{p:Prop}(h:p:=by
 obtain⟨q1,q2⟩:=M hvb;obtain⟨y1,y2⟩:=M H7.o.bx.2.2;clear o hB hM hvb Th;go_wp2_with (at_builtin;refine qD _ rfl _ _ 71 rfl (δ w.1+3) 73 i1 (l' jn) 6 48 underlying71 HI.a HI.b HI.c HI.C rfl aj (i' z (ζ E) x) (ζ E) (fh E) rfl HO.a (O V6.1.size 0) 1 1 (eT v) rfl rfl (abJ V6 v) (by intro u hu;simp[eT]at hu;rcases hu with rfl|rfl|rfl|rfl|rfl|rfl<;>rfl) HO.c HO.C HO.b ?_;intro v9 l o9 F _ w9;obtain⟨a9,c9,rfl⟩:=aV o9;have H8:=hid (HA.o a9 c9 l o9 F);clear y1 y2 q1 q2 o9 F w9;obtain⟨y1,y2⟩:=M H8.a);refine⟨⟨i+1,a9,c9,E++[v],U,b6,I,f',⟨by rw[bF,HY.a];rfl,?_,HY.B.snoc HK6.A.stepW⟩,H8.A⟩,by simp[intOf];omega⟩;intro f Y;rcases eE.1 Y with Y|Y
 ·exact HY.b f Y
 simp at Y;subst Y
 exact HK6.a):p:=h
def Uj(p g:Int)(U:¬p<=4)(T:x')(D r:Nat)(rb a:Nat)(s:z')(bad:Bool)(w:u')(h:mE w rb s a bad)(Y:a<=s.size)(hs:s.size<=60000):
  Cl 65 #[o' (B' (O rb 0)),l' #[G p,G g,i' T D r]] w λe b=>NdA w b rb s a bad (Hf p g) e:=by
 have L:=(aY.1 h).1;have f:=hid h;clear h;obtain⟨i1,hi,b,tF,c⟩:=cQ KQ;have HI:=hid (A hi (A b (A tF c)));clear hi b tF c;go_enter func65,ntmps65;go_upto_region 2 with(fail)
 obtain⟨b,X⟩:=Ea ((((w.alloc (k' #[G p,G g,i' T D r] 51)).alloc (k' gH 96)).alloc (k' gH 96)));rw[<-X];have j:J (i7 b w p g T D r rb s ZQ a bad):=by rw[X];exact i7.start p g T D r f.o
 clear X;obtain⟨x1,x2⟩:=M j.o.bx.1;go_wp2_with fail;clear x1 x2;refine(eJ rb a 1 s bad b j.o.rd Y hs I).mono ?_;rintro e W1 ⟨y,N,b1,rfl,B,b,U,f⟩;have c:=hid (j.o.call L U f);have R:=hid b;have tF:=b.sz;clear U f b;obtain⟨x1,x2⟩:=M c.o.bx.1;obtain⟨y1,y2⟩:=M c.o.bx.2.2;obtain⟨r1,r2⟩:=M c.o.bx.2.1;by_cases hy0:y=0
 ·subst hy0;simp only[ZQ,nN]at y1;go_wp2_with fail;refine aC (v:=mf ZQ) (by simp[results65,go_sem,r1,mf,ZQ,nN]) rfl ?_;refine c.o.fin L SS (R.o.bind ?_);rw[aB rfl];exact dz.ret b1 _ tF
 have b:((y:Int)==0)=P':=by rw[b?];omega
 by_cases hg:g=1;rotate_left
 ·have fg:(g==1)=P':=by rw[b?];exact hg
  have HG:=hid hg;clear hg;go_wp2_with fail;obtain⟨q,b⟩:=Ea (κ W1 (O (δ w.1+1+1) 2) (j' O'));rw[<-b];have H2:J (i7 q w p g T D r rb s ⟨C',0,C',0,C',0,⟨[],[],O',0,[]⟩⟩ N b1):=by rw[b];exact c.o.set L 2 _ rfl ⟨cb,cb,cb,aI rfl⟩
  clear b x1 x2 y1 y2 r1 r2;have H4:=hid H2;have W:(0:Nat)<=100000:=I;have Vb:J (dz s N b1 (vJ g) 0 N b1):=by rw[vJ,aA HG.o];exact dz.ret b1 _ tF
  refine(eJ rb N 8 s b1 q H4.o.rd tF hs I).mono ?_;rintro e W4 ⟨k,C,j,rfl,hk,BT,Qf,GM⟩;have H5:=hid (H4.o.call L Qf GM);have Vw:=hid BT;have hz4:=BT.sz;clear Qf GM BT;go_wp2_with fail;go_loopw[14] (λy wr=>∃(i:Nat) (z:x') (x:Nat) (E:List Vl) (t:Nat) (b5:Bool),i<=k/\y=G i/\J (ζ E=i/\(∀v∈E,tU v)/\dz s C j (bp (stepW p g) i ()) (E,()) t b5)/\J (i7 wr w p g T D r rb s ⟨C',0,C',0,z,x,⟨[],[],O',((0:Nat):Int),E⟩⟩ t b5)) (λy _=>k-(intOf y).toNat)
  case atStart=>exact⟨0,C',0,[],C,j,I,rfl,⟨rfl,(λf Y=>by cases Y),dz.start j _ _ hz4⟩,H5.o⟩
  obtain⟨i,z,x,E,t,b5,hik,rfl,HY,X⟩:=hrel;obtain⟨z1,z2⟩:=M X.o.rd;obtain⟨x1,x2⟩:=M X.o.bx.1;obtain⟨y1,y2⟩:=M X.o.bx.2.2;obtain⟨r1,r2⟩:=M X.o.bx.2.1;have B:J (dY ⟨[],[],O',((0:Nat):Int),E⟩):=⟨(λf Y=>by cases Y),(λf Y=>by cases Y),⟨by simp only;omega,by simp only;omega⟩,HY.b,ak,ak,(by have:=HY.a;simp only;omega)⟩;have Ap:J (b5=O'\/i=k->dz s a bad (Hf p g) ⟨[],[],O',((0:Nat):Int),E⟩ t b5):=by intro hE;refine R.o.bind ?_;rw[aA hy0];exact Vb.o.bind (Vw.o.bind (EG HY.B hik hE))
  by_cases acm:i<k;rotate_left
  ·have tH:¬(i:Int)<k:=I;go_wp2_with fail;refine aC (v:=mf ⟨C',0,C',0,z,x,⟨[],[],O',((0:Nat):Int),E⟩⟩) (by simp[results65,go_sem,r1,mf]) rfl ?_;exact X.o.fin L B.o (Ap.o (by first|exact aK I|simp))
  have tH:(i:Int)<k:=I;cases b5 with
  |false=>
   go_wp2_with fail;clear z1 z2 x1 x2 y1 y2 r1 r2;refine(G9 p g T D r rb t s P' wr X.o.rd HY.B.sz hs).mono ?_;rintro e W6 ⟨v,U,b6,rfl,hv,hk6,hd6,hg6⟩;have H6:=hid (X.o.call L hd6 hg6);have HK6:J (tU v/\dz s t P' (hY p g) v U b6):=⟨hv,hk6⟩;clear hd6 hg6 hk6 hv;simp only[fT];go_upto_region 28 with(fail)
   obtain⟨V6,Th⟩:=Ea (W6.alloc (k' #[G v.aG,G v.lo,G v.hi,j' v.bJ,G v.first,G v.rank] 73));rw[<-Th];have H7:J (i7 V6 w p g T D r rb s ⟨C',0,C',0,z,x,⟨[],[],O',((0:Nat):Int),E⟩⟩ U b6):=by rw[Th];exact H6.o.alloc _
   have hvb:d' V6 W6.1.size #[G v.aG,G v.lo,G v.hi,j' v.bJ,G v.first,G v.rank] 73:=by rw[Th];exact bV
   have o:ρ (V6.alloc (k' #[G v.aG,G v.lo,G v.hi,j' v.bJ,G v.first,G v.rank] 73)) (δ w.1+3) 73 6 (i' z (ζ E) x) (ζ E) (fh E):=H7.o.ok.v.alloc _;have hB:δ w.1+3<=δ (V6.alloc (k' #[G v.aG,G v.lo,G v.hi,j' v.bJ,G v.first,G v.rank] 73)).1:=by have:=H7.o.lt;simp;omega
   have hM:ζ E+1<=maxLen/\(ζ E+1)*48<=140737488355328:=by have:=HY.a;simp only[maxLen];omega
   have HO:=hid (A o (A hB hM));have HA:J (∀(a9:x') (c9:Nat) (l:u'),ρ l (δ w.1+3) 73 6 (i' a9 (ζ E+1) c9) (ζ E+1) (fh E++eT v)->ξ (V6.alloc (k' #[G v.aG,G v.lo,G v.hi,j' v.bJ,G v.first,G v.rank] 73)) l (φ (i' z (ζ E) x))->d' l (δ w.1+2) #[i' C' 0 0,i' C' 0 0,j' O',G ((0:Nat):Int),i' z (ζ E) x] 96/\i7 (κ l (O (δ w.1+2) 4) (i' a9 (ζ E+1) c9)) w p g T D r rb s ⟨C',0,C',0,a9,c9,⟨[],[],O',((0:Nat):Int),E++[v]⟩⟩ U b6):=by intro a9 c9 l o9 F;exact⟨(H7.o.Ar L F (gj H7.o.ok.v)).1.2.2,i7.aaw H7.o L o9 F⟩
   exact Zd
  |true=>go_wp2_with fail;refine aC (v:=mf ⟨C',0,C',0,z,x,⟨[],[],O',((0:Nat):Int),E⟩⟩) (by simp[results65,go_sem,r1,mf]) rfl ?_;exact X.o.fin L B.o (Ap.o (by first|exact aI rfl|exact aI trivial|simp))
 have fg:(g==1)=O':=by rw[bT];exact hg
 have HG:=hid hg;clear hg;go_wp2_with fail;obtain⟨q,b⟩:=Ea (κ W1 (O (δ w.1+1+1) 2) (j' O'));rw[<-b];have H2:J (i7 q w p g T D r rb s ⟨C',0,C',0,C',0,⟨[],[],O',0,[]⟩⟩ N b1):=by rw[b];exact c.o.set L 2 _ rfl ⟨cb,cb,cb,aI rfl⟩
 clear b x1 x2 y1 y2 r1 r2;refine(eJ rb N 100000 s b1 q H2.o.rd tF hs I).mono ?_;rintro e W2 ⟨rk,b,q,rfl,W,c,W,GN⟩;have H3:=hid (H2.o.call L W GN);have Vb:J (dz s N b1 (vJ g) rk b q):=by rw[vJ,aB HG.o];exact c
 have N:=c.sz;clear W GN c;obtain⟨y1,y2⟩:=M H3.o.bx.2.2;go_wp2_with fail;obtain⟨W,c⟩:=Ea (κ W2 (O (δ w.1+1+1) 3) (G rk));rw[<-c];have H4:J (i7 W w p g T D r rb s ⟨C',0,C',0,C',0,⟨[],[],O',(rk:Int),[]⟩⟩ b q):=by rw[c];exact H3.o.set L 3 _ rfl ⟨cb,cb,cb,aI rfl⟩
 clear c y1 y2;refine(eJ rb b 8 s q W H4.o.rd N hs I).mono ?_;rintro e W4 ⟨k,C,j,rfl,hk,BT,Qf,GM⟩;have H5:=hid (H4.o.call L Qf GM);have Vw:=hid BT;have hz4:=BT.sz;clear Qf GM BT;go_wp2_with fail;go_loopw[14] (λy wr=>∃(i:Nat) (z:x') (x:Nat) (E:List Vl) (t:Nat) (b5:Bool),i<=k/\y=G i/\J (ζ E=i/\(∀v∈E,tU v)/\dz s C j (bp (stepW p g) i ()) (E,()) t b5)/\J (i7 wr w p g T D r rb s ⟨C',0,C',0,z,x,⟨[],[],O',(rk:Int),E⟩⟩ t b5)) (λy _=>k-(intOf y).toNat)
 case atStart=>exact⟨0,C',0,[],C,j,I,rfl,⟨rfl,(λf Y=>by cases Y),dz.start j _ _ hz4⟩,H5.o⟩
 obtain⟨i,z,x,E,t,b5,hik,rfl,HY,X⟩:=hrel;obtain⟨z1,z2⟩:=M X.o.rd;obtain⟨x1,x2⟩:=M X.o.bx.1;obtain⟨y1,y2⟩:=M X.o.bx.2.2;obtain⟨r1,r2⟩:=M X.o.bx.2.1;have B:J (dY ⟨[],[],O',(rk:Int),E⟩):=⟨(λf Y=>by cases Y),(λf Y=>by cases Y),⟨by simp only;omega,by simp only;omega⟩,HY.b,ak,ak,(by have:=HY.a;simp only;omega)⟩;have Ap:J (b5=O'\/i=k->dz s a bad (Hf p g) ⟨[],[],O',(rk:Int),E⟩ t b5):=by intro hE;refine R.o.bind ?_;rw[aA hy0];exact Vb.o.bind (Vw.o.bind (EG HY.B hik hE))
 by_cases acm:i<k;rotate_left
 ·have tH:¬(i:Int)<k:=I;go_wp2_with fail;refine aC (v:=mf ⟨C',0,C',0,z,x,⟨[],[],O',(rk:Int),E⟩⟩) (by simp[results65,go_sem,r1,mf]) rfl ?_;exact X.o.fin L B.o (Ap.o (by first|exact aK I|simp))
 have tH:(i:Int)<k:=I;cases b5 with
 |false=>
  go_wp2_with fail;clear z1 z2 x1 x2 y1 y2 r1 r2;refine(G9 p g T D r rb t s P' wr X.o.rd HY.B.sz hs).mono ?_;rintro e W6 ⟨v,U,b6,rfl,hv,hk6,hd6,hg6⟩;have H6:=hid (X.o.call L hd6 hg6);have HK6:J (tU v/\dz s t P' (hY p g) v U b6):=⟨hv,hk6⟩;clear hd6 hg6 hk6 hv;simp only[fT];go_upto_region 28 with(fail)
  obtain⟨V6,Th⟩:=Ea (W6.alloc (k' #[G v.aG,G v.lo,G v.hi,j' v.bJ,G v.first,G v.rank] 73));rw[<-Th];have H7:J (i7 V6 w p g T D r rb s ⟨C',0,C',0,z,x,⟨[],[],O',(rk:Int),E⟩⟩ U b6):=by rw[Th];exact H6.o.alloc _
  have hvb:d' V6 W6.1.size #[G v.aG,G v.lo,G v.hi,j' v.bJ,G v.first,G v.rank] 73:=by rw[Th];exact bV
  have o:ρ (V6.alloc (k' #[G v.aG,G v.lo,G v.hi,j' v.bJ,G v.first,G v.rank] 73)) (δ w.1+3) 73 6 (i' z (ζ E) x) (ζ E) (fh E):=H7.o.ok.v.alloc _;have hB:δ w.1+3<=δ (V6.alloc (k' #[G v.aG,G v.lo,G v.hi,j' v.bJ,G v.first,G v.rank] 73)).1:=by have:=H7.o.lt;simp;omega
  have hM:ζ E+1<=maxLen/\(ζ E+1)*48<=140737488355328:=by have:=HY.a;simp only[maxLen];omega
  have HO:=hid (A o (A hB hM));have HA:J (∀(a9:x') (c9:Nat) (l:u'),ρ l (δ w.1+3) 73 6 (i' a9 (ζ E+1) c9) (ζ E+1) (fh E++eT v)->ξ (V6.alloc (k' #[G v.aG,G v.lo,G v.hi,j' v.bJ,G v.first,G v.rank] 73)) l (φ (i' z (ζ E) x))->d' l (δ w.1+2) #[i' C' 0 0,i' C' 0 0,j' O',G rk,i' z (ζ E) x] 96/\i7 (κ l (O (δ w.1+2) 4) (i' a9 (ζ E+1) c9)) w p g T D r rb s ⟨C',0,C',0,a9,c9,⟨[],[],O',(rk:Int),E++[v]⟩⟩ U b6):=by intro a9 c9 l o9 F;exact⟨(H7.o.Ar L F (gj H7.o.ok.v)).1.2.2,i7.aaw H7.o L o9 F⟩
  exact Zd
 |true=>go_wp2_with fail;refine aC (v:=mf ⟨C',0,C',0,z,x,⟨[],[],O',(rk:Int),E⟩⟩) (by simp[results65,go_sem,r1,mf]) rfl ?_;exact X.o.fin L B.o (Ap.o (by first|exact aI rfl|exact aI trivial|simp))
def PD(p g:Int)(T:x')(D r:Nat)(c a:Nat)(s:z')(b:Bool)(w:u')(h:mE w c s a b)(Y:a<=s.size)(y:s.size<=60000):
  Cl 65 #[o' (B' (O c 0)),l' #[G p,G g,i' T D r]] w λe d=>NdA w d c s a b (pJ p g) e:=by
 unfold pJ;by_cases U:p<=4
 ·rw[aB U];exact Ud p g U T D r c a s b w h Y y
 rw[aA U];exact Uj p g U T D r c a s b w h Y y
end
section
variable {S s V:Nat} {T:x'} {U P K:List A'}
structure Lx(w:u')(lo hi:Nat)(na:x')(nc:Nat)(cl:List N5):Prop where
  row:ρ w lo 96 5 (i' na (ζ cl) nc) (ζ cl) (dJ cl)
  ok:∀x∈cl,eG w lo x
  ap:Eh cl
  rhi:∀k,φ (i' na (ζ cl) nc)=B' k->k<hi
  Vp:∀x∈cl,∀k∈blks x,k<hi
  sz:∀x∈cl,ζ x.n.facts<=70000/\ζ x.n.aW<=70000/\ζ x.n.vals<=70000
  len:ζ cl<=60
def Lx.below{b:u'}{r:Nat}{D:List N5}(h:Lx w j S T r D)(a:Bl w b):Lx b j S T r D:=
 ⟨aZ h.row a,λx F=>⟨aZ (h.ok x F).f a,aZ (h.ok x F).r a,aZ (h.ok x F).v a,(h.ok x F).ap⟩,h.ap,h.rhi,h.Vp,h.sz,h.len⟩
def Gb{x:N5}(h:φ x.fv=B' k):k∈blks x:=by simp[blks,Ey,h]
def MR{x:N5}(h:φ x.rv=B' k):k∈blks x:=by simp[blks,Ey,h]
def MQ{x:N5}(h:φ x.vv=B' k):k∈blks x:=by simp[blks,Ey,h]
def Li{x:N5}(h:k∈blks x):φ x.fv=B' k\/φ x.rv=B' k\/φ x.vv=B' k:=by
 simp only[blks,Ey,id,dr,ke,jf]at h;obtain⟨a,a,b⟩:=h;subst b;rcases a with a|a|a
 ·exact aI a.symm
 ·exact aK (aI a.symm)
 exact aK (aK a.symm)
structure NJ(w wr:u')(bb B lo hi Z n1 n4:Nat)(l1 l4 l5 wn rn:A')(s1 s4 s5:List A')(na:x')(nc:Nat)(cl:List N5)(Tk:Nat->Prop):Prop where
  bk:BN wr bb B l1 l4 l5 wn rn s1 s4 s5
  Pe:ζ s1=4*n1
  S8:ζ s4=4*n4
  v1:∀v∈s1,∀k,φ v=B' k->(k<lo\/Z<=k)\/Tk k
  v4:∀v∈s4,∀k,φ v=B' k->(k<lo\/Z<=k)\/Tk k
  fs:∀x∈cl,(∀k,φ x.fv=B' k->¬Tk k)->ρ wr lo 3 1 x.fv (ζ x.n.facts) (x.n.facts.map G)
  rs:∀x∈cl,(∀k,φ x.rv=B' k->¬Tk k)->ρ wr lo 3 1 x.rv (ζ x.n.aW) (x.n.aW.map G)
  vs:∀x∈cl,(∀k,φ x.vv=B' k->¬Tk k)->ρ wr lo 73 6 x.vv (ζ x.n.vals) (fh x.n.vals)
  row:ρ wr lo 96 5 (i' na (ζ cl) nc) (ζ cl) (dJ cl)
  nf:NF B lo hi w wr
  kn:∀(k:Nat) (cur:Array A'),w.1[k]?=B' (k' cur 46 (0,0))->wr.1[k]?=w.1[k]?
  bb:B<=bb
  lo:B<=lo
  hi:hi<=Z
  z:Z<=δ wr.1
def NJ.start{e a:Nat}{t q E o g:A'}{r:Nat}{D:List N5}(h:BN w e B t q E o g U P K)(b:Lx w j S T r D)(C:ζ U=4*s)(d:ζ P=4*V)(c:∀v∈U,∀k,φ v=B' k->k<j\/a<=k)(y:∀v∈P,∀k,φ v=B' k->k<j\/a<=k)(p:B<=e)(l:B<=j)(i:S<=a)(f:a<=δ w.1):NJ w w e B j S a s V t q E o g U P K T r D (λ_=>False):=
 ⟨h,C,d,λv R k a=>aI (c v R k a),λv R k a=>aI (y v R k a),λx F _=>(b.ok x F).f,λx F _=>(b.ok x F).r,λx F _=>(b.ok x F).v,b.row,NF.refl _ _ _ _,λ_ _ _=>rfl,p,l,i,f⟩
def NJ.congr{wr:u'}{c b:Nat}{f d E o g:A'}{r:Nat}{D:List N5}{Tk a:Nat->Prop}(h:NJ w wr c B j S b s V f d E o g U P K T r D Tk)(e:∀k,Tk k↔a k):NJ w wr c B j S b s V f d E o g U P K T r D a:=by have:Tk=a:=funext (λk=>propext (e k));rw[<-this];exact h
def ads {p:Prop} (h:p:=by
  first|(have _:=Td;have X:=h.rs x hx hnt)|(have X:=h.fs x hx hnt)
  have l:=a! X h.lo
  first
    |(
       have _:=Td;have i:∀k,φ x.rv=B' k->lo<=k/\k<hi:=λk d=>⟨(X.lt k d).1,hT.Vp x hx k (MR d)⟩
       have Q:∀v∈s1,∀k,φ v=B' k->some k≠φ x.rv:=by
         intro v R k d e;have C:=i k e.symm;have j:=h.hi;rcases h.v1 v R k d with N|N
         · omega
         · exact hnt k e.symm N)
    |(
       have i:∀k,φ x.fv=B' k->lo<=k/\k<hi:=λk d=>⟨(X.lt k d).1,hT.Vp x hx k (Gb d)⟩
       have Q:∀v∈s1,∀k,φ v=B' k->some k≠φ x.fv:=by
         intro v R k d e;have C:=i k e.symm;have j:=h.hi;rcases h.v1 v R k d with N|N
         · omega
         · exact hnt k e.symm N)
  have j:=h.z;have L:=hN.fr.size
  first
    |(
       have _:=Td;have j:∀v∈s1++[x.rv,y1,y2,y3],∀k,φ v=B' k->(k<lo\/Z<=k)\/(Tk k\/φ x.rv=B' k):=by
         intro v R k d;rcases eE.1 R with R|R
         · rcases h.v1 v R k d with N|N
           · exact aI N
           · exact aK (aI N)
         · rcases(hN.SW v R).2 with e|⟨q,e,t⟩
           · exact aK (aK (e.symm.trans d))
           · rw[e]at d
             cases d
             exact aI (aK I))
    |(have j:∀v∈s1++[x.fv,y1,y2,y3],∀k,φ v=B' k->(k<lo\/Z<=k)\/(Tk k\/φ x.fv=B' k):=by
         intro v R k d;rcases eE.1 R with R|R
         · rcases h.v1 v R k d with N|N
           · exact aI N
           · exact aK (aI N)
         · rcases(hN.SW v R).2 with e|⟨q,e,t⟩
           · exact aK (aK (e.symm.trans d))
           · rw[e]at d
             cases d
             exact aI (aK I))
  refine⟨h.bk.af9 h.Pe l hN Q,?_,?_,?_,?_,?_,?_,?_,?_,h.nf.trans (hN.nf1 h.bk h.bb X h.lo (λk d=>(i k d).2)),λk Y d=>(hN.keep h.bk.box h.bk.r1 l ((h.kn k Y d).trans d) aj aj (aI aj)).trans (h.kn k Y d),h.bb,h.lo,h.hi,I⟩
  · rw[bF,h.Pe];simp;omega
  · exact h.S8
  · exact j
  · intro v R k d
    rcases h.v4 v R k d with N|N
    · exact aI N
    exact aK (aI N)
  · intro i j q
    refine dP (h.fs i j (λk d e=>q k d (aI e))) (λk Y d t=>hN.keep h.bk.box h.bk.r1 l t aj aj (aK (λe=>q k d (aK e.symm))))
  · intro i j q
    refine dP (h.rs i j (λk d e=>q k d (aI e))) (λk Y d t=>hN.keep h.bk.box h.bk.r1 l t aj aj (aK (λe=>q k d (aK e.symm))))
  · intro i j q
    refine dP (h.vs i j (λk d e=>q k d (aI e))) (λk Y d t=>hN.keep h.bk.box h.bk.r1 l t aj aj (aI aj))
  exact dP h.row (λk Y d t=>hN.keep h.bk.box h.bk.r1 l t aj aj (aI aj))):p:=h
def NJ.f{w wr W:u'}{b B lo hi Z s V:Nat}{c a E o g f y1 y2 y3:A'}{s1 P K:List A'}{T:x'}{r:Nat}{D:List N5}{Tk:Nat->Prop}{x:N5}(h:NJ w wr b B lo hi Z s V c a E o g s1 P K T r D Tk)(hT:Lx w lo hi T r D)(hx:x∈D)(hnt:∀k,φ x.fv=B' k->¬Tk k)(hN:mY wr W b B (dn f a E o g) 3 36 x.fv c f s1 [G (-7-(s:Int))] y1 y2 y3):NJ w W b B lo hi Z (s+1) V f a E o g (s1++[x.fv,y1,y2,y3]) P K T r D (λk=>Tk k\/φ x.fv=B' k):=by exact ads
def NJ.r{w wr W:u'}{b B lo hi Z s V:Nat}{c a E o g f y1 y2 y3:A'}{s1 P K:List A'}{T:x'}{r:Nat}{D:List N5}{Tk:Nat->Prop}{x:N5}(h:NJ w wr b B lo hi Z s V c a E o g s1 P K T r D Tk)(hT:Lx w lo hi T r D)(hx:x∈D)(hnt:∀k,φ x.rv=B' k->¬Tk k)(hN:mY wr W b B (dn f a E o g) 3 36 x.rv c f s1 [G (-7-(s:Int))] y1 y2 y3):NJ w W b B lo hi Z (s+1) V f a E o g (s1++[x.rv,y1,y2,y3]) P K T r D (λk=>Tk k\/φ x.rv=B' k):=by have Td:=True.intro;exact ads
def NJ.v{w wr W:u'}{e B j S a s V:Nat}{f i E o g c q d l:A'}{U P K:List A'}{T:x'}{r:Nat}{D:List N5}{Tk:Nat->Prop}{x:N5}(h:NJ w wr e B j S a s V f i E o g U P K T r D Tk)(b:Lx w j S T r D)(F:x∈D)(t:∀k,φ x.vv=B' k->¬Tk k)(p:mY wr W e B (dn f c E o g) 73 71 x.vv i c P [G (-7-(V:Int)),G 0,G 0,j' P',G 0,G 0] q d l):NJ w W e B j S a s (V+1) f c E o g U (P++[x.vv,q,d,l]) K T r D (λk=>Tk k\/φ x.vv=B' k):=by
 have X:=h.vs x F t;have c:=a! X h.lo;have i:∀k,φ x.vv=B' k->j<=k/\k<S:=λk g=>⟨(X.lt k g).1,b.Vp x F k (MQ g)⟩
 have Q:∀v∈P,∀k,φ v=B' k->some k≠φ x.vv:=by
  intro v R k g e;have C:=i k e.symm;have b:=h.hi;rcases h.v4 v R k g with N|N
  ·omega
  exact t k e.symm N
 have f:=h.z;have L:=p.fr.size;have b:∀v∈P++[x.vv,q,d,l],∀k,φ v=B' k->(k<j\/a<=k)\/(Tk k\/φ x.vv=B' k):=by
  intro v R k g;rcases eE.1 R with R|R
  ·rcases h.v4 v R k g with N|N
   ·exact aI N
   exact aK (aI N)
  rcases(p.SW v R).2 with e|⟨q,e,a⟩
  ·exact aK (aK (e.symm.trans g))
  rw[e]at g;cases g;exact aI (aK I)
 refine⟨h.bk.af8 h.S8 c p Q,?_,?_,?_,?_,?_,?_,?_,?_,h.nf.trans (p.nf4 h.bk h.bb X h.lo (λk g=>(i k g).2)),λk Y g=>(p.keep h.bk.box h.bk.r4 c ((h.kn k Y g).trans g) aj aj (aI aj)).trans (h.kn k Y g),h.bb,h.lo,h.hi,I⟩
 ·exact h.Pe
 ·rw[bF,h.S8];simp;omega
 ·intro v R k g;rcases h.v1 v R k g with N|N
  ·exact aI N
  exact aK (aI N)
 ·exact b
 ·intro i a K;refine dP (h.fs i a (λk g e=>K k g (aI e))) (λk Y g T=>p.keep h.bk.box h.bk.r4 c T aj aj (aI aj))
 ·intro i a K;refine dP (h.rs i a (λk g e=>K k g (aI e))) (λk Y g T=>p.keep h.bk.box h.bk.r4 c T aj aj (aI aj))
 ·intro i a K;refine dP (h.vs i a (λk g e=>K k g (aI e))) (λk Y g T=>p.keep h.bk.box h.bk.r4 c T aj aj (aK (λe=>K k g (aK e.symm))))
 exact dP h.row (λk Y g T=>p.keep h.bk.box h.bk.r4 c T aj aj (aI aj))
def Vs(cl:List N5)(i k:Nat):Prop:=∃j x,j<i/\cl[j]?=B' x/\k∈blks x
def afW{D:List N5}(h:Eh D){x y:N5}(S:D[i]?=B' x)(f:D[j]?=B' y)(r:j<i):∀a∈blks y,∀b∈blks x,a<b:=by obtain⟨C,rfl⟩:=bm.1 S;obtain⟨a,rfl⟩:=bm.1 f;exact Qp.1 h j i a C r
def wN{D:List N5}(h:Eh D){x:N5}(S:D[i]?=B' x)(b:k∈blks x):¬Vs D i k:=by rintro⟨j,y,f,B,a⟩;have:=afW h S B f k a k b;omega
def VN{D:List N5}{x:N5}(S:D[i]?=B' x)(k:Nat):(((Vs D i k\/φ x.fv=B' k)\/φ x.rv=B' k)\/φ x.vv=B' k)↔Vs D (i+1) k:=by
 constructor
 ·rintro(((⟨j,y,f,B,a⟩|h)|h)|h)
  ·exact⟨j,y,I,B,a⟩
  ·exact⟨i,x,I,S,Gb h⟩
  ·exact⟨i,x,I,S,MR h⟩
  exact⟨i,x,I,S,MQ h⟩
 rintro⟨j,y,f,B,a⟩;by_cases e:j=i;rotate_left
 ·exact aI (aI (aI ⟨j,y,I,B,a⟩))
 subst e;rw[S]at B;cases B;rcases Li a with h|h|h
 ·exact aI (aI (aK h))
 ·exact aI (aK h)
 exact aK h
end
