import Derived.WalkSpells
import Derived.WalkLawsBesides
import Derived.Deep.RegionLaw
import Derived.Deep.RegionHeld3
import Derived.Test.YtmipbiligijcpaaGreatDoorProg
import Derived.Lib.ParseIntB
import Derived.Lib.Split
import Derived.Lib.FieldsP
import Derived.Test.YtmipbiligijcpaaGreatDoorShelf
import Derived.BigQuiet
namespace Go.Proofs.YtmipbiligijcpaaGreatDoor
set_option linter.all false
set_option maxHeartbeats 0
set_option maxRecDepth 99999
open Go.RowKit Go.Proofs Go.Maps List Tryz Go.Lib Go.WideMaps open List renaming length→ζ open _root_.Array renaming size→δ open World renaming setCell→κ,ownsRow→ρ,cell?→χ,grownBy→ξ open Value renaming ownBlock→φ open Value renaming slice→i',bool→j',agg→l',string→m',pointer→o',tuple→t' open Obj renaming cells→k' open Ending renaming returned→p' open Option renaming some→B',none→C' open Bool renaming true→O',false→P'
section
variable {α:Type} {p:Prop}
theorem A{a b:Prop}(x:a)(y:b):a/\b:=⟨x,y⟩
theorem La{l:List α}{i:Nat}(h:i<l.length):∃x,l[i]?=some x:=⟨_,List.getElem?_eq_getElem h⟩
theorem Ea(x:α):∃z,z=x:=⟨x,rfl⟩
theorem I(h:p:=by omega):p:=h
theorem aj(h:p:=by decide):p:=h
theorem ak(h:p:=by simp):p:=h
abbrev VA:=@Array.toList_inj
abbrev aI:=@Or.inl
abbrev aK:=@Or.inr
abbrev aY:=@Array.getElem?_eq_some_iff
abbrev jN:=@List.getElem?_append_left
abbrev bm:=@List.getElem?_eq_some_iff
abbrev aB:=@if_pos
abbrev xe:=@Nat.le_refl
def aF{a}:=@xe a
abbrev bD:=@Nat.le_trans
abbrev mG:=@Nat.lt_of_lt_of_le
abbrev LI:=@Array.getElem?_modify
abbrev kJ:=@Bool.eq_false_iff
abbrev cF:=@List.all_eq_true
abbrev nY:=@List.range_succ
abbrev sk:=@List.set_append_right
abbrev qG:=@Nat.mul_le_mul_right
abbrev oR:=@Nat.add_mul
abbrev oQ:=@Array.getElem?_eq_getElem
abbrev dZ:=@congrArg
abbrev LH:=@List.take_take
abbrev nX:=@Nat.min_eq_left
abbrev u?:=@List.map_cons
abbrev Ez:=@List.map_nil
abbrev Qq:=@List.replicate_succ'
abbrev LC:=@List.flatten_append
abbrev ek:=@List.getElem?_append_right
abbrev u4:=@List.getElem?_take
abbrev bl:=@Nat.zero_le
def bj{a}:=@bl a
abbrev eE:=@List.mem_append
abbrev jg:=@List.mem_singleton
abbrev kH:=@Nat.sub_self
abbrev qF:=@List.drop_eq_getElem_cons
abbrev dN:=@List.set_cons_zero
abbrev nW:=@List.length_drop
abbrev AQ:=@List.drop_drop
abbrev ej:=@List.nil_append
abbrev AO:=@List.drop_zero
abbrev qE:=@List.drop_eq_nil_of_le
abbrev gO:=@List.append_nil
abbrev bW:=@Nat.zero_add
abbrev bF:=@List.length_append
abbrev aT:=@List.mem_of_getElem?
abbrev Ey:=@List.mem_filterMap
abbrev dr:=@List.mem_cons
abbrev ke:=@List.not_mem_nil
abbrev jf:=@or_false
abbrev Qp:=@List.pairwise_iff_getElem
abbrev cC:=@List.length_cons
abbrev gN:=@List.length_nil
abbrev gD:=@Nat.add_zero
abbrev LB:=@Nat.mul_one
abbrev cN:=@List.flatMap_cons
abbrev bh:=@Bool.and_eq_true
abbrev bq:=@decide_eq_true_eq
abbrev h!:=@List.isEmpty_iff
abbrev aA:=@if_neg
abbrev eW:=@List.map_append
abbrev Qo:=@List.pairwise_append
abbrev Qn:=@List.pairwise_singleton
abbrev b!:=@List.length_map
abbrev cZ:=@List.mem_map
abbrev AK:=@List.mem_map_of_mem
abbrev iC:=@List.foldl_cons
abbrev qC:=@List.all_cons
abbrev c!:=@if_true
abbrev bU:=@if_false
abbrev nV:=@true_and
abbrev je:=@Bool.not_eq_true
abbrev b?:=@beq_eq_false_iff_ne
abbrev AJ:=@Nat.mod_lt
abbrev LA:=@Int.tdiv_one
abbrev sj:=@List.idxOf_lt_length_of_mem
abbrev bR:=@List.getElem?_eq_getElem
abbrev Ex:=@List.getElem_idxOf
abbrev fD:=@Option.some.injEq
abbrev oP:=@List.mem_iff_getElem?
abbrev ei:=@decide_eq_true
abbrev u3:=@List.getElem?_zip_eq_some
abbrev cH:=@List.take_of_length_le
abbrev gC:=@List.length_take
abbrev e?:=@Nat.zero_mul
abbrev CA:=@Nat.div_eq_of_lt
abbrev nk:=@Nat.mod_eq_of_lt
abbrev e9:=@Nat.add_assoc
abbrev de:=@List.length_set
abbrev fG:=@List.getElem?_set
abbrev gG:=@Ne.symm
abbrev I9:=@List.getElem?_zipWith
abbrev cX:=@List.take_succ_eq_append_getElem
abbrev fF:=@List.length_singleton
abbrev gX:=@Bool.or_eq_true
abbrev bT:=@beq_iff_eq
abbrev rq:=@of_decide_eq_true
abbrev j9:=@of_decide_eq_false
abbrev xh:=@List.getElem?_of_mem
abbrev uu:=@List.nodup_append
abbrev fE:=@List.prefix_rfl
abbrev I8:=@List.prefix_append
abbrev xg:=@List.nodup_nil
abbrev rm:=@Bool.false_and
abbrev dW:=@Bool.true_and
abbrev iE:=@Bool.false_or
abbrev ur:=@Bool.and_false
abbrev cW:=@List.cons_append
abbrev ef:=@List.append_assoc
abbrev gg:=@List.take_length
abbrev lY:=@List.take_zero
abbrev rj:=@Nat.le_of_lt
abbrev uq:=@List.mem_of_mem_take
abbrev uo:=@List.foldl_append
abbrev eu:=@List.getElem?_toArray
abbrev nj:=@List.getElem?_cons_succ
abbrev um:=@Bool.and_assoc
abbrev dA:=@List.getElem?_eq_none
abbrev ni:=@Nat.pow_succ
abbrev oX:=@Nat.mul_comm
abbrev I7:=@Nat.mul_add_div
abbrev uk:=@Nat.pow_pos
abbrev xd:=@UInt8.toNat_inj
abbrev gW:=@Bool.not_eq_true'
abbrev du:=@List.length_eq_zero_iff
abbrev uj:=@Nat.pow_le_pow_right
abbrev eR:=@Prod.mk.injEq
abbrev w!:=@List.idxOf_append
abbrev nh:=@List.cons.injEq
abbrev oW:=@UInt8.toNat_ofNat'
abbrev gV:=@UInt8.toNat_lt
abbrev cj:=@Bool.eq_iff_iff
abbrev lX:=@List.getElem_mem
abbrev kL:=@List.size_toArray
abbrev oV:=@List.getElem?_replicate
abbrev gF:=@List.replicate_succ
abbrev oU:=@List.flatten_cons
abbrev cg:=@List.getElem?_map
abbrev I6:=@Option.map_eq_some_iff
abbrev m?:=@Option.map_some
abbrev cV:=@decide_eq_false
abbrev ri:=@Nat.sub_zero
abbrev rh:=@Bool.and_true
abbrev I5:=@List.set_append_left
abbrev cO:=@List.set_cons_succ
abbrev I4:=@Array.toList_setIfInBounds
abbrev I3:=@List.getElem_drop
abbrev oT:=@List.take_append_drop
abbrev I2:=@List.drop_of_length_le
abbrev oS:=@UInt8.toNat.inj
abbrev kK:=@bne_iff_ne
abbrev ui:=@Function.comp_def
abbrev Cy:=@Nat.eq_zero_or_pos
abbrev Cx:=@bne_eq_false_iff_eq
abbrev cR:=@decide_eq_false_iff_not
abbrev bO:=@Bool.false_eq_true
abbrev w?:=@List.getElem_of_mem
abbrev lW:=@List.map_map
abbrev iD:=@List.map_congr_left
abbrev w8:=@Nat.add_comm
abbrev mZ:=@List.mem_or_eq_of_mem_set
abbrev uh:=@Int.le_refl
abbrev Cw:=@Int.tdiv_neg
abbrev q!:=@List.eq_of_mem_replicate
abbrev eQ:=@List.mem_range
abbrev q?:=@List.any_cons
abbrev Cv:=@decide_true
abbrev ug:=@Bool.not_not
abbrev uf:=@List.nodup_cons
abbrev ud:=@decide_eq_true_iff
abbrev lV:=@List.ext_getElem?
abbrev Cu:=@Array.toList_map
abbrev Cs:=@Array.toList_range
abbrev w7:=@List.getElem?_range
abbrev I1:=@Option.some.inj
abbrev I0:=@Nat.mul_le_mul_left
abbrev Cq:=@Nat.or_lt_two_pow
abbrev IZ:=@Nat.pow_lt_pow_right
abbrev wZ:=@Bool.or_false
abbrev wY:=@decide_eq_decide
abbrev q9:=@Bool.or_assoc
abbrev Cp:=@List.range_add
abbrev IY:=@List.mem_filter
abbrev IX:=@Array.replicate_succ
abbrev IW:=@Array.replicate_zero
abbrev IV:=@List.push_toArray
abbrev IU:=@List.append_toArray
abbrev cJ:=@List.setIfInBounds_toArray
abbrev IQ:=@List.getElem?_modify
abbrev Co:=@List.length_range
abbrev IP:=@List.getElem_map
abbrev Cn:=@List.getLast?_eq_getElem?
abbrev Cm:=@List.replicate_zero
abbrev Ck:=@List.set_set
abbrev IL:=@Option.getD_some
abbrev wX:=@List.foldl_nil
abbrev q8:=@Bool.or_eq_false_iff
abbrev ua:=@Bool.and_self
abbrev IJ:=@ByteArray.size_extract
abbrev wW:=@List.dropLast_concat_getLast
abbrev wV:=@Array.getElem?_eq_none
abbrev wU:=@Nat.lt_or_ge
abbrev II:=@List.length_replicate
abbrev IH:=@Array.length_toList
abbrev IG:=@List.flatMap_append
abbrev IF:=@List.eq_replicate_iff
end
section
variable {p:Prop}
abbrev Z(x:Int):Value:=.int .u64 x
abbrev O(b o:Nat):Addr:=⟨b,o,none⟩
abbrev Bl(w w':World):Prop:=Below w.heap.size w w'
abbrev Rb(w:World)(v:Value):Ending->World->Prop:=λe w'=>e=.returned v/\Below w.heap.size w w'
abbrev G(x:Int):Value:=.int .i64 x
abbrev cv:=@Go.heap_alloc_new
def bV{a b}:=@cv a b
abbrev qq:=@Go.RowKit.Below.heap_alloc
def bQ{a b c}:=@qq a b c
abbrev Vz:=@Go.RowKit.Below.heap_setCell
def aJ{a b c d}:=@Vz a b c d
abbrev Qr:=@Go.run_append_own_at
abbrev sn:=@Go.RowKit.Below.refl
def aQ{a b}:=@sn a b
abbrev jh:=@Go.RowKit.Below.drew
abbrev lz:=@Go.RowKit.Below.alloc
abbrev ar:=@Go.World.ownsRow_nil
def cb{a b c d}:=@ar a b c d
abbrev LG:=@Go.Sem.run_bind
abbrev LD:=@Go.Result.andThen_ok
abbrev jO:=@Go.World.grownBy_alloc
def zJ{a b c}:=@jO a b c
abbrev bo:=@Go.heap_setCell_same
def lT{a b c d e f}:=@bo a b c d e f
abbrev cQ:=@Go.info_parts
abbrev qD:=@Go.wpList_append_own_at
abbrev eX:=@Go.Addr.add_lit
abbrev AL:=@Go.World.cell?_alloc_new
abbrev bK:=@Go.Calls.mono
abbrev jM:=@Go.RowKit.Below.setCell
abbrev aC:=@Go.bodyPost_ret
abbrev Qm:=@Go.wpList_append_own
def gu{a b}:=@Qm a b
abbrev Cz:=@Go.World.grownBy.refl
abbrev dp:=@Go.ByteArray.toList_eq
abbrev j8:=@Go.wpList_make_full
abbrev Cr:=@Go.bits_or_u64_nat
abbrev uc:=@Go.run_underlying
abbrev w6:=@Go.IntKind.wrap_u64
abbrev ub:=@Go.rounds_succ
abbrev kI:=@Go.callsIn_wide
abbrev IK:=@Go.run_equalIn_deep
abbrev q7:=@Go.mem_ready
abbrev Cj:=@Go.World.grownBy.trans
abbrev Ci:=@Go.wpList_lookup_own_ok_int
abbrev wT:=@Go.wpList_len_own
def J(p:Prop):Prop:=p
theorem J.o(h:J p):p:=h
theorem hid(h:p):J p:=h
abbrev d' (W : World) (k : Nat) (a : Array Value) (t : TypeId) : Prop := W.heap[k]? = some (.cells a t (0, 0))
theorem f' {p : Prop} (h : p := by go_num) : p := h
theorem h' {p : Prop} (h : p := by assumption) : p := h
theorem J.a {p Y : Prop} (h : J (p/\Y)) : p := h.o.1
theorem J.A {p Y : Prop} (h : J (p/\Y)) : Y := h.o.2
theorem J.b {p q Y : Prop} (h : J (p/\q/\Y)) : q := h.o.2.1
theorem J.B {p q Y : Prop} (h : J (p/\q/\Y)) : Y := h.o.2.2
theorem J.c {p q r Y : Prop} (h : J (p/\q/\r/\Y)) : r := h.o.2.2.1
theorem J.C {p q r Y : Prop} (h : J (p/\q/\r/\Y)) : Y := h.o.2.2.2
theorem J.d {p q r s Y : Prop} (h : J (p/\q/\r/\s/\Y)) : s := h.o.2.2.2.1
theorem J.D {p q r s Y : Prop} (h : J (p/\q/\r/\s/\Y)) : Y := h.o.2.2.2.2
theorem J.e {p q r s t Y : Prop} (h : J (p/\q/\r/\s/\t/\Y)) : t := h.o.2.2.2.2.1
theorem J.E {p q r s t Y : Prop} (h : J (p/\q/\r/\s/\t/\Y)) : Y := h.o.2.2.2.2.2
theorem J.f {p q r s t u Y : Prop} (h : J (p/\q/\r/\s/\t/\u/\Y)) : u := h.o.2.2.2.2.2.1
theorem J.F {p q r s t u Y : Prop} (h : J (p/\q/\r/\s/\t/\u/\Y)) : Y := h.o.2.2.2.2.2.2
theorem J.g {p q r s t u v Y : Prop} (h : J (p/\q/\r/\s/\t/\u/\v/\Y)) : v := h.o.2.2.2.2.2.2.1
theorem J.G {p q r s t u v Y : Prop} (h : J (p/\q/\r/\s/\t/\u/\v/\Y)) : Y := h.o.2.2.2.2.2.2.2
theorem J.h {p q r s t u v w Y : Prop} (h : J (p/\q/\r/\s/\t/\u/\v/\w/\Y)) : w := h.o.2.2.2.2.2.2.2.1
theorem J.H {p q r s t u v w Y : Prop} (h : J (p/\q/\r/\s/\t/\u/\v/\w/\Y)) : Y := h.o.2.2.2.2.2.2.2.2
theorem J.i {p q r s t u v w x Y : Prop} (h : J (p/\q/\r/\s/\t/\u/\v/\w/\x/\Y)) : x := h.o.2.2.2.2.2.2.2.2.1
theorem J.I {p q r s t u v w x Y : Prop} (h : J (p/\q/\r/\s/\t/\u/\v/\w/\x/\Y)) : Y := h.o.2.2.2.2.2.2.2.2.2
theorem J.j {p q r s t u v w x y Y : Prop} (h : J (p/\q/\r/\s/\t/\u/\v/\w/\x/\y/\Y)) : y := h.o.2.2.2.2.2.2.2.2.2.1
theorem J.J {p q r s t u v w x y Y : Prop} (h : J (p/\q/\r/\s/\t/\u/\v/\w/\x/\y/\Y)) : Y := h.o.2.2.2.2.2.2.2.2.2.2
theorem D' {P:Program}{f:FuncId}{a:Array Value}{w:World}{v:Value}{R:World->Prop}{Q:Ending->World->Prop}(h:Calls P f a w λe w=>e=.returned v/\R w)(k:∀w,R w->Q (.returned v) w):Calls P f a w Q:=h.mono λe w hh=>by obtain ⟨rfl,q⟩:=hh;exact k w q
theorem E' {P:Program}{f:FuncId}{a:Array Value}{w:World}{v:Value}{R:World->Prop}{Q:Ending->World->Prop}(h:Calls P f a w λe w=>e=.returned v/\R w)(k:∀w,J (R w)->Q (.returned v) w):Calls P f a w Q:=D' h k
theorem F' {P:Program}{f:FuncId}{a:Array Value}{w:World}{v:Value}{Q:Ending->World->Prop}(h:Calls P f a w λe W=>e=.returned v/\W=w)(k:Q (.returned v) w):Calls P f a w Q:=h.mono λe W hh=>by obtain ⟨rfl,rfl⟩:=hh;exact k
theorem G' {p:Prop}(h:p:=by simp[intOf];omega):p:=h
attribute [go_sem] results
theorem H' {p:Prop}(h:p:=by first|omega|(simp<;>omega)):p:=h
theorem I' {p q:Prop}(x:q)(h:q->p:=by intro h;simpa using h):p:=h x
theorem J' {p q:Prop}(x:q)(h:q->p:=by intro h;omega):p:=h x
abbrev u':=World
abbrev x':=Option Addr
abbrev y':=List UInt8
abbrev z':=ByteArray
abbrev A':=Value
end
variable {L:Array A'}{a w:u'}{b n x:Nat}{p:Prop}{q:x'}{t:TypeId}
section
variable {u:u'} {o B e size k f:Nat} {v:A'} {D:List A'} {P Q:Nat->Prop}
def aN{a b:Bool}(h:a=b):p' (j' a)=p' (j' b):=by rw[h]
def ka(h:χ w (O b o)=B' v):∃c t f,w.1[b]?=B' (k' c t f):=by
 unfold World.cell? at h;simp only at h;split at h
 ·rename_i c t f e;exact⟨c,t,f,e⟩
 cases h
def M(h:w.1[b]?=B' (k' L t (0,0))):(∀o,χ w (O b o)=L[o]?)/\(∀o,w.frozen? (O b o)=P'):=by refine⟨λo=>by simp[World.cell?,h],λo=>by simp[World.frozen?,h]⟩
def eI(h:ρ w B e size v n D):∀k,φ v=B' k->∃Y f,w.1[k]?=B' (k' Y e f):=by
 intro k a;rcases h.2 with⟨rfl,_⟩|⟨g,b,Y,rfl,_,b,_⟩
 ·simp[Value.ownBlock]at a
 simp[Value.ownBlock]at a;subst a;exact⟨Y,(0,0),b⟩
def cw(h:a.1[k]?=w.1[k]?):χ a (O k o)=χ w (O k o):=by simp only[World.cell?,h]
def data_inj{a b:z'}(h:a.1.1=b.1.1):a=b:=by cases a;cases b;simp only at h;congr 1;exact VA.1 h
def zw(w:u')(v:A')(t:TypeId):∀j u,[v][j]?=B' u->χ (w.alloc (k' #[v] t)) (((O w.1.size 0):Addr).add j)=B' u:=by
 intro j u hj
 match j,hj with
 |0,hj=>simp at hj;subst hj;simp[Addr.add]
def pN{a b c}:=@zw a b c
def bL(w:u')(a f:Obj):((w.alloc a).alloc f).1[δ w.1]?=B' a/\((w.alloc a).alloc f).1[δ w.1+1]?=B' f:=by have W:δ (w.alloc a).1=δ w.1+1:=ak;have C:=cv w a;have b:=cv (w.alloc a) f;rw[W]at b;exact⟨by rw[bQ I];exact C,b⟩
def fC{a b c}:=@bL a b c
def below_drewN(h:Below b u w)(n:Nat):Below b u (w.drewN n):=⟨h.os,h.tape,h.output,h.size,h.block⟩
def own_drewN(h:ρ w B e size v n D)(q:Nat):ρ (w.drewN q) B e size v n D:=h
def aV(h:ρ w B e size v n D):∃a b,v=i' a n b:=by
 rcases h.2 with⟨rfl,e⟩|⟨g,b,Y,R,_⟩
 ·exact⟨C',0,by rw[e]⟩
 exact⟨_,_,R⟩
def a!(h:ρ w B e size v n D)(a:f<=B):ρ w f e size v n D:=by
 refine⟨h.1,?_⟩;rcases h.2 with a|⟨g,b,Y,C,c,N⟩
 ·exact aI a
 exact aK ⟨g,b,Y,C,I,N⟩
def bX(w:u')(b o:Nat)(v:A'):ξ w (κ w (O b o) v) (B' b):=
 ⟨rfl,rfl,rfl,by simp[World.setCell],λk _ z=>aJ (λe=>z (by rw[e]))⟩
def jm{a b c d}:=@bX a b c d
def fj{L d u:Nat}{g:A'}{c:List A'}(h:ρ w B e size v n D)(s:ρ w f L d g u c)(l:e≠L):φ v=C'\/φ v≠φ g:=by
 cases R:φ v with
 |none=>exact aI rfl
 |some k=>refine aK (λo=>?_);obtain⟨Q,K,a⟩:=eI h k R;obtain⟨p,B,b⟩:=eI s k o.symm;rw[a]at b;simp at b;exact l b.2.1
def eo(h:ρ w B e size v n D){q:Nat}(a:q<B):φ v=C'\/φ v≠B' q:=by
 cases R:φ v with
 |none=>exact aI rfl
 |some k=>have:=(h.lt k R).1;exact aK H'
def ax(h:χ w (O k o)=B' v)(b:Bl w a):χ a (O k o)=B' v:=by obtain⟨c,t,f,T⟩:=ka h;exact(cw (b.block k (aY.1 T).1)).trans h
def lP(h:χ w (O k o)=B' v):k<δ w.1:=by obtain⟨c,t,f,T⟩:=ka h;exact(aY.1 T).1
def cE(w:u')(ao:x')(xs:List Int):Prop:=∀j x,xs[j]?=B' x->∃b o,ao=B' (O b o)/\χ w (O b (o+j))=B' (G x)
def cE.below{D:List Int}(h:cE w q D)(c:Bl w a):cE a q D:=by intro j x f;obtain⟨b,o,C,a⟩:=h j x f;exact⟨b,o,C,ax a c⟩
def cE.pre{D z:List Int}(h:cE w q z)(U:D <+: z):cE w q D:=by obtain⟨t,rfl⟩:=U;intro j x f;exact h j x (by rw[jN (bm.1 f).1];exact f)
def jq{P:Program}{ops:Array Oper}{o:Oper}{a:Act}{K:Act->u'->Prop}{Q:Exit->Act->u'->Prop}{E:Prop}
  (q:o.guard=C') (s x:Operand) (t:TypeId) (p:o.op=Op.call {callee:=Callee.builtin Builtin.append,args:=#[s,x],argTypes:=#[t,t]})
  (k:Nat) (e:TypeId) (i:TypeInfo) (z:A') (size bytes:Nat) (C:P.underlying t=B' (.slice e)) (W:P.info? e=B' i) (N:i.zero=B' z) (X:i.size=size) (l:i.bytes=bytes) (h6:z.cells.size=size) (V:0<size)
  (v:A') (n:Nat) (f:List A') (y:a.eval s=v) (D:ρ w k e size v n f)
  (R:Addr) (m c:Nat) (b:List A') (F:a.eval x=i' (B' R) m c) (hn:ζ b=m*size) (T:∀j u,b[j]?=B' u->χ w (R.add j)=B' u) (U:∀u∈b,u.oneCell'=O')
  (u:n+m<=maxLen) (b2:(n+m)*bytes<=140737488355328) (hB:k<=δ w.1)
  (Y:∀g j,ρ j k e size g (n+m) (f++b)->ξ w j (φ v)->(φ g=φ v\/φ g=B' w.1.size)->K (a.put o.dst g) j):
  if Region.wanted o (yielded ops a.tmps)=O' then Oper.wp P o a w K Q else E:=by
 have B:Region.wanted o (yielded ops a.tmps)=O':=by simp[Region.wanted,q]
 rw[aB B];obtain⟨g,j,r,r1,q,_,L⟩:=Qr (P:=P) (w:=w) k t o.type e i z size bytes C W N X l h6 V v n f D R m c b hn T U u b2 hB;obtain⟨U,T,rfl⟩:=aV D;simp[Oper.wp,execOp,p,resolve,invoke,builtin,y,F,r,Result.andThen];exact Y g j r1 q L
def cz(w:u')(a:Obj):Bl w (w.alloc a):=aQ.alloc aF _
def bf{a b}:=@cz a b
def zD(w:u')(a b:Obj):Bl w ((w.alloc a).alloc b):=(cz w a).alloc ak _
def cG{a b c}:=@zD a b c
def nS(w:u')(a b c:Obj):Bl w (((w.alloc a).alloc b).alloc c):=(zD w a b).alloc H' _
def gB{a b c d}:=@nS a b c d
def r!(w:u')(a b c d:Obj):Bl w ((((w.alloc a).alloc b).alloc c).alloc d):=(nS w a b c).alloc H' _
def iw{a b c d e}:=@r! a b c d e
def H{v:u'}(h:Bl u v)(k:Bl v w):Bl u w:=h.trans (k.mono h.size)
structure Fr(P:Nat->Prop)(w w':u'):Prop where
  os:w'.os=w.os
  tape:w'.tape=w.tape
  output:w'.output=w.output
  size:δ w.1<=δ w'.1
  block:∀k,k<δ w.1->P k->w'.1[k]?=w.1[k]?
def Fr.refl(P:Nat->Prop)(w:u'):Fr P w w:=⟨rfl,rfl,rfl,aF,λ_ _ _=>rfl⟩
def Fr.aX(h:Bl w a):Fr P w a:=⟨h.os,h.tape,h.output,h.size,λk a _=>h.block k a⟩
def Fr.trans{v:u'}(h:Fr P u v)(k:Fr Q v w)(S:∀x,x<δ u.1->P x->Q x):Fr P u w:=
 ⟨k.os.trans h.os,k.tape.trans h.tape,k.output.trans h.output,bD h.size k.size,λx F U=>(k.block x (mG F h.size) (S x F U)).trans (h.block x F U)⟩
def Fr.dj{q:Option Nat}(h:ξ w a q)(hP:∀k,k<δ w.1->P k->some k≠q):Fr P w a:=⟨h.os,h.tape,h.output,h.size,λk a U=>h.block k a (hP k a U)⟩
def Fr.grown{v:u'}{q:Option Nat}(h:Fr P u v)(k:ξ v w q)(hP:∀x,x<δ u.1->P x->some x≠q):Fr P u w:=
 ⟨k.os.trans h.os,k.tape.trans h.tape,k.output.trans h.output,bD h.size k.size,λx F U=>(k.block x (mG F h.size) (hP x F U)).trans (h.block x F U)⟩
def Fr.mono{v:u'}(h:Fr P u v)(S:∀x,x<δ u.1->Q x->P x):Fr Q u v:=
 ⟨h.os,h.tape,h.output,h.size,λx F U=>h.block x F (S x F U)⟩
def Fr.own{c:u'}(h:Fr P w c)(b:ρ w B e size v n D)(R:∀k,φ v=B' k->P k):ρ c B e size v n D:=by
 have L:=b.lt;refine⟨b.1,?_⟩;rcases b.2 with o|⟨g,a,Y,V,Q,p,d⟩
 ·exact aI o
 subst V;exact aK ⟨g,a,Y,rfl,Q,(h.block g (L g rfl).2 (R g rfl)).trans p,d⟩
def Fr.below(h:Fr P w a)(v:B<=δ w.1)(hP:∀k,k<B->P k):Below B w a:=⟨h.os,h.tape,h.output,h.size,λk a=>h.block k I (hP k a)⟩
def Fr.set{v:u'}{x:A'}(h:Fr P u v)(hP:∀k,P k->k≠b):Fr P u (κ v (O b o) x):=
 ⟨h.os,h.tape,h.output,by simpa[World.setCell]using h.size,λk a U=>(aJ (hP k U)).trans (h.block k a U)⟩
def aq(h:w.1[b]?=B' (k' L t (0,0)))(v:A'):(κ w (O b o) v).1[b]?=B' (k' (L.setIfInBounds o v) t (0,0)):=by simp[World.setCell,LI,h]
def blt{o:Obj}(h:w.1[k]?=B' o):k<δ w.1:=(aY.1 h).1
def aL{o:Obj}(b:Bl w a)(h:w.1[k]?=B' o):a.1[k]?=B' o:=(b.block k (blt h)).trans h
def ND(w:u')(a f b:Obj):(((w.alloc a).alloc f).alloc b).1[δ w.1+1+1]?=B' b:=by have:=cv ((w.alloc a).alloc f) b;simpa using this
def qp(w:u')(a f c b:Obj):((((w.alloc a).alloc f).alloc c).alloc b).1[δ w.1]?=B' a/\((((w.alloc a).alloc f).alloc c).alloc b).1[δ w.1+1]?=B' f/\((((w.alloc a).alloc f).alloc c).alloc b).1[δ w.1+1+1]?=B' c/\((((w.alloc a).alloc f).alloc c).alloc b).1[δ w.1+1+1+1]?=B' b:=by
 have d:=cv (((w.alloc a).alloc f).alloc c) b;rw[show(((w.alloc a).alloc f).alloc c).1.size=δ w.1+1+1+1 by simp]at d;refine⟨?_,?_,?_,d⟩
 ·rw[bQ (by simp;try omega),bQ (by simp;try omega)];exact(bL w a f).1
 ·rw[bQ (by simp;try omega),bQ (by simp;try omega)];exact(bL w a f).2
 rw[bQ (by simp;try omega)];exact ND w a f c
def U2{a b c d e}:=@qp a b c d e
def aal(h:p:=by
 refine⟨h.1,?_⟩;rcases h.2 with a|⟨g,b,Y,C,c,N,d⟩
 ·exact aI a
 exact aK ⟨g,b,Y,C,c,(f.block g (aY.1 N).1).trans N,d⟩):p:=h
def aZ(h:ρ w B e size v n D)(f:Bl w a):ρ a B e size v n D:=by exact aal
def kR{f:Nat->Bool}(h:f k=P')(b:k<n):(range n).all f=P':=by rw[kJ];intro a;rw[cF]at a;have:=a k (I' b);rw[h]at this;cases this
def c8(f:Nat->Bool)(k:Nat):(range (k+1)).all f=((range k).all f&&f k):=by simp[nY]
def acv{F:u'->Prop}{a:Obj}(h:∀V,J (V.1[δ w.1]?=B' a/\Bl w V)->F V):F (w.alloc a):=h _ ⟨bV,bf⟩
def xF{α:Type}(a l:List α)(m i:Nat)(x:α)(h:ζ a=m):(a++l).set (m+i) x=a++l.set i x:=by rw[sk _ _ I];congr 2;omega
def jl{a b c d e f}:=@xF a b c d e f
def au(h:p:=by kernel_rfl):p:=h
def ay(h:p:=by repeat(first|with_reducible exact aQ|with_reducible refine below_drewN ?_ _|with_reducible refine jh ?_|refine lz ?_ (by first|(simp;done)|(simp;omega)) _)):p:=h
end
section
variable {d:Option Tmp} {op:Op} {ty:TypeId} {ps:String} {af:Array Edge} {gd:Option (Nat×Bool)}
def tk{P:Program}{md:Region.Mode}{ops:Array Oper}{Q:Exit->Act->u'->Prop}{S:u'->Prop}(i:Nat){x:Oper}{v:A'}{fuel:Nat}{listed:Array Bool}{a:Act}{w:u'}(d:ops[i]?=B' x)
  (b:(Region.noSelect ops&&Region.free md ops listed i&&(Region.ready md ops listed).contains i)=O')
  (W:∀c a w,Q (.panic c) (a.put x.dst v) w->Q (.panic c) a w) (B:YieldsIf P ops S x v a) (u:S w)
  (h:wpAnyH P md ops Q S fuel (listed.setIfInBounds i O') (a.put x.dst v) w):wpAnyH P md ops Q S (fuel+1) listed a w:=by
 rw[bh,bh]at b;exact wpAnyH_take d b.1.1 b.1.2 b.2 W B u h
section
variable {P:Program} {md:Region.Mode} {ops:Array Oper} {Q:Exit->Act->u'->Prop} {S:u'->Prop} {fuel:Nat} {listed:Array Bool} {a a':Act} {w:u'}
def tz(i:Nat)(v:A')(h:wpAnyH P md ops Q S fuel (listed.setIfInBounds i O') a' w)(hi:ops[i]?=B' ⟨d,op,ty,ps,af,gd⟩:=by rfl)(hk:(Region.noSelect ops&&Region.free md ops listed i&&(Region.ready md ops listed).contains i)=O':=by kernel_rfl)
  (hQ:∀c a w,Q (.panic c) (a.put d v) w->Q (.panic c) a w:=by exact λ_ _ _ h=>h) (y:YieldsIf P ops S ⟨d,op,ty,ps,af,gd⟩ v a) (hS:S w:=by assumption) (ha:a.put d v=a':=by(try simp only[Act.put,cJ,dN,cO]);rfl):wpAnyH P md ops Q S (fuel+1) listed a w:=by
 subst ha;exact tk i hi hk hQ y hS h
def tq(i:Nat)(v:A')(h:wpAnyH P md ops Q S fuel (listed.setIfInBounds i O') a' w)(hi:ops[i]?=B' ⟨d,op,ty,ps,af,gd⟩:=by rfl)(hk:(Region.noSelect ops&&Region.free md ops listed i&&(Region.ready md ops listed).contains i)=O':=by kernel_rfl)
 (hQ:∀c a w,Q (.panic c) (a.put d v) w->Q (.panic c) a w:=by exact λ_ _ _ h=>h) (hw:Region.wanted ⟨d,op,ty,ps,af,gd⟩ (yielded ops a.tmps)=O':=by kernel_rfl)
 (y:∀w,S w->(execOp a.eval ⟨d,op,ty,ps,af,gd⟩).run P w=.ok (.value v) w:=by intro W' bN;clear aM;go_simp) (hS:S w:=by assumption) (ha:a.put d v=a':=by(try simp only[Act.put,cJ,dN,cO]);rfl):wpAnyH P md ops Q S (fuel+1) listed a w:=tz i v h hi hk hQ (aI ⟨hw,y⟩) hS ha
def tr{R:u'->Prop}(i:Nat)(v:A')(k:∀w,S w->R w)(h:wpAnyH P md ops Q S fuel (listed.setIfInBounds i O') a' w)(hi:ops[i]?=B' ⟨d,op,ty,ps,af,gd⟩:=by rfl)(hk:(Region.noSelect ops&&Region.free md ops listed i&&(Region.ready md ops listed).contains i)=O':=by kernel_rfl)
 (hQ:∀c a w,Q (.panic c) (a.put d v) w->Q (.panic c) a w:=by exact λ_ _ _ h=>h) (hw:Region.wanted ⟨d,op,ty,ps,af,gd⟩ (yielded ops a.tmps)=O':=by kernel_rfl)
 (y:∀w,S w->R w->(execOp a.eval ⟨d,op,ty,ps,af,gd⟩).run P w=.ok (.value v) w:=by intro W' bN k1;clear aM bN;go_simp) (hS:S w:=by assumption) (ha:a.put d v=a':=by(try simp only[Act.put,cJ,dN,cO]);rfl):wpAnyH P md ops Q S (fuel+1) listed a w:=tz i v h hi hk hQ (aI ⟨hw,λw q=>y w q (k w q)⟩) hS ha
def tn(i:Nat)(h:wpAnyH P md ops Q S fuel (listed.setIfInBounds i O') a' w)(hi:ops[i]?=B' ⟨d,op,ty,ps,af,gd⟩:=by rfl)(hk:(Region.noSelect ops&&Region.free md ops listed i&&(Region.ready md ops listed).contains i)=O':=by kernel_rfl)
 (hQ:∀c a w,Q (.panic c) (a.put d undef) w->Q (.panic c) a w:=by exact λ_ _ _ h=>h) (hw:Region.wanted ⟨d,op,ty,ps,af,gd⟩ (yielded ops a.tmps)=P':=by kernel_rfl) (hS:S w:=by assumption) (ha:a.put d undef=a':=by(try simp only[Act.put,cJ,dN,cO]);rfl):wpAnyH P md ops Q S (fuel+1) listed a w:=tz i undef h hi hk hQ (aK ⟨hw,rfl⟩) hS ha
def r1(i:Nat)(h:∀K:Act->u'->Prop,Shut (∀a w,S w->(S w->wpAnyH P md ops Q S fuel (listed.setIfInBounds i O') a w)->K a w)->if Region.wanted ⟨d,op,ty,ps,af,gd⟩ (yielded ops a.tmps)=O' then Oper.wp P ⟨d,op,ty,ps,af,gd⟩ a w K Q else K (a.put d undef) w)(hi:ops[i]?=B' ⟨d,op,ty,ps,af,gd⟩:=by rfl)(hr:Region.ready md ops listed=[i]:=by kernel_rfl):wpAnyH P md ops Q S (fuel+1) listed a w:=
 wpAnyH_ready hr ak (AllReadyH.cons hi h AllReadyH.nil)
end
def pt{p q:Prop}(hq:q)(h:q->p:=by intro h;(try simp only[Act.put,cJ,dN,cO]);exact h):p:=h hq
end
abbrev Cl:=Calls Tryz.prog
abbrev fe(a0)(a1):=(#[.slice (some (O a0 0)) a1 a1,.func (.func 267) #[] #[],.func (.func 296) #[] #[]]:Array A')
abbrev gH:=(#[.slice none 0 0,.slice none 0 0,.bool false,G 0,.slice none 0 0]:Array A')
abbrev zW:=(#[.bool false,.bool false,G 0,.bool false,G 0,.bool false,G 0,.bool false,G 0,.bool false,G 0,.bool false,G 0,.bool false,G 0,.bool false,G 0]:Array A')
abbrev di(a0):=(#[.pointer (some (O a0 0))]:Array A')
abbrev kN:=(.cells #[.bool false,.slice none 0 0] 133 (0,0):Obj)
abbrev dU(a0)(a1):=(.slice (some (O a0 0)) a1 a1:A')
abbrev jn:=(#[G 0,G 0,G 0,.bool false,G 0,G 0]:Array A')
abbrev vP:=(#[.bool false,.slice none 0 0]:Array A')
abbrev j!(a0)(a1)(a2)(a3)(a4):=(#[.pointer (some (O a0 0)),.slice (some (O a1 a2)) a3 a4]:Array A')
abbrev e!(a0)(a1)(a2)(a3):=(#[.slice (some (O a0 0)) a1 a2,G a3]:Array A')
abbrev qL:=(#[.bool false,G 0,G 0,G 0,G 0,G 0,G 0,G 0,G 0,G 0,G 0,G 0,G 0,G 0,G 0,G 0,G 0]:Array A')
abbrev mI:=(.cells #[.slice none 0 0,.nilFunc,.nilFunc] 260 (0,0):Obj)
abbrev fZ:=(#[G 0,G 0,.slice none 0 0]:Array A')
abbrev sA(a0)(a1)(a2)(a3)(a4)(a5)(a6)(a7)(a8)(a9)(ae)(ed)(a12)(IB)(dd):=(.cells #[.slice a0 a1 a2,.string a3,.string a4,G a5,G a6,G a7,.string a8,G a9,G ae,.string ed,G a12,.string IB,.string dd] 111:Obj)
abbrev EB:=(#[.slice none 0 0,.nilFunc,.nilFunc]:Array A')
abbrev dI(a0)(a1)(a2):=(#[.bool false,.slice a0 a1 a2]:Array A')
abbrev aO(a0)(a1)(a2):=(.slice a0 a1 a2:A')
abbrev fY:=(.cells #[Z 0,Z 0] 267:Obj)
abbrev jj:=(.cells #[Z 0,Z 0] 267 (0,0):Obj)
abbrev n!(a0)(a1):=(#[.pointer (some (O a0 0)),.pointer (some (O a1 0))]:Array A')
abbrev ji:=(.func (.func 267) #[] #[]:A')
abbrev iG:=(.cells #[G 0,G 0] 247:Obj)
abbrev cT(a0)(a1)(a2):=(#[.bool a0,G a1,G a2]:Array A')
abbrev c7(a0)(a1):=(.cells a0 a1 (0,0):Obj)
abbrev fL(a0)(a1):=(.cells #[G a0,G a1] 166:Obj)
abbrev dO(a0):=(some (O a0 0):x')
abbrev iF(a0)(a1)(a2):=(.slice (some (O a0 0)) a1 a2:A')
abbrev n?(a0)(a1)(a2)(a3)(a4)(a5)(a6)(a7)(a8)(a9)(ae):=(#[.slice a0 a1 a2,.slice a3 a4 a5,.bool a6,G a7,.slice a8 a9 ae]:Array A')
abbrev n9:=(.func (.func 296) #[] #[]:A')
abbrev ia(a0):=(.cells #[G a0] 3:Obj)
abbrev vh(a0):=(.pointer (some (O a0 0)):A')
abbrev n0:=(#[.slice none 0 0,G 0]:Array A')
abbrev o4:=(#[.bool false,G 0,G 0]:Array A')
abbrev AV(a0):=(.cells #[G a0,G 0,G 0,.bool false,G 0,G 0] 73:Obj)
abbrev qK(a0):=(#[.slice (some (O a0 0)) 1 1]:Array A')
abbrev sw(a0)(a1):=(.cells #[.bool true,G a0,G a1] 150:Obj)
abbrev EA:=(#[.bool false,G 0,G 0,G 0,.bool false,G 0,G 0]:Array A')
abbrev vg:=(.cells #[G 0,G 0] 247 (0,0):Obj)
abbrev oZ(a0):=(.cells #[G a0] 3 (0,0):Obj)
abbrev mH(a0)(a1):=(.cells #[G a0,G a1] 247:Obj)
abbrev qJ(a0):=(.pointer (some (O a0 3)):A')
abbrev Qt:=(.cells #[.slice none 0 0,.slice none 0 0,.bool true,G 0,.slice none 0 0] 96:Obj)
abbrev xm(a0)(a1)(a2)(a3)(a4):=(#[.string a0,.string a1,.string a2,G a3,G a4]:Array A')
abbrev qI:=(#[.bool true,G 0]:Array A')
abbrev oY(a0)(a1)(a2)(a3):=(.slice (some (O a0 a1)) a2 a3:A')
abbrev vf(a0)(a1):=(.cells #[Z a0,Z a1] 267 (0,0):Obj)
abbrev ve(a0)(a1):=(.cells #[G a0,G a1] 166 (0,0):Obj)
abbrev nZ:=(.cells #[] 331:Obj)
abbrev vd:=(#[105,110,112,117,116]:Array UInt8)
abbrev xk(a0):=(#[.slice (some (O a0 0)) 2 2]:Array A')
abbrev qH(a0)(a1):=(.cells #[Z a0,Z a1] 267:Obj)
abbrev xj(a0):=(.cells #[.bool a0] 4 (0,0):Obj)
abbrev kM(a0)(a1)(a2)(a3)(a4):=(#[G a0,G a1,.slice a2 a3 a4]:Array A')
abbrev xi:=(#[Z 0,Z 0,Z 0,Z 0]:Array A')
abbrev u! := (#[.bool false,G 0]:Array A')
def infoByte:(Tryz.prog.info? 5).map (λi=>(i.zero,i.size,i.bytes))=B' (B' (.int .u8 0),1,1):=au
def nQ:(Tryz.prog.info? 3).map (λi=>(i.zero,i.size,i.bytes))=B' (B' (G 0),1,8):=au
abbrev BS:=Nat×Nat
def dh(s:BS):A':=l' #[Z s.1,Z s.2]
structure cL(s:BS):Prop where
  lo:s.1<18446744073709551616
  hi:s.2<18446744073709551616
def YU{p:Prop}(h:p:=by
 have h:Tryz.prog.underlying 267=B' (.array 2 194):=au
 simp[Instr.index,uc h,asIntOf,go_sem]):p:=h
def rT(a b:Int)(w:u'):(Instr.index 267 (l' #[Z a,Z b]) (G 0)).run Tryz.prog w=.ok (Z a) w:=by exact YU
def rS(a b:Int)(w:u'):(Instr.index 267 (l' #[Z a,Z b]) (G 1)).run Tryz.prog w=.ok (Z b) w:=by exact YU
def T!(n d:Nat)(K:n=d+1)(a b c e:Int)(w:u'):(Op.equalIn (n+1) 267 (l' #[Z a,Z b]) (l' #[Z c,Z e])).run Tryz.prog w=.ok (a==c&&b==e) w:=by
 have h:Tryz.prog.underlying 267=B' (.array 2 194):=au;have f:Tryz.prog.underlying 194=B' (.int .u64):=au;have l:∀x y:Int,(Op.equalIn n 194 (Z x) (Z y)).run Tryz.prog w=.ok (x==y) w:=by intro x y;rw[K];exact run_equalIn_int w d _ _ _ _ _ f
 have f:(sizeOf 194).run Tryz.prog w=.ok 1 w:=by simp[go_sem]
 have P:∀x y:Int,(part 194 #[Z x,Z y] 0).run Tryz.prog w=.ok (Z x) w:=by intro x y;simp[go_sem]
 have F:∀x y:Int,(part 194 #[Z x,Z y] 1).run Tryz.prog w=.ok (Z y) w:=by intro x y;simp[go_sem]
 have d:(range' 0 2)=[0,1]:=rfl;simp only[Op.equalIn,LG,uc h,LD,f];rw[Std.Legacy.Range.forIn_eq_forIn_range'];simp only[Std.Legacy.Range.size,ri,Nat.add_sub_cancel,Nat.div_one,d,forIn_cons,forIn_nil,LG,e?,P,F,l,LD,LB];cases f:(a==c)
 ·simp
 simp only[Bool.not_true,bO,bU,Sem.run_pure,LD,LG,P,F,l,Nat.one_mul];cases g:(b==e)<;>simp
def ck(a b c d:Int)(w:u'):(binOp .eql 267 (l' #[Z a,Z b]) (l' #[Z c,Z d])).run Tryz.prog w=.ok (j' (a==c&&b==d)) w:=by rw[run_eql_struct,T! 9999 9998 rfl];rfl
def oD(a b:Nat)(c:a<18446744073709551616)(c:b<18446744073709551616):bits .andNot .u64 (a:Int) (b:Int)=((a&&&(18446744073709551615-b):Nat):Int):=by
 have F:a&&&(18446744073709551615-b)<2 ^ 64:=Nat.and_lt_two_pow _ I;have C:(BitVec.ofInt 64 (a:Int)).toNat=a:=by rw[BitVec.ofInt_natCast,BitVec.toNat_ofNat];exact nk I
 have c:(BitVec.ofInt 64 (b:Int)).toNat=b:=by rw[BitVec.ofInt_natCast,BitVec.toNat_ofNat];exact nk I
 show IntKind.u64.wrap ((BitVec.ofInt 64 (a:Int)&&&~~~BitVec.ofInt 64 (b:Int)).toNat:Int)=_;rw[BitVec.toNat_and,BitVec.toNat_not,C,c,w6];have e:2 ^ 64-1-b=18446744073709551615-b:=I;rw[e];omega
def woW(a b:Nat):Nat:=a&&&(18446744073709551615-b)
def vQ(s t:BS):BS:=(woW s.1 t.1,woW s.2 t.2)
def o7(s t:BS)(w:u')(y:cL s)(U:cL t):
  Cl 153 #[dh s,dh t] w (Rb w (dh (vQ s t))):=by
 have a:=λw=>rT (t.1:Int) (t.2:Int) w;have a:=λw=>rS (t.1:Int) (t.2:Int) w;have o:=oD s.1 t.1 y.lo U.lo;have V:=oD s.2 t.2 y.hi U.hi;simp only[dh];go_enter func153,ntmps153;go_wp2;refine wp_loop_rounds 3 ?_;rw[ub];go_wp2;rw[ub];go_wp2;rw[ub];go_wp2;refine aC (v:=dh (vQ s t)) (by simp[results153,go_sem,dh,vQ,woW]) rfl ⟨rfl,gB⟩
structure Vl where
  aG:Int
  lo:Int
  hi:Int
  bJ:Bool
  first:Int
  rank:Int
structure Nd where
  facts:List Int
  aW:List Int
  aD:Bool
  rank:Int
  vals:List Vl
structure Ct where
  aE:Int
  grade:Int
  nodes:List Nd
def rk(n:Int):Bool:=decide (0<=n)&&decide (n<=100000)
def cU:Int->List Int->Bool
 |_,[]=>true
 |fl,f :: r=>decide (fl<=f)&&decide (f<=100000)&&cU (f+1) r
def eD(g:Int)(aW:List Int)(k:Nat):Bool:=if g=1 then decide (aW.length=k)&&aW.all rk else aW.isEmpty
def dV(g:Int)(n:Nd):Bool:=!n.aD&&decide (n.rank=0)&&n.vals.isEmpty&&cU 0 n.facts&&eD g n.aW n.facts.length
def nL(g r:Int)(v:Vl):Bool:=decide (g=1)&&decide (r<v.rank)&&decide (v.rank<=100000)&&decide (v.aG=2)&&decide (v.lo=0)&&decide (v.hi=0)
def eM(p g r:Int)(v:Vl):Bool:=
 if p=6 then decide (v.aG=3)&&!v.bJ&&decide (v.first=0)&&decide (v.rank=0)&&decide (v.lo<=v.hi)
 else if v.bJ then nL g r v
 else decide (v.aG=1)&&decide (v.hi=0)&&decide (v.first=0)&&decide (v.rank=0)||decide (v.aG=2)&&decide (v.lo=0)&&decide (v.hi=0)&&decide (v.first=0)&&decide (v.rank=0)
def fX(n:Nd):Bool:=!n.aD&&decide (n.rank=0)&&n.facts.isEmpty&&n.aW.isEmpty&&n.vals.isEmpty
def eN(p g:Int)(n:Nd):Bool:=n.facts.isEmpty&&n.aW.isEmpty&&decide (n.vals.length<=8)&&rk n.rank&&(decide (g=1)||decide (n.rank=0))&&n.vals.all (eM p g n.rank)
def bA(p g:Int)(n:Nd):Bool:=if p<=4 then dV g n else if n.aD then eN p g n else fX n
def known(p g:Int):Bool:=decide (1<=p)&&decide (p<=6)&&(decide (g=2)||decide (g=1)&&!decide (p=6))
def jz(c:Ct):Bool:=known c.aE c.grade&&decide (c.nodes.length<=60)&&c.nodes.all (bA c.aE c.grade)
def iA(n:Nat):List UInt8:=if h:n<128 then[UInt8.ofNat n] else UInt8.ofNat (n % 128+128) :: iA (n / 128)
def fq(x:Int):List UInt8:=iA x.toNat
def zig(x:Int):Nat:=if 0<=x then(2*x).toNat else(-2*x-1).toNat
def ZD(x:Int):List UInt8:=iA (zig x)
def eV:Int->List Int->List Int
 |_,[]=>[]
 |fl,f :: r=>(f-fl) :: eV (f+1) r
def setB(n:Nd):List UInt8:=iA n.facts.length++(eV 0 n.facts).flatMap fq++n.aW.flatMap fq
def jo(p g:Int)(v:Vl):List UInt8:=
 if p=6 then ZD v.lo++iA (v.hi-v.lo).toNat
 else if v.aG=1 then 1 :: ZD v.lo
 else if g=1 then(if v.bJ then 2 :: 1 :: (ZD v.first++fq v.rank) else[2,0])
 else[2]
def zj(p g:Int)(n:Nd):List UInt8:=(if g=1 then fq n.rank else[])++iA n.vals.length++n.vals.flatMap (jo p g)
def eA(p g:Int)(n:Nd):List UInt8:=if p<=4 then setB n else if n.aD then 1 :: zj p g n else[0]
def GQ(c:Ct):List UInt8:=[87,67,1,UInt8.ofNat c.aE.toNat,UInt8.ofNat c.grade.toNat]++iA c.nodes.length
def tM(c:Ct):List UInt8:=GQ c++c.nodes.flatMap (eA c.aE c.grade)
def enc(c:Ct):Option (List UInt8):=if jz c&&decide ((tM c).length<=60000) then some (tM c) else none
theorem cS(h:n<128):iA n=[UInt8.ofNat n]:=by rw[iA,dif_pos h]
theorem lO(h:¬n<128):iA n=UInt8.ofNat (n % 128+128) :: iA (n / 128):=by rw[iA,dif_neg h]
theorem Us:∀(k n:Nat),n<128 ^ k->(iA n).length<=k∨k=0
 |0,n,h=>aK rfl
 |k+1,n,h=>by
  left;by_cases K:n<128
  ·rw[cS K];simp
  rw[lO K];have C:n / 128<128 ^ k:=by rw[ni]at h;omega
  rcases Us k _ C with a|a
  ·simp;exact a
  subst a;simp at C;omega
theorem Ho(h:n<18446744073709551616):(iA n).length<=10:=by
 rcases Us 10 n I with h|h
 ·exact h
 omega
theorem xO:∀(o:List Int) (Y:Int),cU Y o=true->(o.length:Int)+Y<=100001∨o=[]
 |[],_,_=>aK rfl
 |f :: r,Y,h=>by
  left;simp[cU]at h;obtain⟨⟨C,a⟩,N⟩:=h;rcases xO r (f+1) N with d|d
  ·simp;omega
  subst d;simp;omega
theorem Oq{o:List Int}(h:cU 0 o=true):o.length<=100001:=by
 rcases xO o 0 h with h|h
 ·omega
 subst h;simp
def lk(w:u')(ao:x')(vs:List Vl):Prop:=∀j v,vs[j]?=B' v->∃b o,ao=B' (O b o)/\χ w (O b (o+j*6))=B' (G v.aG)/\χ w (O b (o+j*6+1))=B' (G v.lo)/\χ w (O b (o+j*6+2))=B' (G v.hi)/\χ w (O b (o+j*6+3))=B' (j' v.bJ)/\χ w (O b (o+j*6+4))=B' (G v.first)/\χ w (O b (o+j*6+5))=B' (G v.rank)
structure nT(w:u')(fa ra va:x')(fc rc vc:Nat)(n:Nd):Prop where
  facts:cE w fa n.facts
  aW:cE w ra n.aW
  vals:lk w va n.vals
  acx:fa=C'->fc=0
  af6:ra=C'->rc=0
  af3:va=C'->vc=0
def b9(w:u')(ao:x')(ns:List Nd):Prop:=∀j n,ns[j]?=B' n->∃b o fa ra va fc rc vc,ao=B' (O b o)/\χ w (O b (o+j*5))=B' (i' fa (ζ n.facts) fc)/\χ w (O b (o+j*5+1))=B' (i' ra (ζ n.aW) rc)/\χ w (O b (o+j*5+2))=B' (j' n.aD)/\χ w (O b (o+j*5+3))=B' (G n.rank)/\χ w (O b (o+j*5+4))=B' (i' va (ζ n.vals) vc)/\nT w fa ra va fc rc vc n
def lk.below{b:u'}{E:List Vl}(h:lk w q E)(a:Bl w b):lk b q E:=by intro j v f;obtain⟨b,o,C,T,Q,p,c,P,d⟩:=h j v f;exact⟨b,o,C,ax T a,ax Q a,ax p a,ax c a,ax P a,ax d a⟩
def nT.below{c:u'}{a l z:x'}{q rc x:Nat}{n:Nd}(h:nT w a l z q rc x n)(b:Bl w c):nT c a l z q rc x n:=
 ⟨h.facts.below b,h.aW.below b,h.vals.below b,h.acx,h.af6,h.af3⟩
def b9.below{a:u'}{v:List Nd}(h:b9 w q v)(c:Bl w a):b9 a q v:=by intro j n f;obtain⟨b,o,a,l,z,q,rc,x,C,T,Q,p,d,P,e⟩:=h j n f;exact⟨b,o,a,l,z,q,rc,x,C,ax T c,ax Q c,ax p c,ax d c,ax P c,e.below c⟩
def lr(x:Int):Prop:=-9223372036854775808<=x/\x<=9223372036854775807
structure tU(v:Vl):Prop where
  aG:lr v.aG
  lo:lr v.lo
  hi:lr v.hi
  first:lr v.first
  rank:lr v.rank
structure dY(n:Nd):Prop where
  facts:∀f∈n.facts,lr f
  aW:∀f∈n.aW,lr f
  rank:lr n.rank
  vals:∀v∈n.vals,tU v
  Qg:ζ n.facts*8<=140737488355328
  rsz:ζ n.aW*8<=140737488355328
  vsz:ζ n.vals*48<=140737488355328
structure zM(c:Ct):Prop where
  aE:lr c.aE
  grade:lr c.grade
  nodes:∀n∈c.nodes,dY n
  sz:ζ c.nodes*88<=140737488355328
def QA(a b:Nat):woW a b<18446744073709551616:=by unfold woW;have:a&&&(18446744073709551615-b)<2 ^ 64:=Nat.and_lt_two_pow _ I;omega
def CD(s t:BS):cL (vQ s t):=⟨QA _ _,QA _ _⟩
def Qi(s:BS):Bool:=s.1==0&&s.2==0
def yQ(s t:BS)(w:u')(y:cL s)(U:cL t):
  Cl 296 #[dh s,dh t] w (Rb w (j' (Qi (vQ s t)))):=by
 have b:=hid λW=>o7 s t W y U;obtain⟨z,f⟩:=Ea (vQ s t);rw[<-f]at b⊢;clear f y U;have a:=λw=>ck (z.1:Int) (z.2:Int) 0 0 w;have V:Tryz.prog.eqGuardType Tryz.prog.depth 267=P':=au;simp only[dh]at b⊢;go_enter func296,ntmps296;go_wp2_with (go_at_call 153;refine D' (b.o _) λt l=>?_);go_wp2;go_ret;refine⟨aN ?_,H cG l⟩;rw[Qi,cj];simp only[bh,bT];omega
def mB(w:u')(ao:x')(ss:List BS):Prop:=∀j s,ss[j]?=B' s->∃b o,ao=B' (O b o)/\χ w (O b (o+j*2))=B' (Z s.1)/\χ w (O b (o+j*2+1))=B' (Z s.2)
def oo(s t:BS):BS:=(s.1|||t.1,s.2|||t.2)
def zR(ss:List BS):BS:=ss.foldl oo (0,0)
def rN{s t:BS}(h:cL s)(k:cL t):cL (oo s t):=
 ⟨by have:=h.lo;have:=k.lo;have:s.1|||t.1<2 ^ 64:=Cq I I;show s.1|||t.1<_;omega,by have:=h.hi;have:=k.hi;have:s.2|||t.2<2 ^ 64:=Cq I I;show s.2|||t.2<_;omega⟩
def Q6:∀(l:List BS) (u:BS),cL u->(∀s∈l,cL s)->cL (l.foldl oo u)
 |[],u,h,_=>h
 |s::r,u,h,k=>Q6 r _ (rN h (k s ak)) (λx F=>k x (by simp[F]))
def Q5(l:List BS)(k:∀s∈l,cL s):cL (zR l):=Q6 l _ ⟨aj,aj⟩ k
def Q0{l:List BS}{k:Nat}{s:BS}(h:l[k]?=B' s):zR (l.take (k+1))=oo (zR (l.take k)) s:=by have X:=(bm.1 h).1;rw[cX X,(bm.1 h).2];simp[zR]
def AZ(q:x')(c:Nat)(l:List BS)(w:u')(h:mB w q l)(S:∀s∈l,cL s)(X:ζ l<=1000):
  Cl 267 #[i' q (ζ l) c] w (Rb w (dh (zR l))):=by
 go_enter func267,ntmps267;go_wp2;go_loopw[10] (λi wr=>∃k:Nat,k<=ζ l/\i=G k/\J (Bl w wr/\wr.1[δ w.1]?=B' jj/\wr.1[δ w.1+1]?=B' (k' #[Z (zR (l.take k)).1,Z (zR (l.take k)).2] 267 (0,0)))) (λi _=>ζ l-(intOf i).toNat)
 ·
  refine⟨0,bj,rfl,cG,fC.1,?_⟩;have:=(bL w fY fY).2;simpa[zR]using this
 obtain⟨k,a,rfl,f⟩:=hrel;by_cases L:k<ζ l;rotate_left
 ·have a:¬(k:Int)<(ζ l:Int):=I;have N:l.take k=l:=cH I;rw[N]at f;obtain⟨E,g⟩:=M f.B;obtain⟨p,d⟩:=M f.b;go_wp2;have r:χ (κ wr (O w.1.size 0) (Z ((zR l).1:Int))) (O w.1.size 0)=B' (Z ((zR l).1:Int)):=by rw[(M (aq f.b _)).1];rfl
  have R:χ (κ (κ wr (O w.1.size 0) (Z ((zR l).1:Int))) (O w.1.size 1) (Z ((zR l).2:Int))) (O w.1.size 1)=B' (Z ((zR l).2:Int)):=by rw[(M (aq (aq f.b _) _)).1];rfl
  refine aC (v:=dh (zR l)) (by simp[results267,go_sem,dh,r,R]) rfl ⟨rfl,?_⟩;exact(f.a.setCell aF _).setCell aF _
 have a:(k:Int)<(ζ l:Int):=I;obtain⟨s,F⟩:=La L;obtain⟨a,a,rfl,T,Q⟩:=h k s F;have U:=λw=>rT (s.1:Int) (s.2:Int) w;have a:=λw=>rS (s.1:Int) (s.2:Int) w;have t:=ax T f.a;have Y:=ax Q f.a;obtain⟨E,g⟩:=M f.B;have a:=lP t;have P:=(aY.1 f.B).1;have B:=S s (aT F);have b:=Q5 (l.take k) (λx F=>S x (uq F));have o:=Cr (zR (l.take k)).1 s.1 b.lo B.lo;have V:=Cr (zR (l.take k)).2 s.2 b.hi B.hi;have v:=hid F;clear B b F;obtain⟨u,C⟩:=Ea (zR (l.take k));rw[<-C]at E o V;have b:=hid C;clear C;go_wp2
 generalize j:wr.alloc (qH s.1 s.2)=V;have B:J (Bl w V/\V.1[δ w.1]?=B' jj/\V.1[δ w.1+1]?=B' (vf u.1 u.2)):=by
  subst j;have D:=(aY.1 f.b).1;refine⟨f.a.alloc f.a.size _,?_,?_⟩
  ·rw[bQ D];exact f.b
  rw[bQ P,b.o];exact f.B
 clear j E g T Q t Y;obtain⟨E,g⟩:=M B.B;refine wp_loop_rounds 3 ?_;rw[ub];go_wp2;obtain⟨p,d⟩:=M (aq (o:=0) B.B (Z ((u.1|||s.1:Nat):Int)));clear E g;rw[ub];go_wp2;rw[ub];go_wp2;go_roundw
 ·
  refine⟨k+1,I,f',?_,?_,?_⟩
  ·exact(B.a.setCell H' _).setCell H' _
  ·rw[aJ H',aJ H'];exact B.b
  rw[Q0 v.o,<-b.o];exact aq (aq B.B _) _
 exact G'
namespace Wm
def oJ(c:UInt8):Bool:=decide (97<=c.toNat)&&decide (c.toNat<=122)
def gM(c:UInt8):Bool:=decide (48<=c.toNat)&&decide (c.toNat<=57)
def sC(c:UInt8):Bool:=oJ c||gM c
def resv(l:List UInt8):Bool:=l==[105,110,112,117,116]||l==[111,117,116,112,117,116]||l==[105,102]||l==[103,111,116,111]||l==[114,101,116,117,114,110]
def SU(l:List UInt8):Bool:=
 match l with
 |[]=>false
 |c :: r=>oJ c&&(c :: r).all sC&&decide (r.length+1<=6)&&!resv (c :: r)
def nm(s:ByteArray):Bool:=SU s.data.toList
theorem TU(s:ByteArray)(k:Nat)(h:k<s.size):s.data.toList[k]?=some s[k]:=by rw[bR (by simpa using h)];rfl
theorem ux(s:ByteArray)(k:Nat)(h:k<s.size):s.data.toList.take (k+1)=s.data.toList.take k++[s[k]]:=by rw[cX (by simpa using h)];rfl
theorem bS(s:ByteArray):s.data.toList.length=s.size:=rfl
theorem fm(s:ByteArray)(h:0<s.size):s.data.toList=s[0] :: s.data.toList.drop 1:=by
 have:=TU s 0 h;cases X:s.data.toList with
 |nil=>rw[X]at this;simp at this
 |cons a t=>rw[X]at this;simp at this;simp[this]
theorem lh(s:ByteArray)(k:Nat)(p:UInt8->Bool)(h:k<s.size):(s.data.toList.take (k+1)).all p=((s.data.toList.take k).all p&&p s[k]):=by rw[ux s k h];simp[List.all_append]
theorem vM(l:List UInt8)(k:Nat)(p:UInt8->Bool)(h:l.all p=true):(l.take k).all p=true:=by rw[cF]at h⊢;exact λx F=>h x (uq F)
theorem F8(s:ByteArray)(D:0<s.size):nm s=(oJ s[0]&&s.data.toList.all sC&&decide (s.size<=6)&&!resv s.data.toList):=by have X:=bS s;unfold nm SU;rw[fm s D]at X⊢;simp only[cC]at X;show(oJ s[0]&&_&&decide ((List.drop 1 s.data.toList).length+1<=6)&&_)=_;rw[X]
theorem wG(s:ByteArray)(h:s.size=0):nm s=false:=by have X:=bS s;have:s.data.toList=[]:=du.1 I;unfold nm;rw[this];rfl
theorem Wx(s:ByteArray)(h:6<s.size):nm s=false:=by rw[F8 s I];simp;intros;omega
theorem Dl(s:ByteArray)(D:0<s.size)(h:oJ s[0]=false):nm s=false:=by rw[F8 s D,h];rfl
theorem SP(s:ByteArray)(k:Nat)(h:k<s.size)(a:sC s[k]=false):nm s=false:=by
 rw[F8 s I];have:s.data.toList.all sC=false:=by
  cases e:s.data.toList.all sC with
  |false=>rfl
  |true=>have:=vM _ (k+1) _ e;rw[lh s k _ h,a]at this;simp at this
 rw[this];simp
theorem abI(s:ByteArray)(D:0<s.size)(c:s.size<=6)(V:oJ s[0]=true)(a:(s.data.toList.take s.size).all sC=true):nm s=!resv s.data.toList:=by rw[F8 s D,V];rw[cH (by rw[bS];exact aF)]at a;rw[a];simp[c]
def tZ(l:List UInt8):Int:=if l==[43] then 0 else if l==[45] then 1 else if l==[42] then 2 else if l==[47] then 3 else 0
def wC(l:List UInt8):Bool:=l==[43]||l==[45]||l==[42]||l==[47]
def uw(l:List UInt8):Int:=if l==[60] then 0 else if l==[60,61] then 1 else if l==[61,61] then 2 else if l==[33,61] then 3 else 0
def xA(l:List UInt8):Bool:=l==[60]||l==[60,61]||l==[61,61]||l==[33,61]
end Wm
def iP(c:UInt8)(w:u'):
  Cl 191 #[.int .u8 c.toNat] w λe a=>e=p' (j' (Wm.oJ c))/\a=w:=by
 go_enter func191,ntmps191;go_wp2
 all_goals
  go_ret;refine⟨aN ?_,rfl⟩;unfold Wm.oJ
  first|(rw[cj];simp;omega)|skip
def lG(c:UInt8)(w:u'):
  Cl 192 #[.int .u8 c.toNat] w λe a=>e=p' (j' (Wm.gM c))/\a=w:=by
 go_enter func192,ntmps192;go_wp2
 all_goals
  go_ret;refine⟨aN ?_,rfl⟩;unfold Wm.gM
  first|(rw[cj];simp;omega)|skip
def yR(s:z')(w:u'):
  Cl 193 #[m' s] w λe a=>e=p' (j' (Wm.resv s.1.1))/\a=w:=by
 rw[<-dp];go_enter func193,ntmps193;go_wp2
 all_goals
  go_ret;refine⟨aN ?_,rfl⟩;unfold Wm.resv;simp_all
def eC(s:z')(w:u')(y:s.size<=maxLen):
  Cl 124 #[m' s] w λe a=>e=p' (j' (Wm.nm s))/\a=w:=by
 unfold maxLen at y;by_cases D:s.size=0
 ·go_enter func124,ntmps124;go_wp2;go_ret;exact⟨aN (Wm.wG s D).symm,rfl⟩
 by_cases c:6<s.size
 ·go_enter func124,ntmps124;go_wp2;go_ret;exact⟨aN (Wm.Wx s c).symm,rfl⟩
 have U:0<s.size:=I;have o:((s.size:Int)==0)=P':=by rw[b?];omega
 have b:decide (6<(s.size:Int))=P':=by rw[cR];omega
 cases V:Wm.oJ s[0]with
 |false=>go_enter func124,ntmps124;go_wp2_with (go_at_call 191;refine F' (iP _ _) ?_);go_ret;exact⟨aN (Wm.Dl s U V).symm,rfl⟩
 |true=>
  go_enter func124,ntmps124;go_wp2_with (go_at_call 191;refine F' (iP _ _) ?_)
  go_loop [20] (λi=>∃k:Nat,k<=s.size/\i=G k/\(s.1.1.take k).all Wm.sC=O') (λi=>s.size-(intOf i).toNat)
  ·exact⟨0,bj,rfl,ak⟩
  obtain⟨k,b,rfl,b⟩:=hrel;have T:=hid b;clear b;by_cases L:k<s.size;rotate_left
  ·go_wp2_with (go_at_call 193;refine F' (yR _ _) ?_);go_ret;exact⟨aN (Wm.abI s U I V (by rw[show s.size=k by omega];exact T.o)).symm,rfl⟩
  cases X:Wm.oJ s[k]with
  |true=>
   go_wp2_with (go_at_call 191;refine F' (iP _ _) ?_)
   go_round
   ·exact⟨k+1,I,f',by rw[Wm.lh s k _ L,T.o];simp[Wm.sC,X]⟩
   exact G'
  |false=>
   cases Q:Wm.gM s[k]with
   |true=>
    go_wp2_with (first|(go_at_call 191;refine F' (iP _ _) ?_)|(go_at_call 192;refine F' (lG _ _) ?_))
    go_round
    ·exact⟨k+1,I,f',by rw[Wm.lh s k _ L,T.o];simp[Wm.sC,Q]⟩
    exact G'
   |false=>go_wp2_with (first|(go_at_call 191;refine F' (iP _ _) ?_)|(go_at_call 192;refine F' (lG _ _) ?_));go_ret;exact⟨aN (Wm.SP s k L (by simp[Wm.sC,X,Q])).symm,rfl⟩
def fW{a b:Int}{c d:Bool}(h:a=b)(s:c=d):p' (t' #[G a,j' c])=p' (t' #[G b,j' d]):=by rw[h,s]
def FY(s:z')(w:u'):
  Cl 262 #[m' s] w λe a=>e=p' (t' #[G (Wm.tZ s.1.1),j' (Wm.wC s.1.1)])/\a=w:=by
 rw[<-dp];go_enter func262,ntmps262;go_wp2
 all_goals
  go_ret2;refine⟨fW ?_ ?_,rfl⟩<;>simp_all[Wm.tZ,Wm.wC]
def Af(s:z')(w:u'):
  Cl 260 #[m' s] w λe a=>e=p' (t' #[G (Wm.uw s.1.1),j' (Wm.xA s.1.1)])/\a=w:=by
 rw[<-dp];go_enter func260,ntmps260;go_wp2
 all_goals
  go_ret2;refine⟨fW ?_ ?_,rfl⟩<;>simp_all[Wm.uw,Wm.xA]
def Gv(c:Int)(w:u'):
  Cl 122 #[.int .i32 c] w λe a=>e=p' (j' (c==32||c==9||c==13))/\a=w:=by
 go_enter func122,ntmps122;go_wp2
 all_goals
  go_ret;refine⟨aN ?_,rfl⟩;simp_all
namespace Wm
def iX(a:Nat)(l:List UInt8):Nat:=l.foldl (λa c=>a*10+(c.toNat-48)) a
def dS(l:List UInt8):Nat:=iX 0 l
def dg(l:List UInt8):List UInt8:=trimPrefix l [45]
def ng(l:List UInt8):Bool:=hasPrefix l [45]
def ku(neg:Bool)(d:List UInt8):Bool:=
 match d with
 |[]=>false
 |c :: r=>(c :: r).all gM&&(if c.toNat==48 then decide (r.length=0)&&!neg else true)
def pA(l:List UInt8):Bool:=ku (ng l) (dg l)
def ga(l:List UInt8):Option Int:=
 if pA l then(if ng l then(if dS (dg l)<=9223372036854775808 then some (-(dS (dg l):Int)) else none) else if dS (dg l)<9223372036854775808 then some (dS (dg l):Int) else none) else none
theorem Nq(l:List UInt8):∀a,a<=iX a l:=by
 induction l with
 |nil=>intro a;exact aF
 |cons c r B=>intro a;have:=B (a*10+(c.toNat-48));simp only[iX,iC]at this⊢;omega
theorem kG(a:Nat)(c:UInt8)(r:List UInt8):iX a (c :: r)=iX (a*10+(c.toNat-48)) r:=by unfold iX;rw[iC]
theorem gq(c:UInt8):gM c=true↔48<=c.toNat/\c.toNat<=57:=by simp[gM]
theorem Wo(b a:Nat)(c:UInt8)(r:List UInt8)(T:48<=c.toNat/\c.toNat<=57):parseUintM b a (c :: r)=if 1844674407370955162<=a then .range else if b<a*10+(c.toNat-48) then .range else parseUintM b (a*10+(c.toNat-48)) r:=by rw[parseUintM,aB T]
theorem ar1(c a x f:Nat)(b:c<18446744073709551620)(C:1844674407370955162<=a)(u:a*10+x<=f):¬f<=c:=by omega
theorem Rf(d:Nat)(b:d<18446744073709551620):∀(l:List UInt8) (a:Nat),l.all gM=true->a<=d->parseUintM d a l=if iX a l<=d then .ok (iX a l) else .range
 |[],a,_,ha=>by rw[aB (show iX a []<=d from ha)];rfl
 |c :: r,a,Q,ha=>by
  have U:gM c=true:=by simp only[qC,bh]at Q;exact Q.1
  have P:r.all gM=true:=by simp only[qC,bh]at Q;exact Q.2
  have T:=(gq c).1 U;have u:=Nq r (a*10+(c.toNat-48));rw[Wo d a c r T,kG];by_cases C:1844674407370955162<=a
  ·rw[aB C,aA (ar1 d a _ _ b C u)]
  rw[aA C];by_cases e:d<a*10+(c.toNat-48)
  ·rw[aB e,aA I]
  rw[aA e];exact Rf d b r _ P I
theorem yC{a:Bool}{d:List UInt8}(h:ku a d=true):d.all gM=true/\d≠[]:=by
 cases d with
 |nil=>simp[ku]at h
 |cons c r=>simp only[ku,bh]at h;exact⟨h.1,by simp⟩
theorem DQ(r:List UInt8):dg (45 :: r)=r:=by simp[dg,trimPrefix,hasPrefix,List.isPrefixOf]
theorem Dm(r:List UInt8):ng (45 :: r)=true:=by simp[ng,hasPrefix,List.isPrefixOf]
theorem yD(c:UInt8)(r:List UInt8)(h:c≠45):ng (c :: r)=false:=by simp[ng,hasPrefix,List.isPrefixOf];exact λe=>h e.symm
theorem zq(c:UInt8)(r:List UInt8)(h:c≠45):dg (c :: r)=c :: r:=by have:=yD c r h;unfold ng at this;simp[dg,trimPrefix,this]
theorem ZO:(2:Nat) ^ (64-1)=9223372036854775808:=by decide
theorem ZN:(2:Nat) ^ 64-1=18446744073709551615:=by decide
theorem XK(r:List UInt8)(h:pA (45 :: r)=true):ga (45 :: r)=if dS r<=9223372036854775808 then some (-(dS r:Int)) else none:=by unfold ga;rw[aB h,Dm,DQ];rfl
theorem XJ(c:UInt8)(r:List UInt8)(T:c≠45)(h:pA (c :: r)=true):ga (c :: r)=if dS (c :: r)<9223372036854775808 then some (dS (c :: r):Int) else none:=by unfold ga;rw[aB h,yD c r T,zq c r T];rfl
theorem OZ(l:List UInt8)(h:pA l=true):parseIntB 64 l=match ga l with|some v=>.ok v|none=>.range:=by
 cases l with
 |nil=>simp[pA,dg,trimPrefix,hasPrefix,ku]at h
 |cons c r=>
  by_cases T:c=45
  ·subst T;rw[XK r h];unfold pA at h;rw[DQ,Dm]at h;obtain⟨a,K⟩:=yC h;have f:=Rf 18446744073709551615 I r 0 a I;unfold parseIntB parseUintB;simp only[show(45:UInt8).toNat=45 from rfl,or_true,c!,K,bU];rw[ZN,ZO,f];have e:iX 0 r=dS r:=rfl;rw[e];by_cases C:dS r<=18446744073709551615;rotate_left
   ·rw[aA C,aA I]
   rw[aB C];by_cases d:dS r<=9223372036854775808
   ·rw[aB d];simp only[not_true,false_and,bU,nV];rw[aA I]
   rw[aA d];simp only[not_true,false_and,bU,nV];rw[aB I]
  rw[XJ c r T h];unfold pA at h;rw[zq c r T,yD c r T]at h;obtain⟨a,K⟩:=yC h;have f:=Rf 18446744073709551615 I (c :: r) 0 a I;have z:48<=c.toNat/\c.toNat<=57:=by simp only[qC,bh]at a;exact(gq c).1 a.1
  unfold parseIntB parseUintB;have a:¬(c.toNat=43∨c.toNat=45):=by omega
  have b:¬c.toNat=45:=by omega
  simp only[a,bU,K];rw[ZN,ZO,f];simp only[b];have e:iX 0 (c :: r)=dS (c :: r):=rfl;rw[e];by_cases C:dS (c :: r)<=18446744073709551615;rotate_left
  ·rw[aA C,aA I]
  rw[aB C];by_cases d:dS (c :: r)<9223372036854775808
  ·rw[aB d];simp only[not_false_eq_true,nV,false_and,bU];rw[aA I]
  rw[aA d];simp only[not_false_eq_true,nV];rw[aB I]
end Wm
def Hl(s p:z')(w:u'):
  Cl 91 #[m' s,m' p] w λe a=>∃(D:z') (b:Bool),e=p' (t' #[m' D,j' b])/\J (D.1.1=Lib.trimPrefix s.1.1 p.1.1/\b=Lib.hasPrefix s.1.1 p.1.1)/\a=w:=
 (Tryz.strings_CutPrefix s p w).mono λ_ _ h=>⟨_,_,h.1,⟨rfl,rfl⟩,h.2⟩
def Ry(l p:y'):ζ (Lib.trimPrefix l p)<=ζ l:=by unfold Lib.trimPrefix;split<;>simp
def yA(D:z')(b:Bool)(h:D.size=0):Wm.ku b D.1.1=P':=by have:D.1.1=[]:=du.1 h;rw[this];rfl
def yB(D:z')(b:Bool)(k:Nat)(h:k<D.size)(Q:Wm.gM D[k]=P'):Wm.ku b D.1.1=P':=by
 cases e:Wm.ku b D.1.1 with
 |false=>rfl
 |true=>have:=Wm.vM _ (k+1) _ (Wm.yC e).1;rw[Wm.lh D k _ h,Q]at this;simp at this
def yz(D:z')(b:Bool)(h:0<D.size)(a:(D.1.1.take D.size).all Wm.gM=O'):Wm.ku b D.1.1=if D[0].toNat==48 then decide (D.size=1)&&!b else O':=by
 rw[cH (by rw[Wm.bS];exact aF)]at a;have X:=Wm.bS D;have T:=Wm.fm D h;rw[T]at X a;unfold Wm.ku;rw[T];simp only[cC]at X;simp only[a,dW];have:decide (ζ (drop 1 D.1.1)=0)=decide (D.size=1):=by rw[cj];simp only[bq];omega
 rw[this]
def mg(s:z')(w:u')(y:s.size<=maxLen):
  Cl 337 #[m' s] w λe a=>e=p' (j' (Wm.pA s.1.1))/\a=w:=by
 unfold maxLen at y;go_enter func337,ntmps337;go_wp2_with fail;refine(Hl _ _ _).mono ?_;rintro e a ⟨D,b,rfl,t,rfl⟩;have f:D.size<=2 ^ 63-1:=by have C:=Ry s.1.1 [45];have c:=dZ length t.a;have N:=Wm.bS D;have d:=Wm.bS s;simp only at c;omega
 have K:J (Wm.pA s.1.1=Wm.ku b D.1.1):=by show _=_;rw[t.a,t.A];rfl
 clear t;by_cases c:D.size=0
 ·go_wp2;go_ret;exact⟨aN (K.o.trans (yA D b c)).symm,rfl⟩
 have U:0<D.size:=I;have o:((D.size:Int)==0)=P':=by rw[b?];omega
 go_wp2
 go_loop [16] (λi=>∃k:Nat,k<=D.size/\i=G k/\J ((D.1.1.take k).all Wm.gM=O')) (λi=>D.size-(intOf i).toNat)
 case atStart=>exact⟨0,bj,rfl,by show _=O';simp⟩
 obtain⟨k,c,rfl,T⟩:=hrel;by_cases L:k<D.size
 ·cases Q:Wm.gM D[k]with
  |true=>
   go_wp2_with (go_at_call 192;refine(lG _ _).mono ?_;rintro e a ⟨rfl,rfl⟩)
   go_round
   case rel=>exact⟨k+1,I,f',by show _=O';rw[Wm.lh D k _ L,T.o,Q];rfl⟩
   exact G'
  |false=>go_wp2_with (go_at_call 192;refine(lG _ _).mono ?_;rintro e a ⟨rfl,rfl⟩);go_ret;exact⟨aN (K.o.trans (yB D b k L Q)).symm,rfl⟩
 obtain rfl:k=D.size:=I;have a:=yz D b U T.o;have d:=hid (K.o.trans a);clear a;by_cases a:D[0].toNat=48;rotate_left
 ·have c:((D[0].toNat:Int)==48)=P':=by rw[b?];omega
  go_wp2;go_ret;refine⟨aN ?_,rfl⟩;rw[d.o];simp[a]
 have c:((D[0].toNat:Int)==48)=O':=by rw[bT];omega
 by_cases C:D.size=1
 ·have V:((D.size:Int)==1)=O':=by rw[bT];omega
  go_wp2;go_ret;refine⟨aN ?_,rfl⟩;rw[d.o];simp[a,C]
 have V:((D.size:Int)==1)=P':=by rw[b?];omega
 go_wp2;go_ret;refine⟨aN ?_,rfl⟩;rw[d.o];simp[a,C]
def jE(l:y'):Int:=(Wm.ga l).getD 0
def jd(l:y'):Bool:=(Wm.ga l).isSome
def Le{l:y'}(h:Wm.pA l=P'):Wm.ga l=C':=by rw[Wm.ga,h];rfl
def s9(s:z')(b:A')(w:u')(y:s.size<=3000)(R:χ w (O 5 0)=B' b)(L:∃i z,b=.iface i z):
  Cl 304 #[m' s] w (Rb w (t' #[G (jE s.1.1),j' (jd s.1.1)])):=by
 have d:s.size<=maxLen:=by unfold maxLen;omega
 cases K:Wm.pA s.1.1 with
 |false=>go_enter func304,ntmps304;go_wp2_with (go_at_call 337;refine F' (mg _ _ d) ?_);go_ret2;exact⟨fW (by simp[jE,Le K]) (by simp[jd,Le K]),aQ⟩
 |true=>
  have r:=Wm.OZ _ K;cases T:Wm.ga s.1.1 with
  |some v=>
   rw[T]at r;have Y:=hid T;clear T;go_enter func304,ntmps304;go_wp2_with (first|(go_at_call 337;refine F' (mg _ _ d) ?_)|(go_at_call 338;refine D' (Tryz.strconv_ParseInt_10_at64_ok s I v r _) λa B=>?_));go_ret2;refine⟨fW (by simp[jE,Y.o]) (by simp[jd,Y.o]),?_⟩;rcases B with rfl|⟨t,rfl⟩
   ·exact aQ
   exact Lib.bytesWorld_below _ _ _
  |none=>rw[T]at r;have Y:=hid T;clear T;go_enter func304,ntmps304;go_wp2_with (first|(go_at_call 337;refine F' (mg _ _ d) ?_)|(go_at_call 338;refine(Tryz.strconv_ParseInt_10_at64_range s I r b _ R (aK L)).mono ?_;rintro e a ⟨N,rfl,p,a,a⟩));go_ret2;exact⟨fW (by simp[jE,Y.o]) (by simp[jd,Y.o]),a⟩
section
variable {b:u'} {a:Nat}
abbrev bE:=y'
def k7(l:bE):Lit:=.string l
def np(D:DataW Unit)(i:Nat):List bE->DataW Unit
 |[]=>D
 |v::r=>np (D.put (k7 v) (.lit (.int .i64 i))) (i+1) r
def tab(vs:List bE):DataW Unit:=np (.map []) 0 vs
def sD(v:bE):∀(l:List bE) (D:DataW Unit) (i:Nat),np D i (l++[v])=(np D i l).put (k7 v) (.lit (.int .i64 ((i+ζ l:Nat):Int)))
 |[],D,i=>by simp[np]
 |x::l,D,i=>by rw[cW,np,np,sD v l];congr 4;simp;omega
def o!(E:List bE)(v:bE):tab (E++[v])=(tab E).put (k7 v) (.lit (.int .i64 (ζ E:Int))):=by unfold tab;rw[sD];simp
theorem qf(l:bE):WideAt.IsKeyLit (k7 l):=by simp[k7,WideAt.IsKeyLit]
def xB(E:List bE):Tidy (tab E):=by
 suffices h:∀n (E:List bE),ζ E=n->Tidy (tab E)from h _ E rfl
 intro n;induction n with
 |zero=>intro E h;rw[du.1 h];exact tidy_empty
 |succ n B=>intro E h;obtain⟨l,v,rfl⟩:∃l v,E=l++[v]:=⟨E.dropLast,E.getLast (by intro e;simp[e]at h),(wW _).symm⟩;rw[o!];exact(B l (I' h)).put (qf v) _
theorem tA{a b:bE}(h:k7 a=k7 b):a=b:=by simpa[k7]using h
def Dz(E:List bE)(v:bE):Maps.has (tab E) (k7 v)=decide (v∈E):=by
 suffices h:∀n (E:List bE),ζ E=n->Maps.has (tab E) (k7 v)=decide (v∈E)from h _ E rfl
 intro n;induction n with
 |zero=>intro E h;rw[du.1 h];rfl
 |succ n B=>
  intro E h;obtain⟨l,x,rfl⟩:∃l v,E=l++[v]:=⟨E.dropLast,E.getLast (by intro e;simp[e]at h),(wW _).symm⟩;rw[o!];by_cases e:v=x
  ·subst e;rw[Maps.has_put_same (xB l).isMap (qf v)];simp
  rw[Maps.has_put_other (λL=>e (tA L)),B l (I' h)];simp[e]
def E5(E:List bE)(Q:E.Nodup):Maps.size (tab E)=ζ E:=by
 suffices h:∀n (E:List bE),ζ E=n->E.Nodup->Maps.size (tab E)=ζ E from h _ E rfl Q
 intro n;induction n with
 |zero=>intro E h _;rw[du.1 h];rfl
 |succ n B=>
  intro E h Q;obtain⟨l,x,rfl⟩:∃l v,E=l++[v]:=⟨E.dropLast,E.getLast (by intro e;simp[e]at h),(wW _).symm⟩;have K:x∉l:=by rw[uu]at Q;exact λF=>Q.2.2 x F x ak rfl
  rw[o!,Maps.size_put (xB l),Dz,B l (I' h) (by rw[uu]at Q;exact Q.1)];simp[K]
def ca(E:List bE)(Q:E.Nodup)(v:bE)(R:v∈E):(tab E).atKey (k7 v) (.lit (.int .i64 0))=.lit (.int .i64 (E.idxOf v:Int)):=by
 suffices h:∀n (E:List bE),ζ E=n->E.Nodup->v∈E->(tab E).atKey (k7 v) (.lit (.int .i64 0))=.lit (.int .i64 (E.idxOf v:Int))from h _ E rfl Q R
 intro n;induction n with
 |zero=>intro E h _ R;rw[du.1 h]at R;cases R
 |succ n B=>
  intro E h Q R;obtain⟨l,x,rfl⟩:∃l v,E=l++[v]:=⟨E.dropLast,E.getLast (by intro e;simp[e]at h),(wW _).symm⟩;have K:x∉l:=by rw[uu]at Q;exact λF=>Q.2.2 x F x ak rfl
  rw[o!];by_cases e:v=x
  ·subst e;rw[Maps.atKey_put_same (xB l).isMap (qf v),w!,aA K];simp
  have X:v∈l:=by simpa[e]using R
  rw[Maps.atKey_put_other (λL=>e (tA L)),B l (I' h) (by rw[uu]at Q;exact Q.1) X,w!,aB X]
def eS(vs:List bE)(v:bE):Int:=if v∈vs then(vs.idxOf v:Int) else ζ vs
def cB(vs:List bE)(v:bE):List bE:=if v∈vs then vs else vs++[v]
def xr{E:List bE}(h:E.Nodup)(v:bE):(cB E v).Nodup:=by
 unfold cB;split
 ·exact h
 rw[uu];exact⟨h,ak,by rintro a a b a rfl;simp at a;subst a;contradiction⟩
def kO(E:List bE)(v:bE):ζ (cB E v)<=ζ E+1:=by unfold cB;split<;>simp
def Gk:Keyed Tryz.prog 9:=string_keyed underlying9
def AU(w:u'):(zeroValue 3).run Tryz.prog w=.ok (.int .i64 0) w:=by kernel_rfl
structure Rd(w:u')(rb mb:Nat)(vs:List bE):Prop where
  box:w.1[rb]?=B' (k' #[.map (B' mb)] 143 (0,0))
  own:w.ownsMap Tryz.prog 9 (plainElem Tryz.prog 3) mb (ζ vs) (tab vs)
  nodup:vs.Nodup
def Rd.cell{E:List bE}(h:Rd w a x E):χ w (O a 0)=B' (.map (B' x)):=by simp[World.cell?,h.box]
def Rd.isMap{E:List bE}(h:Rd w a x E):∃a c,w.1[x]?=B' (.map a c):=by obtain⟨a,c,b,_⟩:=h.own;exact⟨a,c,b⟩
def Rd.ne{E:List bE}(h:Rd w a x E):a≠x:=by rintro rfl;obtain⟨a,c,a⟩:=h.isMap;rw[h.box]at a;cases a
def Rd.kept{E:List bE}(h:Rd w a x E)(c:ξ w b C'):Rd b a x E:=
 ⟨(c.block a (aY.1 h.box).1 ak).trans h.box,h.own.kept c ak,h.nodup⟩
def bC{W:u'}(a:Below W.1.size W b):ξ W b C':=⟨a.os,a.tape,a.output,a.size,λk b _=>a.block k b⟩
def ko(s:z')(g x:Nat)(E:List bE)(w:u')(y:s.size<=maxLen)(K:ζ E<maxLen)(v:Rd w g x E):
  Cl 261 #[o' (B' (O g 0)),m' s] w λe a=>
   e=p' (.int .i64 (eS E s.1.1))/\Rd a g x (cB E s.1.1)/\ξ w a (B' x):=by
 have T:=v.cell;have q:keyOf Tryz.prog 9 (m' s)=B' (k7 s.1.1):=keyOf_string_mk underlying9 y;have o:=v.own;by_cases f:s.1.1∈E
 ·have V:Maps.has (tab E) (k7 s.1.1)=O':=by rw[Dz];simpa using f
  go_enter func261,ntmps261
  go_wp2_with (first
   |(at_lookup;refine wpList_lookup_own_ok_int _ rfl _ _ 141 rfl 9 3 .i64 Gk underlying141 underlying3 (AU _) x (ζ E) (tab E) rfl o _ _ rfl q ?_;intro c W h))
  go_ret;have e:=W.symm.trans (ca E v.nodup _ f);simp only[DataW.lit.injEq,Lit.int.injEq,nV]at e;subst e;exact⟨by simp[eS,f],by simpa[cB,f]using v,World.grownBy.refl _ _⟩
 have V:Maps.has (tab E) (k7 s.1.1)=P':=by rw[Dz];simpa using f
 have a:=E5 E v.nodup;go_enter func261,ntmps261
 go_wp2_with (first
  |(at_lookup;refine wpList_lookup_own_ok_int _ rfl _ _ 141 rfl 9 3 .i64 Gk underlying141 underlying3 (AU _) x (ζ E) (tab E) rfl o _ _ rfl q ?_;intro c W h)
  |(at_len;refine wpList_len_own _ rfl _ 141 rfl 9 3 underlying141 _ x (ζ E) (tab E) rfl o ?_)
  |(at_mapUpdate;refine wpList_mapUpdate_own _ rfl _ _ _ 141 rfl 9 3 Gk underlying141 _ x (ζ E) (tab E) rfl o K _ _ _ rfl rfl q _ [] (plainElem_int underlying3 (WalkArith.wf_i64 (by unfold maxLen at K;omega))) ?_;intro b a d))
 go_ret;refine⟨by simp[eS,f],⟨?_,?_,xr v.nodup _⟩,d⟩
 ·exact(d.block g (aY.1 v.box).1 (by simp;exact v.ne)).trans v.box
 have e:cB E s.1.1=E++[s.1.1]:=by simp[cB,f]
 rw[e,o!,bF];exact a
end
section
variable {E:List bE} {q:Option Nat}
structure lU where
  aS:Bool
  var:Int
  cq:Int
def oI(vs:List bE)(s:z'):lU:=if Wm.nm s then⟨O',eS vs s.1.1,0⟩ else⟨P',0,jE s.1.1⟩
def bY(s:z'):Bool:=Wm.nm s||jd s.1.1
def bP(vs:List bE)(s:z'):List bE:=if Wm.nm s then cB vs s.1.1 else vs
def jS(E:List bE)(s:z'):ζ (bP E s)<=ζ E+1:=by unfold bP;split;exact kO _ _;omega
def eH(w:u'):Prop:=∃te pe,χ w (O 5 0)=B' (.iface te pe)
def eH.kept{row:Option Nat}(h:eH w)(d:∃b c,w.1[x]?=B' (.map b c))(g:ξ w a row)(e:row=C'\/row=B' x):eH a:=by
 obtain⟨i,z,T⟩:=h;obtain⟨c,t,f,a⟩:=ka T;refine⟨i,z,g.cell T ?_⟩;rcases e with rfl|rfl
 ·simp
 intro e;simp only[fD]at e;subst e;obtain⟨b,b,d⟩:=d;rw[a]at d;cases d
def Rd.grown(h:Rd w b x E)(c:Bl w a):Rd a b x E:=h.kept (bC c)
def j0{c:u'}(h:ξ a c C')(q:Option Nat):ξ a c q:=⟨h.os,h.tape,h.output,h.size,λi S _=>h.block i S ak⟩
def ab(o:lU):A':=l' #[j' o.aS,G o.var,G o.cq]
def Rd.alloc{a:Nat}(h:Rd w a x E)(o:Obj):Rd (w.alloc o) a x E:=h.kept zJ
def eH.alloc(h:eH w)(o:Obj):eH (w.alloc o):=by obtain⟨i,z,T⟩:=h;exact⟨i,z,(jO w o C').cell T ak⟩
def Rd.lt{a:Nat}(h:Rd w a x E):x<δ w.1:=h.own.lt
def ep{b:u'}{L:Array A'}{t:TypeId}(a:ξ (w.alloc (k' L t)) b q)(d:∀k,q=B' k->k<δ w.1):b.1[δ w.1]?=B' (c7 L t):=by rw[a.block w.1.size ak (λe=>J' (d _ e.symm))];exact cv w _
def dH{b:u'}(h:ξ w b q){a:Addr}(c:δ w.1<=a.block)(v:A'):ξ w (b.setCell a v) q:=
 ⟨h.os,h.tape,h.output,by simpa[World.setCell]using h.size,λk a b=>(aJ I).trans (h.block k a b)⟩
def Rd.set(h:Rd w b x E){a:Addr}(C:a.block≠b)(c:a.block≠x)(v:A'):Rd (w.setCell a v) b x E:=
 ⟨(aJ (gG C)).trans h.box,h.own.setCell (gG c) v,h.nodup⟩
def Rd.O?{a:Nat}(h:Rd w a x E):a<δ w.1:=(aY.1 h.box).1
def cI{o:Obj}(h:ξ (w.alloc o) a q):ξ w a q:=(jO w o q).trans h
def F2(s:z')(a x:Nat)(E:List bE)(w:u')(y:s.size<=3000)(K:ζ E<maxLen)(v:Rd w a x E)(f:eH w):
  Cl 259 #[o' (B' (O a 0)),m' s] w λe c=>
   e=p' (t' #[ab (oI E s),j' (bY s)])/\Rd c a x (bP E s)/\ξ w c (B' x):=by
 have d:s.size<=maxLen:=by unfold maxLen;omega
 have C:=v.lt;have b:=v.O?;cases j:Wm.nm s with
 |true=>
  go_enter func259,ntmps259;go_wp2_with (first|(go_at_call 124;refine F' (eC _ _ d) ?_)|(go_at_call 261;refine(ko s a x E _ d K (v.alloc _)).mono ?_;rintro e b ⟨rfl,B,a⟩;have r:=ep a (λk e=>by cases e;exact v.lt);have L:=M r));refine aC (v:=t' #[l' #[j' O',G (eS E s.1.1),G 0],j' O']) (by simp[results259,go_sem,L.1]) rfl ⟨by simp[oI,ab,bY,j],?_,?_⟩
  ·rw[show bP E s=cB E s.1.1 by simp[bP,j]];exact((B.set H' H' _).set H' H' _).set H' H' _
  exact dH (dH (dH (cI a) aF _) aF _) aF _
 |false=>
  obtain⟨i,z,T⟩:=f.alloc (k' #[j' P',Value.int IntKind.i64 0,Value.int IntKind.i64 0] 150);go_enter func259,ntmps259;go_wp2_with (first|(go_at_call 124;refine F' (eC _ _ d) ?_)|(go_at_call 304;refine D' (s9 s (.iface i z) _ y T ⟨i,z,rfl⟩) λb l=>?_;have r:=ep (bC l) (λk e=>by cases e);have L:=M r));refine aC (v:=t' #[l' #[j' P',G 0,G (jE s.1.1)],j' (jd s.1.1)]) (by simp[results259,go_sem,L.1]) rfl ⟨by simp[oI,ab,bY,j],?_,?_⟩
  ·rw[show bP E s=E by simp[bP,j]];exact((((v.alloc _).kept (bC l)).set H' H' _).set H' H' _).set H' H' _
  exact dH (dH (dH (cI (j0 (bC l) (B' x))) aF _) aF _) aF _
def kC(s:z')(a x:Nat)(E:List bE)(w:u')(c:s.size<=3000)(K:ζ E<maxLen)(v:Rd w a x E)(d:eH w):
  Cl 259 #[o' (B' (O a 0)),m' s] w λe b=>∃(y:Bool) (z o:Int),
   e=p' (t' #[l' #[j' y,G z,G o],j' (bY s)])/\J (oI E s=⟨y,z,o⟩)/\Rd b a x (bP E s)/\ξ w b (B' x):=
 (F2 s a x E w c K v d).mono λ_ _ h=>⟨_,_,_,h.1,rfl,h.2.1,h.2.2⟩
def eH.grown(h:eH w)(v:Rd w b x E)(b:ξ w a (B' x)):eH a:=h.kept v.isMap b (aK rfl)
def eH.set(h:eH w){a:Addr}(b:a.block≠5)(v:A'):eH (w.setCell a v):=by obtain⟨i,z,T⟩:=h;refine⟨i,z,?_⟩;rw[World.cell?_of_block (w:=w) (aJ (gG b))];exact T
def eH.lt(h:eH w):5<δ w.1:=by obtain⟨i,z,T⟩:=h;exact World.block_lt_of_cell? w _ T
end
section
variable {g t:Nat} {R:List z'}
def Ws(w:u')(g off:Nat)(ws:List z'):Prop:=∃cur,w.1[g]?=B' (k' cur 9 (0,0))/\(cur.toList.drop off).take (ζ ws)=ws.map m'
def Ws.cell(h:Ws w g t R)(j:Nat)(x:z')(f:R[j]?=B' x):χ w (O g (t+j))=B' (m' x):=by
 obtain⟨Y,a,U⟩:=h;have X:=(bm.1 f).1;have C:((Y.toList.drop t).take (ζ R))[j]?=B' (m' x):=by rw[U];simp[f]
 rw[u4,aB X,getElem?_drop]at C;simp[World.cell?,a];simpa using C
def Ws.lt(h:Ws w g t R):g<δ w.1:=by obtain⟨Y,a,_⟩:=h;exact(aY.1 a).1
def Ws.of_block(h:Ws w g t R)(b:a.1[g]?=w.1[g]?):Ws a g t R:=by obtain⟨Y,C,a⟩:=h;exact⟨Y,b.trans C,a⟩
def Ws.abK(h:Ws w g t R)(d:∃a c,w.1[x]?=B' (.map a c)):g≠x:=by rintro rfl;obtain⟨Y,C,_⟩:=h;obtain⟨a,c,a⟩:=d;rw[C]at a;cases a
def Ws.grown(h:Ws w g t R)(d:∃b c,w.1[x]?=B' (.map b c))(b:ξ w a (B' x)):Ws a g t R:=
 h.of_block (b.block g h.lt (by simp;exact h.abK d))
def Ws.alloc(h:Ws w g t R)(o:Obj):Ws (w.alloc o) g t R:=h.of_block (qq w o g h.lt)
def Ws.set(h:Ws w g t R){a:Addr}(b:g≠a.block)(v:A'):Ws (w.setCell a v) g t R:=h.of_block (aJ b)
def Ws.tail{x:z'}(h:Ws w g t (x::R)):Ws w g (t+1) R:=by obtain⟨Y,C,a⟩:=h;refine⟨Y,C,?_⟩;have:=dZ (drop 1) a;simpa[drop_take,AQ,w8]using this
structure SN where
  aG:Int
  var:Int
  op:Int
  test:Int
  a:lU
  b:lU
  bB:z'
def o0:lU:=⟨P',0,0⟩
def emp:z':=⟨#[]⟩
def aR(bu:z')(wv:A')(n:SN)(ev:A'):Array A':=
 #[m' bu,wv,G n.aG,G n.var,G n.op,G n.test,j' n.a.aS,G n.a.var,G n.a.cq,j' n.b.aS,G n.b.var,G n.b.cq,ev,m' n.bB]
def gK:A':=i' C' 0 0
def jr(n:SN):A':=l' (aR emp gK n gK)
def oM:SN:=⟨0,0,0,0,o0,o0,emp⟩
def l7(d:Nat)(a:x')(c b:Nat)(w:u')(h:((c:Int) !=2)=O')(X:c<=3001):
  Cl 194 #[o' (B' (O d 0)),i' a c b] w λe a=>
   e=p' (t' #[jr oM,j' P'])/\Bl w a:=by
 go_enter func194,ntmps194;go_wp2;exact aC (v:=t' #[jr oM,j' P']) (by simp[results194,go_sem,jr,aR,oM,o0,emp,gK]) rfl ⟨rfl,aQ.alloc aF _⟩
def xV(c x g t d:Nat)(u b:z')(E:List bE)(w:u')(y:b.size<=3000)(K:ζ E<maxLen)(v:Rd w c x E)(f:eH w)(j:Ws w g t [u,b]):
  Cl 194 #[o' (B' (O c 0)),i' (B' (O g t)) 2 d] w λe d=>
   e=p' (t' #[jr ⟨3,0,0,0,oI E b,o0,emp⟩,j' (bY b)])/\Rd d c x (bP E b)/\ξ w d (B' x):=by
 have T:=j.cell 1 b rfl;have d:=j.lt;have d:=v.lt;have d:=v.O?;go_enter func194,ntmps194;go_wp2_with (first|(go_at_call 259;refine(kC b c x E _ y K (v.alloc _) (f.alloc _)).mono ?_;rintro e W ⟨h,z,o,rfl,V,B,s⟩;have r:=ep s (λk e=>by cases e;exact v.lt);have L:=M r;have f:=(aY.1 r).1));refine aC (v:=t' #[jr ⟨3,0,0,0,⟨h,z,o⟩,o0,emp⟩,j' (bY b)]) (by simp[results194,go_sem,jr,aR,o0,emp,gK,L.1,f]) rfl ⟨by rw[V.o],?_,?_⟩
 ·refine Rd.alloc ?_ _
  repeat(refine Rd.set ?_ H' H' _)
  exact B
 refine Cj ?_ zJ
 repeat(refine dH ?_ aF _)
 exact cI s
end
def pf(a:x')(c b:Nat)(w:u')(h:((c:Int) !=2)=O')(X:c<=3001):
  Cl 196 #[i' a c b] w λe a=>
   e=p' (t' #[jr oM,j' P'])/\Bl w a:=by
 go_enter func196,ntmps196;go_wp2;exact aC (v:=t' #[jr oM,j' P']) (by simp[results196,go_sem,jr,aR,oM,o0,emp,gK]) rfl ⟨rfl,aQ.alloc aF _⟩
def C1(g t a:Nat)(u b:z')(w:u')(y:b.size<=3000)(j:Ws w g t [u,b]):
  Cl 196 #[i' (B' (O g t)) 2 a] w λe a=>
   e=p' (t' #[jr ⟨5,0,0,0,o0,o0,b⟩,j' (Wm.nm b)])/\Bl w a:=by
 have T:=j.cell 1 b rfl;have c:=j.lt;have d:b.size<=maxLen:=by unfold maxLen;omega
 have z:=World.new_ne w (O g (t+1)) T;go_enter func196,ntmps196;go_wp2
 go_region_held3 (λa=>χ a (O g (t+1))=B' (m' b)) (go_keep) ((go_at_call 124;refine F' (eC _ _ d) ?_))
 go_wp2;exact aC (v:=t' #[jr ⟨5,0,0,0,o0,o0,b⟩,j' (Wm.nm b)]) (by simp[results196,go_sem,jr,aR,o0,emp,gK]) rfl ⟨rfl,(aQ.alloc aF _).drew⟩
def nP{a:u'}{x:Nat}(h:w.1[b]?=B' (c7 L t))(d:∃e c,w.1[x]?=B' (.map e c))(f:ξ w a (B' x)):a.1[b]?=B' (c7 L t):=by refine(f.block b (aY.1 h).1 ?_).trans h;simp only[ne_eq,fD];rintro rfl;obtain⟨e,c,e⟩:=d;rw[h]at e;cases e
def fK(h:w.1[b]?=B' (c7 L t))(o:Obj):(w.alloc o).1[b]?=B' (c7 L t):=
 (qq w o b (aY.1 h).1).trans h
def YK{p:Prop}(h:p:=by
 go_enter func195,ntmps195;go_wp2
 exact aC (v:=t' #[jr oM,j' P']) (by simp[results195,go_sem,jr,aR,oM,o0,emp,gK]) rfl ⟨rfl,aQ.alloc aF _⟩):p:=h
def Oz(d:Nat)(a:x')(c b:Nat)(w:u')(h:((c:Int) !=6)=O')(X:c<=3001):
  Cl 195 #[o' (B' (O d 0)),i' a c b] w λe a=>
   e=p' (t' #[jr oM,j' P'])/\Bl w a:=by
 exact YK
def JY(c g t a:Nat)(u b W i Y p:z')(w:u')(j:Ws w g t [u,b,W,i,Y,p])(d:(Y.toList==[103,111,116,111])=P'):
  Cl 195 #[o' (B' (O c 0)),i' (B' (O g t)) 6 a] w λe a=>
   e=p' (t' #[jr oM,j' P'])/\Bl w a:=by
 have T:=j.cell 4 Y rfl;have a:=j.lt;exact YK
def l8(d:Nat)(a:x')(c b:Nat)(w:u')(h:decide ((c:Int)<3)=O'):
  Cl 197 #[o' (B' (O d 0)),i' a c b] w λe a=>
   e=p' (t' #[jr oM,j' P'])/\Bl w a:=by
 go_enter func197,ntmps197;go_wp2;exact aC (v:=t' #[jr oM,j' P']) (by simp[results197,go_sem,jr,aR,oM,o0,emp,gK]) rfl ⟨rfl,aQ.alloc aF _⟩
def YI(h:p:=by
 go_enter func197,ntmps197;go_wp2_with (first|(go_at_call 124;refine(eC _ _ y).mono ?_;rintro e a ⟨rfl,rfl⟩))
 exact aC (v:=t' #[jr oM,j' false]) (by simp[results,results197,go_sem,jr,aR,oM,o0,emp,gK]) rfl ⟨rfl,aQ.alloc aF _⟩):p:=h
def C4(b g t c a:Nat)(u:z')(R:List z')(w:u')(j:Ws w g t (u::R))(y:u.size<=maxLen)(h:decide ((c:Int)<3)=P')(K:Wm.nm u=P'):
  Cl 197 (j! b g t c a) w λe a=>
   e=p' (t' #[jr oM,j' P'])/\Bl w a:=by
 have T:χ w (O g t)=B' (m' u):=j.cell 0 u rfl;have b:=j.lt;have X:(0:Int)<c:=by have:=j9 h;omega
 exact YI
def J0(d g t c a:Nat)(u b:z')(R:List z')(w:u')(j:Ws w g t (u::b::R))(y:u.size<=maxLen)(h:decide ((c:Int)<3)=P')(K:Wm.nm u=O')(l:(b.toList==[61])=P'):
  Cl 197 (j! d g t c a) w λe a=>
   e=p' (t' #[jr oM,j' P'])/\Bl w a:=by
 have T:χ w (O g t)=B' (m' u):=j.cell 0 u rfl;have d:=j.cell 1 b rfl;have b:=j.lt;have X:(0:Int)<c:=by have:=j9 h;omega
 have b:(1:Int)<c:=by have:=j9 h;omega
 exact YI
def z!(a x g t c:Nat)(u b W:z')(E:List bE)(w:u')(j:Ws w g t [u,b,W])(y:u.size<=maxLen)(K:Wm.nm u=O')(l:(b.toList==[61])=O')(S:(W.toList==[105,110,112,117,116])=O')(X:ζ E<maxLen)(v:Rd w a x E):
  Cl 197 #[o' (B' (O a 0)),i' (B' (O g t)) 3 c] w λe f=>
   e=p' (t' #[jr ⟨2,eS E u.1.1,0,0,o0,o0,emp⟩,j' O'])/\Rd f a x (cB E u.1.1)/\ξ w f (B' x):=by
 have T:χ w (O g t)=B' (m' u):=j.cell 0 u rfl;have c:=j.cell 1 b rfl;have b:=j.lt;have d:=v.lt;have b:=v.O?;go_enter func197,ntmps197
 go_wp2_with (first
  |(go_at_call 124;refine F' (eC _ _ y) ?_)
  |(go_at_call 261;refine(ko u a x E _ y X (v.alloc _)).mono ?_;rintro e F ⟨rfl,B,b⟩;have r:=ep b (λk e=>by cases e;exact v.lt);have L:=M r;have f:δ w.1<δ F.1:=(aY.1 r).1;have a:=(j.alloc _).grown (v.alloc _).isMap b;have P:=a.cell 2 W rfl;have R:=a.lt))
 refine aC (v:=t' #[jr ⟨2,eS E u.1.1,0,0,o0,o0,emp⟩,j' O']) (by simp[results197,go_sem,jr,aR,o0,emp,gK,L.1,f]) rfl ⟨rfl,?_,?_⟩
 ·repeat(refine Rd.set ?_ H' H' _)
  exact B
 repeat(refine dH ?_ aF _)
 exact cI b
def ah(h:p:=by
 have T:χ w (O g off)=B' (m' w0):=hW.cell 0 w0 rfl;have c:=hW.cell 1 w1 rfl;have b:=hW.lt;have d:=hR.lt;have b:=hR.O?
 first|(have _:=ZW;(have b:(0:Int)<len:=J' (j9 hle));(have b:(1:Int)<len:=J' (j9 hle));(have D:(2:Int)<len:=J' (j9 hle)))|skip
 have b:ζ vs<maxLen:=I;have i:ζ (cB vs w0.1.1)<maxLen:=by have:=kO vs w0.1.1;omega
 go_enter func197,ntmps197
 go_wp2_with (first
  |(go_at_call 124;refine F' (eC _ _ hs) ?_)
  |(go_at_call 261;refine(ko w0 rb mb vs _ hs b (hR.alloc _)).mono ?_;rintro e F ⟨rfl,B,c⟩;have r:=ep c (λk e=>by cases e;exact hR.lt);have L:=M r;have f:δ w.1<δ F.1:=(aY.1 r).1;have d:=(hW.alloc _).grown (hR.alloc _).isMap c;have b:=(hG.alloc _).grown (hR.alloc _) c;have P:=d.cell 2 w2 rfl;have f:=d.lt)
  |(go_at_call 259;refine(kC w2 rb mb (cB vs w0.1.1) _ KX i B b).mono ?_;rintro e b ⟨y,z,o,rfl,V,C,q⟩;have s:=nP r B.isMap q;clear L;have L:=M s;have j:δ w.1<δ b.1:=(aY.1 s).1))
 first|(have _:=ZW;refine aC (v:=t' #[jr oM,j' P']) (by simp[results197,go_sem,jr,aR,oM,o0,emp,gK,L.1,j]) rfl ⟨rfl,?_,?_⟩)|(refine aC (v:=t' #[jr ⟨0,eS vs w0.1.1,0,0,⟨y,z,o⟩,o0,emp⟩,j' (bY w2)]) (by simp[results197,go_sem,jr,aR,o0,emp,gK,L.1,j]) rfl ⟨by rw[V.o],?_,?_⟩)
 ·refine Rd.alloc ?_ _
  repeat(refine Rd.set ?_ H' H' _)
  exact C
 refine Cj ?_ zJ
 repeat(refine dH ?_ aF _)
 exact(cI c).trans q):p:=h
def C5(rb mb g off a:Nat)(w0 w1 w2:z')(vs:List bE)(w:u')(hW:Ws w g off [w0,w1,w2])(hs:w0.size<=maxLen)(KX:w2.size<=3000)(K:Wm.nm w0=true)(l:(w1.toList==[61])=true)(S:(w2.toList==[105,110,112,117,116])=false)(X:ζ vs+1<maxLen)(hR:Rd w rb mb vs)(hG:eH w):
  Cl 197 #[o' (B' (O rb 0)),i' (B' (O g off)) 3 a] w λe w'=>
   e=p' (t' #[jr ⟨0,eS vs w0.1.1,0,0,oI (cB vs w0.1.1) w2,o0,emp⟩,j' (bY w2)])/\Rd w' rb mb (bP (cB vs w0.1.1) w2)/\ξ w w' (B' mb):=by
 exact ah
def vr(rb mb g off len a:Nat)(w0 w1 w2:z')(R:List z')(vs:List bE)(w:u')(hW:Ws w g off (w0::w1::w2::R))(hs:w0.size<=maxLen)(KX:w2.size<=3000)(K:Wm.nm w0=O')(l:(w1.toList==[61])=O')(hle:decide ((len:Int)<3)=P')(N:((len:Int)==3)=P')(l:((len:Int)==5)=P')(X:ζ vs+1<maxLen)(hR:Rd w rb mb vs)(hG:eH w):
  Cl 197 #[o' (B' (O rb 0)),i' (B' (O g off)) len a] w λe w'=>
   e=p' (t' #[jr oM,j' P'])/\Rd w' rb mb (bP (cB vs w0.1.1) w2)/\ξ w w' (B' mb):=by
 have ZW:=True.intro;exact ah
def C6(Q x g t R:Nat)(u d W i Y:z')(E:List bE)(w:u')(j:Ws w g t [u,d,W,i,Y])(y:u.size<=maxLen)(KX:W.size<=3000)(hs4:Y.size<=3000)(K:Wm.nm u=O')(K:(d.toList==[61])=O')(K:ζ E+2<maxLen)(v:Rd w Q x E)(hG:eH w):
  Cl 197 #[o' (B' (O Q 0)),i' (B' (O g t)) 5 R] w λe f=>
   e=p' (t' #[jr ⟨1,eS E u.1.1,Wm.tZ i.1.1,0,oI (cB E u.1.1) W,oI (bP (cB E u.1.1) W) Y,emp⟩,j' (bY W&&Wm.wC i.1.1&&bY Y)])/\Rd f Q x (bP (bP (cB E u.1.1) W) Y)/\ξ w f (B' x):=by
 have T:χ w (O g t)=B' (m' u):=j.cell 0 u rfl;have c:=j.cell 1 d rfl;have d:=j.lt;have d:=v.lt;have d:=v.O?;have hl1:ζ E<maxLen:=I;have hl2:ζ (cB E u.1.1)<maxLen:=by have:=kO E u.1.1;omega
 have hl3:ζ (bP (cB E u.1.1) W)<maxLen:=by have:=kO E u.1.1;have:=jS (cB E u.1.1) W;omega
 go_enter func197,ntmps197
 go_wp2_with (first
  |(go_at_call 124;refine F' (eC _ _ y) ?_)
  |(go_at_call 262;refine F' (FY _ _) ?_)
  |(go_at_call 261;refine(ko u Q x E _ y hl1 (v.alloc _)).mono ?_;rintro e F ⟨rfl,B,W!⟩;have r:=ep W! (λk e=>by cases e;exact v.lt);have L:=M r;have f:δ w.1<δ F.1:=(aY.1 r).1;have a:=(j.alloc _).grown (v.alloc _).isMap W!;have b:=(hG.alloc _).grown (v.alloc _) W!;have P:=a.cell 2 W rfl;have R:=a.lt)
  |(go_at_call_of 259 (Value.string W);refine(kC W Q x (cB E u.1.1) _ KX hl2 B b).mono ?_;rintro e W4 ⟨iv,z,co,rfl,V,C,q⟩;have s:=nP r B.isMap q;clear L;have d:δ w.1<δ W4.1:=(aY.1 s).1;have h:=a.grown B.isMap q;have ag:=b.grown B q;have N:=h.cell 3 i rfl;have o:=h.cell 4 Y rfl;have d:=h.lt))
 refine(kC Y Q x (bP (cB E u.1.1) W) _ hs4 hl3 (C.alloc _) (ag.alloc _)).mono ?_;rintro e W6 ⟨D,X,U,rfl,S,hR3,GN⟩;have l:=nP (fK s _) (C.alloc _).isMap GN;have p:=ep GN (λk e=>by cases e;exact C.lt);have f:δ W4.1<δ W6.1:=(aY.1 p).1;have d:δ w.1<δ W6.1:=(aY.1 l).1;have e:δ w.1≠δ W4.1:=I;have e:δ W4.1≠δ w.1:=I;have L:=M l;have e:=M p;clear T c P N o r s j a h b ag hG;cases Q:bY W<;>cases b:Wm.wC i.1.1<;>cases a:bY Y
 all_goals
  go_wp2;refine aC (v:=t' #[jr ⟨1,eS E u.1.1,Wm.tZ i.1.1,0,⟨iv,z,co⟩,⟨D,X,U⟩,emp⟩,j' (bY W&&Wm.wC i.1.1&&bY Y)]) (by simp[results197,go_sem,jr,aR,o0,emp,gK,L.1,f,d,Q,b,a]) rfl ⟨by rw[V.o,S.o],?_,?_⟩
  ·refine Rd.alloc ?_ _
   repeat(refine Rd.set ?_ H' H' _)
   exact hR3
  refine Cj ?_ zJ
  repeat(refine dH ?_ aF _)
  exact(cI W!).trans (q.trans (cI GN))
namespace Wm
def lQ(c:UInt8):Bool:=c.toNat==32||c.toNat==9||c.toNat==13
def jc(cur:List UInt8):List UInt8->List (List UInt8)
 |[]=>if cur=[] then[] else[cur]
 |c :: r=>if lQ c then(if cur=[] then jc [] r else cur :: jc [] r) else jc (cur++[c]) r
def De(x:Nat):Bool:=x==32||x==9||x==13
theorem Np(n d a o x:Nat)(h:128<=d):128<=(decodeN n d a o x).1/\(2<=(decodeN n d a o x).2->128<=a)/\(3<=(decodeN n d a o x).2->128<=o)/\(4<=(decodeN n d a o x).2->128<=x)/\(decodeN n d a o x).2<=4:=by
 unfold decodeN
 repeat' split
 all_goals(simp only;omega)
theorem XE(n d a o x:Nat)(h:d<128):decodeN n d a o x=(d,1):=by unfold decodeN;rw[aB h]
theorem cd(c:UInt8)(h:128<=c.toNat):lQ c=false:=by simp[lQ];omega
theorem mS(s:ByteArray)(k:Nat)(h:k<s.size):s.get! k=s[k]:=by simp[ByteArray.get!,ByteArray.getElem_eq_getElem_data];rw[getElem!_pos]
theorem PI(Y:List UInt8):∀(a b:List UInt8),(∀x∈a,lQ x=false)->jc Y (a++b)=jc (Y++a) b:=by
 intro a;induction a generalizing Y with
 |nil=>intro b _;simp
 |cons c a B=>intro b h;have T:=h c ak;rw[cW,jc,T];simp only[bO,bU];rw[B _ b (λx F=>h x (by simp[F]))];simp
def sub(l:List UInt8)(a b:Nat):List UInt8:=(l.drop a).take (b-a)
theorem sub_self(l:List UInt8)(a:Nat):sub l a a=[]:=by simp[sub]
theorem sE(l:List UInt8)(a b c:Nat)(C:a<=b)(d:b<=c):sub l a c=sub l a b++sub l b c:=by
 unfold sub;have V:l.drop b=(l.drop a).drop (b-a):=by rw[AQ];congr 1;omega
 rw[V,show c-a=(b-a)+(c-b)by omega,List.take_add]
theorem Ue(l:List UInt8)(a b:Nat)(h:a<=b):l.drop a=sub l a b++l.drop b:=by
 unfold sub;have V:l.drop b=(l.drop a).drop (b-a):=by rw[AQ];congr 1;omega
 rw[V,oT]
def qX(l:List UInt8)(st:Option Nat)(pos:Nat):List UInt8:=match st with|none=>[]|some a=>sub l a pos
theorem Jn(l:List UInt8)(a b:Nat)(h:a<b)(c:b<=l.length):sub l a b≠[]:=by intro e;have:=dZ List.length e;simp[sub]at this;omega
theorem UG(s:ByteArray)(c:Nat)(U:c<s.size)(h:128<=s[c].toNat):∀x∈sub s.data.toList c (c+(Utf8.decode s c).2),lQ x=false:=by
 have Q:=Np (s.size-c) (s.get! c).toNat (s.get! (c+1)).toNat (s.get! (c+2)).toNat (s.get! (c+3)).toNat (by rw[mS s c U];exact h);rw[<-decode_at]at Q;obtain⟨_,C,a,N,d⟩:=Q;intro x F;obtain⟨j,f,rfl⟩:=w? F;have r:j<(Utf8.decode s c).2/\c+j<s.size:=by
  simp[sub]at f;have:=bS s;have V:s.data.toList.length=s.data.size:=by simp
  omega
 have e:(sub s.data.toList c (c+(Utf8.decode s c).2))[j]=s[c+j]:=by simp[sub];rfl
 rw[e];apply cd;rcases j with _|_|_|_|j
 ·simpa using h
 ·rw[<-mS s (c+1) r.2];exact C I
 ·rw[<-mS s (c+2) r.2];exact a I
 ·rw[<-mS s (c+3) r.2];exact N I
 omega
theorem al{p:Prop}(h:p:=by
 cases st with
 |none=>simp[qX,jc]
 |some a=>
  have:=Jn s.data.toList a s.size (N a rfl) I
  simp[qX,jc,this]):p:=h
theorem spans_eq(s:ByteArray):∀(f c:Nat) (st:Option Nat) (V:List (Nat×Nat)),s.size<=c+f->c<=s.size->(∀a,st=some a->a<c) ->
  (closeSpans s (spansFromP De s f c st V)).map (λx=>sub s.data.toList x.1 x.2)=V.map (λx=>sub s.data.toList x.1 x.2)++jc (qX s.data.toList st c) (s.data.toList.drop c):=by
 have L:=bS s;intro f;induction f with
 |zero=>
  intro c st V C b N;obtain rfl:c=s.size:=by omega
  rw[show s.data.toList.drop s.size=[] from qE I];unfold spansFromP closeSpans;exact al
 |succ f B=>
  intro c st V C b N;by_cases L:c<s.size;rotate_left
  ·rw[spansFromP_end _ _ _ _ _ _ L];obtain rfl:c=s.size:=by omega
   rw[show s.data.toList.drop s.size=[] from qE I];unfold closeSpans;exact al
  have b:=width_pos s c;have g:c+(Utf8.decode s c).2<=s.size:=by have:=decodeN_le_n' (s.size-c) (s.get! c).toNat (s.get! (c+1)).toNat (s.get! (c+2)).toNat (s.get! (c+3)).toNat I;rw[<-decode_at]at this;omega
  unfold spansFromP;rw[aB L];by_cases d:s[c].toNat<128;rotate_left
  ·have R:=UG s c L I;have b:=Np (s.size-c) (s.get! c).toNat (s.get! (c+1)).toNat (s.get! (c+2)).toNat (s.get! (c+3)).toNat (by rw[mS s c L];omega);rw[<-decode_at]at b;have U:De (Utf8.decode s c).1=false:=by simp[De];omega
   rw[U];simp only[bO,bU];rw[Ue s.data.toList c (c+(Utf8.decode s c).2) I,PI _ _ _ R];cases st with
   |none=>simp only;rw[B _ (some c) V I g (λa h=>by cases h;omega)];simp[qX]
   |some a=>simp only;rw[B _ (some a) V I g (λb h=>by cases h;have:=N a rfl;omega)];simp only[qX];rw[sE s.data.toList a c _ (by have:=N a rfl;omega) I]
  have i:Utf8.decode s c=(s[c].toNat,1):=by rw[decode_at,mS s c L];exact XE _ _ _ _ _ d
  have d:s.data.toList.drop c=s[c] :: s.data.toList.drop (c+1):=by rw[qF I];rfl
  have E:sub s.data.toList c (c+1)=[s[c]]:=by unfold sub;rw[d];simp
  rw[i];simp only;have e:De s[c].toNat=lQ s[c]:=rfl;cases r:lQ s[c]with
  |true=>
   rw[e,r,aB rfl,d,jc,r];cases st with
   |none=>simp only;rw[B (c+1) none V I I (λa h=>by cases h)];simp[qX]
   |some a=>simp only;rw[B (c+1) none _ I I (λa h=>by cases h)];have:=Jn s.data.toList a c (N a rfl) I;simp[qX,this]
  |false=>
   rw[e,r,d,jc,r];simp only[bO,bU];cases st with
   |none=>simp only;rw[B (c+1) (some c) V I I (λa h=>by cases h;omega)];simp[qX,E]
   |some a=>simp only;rw[B (c+1) (some a) V I I (λb h=>by cases h;have:=N a rfl;omega)];simp only[qX];rw[sE s.data.toList a c (c+1) (by have:=N a rfl;omega) I,E]
theorem Pw(s:ByteArray):(goFieldsP De s).map (·.data.toList)=jc [] s.data.toList:=by have h:=spans_eq s s.size 0 none [] I I (λa h=>by cases h);simp only[qX,AO,Ez,ej]at h;rw[<-h];unfold goFieldsP spansOfP;rw[lW];apply iD;intro x _;simp only[Function.comp];rw[extract_data];simp[sub,List.take_drop]
def zS(cur:List UInt8):List UInt8->List (List UInt8)
 |[]=>[cur]
 |c :: r=>if c=10 then cur :: zS [] r else zS (cur++[c]) r
theorem MC(c d:UInt8)(r:List UInt8):([c].isPrefixOf (d :: r))=(c==d):=by simp[List.isPrefixOf]
theorem Gd:∀(l Y:List UInt8),(index l [10]=-1/\zS Y l=[Y++l])∨∃a b,l=a++10 :: b/\index l [10]=(a.length:Int)/\zS Y l=(Y++a) :: zS [] b:=by
 intro l;induction l with
 |nil=>intro Y;exact aI ⟨by simp[index],by simp[zS]⟩
 |cons c r B=>
  intro Y;by_cases T:c=10
  ·subst T;exact aK ⟨[],r,rfl,by simp[index,MC],by simp[zS]⟩
  have U:([10].isPrefixOf (c :: r))=false:=by rw[MC];simp;exact λe=>T e.symm
  rcases B (Y++[c])with⟨C,d⟩|⟨a,b,D,C,d⟩
  ·refine aI ⟨?_,?_⟩
   ·simp[index,U,C]
   rw[zS,aA T,d];simp
  refine aK ⟨c :: a,b,by rw[D];rfl,?_,?_⟩
  ·have z:¬(index r [10]==-1)=true:=by rw[C];simp
   rw[index,U];simp only[bO,bU];rw[aA z,C];simp
  rw[zS,aA T,d];simp
theorem N6:∀(n:Nat) (l:List UInt8),l.length<=n->splitK [10] 0 (count l [10]) l=zS [] l:=by
 intro n;induction n with
 |zero=>intro l h;obtain rfl:l=[]:=du.1 I;rw[count_miss (by simp[index])];rfl
 |succ n B=>
  intro l h;rcases Gd l []with⟨C,c⟩|⟨a,b,D,C,c⟩
  ·rw[count_miss C,c];rfl
  rw[count_hit ak C,w8 1,splitK,c];have z:¬(index l [10]==-1)=true:=by rw[C];simp
  rw[aA z,C];have V:l.take ((a.length:Int).toNat+0)=a:=by rw[D];simp
  have u:l.drop ((a.length:Int).toNat+([10]:List UInt8).length)=b:=by rw[D];simp
  have c:l.drop (a.length+([10]:List UInt8).length)=b:=by rw[D];simp
  rw[V,u,c,B b (by rw[D]at h;simp at h;omega)];simp
theorem yI(s:ByteArray):(splitB ⟨#[10]⟩ 0 (countB s ⟨#[10]⟩) s).map (·.data.toList)=zS [] s.data.toList:=by rw[splitB_data];exact N6 _ _ aF
end Wm
def Ig(s:z'):List z':=Lib.goFieldsP Wm.De s
def Jd(s:z'):(Ig s).map (·.data.toList)=Wm.jc [] s.1.1:=Wm.Pw s
def Lj(w:u'):PredAtRunes Tryz.prog 122 #[] Wm.De w:=by intro W x F a;refine(Gv x W).mono λe a h=>?_;refine⟨h.1.trans (aN ?_),0,h.2⟩;rw[Wm.De,cj];simp;omega
def kQ(ws:List z'):Bool:=match ws with|[]=>O'|x::_=>match x.1.1 with|c::_=>c==35|[]=>P'
def uz(a:x')(b:Nat)(w:u'):
  Cl 78 #[i' a 0 b] w λe a=>e=p' (j' O')/\a=w:=by
 go_enter func78,ntmps78;go_wp2;go_ret;exact⟨rfl,rfl⟩
def od(g t c a:Nat)(x:z')(R:List z')(w:u')(X:((c:Int)==0)=P')(F:0<x.size)(d:x.size<=3000)(j:Ws w g t (x::R)):
  Cl 78 #[i' (B' (O g t)) c a] w λe a=>e=p' (j' (kQ (x::R)))/\a=w:=by
 have T:χ w (O g t)=B' (m' x):=j.cell 0 x rfl;have b:(0:Int)<c:=by rw[b?]at X;omega
 have e:kQ (x::R)=((x[0].toNat:Int)==35):=by
  have:=Wm.fm x F;simp only[kQ];rw[this];simp only;rw[cj];simp;constructor
  ·intro h;rw[h];rfl
  intro h;exact xd.1 (by simpa using(by omega:x[0].toNat=35))
 rw[e];go_enter func78,ntmps78;go_wp2;go_ret;exact⟨rfl,rfl⟩
section
namespace Wm
open Go.Lib
theorem abQ:∀(l Y x:List UInt8),x∈zS Y l->x.length<=Y.length+l.length:=by
 intro l;induction l with
 |nil=>intro Y x F;simp[zS]at F;subst F;simp
 |cons c r B=>
  intro Y x F;rw[zS]at F;split at F
  ·rcases dr.1 F with rfl|h
   ·simp
   have:=B [] x h;simp at this⊢;omega
  have:=B _ x F;simp at this⊢;omega
theorem XH:∀(l Y x:List UInt8),x∈jc Y l->x.length<=Y.length+l.length/\x≠[]:=by
 intro l;induction l with
 |nil=>
  intro Y x F;rw[jc]at F;split at F
  ·simp at F
  rename_i h;simp at F;subst F;exact⟨by simp,h⟩
 |cons c r B=>
  intro Y x F;rw[jc]at F;split at F;rotate_left
  ·have:=B _ x F;simp only[bF,cC,gN]at this⊢;exact⟨by omega,this.2⟩
  split at F
  ·have:=B [] x F;simp only[gN,cC]at this⊢;exact⟨by omega,this.2⟩
  rename_i h;rcases dr.1 F with rfl|F
  ·exact⟨by simp,h⟩
  have:=B [] x F;simp only[gN,cC]at this⊢;exact⟨by omega,this.2⟩
theorem Up:∀(l Y:List UInt8),(jc Y l).length<=l.length+1:=by
 intro l;induction l with
 |nil=>intro Y;rw[jc];split<;>simp
 |cons c r B=>
  intro Y;rw[jc];split
  ·split
   ·have:=B [];simp;omega
   have:=B [];simp;omega
  have:=B (Y++[c]);simp;omega
theorem WE:∀(l Y:List UInt8),(zS Y l).length=count l [10]+1:=by
 intro l
 suffices h:∀n (l Y:List UInt8),l.length<=n->(zS Y l).length=count l [10]+1 from λY=>h _ l Y aF
 intro n;induction n with
 |zero=>intro l Y h;obtain rfl:l=[]:=du.1 I;rw[count_miss (by simp[index])];simp[zS]
 |succ n B=>
  intro l Y h;rcases Gd l Y with⟨C,c⟩|⟨a,b,D,C,c⟩
  ·rw[count_miss C,c];rfl
  have d:l.drop (a.length+([10]:List UInt8).length)=b:=by rw[D];simp
  rw[count_hit ak C,c,d,cC,B b [] (by rw[D]at h;simp at h;omega)];omega
theorem Lf(l:List UInt8):count l [10]<=l.length+1:=count_le l [10]
end Wm
end
def kS:Nat->List UInt8->Option (Nat×List UInt8)
 |0,_=>none
 |_+1,[]=>none
 |k+1,b :: r=>if b.toNat<128 then some (b.toNat,r) else match kS k r with
  |some (n,q)=>if n=0 then none else some (b.toNat % 128+128*n,q)
  |none=>none
theorem FA:∀(k n:Nat) (r:List UInt8),n<128 ^ k->kS k (iA n++r)=some (n,r)∨k=0
 |0,n,r,h=>aK rfl
 |k+1,n,r,h=>by
  left;by_cases K:n<128
  ·rw[cS K];have:(UInt8.ofNat n).toNat=n:=by simp only[oW];omega
   simp[kS,this,K]
  rw[lO K];have c:(UInt8.ofNat (n % 128+128)).toNat=n % 128+128:=by simp only[oW];omega
  have C:n / 128<128 ^ k:=by rw[ni]at h;omega
  have b:k≠0:=by rintro rfl;simp at C;omega
  rcases FA k (n / 128) r C with a|a
  ·have N:n / 128≠0:=by omega
   simp only[cW,kS,c,a];rw[aA I,aA N];congr 2;omega
  exact absurd a b
theorem Fz:∀(k:Nat) (l:List UInt8) (n:Nat) (r:List UInt8),kS k l=some (n,r)->l=iA n++r/\n<128 ^ k
 |0,l,n,r,h=>by simp[kS]at h
 |k+1,[],n,r,h=>by simp[kS]at h
 |k+1,b :: q,n,r,h=>by
  have a:=gV b;rw[kS]at h;by_cases C:b.toNat<128
  ·rw[aB C]at h;simp at h;obtain⟨rfl,rfl⟩:=h;rw[cS C];refine⟨by simp,?_⟩;have:128 ^ (k+1)=128 ^ k*128:=ni ..;have:0<128 ^ k:=uk I;omega
  rw[aA C]at h;cases a:kS k q with
  |none=>rw[a]at h;simp at h
  |some p=>
   obtain⟨m,s⟩:=p;rw[a]at h;simp only at h;by_cases d:m=0
   ·rw[aB d]at h;simp at h
   rw[aA d]at h;simp at h;obtain⟨rfl,rfl⟩:=h;obtain⟨rfl,L⟩:=Fz k q m s a;have a:¬b.toNat % 128+128*m<128:=by omega
   have N:(b.toNat % 128+128*m) / 128=m:=by omega
   have d:(b.toNat % 128+128*m) % 128+128=b.toNat:=by omega
   rw[lO a,N,d];refine⟨by simp,?_⟩;have:128 ^ (k+1)=128 ^ k*128:=ni ..;omega
def rc(l:List UInt8):Option (Nat×List UInt8):=match kS 10 l with
 |some (n,r)=>if n<18446744073709551616 then some (n,r) else none
 |none=>none
theorem rF(l:List UInt8)(n:Nat)(r:List UInt8):rc l=some (n,r)↔l=iA n++r/\n<18446744073709551616:=by
 constructor;rotate_left
 ·rintro⟨rfl,h⟩;unfold rc;rcases FA 10 n r I with a|a
  ·rw[a];simp only;rw[aB h]
  omega
 intro h;unfold rc at h;cases a:kS 10 l with
 |none=>rw[a]at h;simp at h
 |some p=>
  obtain⟨m,s⟩:=p;rw[a]at h;simp only at h;split at h
  ·rename_i d;simp at h;obtain⟨rfl,rfl⟩:=h;exact⟨(Fz 10 l m s a).1,d⟩
  cases h
def oF{a b c}:=@rF a b c
def ot(i n:Nat):Option (Nat×List UInt8)->Option (Nat×List UInt8)
 |some (m,r)=>if 0<i/\m=0 then none else if n+128 ^ i*m<18446744073709551616 then some (n+128 ^ i*m,r) else none
 |none=>none
theorem abh(l:List UInt8):rc l=ot 0 0 (kS 10 l):=by
 unfold rc ot;cases kS 10 l with
 |none=>rfl
 |some p=>have n:=p;simp
theorem Xr(i n k:Nat):ot i n (kS k [])=none:=by cases k<;>simp[kS,ot]
theorem tJ(i n k:Nat)(b:UInt8)(r:List UInt8)(h:b.toNat<128):ot i n (kS (k+1) (b :: r))=if 0<i/\b.toNat=0 then none else if n+128 ^ i*b.toNat<18446744073709551616 then some (n+128 ^ i*b.toNat,r) else none:=by simp[kS,h,ot]
theorem G4(i n k:Nat)(b:UInt8)(r:List UInt8)(h:¬b.toNat<128):ot i n (kS (k+1) (b :: r))=ot (i+1) (n+128 ^ i*(b.toNat % 128)) (kS k r):=by
 rw[kS,aA h];cases kS k r with
 |none=>rfl
 |some p=>
  obtain⟨m,q⟩:=p;by_cases d:m=0
  ·simp[ot,d]
  have e:n+128 ^ i*(b.toNat % 128+128*m)=n+128 ^ i*(b.toNat % 128)+128 ^ (i+1)*m:=by rw[Nat.mul_add,ni,Nat.mul_assoc,e9]
  have f:¬(0<i/\b.toNat % 128+128*m=0):=by omega
  have a:¬(0<i+1/\m=0):=by omega
  simp only[ot,aA d,aA f,aA a,e]
