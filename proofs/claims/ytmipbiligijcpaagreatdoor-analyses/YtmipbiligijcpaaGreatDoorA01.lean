import Derived.WalkSpells
import Derived.WalkLawsBesides
import Derived.Deep.RegionLaw
import Derived.Test.YtmipbiligijcpaaGreatDoorProg
import Derived.Lib.ParseIntB
import Derived.Lib.Split
import Derived.Lib.FieldsP
import Derived.Test.YtmipbiligijcpaaGreatDoorShelf
namespace Go.Proofs.YtmipbiligijcpaaGreatDoor
set_option linter.all false
set_option maxHeartbeats 0
set_option maxRecDepth 99999
open Go.RowKit Go.Proofs Go.Maps List Tryz Go.Lib open List renaming length->ζ open _root_.Array renaming size->δ open World renaming setCell->κ,ownsRow->ρ,cell?->χ,grownBy->ξ open Value renaming ownBlock->φ open Value renaming slice->g',bool->h',string->k',tuple->o' open Obj renaming cells->i' open Ending renaming returned->n' open Option renaming some->z',none->A' open Bool renaming true->N',false->O'
section
variable {α:Type}{p:Prop}
theorem Aa{a b:Prop}(x:a)(y:b):a/\b:=⟨x,y⟩
theorem La{l:List α}{i:Nat}(h:i<l.length):∃x,l[i]?=some x:=⟨_,List.getElem?_eq_getElem h⟩
theorem Ea(x:α):∃z,z=x:=⟨x,rfl⟩
theorem I(h:p:=by omega):p:=h
theorem aj(h:p:=by decide):p:=h
theorem ak(h:p:=by simp):p:=h
abbrev QD:=@Array.toList_inj
abbrev aP:=@Or.inl
abbrev aR:=@Or.inr
abbrev bq:=@Array.getElem?_eq_some_iff
abbrev gI:=@List.getElem?_append_left
abbrev aX:=@List.getElem?_eq_some_iff
abbrev aD:=@if_pos
abbrev adK:=@Nat.le_refl
def aK{a}:=@adK a
abbrev bX:=@Nat.le_trans
abbrev dU:=@Option.some.injEq
abbrev eh:=@Nat.lt_of_lt_of_le
abbrev AV:=@Array.getElem?_modify
abbrev rZ:=@Bool.eq_false_iff
abbrev bV:=@List.all_eq_true
abbrev kq:=@List.range_succ
abbrev ij:=@List.foldl_cons
abbrev vk:=@List.all_cons
abbrev aY:=@Bool.and_eq_true
abbrev aA:=@if_neg
abbrev dQ:=@if_true
abbrev eV:=@if_false
abbrev n!:=@true_and
abbrev bM:=@decide_eq_true_eq
abbrev jl:=@Bool.not_eq_true
abbrev dB:=@beq_eq_false_iff_ne
abbrev Ls:=@Int.mul_comm
abbrev AU:=@Nat.mod_lt
abbrev Lr:=@Int.tdiv_one
abbrev aO:=@List.mem_of_getElem?
abbrev qu:=@List.idxOf_lt_length_of_mem
abbrev bj:=@List.getElem?_eq_getElem
abbrev AQ:=@List.getElem_idxOf
abbrev gF:=@List.mem_iff_getElem?
abbrev adJ:=@Nat.zero_le
def bm{a}:=@adJ a
abbrev eC:=@decide_eq_true
abbrev xk:=@List.getElem?_zip_eq_some
abbrev c!:=@List.take_of_length_le
abbrev bH:=@Nat.zero_add
abbrev jk:=@List.length_take
abbrev bW:=@List.flatMap_cons
abbrev bg:=@List.length_append
abbrev bU:=@List.length_cons
abbrev e6:=@Nat.zero_mul
abbrev eB:=@List.getElem?_append_right
abbrev Lm:=@Nat.div_eq_of_lt
abbrev AP:=@Nat.mod_eq_of_lt
abbrev iH:=@Nat.add_assoc
abbrev gg:=@List.nil_append
abbrev cZ:=@congrArg
abbrev dh:=@List.length_set
abbrev e5:=@List.getElem?_set
abbrev xj:=@List.getElem?_take
abbrev rX:=@Array.getElem?_eq_getElem
abbrev jH:=@Ne.symm
abbrev QA:=@List.getElem?_zipWith
abbrev ep:=@List.take_succ_eq_append_getElem
abbrev e4:=@List.length_singleton
abbrev eZ:=@Bool.or_eq_true
abbrev dP:=@beq_iff_eq
abbrev vj:=@of_decide_eq_true
abbrev nG:=@of_decide_eq_false
abbrev EJ:=@List.getElem?_of_mem
abbrev AO:=@List.nodup_append
abbrev iG:=@List.prefix_rfl
abbrev Qz:=@List.prefix_append
abbrev cM:=@List.mem_cons
abbrev iF:=@List.mem_append
abbrev Ll:=@List.nodup_nil
abbrev vi:=@Bool.false_and
abbrev eN:=@Bool.true_and
abbrev ko:=@Bool.false_or
abbrev AL:=@Bool.and_false
abbrev fW:=@List.cons_append
abbrev fK:=@List.append_assoc
abbrev b9:=@List.length_map
abbrev fq:=@List.map_append
abbrev jj:=@List.take_length
abbrev Lj:=@List.take_zero
abbrev n?:=@Nat.min_eq_left
abbrev mE:=@Nat.le_of_lt
abbrev xi:=@List.mem_of_mem_take
abbrev iE:=@List.append_nil
abbrev eY:=@List.length_nil
abbrev xh:=@List.foldl_append
abbrev cL:=@List.getElem?_toArray
abbrev q?:=@List.getElem?_cons_succ
abbrev e!:=@Nat.add_zero
abbrev uj:=@Bool.and_assoc
abbrev cq:=@List.getElem?_eq_none
abbrev CJ:=@Nat.pow_succ
abbrev lZ:=@Nat.add_mul
abbrev qZ:=@Nat.mul_comm
abbrev xP:=@Nat.mul_le_mul_right
abbrev I6:=@Nat.mul_add_div
abbrev xO:=@Nat.pow_pos
abbrev xN:=@UInt8.toNat_inj
abbrev jo:=@Bool.not_eq_true'
abbrev fT:=@List.length_eq_zero_iff
abbrev CH:=@Nat.pow_le_pow_right
abbrev eR:=@Prod.mk.injEq
abbrev xM:=@List.idxOf_append
abbrev xL:=@List.cons.injEq
abbrev xK:=@List.any_eq_true
abbrev dR:=@List.not_mem_nil
abbrev dz:=@or_false
abbrev cC:=@Bool.eq_iff_iff
abbrev eG:=@List.getElem_mem
abbrev kT:=@List.size_toArray
abbrev j!:=@List.getElem?_replicate
abbrev gM:=@List.replicate_succ
abbrev oj:=@List.flatten_cons
abbrev a!:=@List.getElem?_map
abbrev I5:=@Option.map_eq_some_iff
abbrev oh:=@Nat.sub_self
abbrev bG:=@List.mem_map
abbrev gK:=@Option.map_some
abbrev dp:=@decide_eq_false
abbrev xJ:=@Bool.and_true
abbrev og:=@List.isEmpty_iff
abbrev dm:=@List.set_cons_zero
abbrev xI:=@List.set_append_left
abbrev cO:=@List.set_cons_succ
abbrev lY:=@List.set_append_right
abbrev I4:=@Array.toList_setIfInBounds
abbrev qY:=@Function.comp_def
abbrev qX:=@Array.replicate_succ
abbrev qW:=@Array.replicate_zero
abbrev qV:=@List.push_toArray
abbrev qU:=@List.append_toArray
abbrev I3:=@List.length_pos_iff
abbrev ui:=@Classical.choose_spec
abbrev bN:=@List.getD_eq_getElem?_getD
abbrev qT:=@List.foldl_nil
abbrev I2:=@List.map_singleton
abbrev j9:=@List.mem_singleton
abbrev cj:=@List.setIfInBounds_toArray
abbrev CG:=@Int.ofNat.inj
abbrev fS:=@List.map_map
abbrev fB:=@List.eq_of_mem_replicate
abbrev qS:=@List.filter_cons
abbrev cx:=@List.mem_range
abbrev fA:=@List.map_cons
abbrev kS:=@List.sum_cons
abbrev gJ:=@List.mem_or_eq_of_mem_set
abbrev xH:=@Option.getD_some
abbrev uh:=@List.map_set
abbrev I1:=@List.singleton_append
abbrev j8:=@Nat.lt_or_ge
abbrev I0:=@List.filter_eq_nil_iff
abbrev qR:=@List.map_replicate
abbrev eQ:=@List.map_congr_left
abbrev lX:=@Bool.or_eq_false_iff
abbrev et:=@List.ext_getElem?
abbrev qQ:=@List.getElem?_eq_none_iff
abbrev j7:=@List.getElem?_range
abbrev xG:=@List.set_eq_take_append_cons_drop
abbrev od:=@List.mem_cons_self
abbrev aaG:=@List.mem_cons_of_mem
def gp{a b}:=@aaG a b
abbrev CF:=@Nat.lt_succ_self
abbrev cJ:=@Option.some.inj
abbrev ug:=@List.take_append_drop
abbrev IZ:=@Nat.add_sub_cancel_left
abbrev uf:=@Bool.not_true
abbrev IY:=@List.length_filter_le
abbrev qP:=@List.length_range
abbrev QC:=@Int.le_refl
def fY{a}:=@QC a
abbrev ud:=@Nat.le_succ
abbrev CD:=@List.eq_replicate_iff
abbrev IX:=@List.getElem_range
abbrev mX:=@List.drop_eq_getElem_cons
abbrev IW:=@Nat.lt_of_le_of_lt
abbrev uc:=@UInt8.toNat_ofNat'
abbrev Cz:=@List.drop_length
abbrev xF:=@List.flatMap_nil
abbrev eF:=@Bool.false_eq_true
abbrev Cy:=@List.drop_drop
abbrev xE:=@List.getElem_of_mem
abbrev qO:=@List.drop_eq_nil_of_le
abbrev xC:=@List.drop_zero
abbrev Cx:=@Nat.add_comm
abbrev Cw:=@List.filter_append
abbrev Cv:=@List.filter_congr
abbrev Cu:=@List.countP_cons
abbrev Cs:=@Bool.not_false
abbrev IV:=@Array.size_modify
abbrev xB:=@List.getElem?_set_ne
abbrev Cr:=@List.length_replicate
abbrev IU:=@List.replicate_succ'
abbrev xA:=@List.length_drop
abbrev Cq:=@Int.tdiv_neg
abbrev Cp:=@Int.tdiv_le_tdiv
abbrev xy:=@List.ext_getElem
abbrev xx:=@List.getElem_map
abbrev qM:=@List.any_cons
abbrev ub:=@Bool.not_not
abbrev Cn:=@Nat.or_lt_two_pow
abbrev IL:=@Nat.pow_lt_pow_right
abbrev xu:=@Bool.or_false
abbrev xt:=@decide_eq_decide
abbrev qL:=@Bool.or_assoc
abbrev xr:=@List.range_add
abbrev IK:=@List.mem_filter
abbrev IJ:=@List.getElem?_modify
abbrev Cm:=@List.nodup_cons
abbrev xq:=@Bool.and_self
abbrev e9:=@decide_eq_false_iff_not
abbrev IH:=@Nat.eq_zero_or_pos
abbrev IG:=@List.getLast?_eq_getElem?
abbrev IF:=@List.mem_map_of_mem
abbrev IE:=@UInt8.toNat.inj
abbrev IC:=@ByteArray.size_extract
abbrev xp:=@List.dropLast_concat_getLast
abbrev xo:=@Array.getElem?_eq_none
abbrev IB:=@Array.length_toList
abbrev IA:=@List.flatMap_append
abbrev xm:=@decide_eq_true_iff
end
section
variable {p:Prop}
abbrev Z(x:Int):Value:=.int .u64 x
abbrev O(b o:Nat):Addr:=⟨b,o,none⟩
abbrev Bl(w w':World):Prop:=Below w.heap.size w w'
abbrev Rb(w:World)(v:Value):Ending->World->Prop:=λe w'=>e=.returned v/\Below w.heap.size w w'
abbrev G(x:Int):Value:=.int .i64 x
abbrev cF:=@Go.heap_alloc_new
def cv{a b}:=@cF a b
abbrev rY:=@Go.RowKit.Below.heap_alloc
def bR{a b c}:=@rY a b c
abbrev agl:=@Go.RowKit.Below.heap_setCell
def aJ{a b c d}:=@agl a b c d
abbrev AW:=@Go.RowKit.Below.refl
def aQ{a b}:=@AW a b
abbrev xD:=@Go.RowKit.Below.drew
abbrev lB:=@Go.RowKit.Below.alloc
abbrev jI:=@Go.RowKit.Below.setCell
abbrev aE:=@Go.bodyPost_ret
abbrev adI:=@Go.World.ownsRow_nil
def dj{a b c d}:=@adI a b c d
abbrev cI:=@Go.info_parts
abbrev dY:=@Go.Addr.add_lit
abbrev Lq:=@Go.World.cell?_alloc_new
abbrev Lp:=@Go.wpList_append_own
def fz{a b}:=@Lp a b
abbrev QB:=@Go.World.grownBy.refl
abbrev eM:=@Go.ByteArray.toList_eq
abbrev gL:=@Go.wpList_make_full
abbrev mY:=@Go.World.size_alloc
abbrev j?:=@Go.callsIn_wide
abbrev bP:=@Go.Calls.mono
abbrev oe:=@Go.wpIn_wide
abbrev e?:=@Go.Obj.cells.inj
abbrev CB:=@Go.Lib.cell_of_heap
abbrev CA:=@Go.results_none
abbrev aaF:=@Go.heap_setCell_other
def v7{a b c d}:=@aaF a b c d
abbrev qN:=@Go.wpList_append_own_at
abbrev j6:=@Go.World.grownBy_alloc
def zT{a b c}:=@j6 a b c
abbrev Co:=@Go.run_underlying
abbrev IQ:=@Go.Result.andThen_ok
abbrev xw:=@Go.IntKind.wrap_u64
abbrev ua:=@Go.rounds_succ
abbrev IP:=@Go.bits_or_u64_nat
abbrev II:=@Go.run_equalIn_deep
abbrev aaE:=@Go.heap_setCell_same
def zS{a b c d e f}:=@aaE a b c d e f
abbrev qK:=@Go.mem_ready
abbrev Ck:=@Go.World.grownBy.trans
abbrev Cj:=@Go.wpList_lookup_own_ok_int
abbrev xn:=@Go.wpList_len_own
def J(p:Prop):Prop:=p
theorem J.o(h:J p):p:=h
theorem hid(h:p):J p:=h
abbrev b' (W : World) (k : Nat) (a : Array Value) (t : TypeId) : Prop := W.heap[k]? = some (.cells a t (0, 0))
theorem e' {p : Prop} (h : p := by go_num) : p := h
theorem f' {p : Prop} (h : p := by assumption) : p := h
theorem J.a {p Y : Prop} (h : J<|p/\Y) : p := h.o.1
theorem J.A {p Y : Prop} (h : J<|p/\Y) : Y := h.o.2
theorem J.b {p q Y : Prop} (h : J<|p/\q/\Y) : q := h.o.2.1
theorem J.B {p q Y : Prop} (h : J<|p/\q/\Y) : Y := h.o.2.2
theorem J.c {p q r Y : Prop} (h : J<|p/\q/\r/\Y) : r := h.o.2.2.1
theorem J.C {p q r Y : Prop} (h : J<|p/\q/\r/\Y) : Y := h.o.2.2.2
theorem J.d {p q r s Y : Prop} (h : J<|p/\q/\r/\s/\Y) : s := h.o.2.2.2.1
theorem J.D {p q r s Y : Prop} (h : J<|p/\q/\r/\s/\Y) : Y := h.o.2.2.2.2
theorem J.e {p q r s t Y : Prop} (h : J<|p/\q/\r/\s/\t/\Y) : t := h.o.2.2.2.2.1
theorem J.E {p q r s t Y : Prop} (h : J<|p/\q/\r/\s/\t/\Y) : Y := h.o.2.2.2.2.2
theorem J.f {p q r s t u Y : Prop} (h : J<|p/\q/\r/\s/\t/\u/\Y) : u := h.o.2.2.2.2.2.1
theorem J.F {p q r s t u Y : Prop} (h : J<|p/\q/\r/\s/\t/\u/\Y) : Y := h.o.2.2.2.2.2.2
theorem J.g {p q r s t u v Y : Prop} (h : J<|p/\q/\r/\s/\t/\u/\v/\Y) : v := h.o.2.2.2.2.2.2.1
theorem J.G {p q r s t u v Y : Prop} (h : J<|p/\q/\r/\s/\t/\u/\v/\Y) : Y := h.o.2.2.2.2.2.2.2
theorem J.h {p q r s t u v w Y : Prop} (h : J<|p/\q/\r/\s/\t/\u/\v/\w/\Y) : w := h.o.2.2.2.2.2.2.2.1
theorem J.H {p q r s t u v w Y : Prop} (h : J<|p/\q/\r/\s/\t/\u/\v/\w/\Y) : Y := h.o.2.2.2.2.2.2.2.2
theorem J.i {p q r s t u v w x Y : Prop} (h : J<|p/\q/\r/\s/\t/\u/\v/\w/\x/\Y) : x := h.o.2.2.2.2.2.2.2.2.1
theorem J.I {p q r s t u v w x Y : Prop} (h : J<|p/\q/\r/\s/\t/\u/\v/\w/\x/\Y) : Y := h.o.2.2.2.2.2.2.2.2.2
theorem J.j {p q r s t u v w x y Y : Prop} (h : J<|p/\q/\r/\s/\t/\u/\v/\w/\x/\y/\Y) : y := h.o.2.2.2.2.2.2.2.2.2.1
theorem J.J {p q r s t u v w x y Y : Prop} (h : J<|p/\q/\r/\s/\t/\u/\v/\w/\x/\y/\Y) : Y := h.o.2.2.2.2.2.2.2.2.2.2
theorem C' {P:Program}{f:FuncId}{a:Array Value}{w:World}{v:Value}{R:World->Prop}{Q:Ending->World->Prop}(h:Calls P f a w λe w=>e=.returned v/\R w)(k:∀w,R w->Q (.returned v) w):Calls P f a w Q:=h.mono λe w hh=>by obtain ⟨rfl,q⟩:=hh;exact k w q
theorem F' {p:Prop}(h:p:=by simp[intOf];omega):p:=h
attribute [go_sem] results
theorem G' {p:Prop}(h:p:=by first|omega|(simp<;>omega)):p:=h
theorem H' {p q:Prop}(x:q)(h:q->p:=by intro h;simpa using h):p:=h x
theorem I' {p q:Prop}(x:q)(h:q->p:=by intro h;omega):p:=h x
abbrev p':=World
abbrev t':=Option Addr
abbrev u':=List UInt8
abbrev x':=ByteArray
abbrev y':=Value
end
variable {n:Nat}
section
variable {a w u:p'}{b o B e size k f:Nat}{v:y'}{L:Array y'}{t:TypeId}{D:List y'}{q:t'}{P Q:Nat->Prop}{p:Prop}
def bC{a b:Bool}(h:a=b):n' (h' a)=n' (h' b):=by rw[h]
def hM(h:χ w (O b o)=z' v):∃c t f,w.1[b]?=z' (i' c t f):=by
 unfold World.cell? at h;simp only at h;split at h
 .rename_i c t f e;exact⟨c,t,f,e⟩
 cases h
def A(h:w.1[b]?=z' (i' L t (0,0))):(∀o,χ w (O b o)=L[o]?)/\(∀o,w.frozen? (O b o)=O'):=by refine⟨λo=>by simp[World.cell?,h],λo=>by simp[World.frozen?,h]⟩
def eK(h:ρ w B e size v n D):∀k,φ v=z' k->∃Y f,w.1[k]?=z' (i' Y e f):=by
 intro k a;rcases h.2 with⟨rfl,_⟩|⟨g,b,Y,rfl,_,b,_⟩
 .simp[Value.ownBlock]at a
 simp[Value.ownBlock]at a;subst a;exact⟨Y,(0,0),b⟩
def bh(h:a.1[k]?=w.1[k]?):χ a (O k o)=χ w (O k o):=by simp only[World.cell?,h]
def data_inj{a b:x'}(h:a.1.1=b.1.1):a=b:=by cases a;cases b;simp only at h;congr 1;exact QD.1 h
def zH(w:p')(v:y')(t:TypeId):∀j u,[v][j]?=z' u->χ (w.alloc<|i' #[v] t) (((O w.1.size 0):Addr).add j)=z' u:=by
 intro j u hj
 match j,hj with
 |0,hj=>simp at hj;subst hj;simp[Addr.add]
def lT{a b c}:=@zH a b c
def bE(w:p')(a f:Obj):((w.alloc a).alloc f).1[δ w.1]?=z' a/\((w.alloc a).alloc f).1[δ w.1+1]?=z' f:=by have W:δ (w.alloc a).1=δ w.1+1:=ak;have C:=cF w a;have b:=cF (w.alloc a) f;rw[W]at b;exact⟨by rw[bR I];exact C,b⟩
def hJ{a b c}:=@bE a b c
def below_drewN(h:Below b u w)(n:Nat):Below b u (w.drewN n):=⟨h.os,h.tape,h.output,h.size,h.block⟩
def own_drewN(h:ρ w B e size v n D)(q:Nat):ρ (w.drewN q) B e size v n D:=h
def aV(h:ρ w B e size v n D):∃a b,v=g' a n b:=by
 rcases h.2 with⟨rfl,e⟩|⟨g,b,Y,R,_⟩
 .exact⟨A',0,by rw[e]⟩
 exact⟨_,_,R⟩
def c8(h:ρ w B e size v n D)(a:f<=B):ρ w f e size v n D:=by
 refine⟨h.1,?_⟩;rcases h.2 with a|⟨g,b,Y,C,c,N⟩
 .exact aP a
 exact aR ⟨g,b,Y,C,I,N⟩
def cQ(w:p')(b o:Nat)(v:y'):ξ w (κ w (O b o) v) (z' b):=
 ⟨rfl,rfl,rfl,by simp[World.setCell],λk _ z=>aJ λe=>z<|by rw[e]⟩
def uD{L d u:Nat}{g:y'}{c:List y'}(h:ρ w B e size v n D)(s:ρ w f L d g u c)(l:e≠L):φ v=A'\/φ v≠φ g:=by
 cases R:φ v with
 |none=>exact aP rfl
 |some k=>refine aR λo=>?_;obtain⟨Q,K,a⟩:=eK h k R;obtain⟨p,B,b⟩:=eK s k o.symm;rw[a]at b;simp at b;exact l b.2.1
def dE(h:ρ w B e size v n D){q:Nat}(a:q<B):φ v=A'\/φ v≠z' q:=by
 cases R:φ v with
 |none=>exact aP rfl
 |some k=>have:=(h.lt k R).1;exact aR G'
def aB(h:χ w (O k o)=z' v)(b:Bl w a):χ a (O k o)=z' v:=by obtain⟨c,t,f,T⟩:=hM h;exact(bh<|b.block k (bq.1 T).1).trans h
def dW(h:χ w (O k o)=z' v):k<δ w.1:=by obtain⟨c,t,f,T⟩:=hM h;exact(bq.1 T).1
def bK(w:p')(ao:t')(xs:List Int):Prop:=∀j x,xs[j]?=z' x->∃b o,ao=z' (O b o)/\χ w (O b<|o+j)=z' (G x)
def bK.below{D:List Int}(h:bK w q D)(c:Bl w a):bK a q D:=by intro j x f;obtain⟨b,o,C,a⟩:=h j x f;exact⟨b,o,C,aB a c⟩
def bK.pre{D z:List Int}(h:bK w q z)(U:D <+: z):bK w q D:=by obtain⟨t,rfl⟩:=U;intro j x f;exact h j x (by rw[gI (aX.1 f).1];exact f)
def gw{P:Program}{ops:Array Oper}{o:Oper}{a:Act}{K:Act->p'->Prop}{Q:Exit->Act->p'->Prop}{E:Prop}
  (q:o.guard=A') (s x:Operand) (t:TypeId) (p:o.op=Op.call {callee:=Callee.builtin Builtin.append,args:=#[s,x],argTypes:=#[t,t]})
  (k:Nat) (e:TypeId) (i:TypeInfo) (z:y') (size bytes:Nat) (C:P.underlying t=z' (.slice e)) (W:P.info? e=z' i) (N:i.zero=z' z) (X:i.size=size) (l:i.bytes=bytes) (h6:z.cells.size=size) (V:0<size)
  (v:y') (n:Nat) (f:List y') (y:a.eval s=v) (D:ρ w k e size v n f)
  (R:Addr) (m c:Nat) (b:List y') (F:a.eval x=g' (z' R) m c) (hn:ζ b=m*size) (T:∀j u,b[j]?=z' u->χ w (R.add j)=z' u) (U:∀u∈b,u.oneCell'=N')
  (u:n+m<=maxLen) (b2:(n+m)*bytes<=140737488355328) (hB:k<=δ w.1)
  (Y:∀g j,ρ j k e size g (n+m) (f++b)->ξ w j (φ v)->(φ g=φ v\/φ g=z' w.1.size)->K (a.put o.dst g) j):
  if Region.wanted o (yielded ops a.tmps)=N' then Oper.wp P o a w K Q else E:=by
 have B:Region.wanted o (yielded ops a.tmps)=N':=by simp[Region.wanted,q]
 rw[aD B];obtain⟨g,j,r,r1,q,_,L⟩:=run_append_own_at (P:=P) (w:=w) k t o.type e i z size bytes C W N X l h6 V v n f D R m c b hn T U u b2 hB;obtain⟨U,T,rfl⟩:=aV D;simp[Oper.wp,execOp,p,resolve,invoke,builtin,y,F,r,Result.andThen];exact Y g j r1 q L
def cf(w:p')(a:Obj):Bl w (w.alloc a):=aQ.alloc aK _
def bA{a b}:=@cf a b
def u!(w:p')(a b:Obj):Bl w ((w.alloc a).alloc b):=(cf w a).alloc ak _
def dH{a b c}:=@u! a b c
def mx(w:p')(a b c:Obj):Bl w (((w.alloc a).alloc b).alloc c):=(u! w a b).alloc G' _
def eD{a b c d}:=@mx a b c d
def rQ(w:p')(a b c d:Obj):Bl w ((((w.alloc a).alloc b).alloc c).alloc d):=(mx w a b c).alloc G' _
def jb{a b c d e}:=@rQ a b c d e
def aq{v:p'}(h:Bl u v)(k:Bl v w):Bl u w:=h.trans<|k.mono h.size
structure Kp(b:Nat)(w w':p'):Prop where
  os:w'.os=w.os
  tape:w'.tape=w.tape
  output:w'.output=w.output
  size:δ w.1<=δ w'.1
  keep:∀k o,w.1[k]?=z' o->k≠b->(∀c f,o≠i' c 5 f)->w'.1[k]?=z' o
def Kp.refl(b:Nat)(w:p'):Kp b w w:=⟨rfl,rfl,rfl,aK,λ_ _ h _ _=>h⟩
def Kp.trans{v:p'}(h:Kp b u v)(k:Kp b v w):Kp b u w:=
 ⟨k.os.trans h.os,k.tape.trans h.tape,k.output.trans h.output,bX h.size k.size,λj o a c d=>k.keep j o (h.keep j o a c d) c d⟩
def Tb(h:Kp b w a)(o:Nat)(v:y'):Kp b w (κ a (O b o) v):=
 ⟨h.os,h.tape,h.output,by simpa[World.setCell]using h.size,λk x a c d=>(aJ c).trans<|h.keep k x a c d⟩
def Tc{h:p'}(f:ξ w h<|φ v)(i:ρ w B 5 1 v n D):Kp b w h:=by
 refine⟨f.os,f.tape,f.output,f.size,λk o a _ d=>?_⟩;refine(f.block k (bq.1 a).1 ?_).trans a;intro e;rcases i.2 with⟨rfl,_⟩|⟨g,j,Y,rfl,_,c,_⟩
 .simp[Value.ownBlock]at e
 simp only[Value.ownBlock,dU]at e;subst e;rw[a]at c;cases c;exact d _ _ rfl
structure Fr(P:Nat->Prop)(w w':p'):Prop where
  os:w'.os=w.os
  tape:w'.tape=w.tape
  output:w'.output=w.output
  size:δ w.1<=δ w'.1
  block:∀k,k<δ w.1->P k->w'.1[k]?=w.1[k]?
def Fr.refl(P:Nat->Prop)(w:p'):Fr P w w:=⟨rfl,rfl,rfl,aK,λ_ _ _=>rfl⟩
def Fr.bJ(h:Bl w a):Fr P w a:=⟨h.os,h.tape,h.output,h.size,λk a _=>h.block k a⟩
def Fr.trans{v:p'}(h:Fr P u v)(k:Fr Q v w)(S:∀x,x<δ u.1->P x->Q x):Fr P u w:=
 ⟨k.os.trans h.os,k.tape.trans h.tape,k.output.trans h.output,bX h.size k.size,λx F U=>(k.block x (eh F h.size)<|S x F U).trans<|h.block x F U⟩
def Fr.SJ{q:Option Nat}(h:ξ w a q)(hP:∀k,k<δ w.1->P k->some k≠q):Fr P w a:=⟨h.os,h.tape,h.output,h.size,λk a U=>h.block k a<|hP k a U⟩
def Fr.grown{v:p'}{q:Option Nat}(h:Fr P u v)(k:ξ v w q)(hP:∀x,x<δ u.1->P x->some x≠q):Fr P u w:=
 ⟨k.os.trans h.os,k.tape.trans h.tape,k.output.trans h.output,bX h.size k.size,λx F U=>(k.block x (eh F h.size)<|hP x F U).trans<|h.block x F U⟩
def Fr.mono{v:p'}(h:Fr P u v)(S:∀x,x<δ u.1->Q x->P x):Fr Q u v:=
 ⟨h.os,h.tape,h.output,h.size,λx F U=>h.block x F<|S x F U⟩
def Fr.own{c:p'}(h:Fr P w c)(b:ρ w B e size v n D)(R:∀k,φ v=z' k->P k):ρ c B e size v n D:=by
 have L:=b.lt;refine⟨b.1,?_⟩;rcases b.2 with o|⟨g,a,Y,V,Q,p,d⟩
 .exact aP o
 subst V;exact aR ⟨g,a,Y,rfl,Q,(h.block g (L g rfl).2<|R g rfl).trans p,d⟩
def Fr.below(h:Fr P w a)(v:B<=δ w.1)(hP:∀k,k<B->P k):Below B w a:=⟨h.os,h.tape,h.output,h.size,λk a=>h.block k I<|hP k a⟩
def Fr.set{v:p'}{x:y'}(h:Fr P u v)(hP:∀k,P k->k≠b):Fr P u (κ v (O b o) x):=
 ⟨h.os,h.tape,h.output,by simpa[World.setCell]using h.size,λk a U=>(aJ<|hP k U).trans<|h.block k a U⟩
def H(h:w.1[b]?=z' (i' L t (0,0)))(v:y'):(κ w (O b o) v).1[b]?=z' (i' (L.setIfInBounds o v) t (0,0)):=by simp[World.setCell,AV,h]
def blt{o:Obj}(h:w.1[k]?=z' o):k<δ w.1:=(bq.1 h).1
def aG{o:Obj}(b:Bl w a)(h:w.1[k]?=z' o):a.1[k]?=z' o:=(b.block k<|blt h).trans h
def NJ(w:p')(a f b:Obj):(((w.alloc a).alloc f).alloc b).1[δ w.1+1+1]?=z' b:=by have:=cF ((w.alloc a).alloc f) b;simpa using this
def qd(w:p')(a f c b:Obj):((((w.alloc a).alloc f).alloc c).alloc b).1[δ w.1]?=z' a/\((((w.alloc a).alloc f).alloc c).alloc b).1[δ w.1+1]?=z' f/\((((w.alloc a).alloc f).alloc c).alloc b).1[δ w.1+1+1]?=z' c/\((((w.alloc a).alloc f).alloc c).alloc b).1[δ w.1+1+1+1]?=z' b:=by
 have d:=cF (((w.alloc a).alloc f).alloc c) b;rw[show(((w.alloc a).alloc f).alloc c).1.size=δ w.1+1+1+1 by simp]at d;refine⟨?_,?_,?_,d⟩
 .rw[bR<|by simp;try omega,bR<|by simp;try omega];exact(bE w a f).1
 .rw[bR<|by simp;try omega,bR<|by simp;try omega];exact(bE w a f).2
 rw[bR<|by simp;try omega];exact NJ w a f c
def Vg{a b c d e}:=@qd a b c d e
def aZ(h:ρ w B e size v n D)(f:Bl w a):ρ a B e size v n D:=by
 refine⟨h.1,?_⟩;rcases h.2 with a|⟨g,b,Y,C,c,N,d⟩
 .exact aP a
 exact aR ⟨g,b,Y,C,c,(f.block g (bq.1 N).1).trans N,d⟩
def uA{f:Nat->Bool}(h:f k=O')(b:k<n):(range n).all f=O':=by rw[rZ];intro a;rw[bV]at a;have:=a k<|H' b;rw[h]at this;cases this
def ew(f:Nat->Bool)(k:Nat):(range<|k+1).all f=((range k).all f&&f k):=by simp[kq]
def TX{F:p'->Prop}{a:Obj}(h:∀V,J (V.1[δ w.1]?=z' a/\Bl w V)->F V):F (w.alloc a):=h _ ⟨cv,bA⟩
def M(h:p:=by kernel_rfl):p:=h
def ay(h:p:=by repeat(first|with_reducible exact aQ|with_reducible refine below_drewN ?_ _|with_reducible refine xD ?_|refine lB ?_ (by first|(simp;done)|(simp;omega)) _)):p:=h
end
structure Vl where
  aH:Int
  lo:Int
  hi:Int
  bY:Bool
  first:Int
  rank:Int
structure Nd where
  facts:List Int
  bf:List Int
  aF:Bool
  rank:Int
  aM:List Vl
structure Ct where
  aL:Int
  grade:Int
  nodes:List Nd
def rk(n:Int):Bool:=decide (0<=n)&&decide (n<=100000)
def dI:Int->List Int->Bool
 |_,[]=>true
 |fl,f :: r=>decide (fl<=f)&&decide (f<=100000)&&dI (f+1) r
def iL(g:Int)(bf:List Int)(k:Nat):Bool:=if g=1 then decide (bf.length=k)&&bf.all rk else bf.isEmpty
def gH(g:Int)(n:Nd):Bool:=!n.aF&&decide (n.rank=0)&&n.aM.isEmpty&&dI 0 n.facts&&iL g n.bf n.facts.length
def nw(g r:Int)(v:Vl):Bool:=decide (g=1)&&decide (r<v.rank)&&decide (v.rank<=100000)&&decide (v.aH=2)&&decide (v.lo=0)&&decide (v.hi=0)
def gG(p g r:Int)(v:Vl):Bool:=
 if p=6 then decide (v.aH=3)&&!v.bY&&decide (v.first=0)&&decide (v.rank=0)&&decide (v.lo<=v.hi)
 else if v.bY then nw g r v
 else decide (v.aH=1)&&decide (v.hi=0)&&decide (v.first=0)&&decide (v.rank=0)||decide (v.aH=2)&&decide (v.lo=0)&&decide (v.hi=0)&&decide (v.first=0)&&decide (v.rank=0)
def l!(n:Nd):Bool:=!n.aF&&decide (n.rank=0)&&n.facts.isEmpty&&n.bf.isEmpty&&n.aM.isEmpty
def jR(p g:Int)(n:Nd):Bool:=n.facts.isEmpty&&n.bf.isEmpty&&decide (n.aM.length<=8)&&rk n.rank&&(decide (g=1)||decide (n.rank=0))&&n.aM.all (gG p g n.rank)
def cY(p g:Int)(n:Nd):Bool:=if p<=4 then gH g n else if n.aF then jR p g n else l! n
def known(p g:Int):Bool:=decide (1<=p)&&decide (p<=6)&&(decide (g=2)||decide (g=1)&&!decide (p=6))
def qi(c:Ct):Bool:=known c.aL c.grade&&decide (c.nodes.length<=60)&&c.nodes.all (cY c.aL c.grade)
def fJ(n:Nat):List UInt8:=if h:n<128 then[UInt8.ofNat n] else UInt8.ofNat (n % 128+128) :: fJ (n / 128)
def dS(x:Int):List UInt8:=fJ x.toNat
def N3(x:Int):Nat:=if 0<=x then(2*x).toNat else(-2*x-1).toNat
def yh(x:Int):List UInt8:=fJ<|N3 x
def eU:Int->List Int->List Int
 |_,[]=>[]
 |fl,f :: r=>(f-fl) :: eU (f+1) r
def setB(n:Nd):List UInt8:=fJ n.facts.length++(eU 0 n.facts).flatMap dS++n.bf.flatMap dS
def fD(p g:Int)(v:Vl):List UInt8:=
 if p=6 then yh v.lo++fJ (v.hi-v.lo).toNat
 else if v.aH=1 then 1 :: yh v.lo
 else if g=1 then(if v.bY then 2 :: 1 :: (yh v.first++dS v.rank) else[2,0])
 else[2]
def rL(p g:Int)(n:Nd):List UInt8:=(if g=1 then dS n.rank else[])++fJ n.aM.length++n.aM.flatMap (fD p g)
def d!(p g:Int)(n:Nd):List UInt8:=if p<=4 then setB n else if n.aF then 1 :: rL p g n else[0]
def o4(c:Ct):List UInt8:=[87,67,1,UInt8.ofNat c.aL.toNat,UInt8.ofNat c.grade.toNat]++fJ c.nodes.length
def kH(c:Ct):List UInt8:=o4 c++c.nodes.flatMap (d! c.aL c.grade)
def enc(c:Ct):Option (List UInt8):=if qi c&&decide ((kH c).length<=60000) then some (kH c) else none
theorem en(h:n<128):fJ n=[UInt8.ofNat n]:=by rw[fJ,dif_pos h]
theorem lQ(h:¬n<128):fJ n=UInt8.ofNat (n % 128+128) :: fJ (n / 128):=by rw[fJ,dif_neg h]
theorem K0:∀(k n:Nat),n<128 ^ k->(fJ n).length<=k∨k=0
 |0,n,h=>aR rfl
 |k+1,n,h=>by
  left;by_cases K:n<128
  .rw[en K];simp
  rw[lQ K];have C:n / 128<128 ^ k:=by rw[CJ]at h;omega
  rcases K0 k _ C with a|a
  .simp;exact a
  subst a;simp at C;omega
theorem fP(h:n<18446744073709551616):(fJ n).length<=10:=by
 rcases K0 10 n I with h|h
 .exact h
 omega
theorem tv{α:Type}(f:α->List UInt8)(k:Nat):∀(l:List α),(∀x∈l,(f x).length<=k)->(l.flatMap f).length<=l.length*k
 |[],_=>by simp
 |a :: l,h=>by have C:=h a ak;have a:=tv f k l (λx F=>h x<|by simp[F]);simp only[bW,bg,bU,lZ];omega
theorem yl:∀(o:List Int)(Y:Int),dI Y o=true->(o.length:Int)+Y<=100001∨o=[]
 |[],_,_=>aR rfl
 |f :: r,Y,h=>by
  left;simp[dI]at h;obtain⟨⟨C,a⟩,N⟩:=h;rcases yl r (f+1) N with d|d
  .simp;omega
  subst d;simp;omega
theorem pL{o:List Int}(h:dI 0 o=true):o.length<=100001:=by
 rcases yl o 0 h with h|h
 .omega
 subst h;simp
abbrev Cl:=Calls Tryz.prog
abbrev eu(a0)(a1):=(#[.slice (some<|O a0 0) a1 a1,.func (.func 267) #[] #[],.func (.func 296) #[] #[]]:Array y')
abbrev cG(a0)(a1):=(.slice (some<|O a0 0) a1 a1:y')
abbrev cB(a0):=(#[.pointer<|some<|O a0 0]:Array y')
abbrev kV:=(.cells #[.bool false,.slice none 0 0] 133 (0,0):Obj)
abbrev uo:=(#[.bool false,.slice none 0 0]:Array y')
abbrev ka(a0)(a1)(a2)(a3)(a4):=(#[.pointer<|some<|O a0 0,.slice (some<|O a1 a2) a3 a4]:Array y')
abbrev fC(a0)(a1)(a2)(a3):=(#[.slice (some<|O a0 0) a1 a2,G a3]:Array y')
abbrev um:=(.cells #[.slice none 0 0,.nilFunc,.nilFunc] 260 (0,0):Obj)
abbrev fL(a0)(a1)(a2):=(#[.bool false,.slice a0 a1 a2]:Array y')
abbrev CK(a0)(a1)(a2)(a3)(a4)(a5)(a6)(a7)(a8)(a9)(a10)(a11)(a12)(Iw)(a14):=(.cells #[.slice a0 a1 a2,.string a3,.string a4,G a5,G a6,G a7,.string a8,G a9,G a10,.string a11,G a12,.string Iw,.string a14] 111:Obj)
abbrev EM:=(#[.slice none 0 0,.nilFunc,.nilFunc]:Array y')
abbrev r?:=(#[.slice none 0 0,.slice none 0 0,.bool false,G 0,.slice none 0 0]:Array y')
abbrev cV(a0):=(some (O a0 0):t')
abbrev cD(a0)(a1)(a2):=(#[.bool a0,G a1,G a2]:Array y')
abbrev gY:=(.cells #[Z 0,Z 0] 267:Obj)
abbrev cU(a0)(a1):=(.cells a0 a1 (0,0):Obj)
abbrev nL:=(#[G 0,G 0,G 0,.bool false,G 0,G 0]:Array y')
abbrev iI:=(.cells #[G 0,G 0] 247:Obj)
abbrev lC:=(.cells #[Z 0,Z 0] 267 (0,0):Obj)
abbrev r9(a0)(a1):=(#[.pointer<|some<|O a0 0,.pointer<|some<|O a1 0]:Array y')
abbrev gX(a0)(a1)(a2):=(.slice (some<|O a0 0) a1 a2:y')
abbrev kX:=(.func (.func 267) #[] #[]:y')
abbrev xV(a0):=(.pointer (some<|O a0 0):y')
abbrev bk(a0)(a1)(a2):=(.slice a0 a1 a2:y')
abbrev mG(a0)(a1):=(#[.slice (some<|O a0 0) a1 a1]:Array y')
abbrev mF(a0)(a1):=(#[.pointer<|some<|O a0 0,G a1]:Array y')
abbrev fe(a0)(a1)(a2)(a3):=(#[.bool a0,.slice a1 a2 a3]:Array y')
abbrev nK:=(#[.slice none 0 0,G 0]:Array y')
abbrev kr(a0)(a1):=(.cells #[G a0,G a1] 247:Obj)
abbrev qy(a0)(a1):=(.cells #[.bool true,G a0,G a1] 150:Obj)
abbrev oq(a0):=(#[.slice (some<|O a0 0) 1 1]:Array y')
abbrev oo:=(#[.bool false,G 0,G 0]:Array y')
abbrev kW(a0)(a1)(a2)(a3):=(.slice (some<|O a0 a1) a2 a3:y')
abbrev EL:=(#[.bool false,G 0,G 0,G 0,.bool false,G 0,G 0]:Array y')
abbrev vq:=(.cells #[G 0,G 0] 247 (0,0):Obj)
abbrev r8:=(.func (.func 296) #[] #[]:y')
abbrev r7(a0):=(#[.slice (some<|O a0 0) 2 2]:Array y')
abbrev nJ(a0)(a1)(a2)(a3)(a4)(a5):=(#[G a0,G a1,G a2,.bool a3,G a4,G a5]:Array y')
abbrev qx(a0):=(.pointer (some<|O a0 3):y')
abbrev r6(a0)(a1)(a2)(a3)(a4)(a5)(a6):=(#[.bool a0,G a1,G a2,G a3,.bool a4,G a5,G a6]:Array y')
abbrev nI(a0)(a1):=(.cells #[Z a0,Z a1] 267:Obj)
abbrev Lv:=(.cells #[.int .u8 87,.int .u8 67,.int .u8 1] 5 (3,4):Obj)
abbrev vp(a0)(a1)(a2)(a3)(a4)(a5)(a6)(a7)(a8)(a9)(a10):=(#[.slice a0 a1 a2,.slice a3 a4 a5,.bool a6,G a7,.slice a8 a9 a10]:Array y')
abbrev xU(a0)(a1)(a2)(a3)(a4):=(#[.string a0,.string a1,.string a2,G a3,G a4]:Array y')
abbrev EK(a0)(a1)(a2)(a3)(a4)(a5):=(#[.pointer<|some<|O a0 0,.agg #[G a1,G a2,.slice a3 a4 a5]]:Array y')
abbrev nH:=(.cells #[] 331:Obj)
abbrev kU(a0)(a1):=(.agg #[Z a0,Z a1]:y')
abbrev vo:=(#[105,110,112,117,116]:Array UInt8)
abbrev A1(a0)(a1)(a2)(a3)(a4)(a5)(a6)(a7)(a8):=(#[.string a0,G a1,.agg #[.slice a2 a3 a4,.slice a5 a6 a7,G a8]]:Array y')
abbrev qw(a0)(a1):=(.cells #[G a0,G a1] 166:Obj)
abbrev r5:=(#[.bool true,G 0]:Array y')
abbrev om(a0):=(#[.bool false,G a0]:Array y')
abbrev xT:=(#[Z 0,Z 0,Z 0,Z 0]:Array y')
abbrev vm:=(#[.bool false,G 0]:Array y')
abbrev xS(a0)(a1):=(.cells #[Z a0,Z a1] 267 (0,0):Obj)
abbrev xR(a0):=(.pointer (some<|O a0 1):y')
abbrev A0(a0)(a1):=(.pointer (some<|O a0<|a1*5):y')
abbrev AZ(a0)(a1):=(.pointer (some<|O a0<|a1*2):y')
abbrev Lu(a0)(a1)(a2)(a3):=(#[.pointer<|some<|O a0 0,.slice (some<|O a1 a2) 2 a3]:Array y')
def infoByte:(Tryz.prog.info? 5).map (λi=>(i.zero,i.size,i.bytes))=z' (z'<|.int .u8 0,1,1):=M
def acx:(Tryz.prog.info? 2).map (λi=>(i.zero,i.size,i.bytes))=z' (z'<|G 0,1,8):=M
def lJ:(Tryz.prog.info? 3).map (λi=>(i.zero,i.size,i.bytes))=z' (z'<|G 0,1,8):=M
namespace Wm
def nX(c:UInt8):Bool:=decide (97<=c.toNat)&&decide (c.toNat<=122)
def gS(c:UInt8):Bool:=decide (48<=c.toNat)&&decide (c.toNat<=57)
def sd(c:UInt8):Bool:=nX c||gS c
def resv(l:List UInt8):Bool:=l==[105,110,112,117,116]||l==[111,117,116,112,117,116]||l==[105,102]||l==[103,111,116,111]||l==[114,101,116,117,114,110]
def SU(l:List UInt8):Bool:=
 match l with
 |[]=>false
 |c :: r=>nX c&&(c :: r).all sd&&decide (r.length+1<=6)&&!resv (c :: r)
def nm(s:ByteArray):Bool:=SU s.data.toList
theorem TW(s:ByteArray)(k:Nat)(h:k<s.size):s.data.toList[k]?=some s[k]:=by rw[bj<|by simpa using h];rfl
theorem uv(s:ByteArray)(k:Nat)(h:k<s.size):s.data.toList.take (k+1)=s.data.toList.take k++[s[k]]:=by rw[ep<|by simpa using h];rfl
theorem bT(s:ByteArray):s.data.toList.length=s.size:=rfl
theorem fj(s:ByteArray)(h:0<s.size):s.data.toList=s[0] :: s.data.toList.drop 1:=by
 have:=TW s 0 h;cases X:s.data.toList with
 |nil=>rw[X]at this;simp at this
 |cons a t=>rw[X]at this;simp at this;simp[this]
theorem lk(s:ByteArray)(k:Nat)(p:UInt8->Bool)(h:k<s.size):(s.data.toList.take<|k+1).all p=((s.data.toList.take k).all p&&p s[k]):=by rw[uv s k h];simp[List.all_append]
theorem vY(l:List UInt8)(k:Nat)(p:UInt8->Bool)(h:l.all p=true):(l.take k).all p=true:=by rw[bV]at h|-;exact λx F=>h x<|xi F
theorem Gb(s:ByteArray)(D:0<s.size):nm s=(nX s[0]&&s.data.toList.all sd&&decide (s.size<=6)&&!resv s.data.toList):=by have X:=bT s;unfold nm SU;rw[fj s D]at X|-;simp only[bU]at X;show(nX s[0]&&_&&decide ((List.drop 1 s.data.toList).length+1<=6)&&_)=_;rw[X]
theorem w7(s:ByteArray)(h:s.size=0):nm s=false:=by have X:=bT s;have:s.data.toList=[]:=fT.1 I;unfold nm;rw[this];rfl
theorem WT(s:ByteArray)(h:6<s.size):nm s=false:=by rw[Gb s I];simp;intros;omega
theorem Dq(s:ByteArray)(D:0<s.size)(h:nX s[0]=false):nm s=false:=by rw[Gb s D,h];rfl
theorem SS(s:ByteArray)(k:Nat)(h:k<s.size)(a:sd s[k]=false):nm s=false:=by
 rw[Gb s I];have:s.data.toList.all sd=false:=by
  cases e:s.data.toList.all sd with
  |false=>rfl
  |true=>have:=vY _ (k+1) _ e;rw[lk s k _ h,a]at this;simp at this
 rw[this];simp
theorem abZ(s:ByteArray)(D:0<s.size)(c:s.size<=6)(V:nX s[0]=true)(a:(s.data.toList.take s.size).all sd=true):nm s=!resv s.data.toList:=by rw[Gb s D,V];rw[c!<|by rw[bT];exact aK]at a;rw[a];simp[c]
def tV(l:List UInt8):Int:=if l==[43] then 0 else if l==[45] then 1 else if l==[42] then 2 else if l==[47] then 3 else 0
def wX(l:List UInt8):Bool:=l==[43]||l==[45]||l==[42]||l==[47]
def uu(l:List UInt8):Int:=if l==[60] then 0 else if l==[60,61] then 1 else if l==[61,61] then 2 else if l==[33,61] then 3 else 0
def x!(l:List UInt8):Bool:=l==[60]||l==[60,61]||l==[61,61]||l==[33,61]
end Wm
def iQ(c:UInt8)(w:p'):
  Cl 191 #[.int .u8 c.toNat] w λe a=>e=n' (h'<|Wm.nX c)/\a=w:=by
 go_enter func191,ntmps191;go_wp2
 all_goals
  go_ret;refine⟨bC ?_,rfl⟩;unfold Wm.nX
  first|(rw[cC];simp;omega)|skip
def lI(c:UInt8)(w:p'):
  Cl 192 #[.int .u8 c.toNat] w λe a=>e=n' (h'<|Wm.gS c)/\a=w:=by
 go_enter func192,ntmps192;go_wp2
 all_goals
  go_ret;refine⟨bC ?_,rfl⟩;unfold Wm.gS
  first|(rw[cC];simp;omega)|skip
def zh(s:x')(w:p'):
  Cl 193 #[k' s] w λe a=>e=n' (h'<|Wm.resv s.1.1)/\a=w:=by
 rw[<-eM];go_enter func193,ntmps193;go_wp2
 all_goals
  go_ret;refine⟨bC ?_,rfl⟩;unfold Wm.resv;simp_all
def ey(s:x')(w:p')(y:s.size<=maxLen):
  Cl 124 #[k' s] w λe a=>e=n' (h'<|Wm.nm s)/\a=w:=by
 unfold maxLen at y;by_cases D:s.size=0
 .go_enter func124,ntmps124;go_wp2;go_ret;exact⟨bC (Wm.w7 s D).symm,rfl⟩
 by_cases c:6<s.size
 .go_enter func124,ntmps124;go_wp2;go_ret;exact⟨bC (Wm.WT s c).symm,rfl⟩
 have U:0<s.size:=I;have o:((s.size:Int)==0)=O':=by rw[dB];omega
 have b:decide (6<(s.size:Int))=O':=by rw[e9];omega
 cases V:Wm.nX s[0]with
 |false=>go_enter func124,ntmps124;go_wp2_with (go_at_call 191;refine(iQ _ _).mono ?_;rintro e a ⟨rfl,rfl⟩);go_ret;exact⟨bC (Wm.Dq s U V).symm,rfl⟩
 |true=>
  go_enter func124,ntmps124;go_wp2_with (go_at_call 191;refine(iQ _ _).mono ?_;rintro e a ⟨rfl,rfl⟩)
  go_loop [20] (λi=>∃k:Nat,k<=s.size/\i=G k/\(s.1.1.take k).all Wm.sd=N') (λi=>s.size-(intOf i).toNat)
  case atStart=>exact⟨0,bm,rfl,ak⟩
  obtain⟨k,b,rfl,b⟩:=hrel;have T:=hid b;clear b;by_cases L:k<s.size;rotate_left
  .go_wp2_with (go_at_call 193;refine(zh _ _).mono ?_;rintro e a ⟨rfl,rfl⟩);go_ret;exact⟨bC (Wm.abZ s U I V<|by rw[show s.size=k by omega];exact T.o).symm,rfl⟩
  cases X:Wm.nX s[k]with
  |true=>
   go_wp2_with (go_at_call 191;refine(iQ _ _).mono ?_;rintro e a ⟨rfl,rfl⟩)
   go_round
   case rel=>exact⟨k+1,I,e',by rw[Wm.lk s k _ L,T.o];simp[Wm.sd,X]⟩
   exact F'
  |false=>
   cases Q:Wm.gS s[k]with
   |true=>
    go_wp2_with (first|(go_at_call 191;refine(iQ _ _).mono ?_;rintro e a ⟨rfl,rfl⟩)|(go_at_call 192;refine(lI _ _).mono ?_;rintro e a ⟨rfl,rfl⟩))
    go_round
    case rel=>exact⟨k+1,I,e',by rw[Wm.lk s k _ L,T.o];simp[Wm.sd,Q]⟩
    exact F'
   |false=>go_wp2_with (first|(go_at_call 191;refine(iQ _ _).mono ?_;rintro e a ⟨rfl,rfl⟩)|(go_at_call 192;refine(lI _ _).mono ?_;rintro e a ⟨rfl,rfl⟩));go_ret;exact⟨bC (Wm.SS s k L<|by simp[Wm.sd,X,Q]).symm,rfl⟩
def fg{a b:Int}{c d:Bool}(h:a=b)(s:c=d):n' (o' #[G a,h' c])=n' (o' #[G b,h' d]):=by rw[h,s]
def F2(s:x')(w:p'):
  Cl 262 #[k' s] w λe a=>e=n' (o' #[G<|Wm.tV s.1.1,h'<|Wm.wX s.1.1])/\a=w:=by
 rw[<-eM];go_enter func262,ntmps262;go_wp2
 all_goals
  go_ret2;refine⟨fg ?_ ?_,rfl⟩<;>simp_all[Wm.tV,Wm.wX]
def Am(s:x')(w:p'):
  Cl 260 #[k' s] w λe a=>e=n' (o' #[G<|Wm.uu s.1.1,h'<|Wm.x! s.1.1])/\a=w:=by
 rw[<-eM];go_enter func260,ntmps260;go_wp2
 all_goals
  go_ret2;refine⟨fg ?_ ?_,rfl⟩<;>simp_all[Wm.uu,Wm.x!]
def GK(c:Int)(w:p'):
  Cl 122 #[.int .i32 c] w λe a=>e=n' (h'<|c==32||c==9||c==13)/\a=w:=by
 go_enter func122,ntmps122;go_wp2
 all_goals
  go_ret;refine⟨bC ?_,rfl⟩;simp_all
namespace Wm
def iZ(a:Nat)(l:List UInt8):Nat:=l.foldl (λa c=>a*10+(c.toNat-48)) a
def dL(l:List UInt8):Nat:=iZ 0 l
def dg(l:List UInt8):List UInt8:=trimPrefix l [45]
def ng(l:List UInt8):Bool:=hasPrefix l [45]
def kE(neg:Bool)(d:List UInt8):Bool:=
 match d with
 |[]=>false
 |c :: r=>(c :: r).all gS&&(if c.toNat==48 then decide (r.length=0)&&!neg else true)
def oS(l:List UInt8):Bool:=kE (ng l)<|dg l
def f?(l:List UInt8):Option Int:=
 if oS l then(if ng l then(if dL (dg l)<=9223372036854775808 then some (-(dL (dg l):Int)) else none) else if dL (dg l)<9223372036854775808 then some (dL (dg l):Int) else none) else none
theorem Np(l:List UInt8):∀a,a<=iZ a l:=by
 induction l with
 |nil=>intro a;exact aK
 |cons c r B=>intro a;have:=B<|a*10+(c.toNat-48);simp only[iZ,ij]at this|-;omega
theorem kR(a:Nat)(c:UInt8)(r:List UInt8):iZ a (c :: r)=iZ (a*10+(c.toNat-48)) r:=by unfold iZ;rw[ij]
theorem gn(c:UInt8):gS c=true↔48<=c.toNat/\c.toNat<=57:=by simp[gS]
theorem WG(b a:Nat)(c:UInt8)(r:List UInt8)(T:48<=c.toNat/\c.toNat<=57):parseUintM b a (c :: r)=if 1844674407370955162<=a then .range else if b<a*10+(c.toNat-48) then .range else parseUintM b (a*10+(c.toNat-48)) r:=by rw[parseUintM,aD T]
theorem ar1(c a x f:Nat)(b:c<18446744073709551620)(C:1844674407370955162<=a)(u:a*10+x<=f):¬f<=c:=by omega
theorem Rg(d:Nat)(b:d<18446744073709551620):∀(l:List UInt8)(a:Nat),l.all gS=true->a<=d->parseUintM d a l=if iZ a l<=d then .ok (iZ a l) else .range
 |[],a,_,ha=>by rw[aD<|show iZ a []<=d from ha];rfl
 |c :: r,a,Q,ha=>by
  have U:gS c=true:=by simp only[vk,aY]at Q;exact Q.1
  have P:r.all gS=true:=by simp only[vk,aY]at Q;exact Q.2
  have T:=(gn c).1 U;have u:=Np r<|a*10+(c.toNat-48);rw[WG d a c r T,kR];by_cases C:1844674407370955162<=a
  .rw[aD C,aA<|ar1 d a _ _ b C u]
  rw[aA C];by_cases e:d<a*10+(c.toNat-48)
  .rw[aD e,aA I]
  rw[aA e];exact Rg d b r _ P I
theorem yY{a:Bool}{d:List UInt8}(h:kE a d=true):d.all gS=true/\d≠[]:=by
 cases d with
 |nil=>simp[kE]at h
 |cons c r=>simp only[kE,aY]at h;exact⟨h.1,by simp⟩
theorem D2(r:List UInt8):dg (45 :: r)=r:=by simp[dg,trimPrefix,hasPrefix,List.isPrefixOf]
theorem Dr(r:List UInt8):ng (45 :: r)=true:=by simp[ng,hasPrefix,List.isPrefixOf]
theorem y0(c:UInt8)(r:List UInt8)(h:c≠45):ng (c :: r)=false:=by simp[ng,hasPrefix,List.isPrefixOf];exact λe=>h e.symm
theorem zE(c:UInt8)(r:List UInt8)(h:c≠45):dg (c :: r)=c :: r:=by have:=y0 c r h;unfold ng at this;simp[dg,trimPrefix,this]
theorem aag:(2:Nat) ^ (64-1)=9223372036854775808:=by decide
theorem aaf:(2:Nat) ^ 64-1=18446744073709551615:=by decide
theorem Yj(r:List UInt8)(h:oS (45 :: r)=true):f? (45 :: r)=if dL r<=9223372036854775808 then some (-(dL r:Int)) else none:=by unfold f?;rw[aD h,Dr,D2];rfl
theorem Yi(c:UInt8)(r:List UInt8)(T:c≠45)(h:oS (c :: r)=true):f? (c :: r)=if dL (c :: r)<9223372036854775808 then some (dL (c :: r):Int) else none:=by unfold f?;rw[aD h,y0 c r T,zE c r T];rfl
theorem O1(l:List UInt8)(h:oS l=true):parseIntB 64 l=match f? l with|some v=>.ok v|none=>.range:=by
 cases l with
 |nil=>simp[oS,dg,trimPrefix,hasPrefix,kE]at h
 |cons c r=>
  by_cases T:c=45
  .subst T;rw[Yj r h];unfold oS at h;rw[D2,Dr]at h;obtain⟨a,K⟩:=yY h;have f:=Rg 18446744073709551615 I r 0 a I;unfold parseIntB parseUintB;simp only[show(45:UInt8).toNat=45 from rfl,or_true,dQ,K,eV];rw[aaf,aag,f];have e:iZ 0 r=dL r:=rfl;rw[e];by_cases C:dL r<=18446744073709551615;rotate_left
   .rw[aA C,aA I]
   rw[aD C];by_cases d:dL r<=9223372036854775808
   .rw[aD d];simp only[not_true,false_and,eV,n!];rw[aA I]
   rw[aA d];simp only[not_true,false_and,eV,n!];rw[aD I]
  rw[Yi c r T h];unfold oS at h;rw[zE c r T,y0 c r T]at h;obtain⟨a,K⟩:=yY h;have f:=Rg 18446744073709551615 I (c :: r) 0 a I;have z:48<=c.toNat/\c.toNat<=57:=by simp only[vk,aY]at a;exact(gn c).1 a.1
  unfold parseIntB parseUintB;have a:¬(c.toNat=43∨c.toNat=45):=by omega
  have b:¬c.toNat=45:=by omega
  simp only[a,eV,K];rw[aaf,aag,f];simp only[b];have e:iZ 0 (c :: r)=dL (c :: r):=rfl;rw[e];by_cases C:dL (c :: r)<=18446744073709551615;rotate_left
  .rw[aA C,aA I]
  rw[aD C];by_cases d:dL (c :: r)<9223372036854775808
  .rw[aD d];simp only[not_false_eq_true,n!,false_and,eV];rw[aA I]
  rw[aA d];simp only[not_false_eq_true,n!];rw[aD I]
end Wm
def Hk(s p:x')(w:p'):
  Cl 91 #[k' s,k' p] w λe a=>∃(D:x')(b:Bool),e=n' (o' #[k' D,h' b])/\J (D.1.1=Lib.trimPrefix s.1.1 p.1.1/\b=Lib.hasPrefix s.1.1 p.1.1)/\a=w:=
 (Tryz.strings_CutPrefix s p w).mono λ_ _ h=>⟨_,_,h.1,⟨rfl,rfl⟩,h.2⟩
def Rr(l p:u'):ζ (Lib.trimPrefix l p)<=ζ l:=by unfold Lib.trimPrefix;split<;>simp
def yW(D:x')(b:Bool)(h:D.size=0):Wm.kE b D.1.1=O':=by have:D.1.1=[]:=fT.1 h;rw[this];rfl
def yX(D:x')(b:Bool)(k:Nat)(h:k<D.size)(Q:Wm.gS D[k]=O'):Wm.kE b D.1.1=O':=by
 cases e:Wm.kE b D.1.1 with
 |false=>rfl
 |true=>have:=Wm.vY _ (k+1) _ (Wm.yY e).1;rw[Wm.lk D k _ h,Q]at this;simp at this
def yV(D:x')(b:Bool)(h:0<D.size)(a:(D.1.1.take D.size).all Wm.gS=N'):Wm.kE b D.1.1=if D[0].toNat==48 then decide (D.size=1)&&!b else N':=by
 rw[c!<|by rw[Wm.bT];exact aK]at a;have X:=Wm.bT D;have T:=Wm.fj D h;rw[T]at X a;unfold Wm.kE;rw[T];simp only[bU]at X;simp only[a,eN];have:decide (ζ (drop 1 D.1.1)=0)=decide (D.size=1):=by rw[cC];simp only[bM];omega
 rw[this]
def mg(s:x')(w:p')(y:s.size<=maxLen):
  Cl 337 #[k' s] w λe a=>e=n' (h'<|Wm.oS s.1.1)/\a=w:=by
 unfold maxLen at y;go_enter func337,ntmps337;go_wp2_with fail;refine(Hk _ _ _).mono ?_;rintro e a ⟨D,b,rfl,t,rfl⟩;have f:D.size<=2 ^ 63-1:=by have C:=Rr s.1.1 [45];have c:=cZ length t.a;have N:=Wm.bT D;have d:=Wm.bT s;simp only at c;omega
 have K:J (Wm.oS s.1.1=Wm.kE b D.1.1):=by show _=_;rw[t.a,t.A];rfl
 clear t;by_cases c:D.size=0
 .go_wp2;go_ret;exact⟨bC (K.o.trans<|yW D b c).symm,rfl⟩
 have U:0<D.size:=I;have o:((D.size:Int)==0)=O':=by rw[dB];omega
 go_wp2
 go_loop [16] (λi=>∃k:Nat,k<=D.size/\i=G k/\J ((D.1.1.take k).all Wm.gS=N')) (λi=>D.size-(intOf i).toNat)
 case atStart=>exact⟨0,bm,rfl,by show _=N';simp⟩
 obtain⟨k,c,rfl,T⟩:=hrel;by_cases L:k<D.size
 .cases Q:Wm.gS D[k]with
  |true=>
   go_wp2_with (go_at_call 192;refine(lI _ _).mono ?_;rintro e a ⟨rfl,rfl⟩)
   go_round
   case rel=>exact⟨k+1,I,e',by show _=N';rw[Wm.lk D k _ L,T.o,Q];rfl⟩
   exact F'
  |false=>go_wp2_with (go_at_call 192;refine(lI _ _).mono ?_;rintro e a ⟨rfl,rfl⟩);go_ret;exact⟨bC (K.o.trans<|yX D b k L Q).symm,rfl⟩
 obtain rfl:k=D.size:=I;have a:=yV D b U T.o;have d:=hid<|K.o.trans a;clear a;by_cases a:D[0].toNat=48;rotate_left
 .have c:((D[0].toNat:Int)==48)=O':=by rw[dB];omega
  go_wp2;go_ret;refine⟨bC ?_,rfl⟩;rw[d.o];simp[a]
 have c:((D[0].toNat:Int)==48)=N':=by rw[dP];omega
 by_cases C:D.size=1
 .have V:((D.size:Int)==1)=N':=by rw[dP];omega
  go_wp2;go_ret;refine⟨bC ?_,rfl⟩;rw[d.o];simp[a,C]
 have V:((D.size:Int)==1)=O':=by rw[dB];omega
 go_wp2;go_ret;refine⟨bC ?_,rfl⟩;rw[d.o];simp[a,C]
def i?(l:u'):Int:=(Wm.f? l).getD 0
def iA(l:u'):Bool:=(Wm.f? l).isSome
def KX{l:u'}(h:Wm.oS l=O'):Wm.f? l=A':=by rw[Wm.f?,h];rfl
def sM(s:x')(b:y')(w:p')(y:s.size<=3000)(R:χ w (O 5 0)=z' b)(L:∃i z,b=.iface i z):
  Cl 304 #[k' s] w (Rb w<|o' #[G<|i? s.1.1,h'<|iA s.1.1]):=by
 have d:s.size<=maxLen:=by unfold maxLen;omega
 cases K:Wm.oS s.1.1 with
 |false=>go_enter func304,ntmps304;go_wp2_with (go_at_call 337;refine(mg _ _ d).mono ?_;rintro e a ⟨rfl,rfl⟩);go_ret2;exact⟨fg (by simp[i?,KX K])<|by simp[iA,KX K],aQ⟩
 |true=>
  have r:=Wm.O1 _ K;cases T:Wm.f? s.1.1 with
  |some v=>
   rw[T]at r;have Y:=hid T;clear T;go_enter func304,ntmps304;go_wp2_with (first|(go_at_call 337;refine(mg _ _ d).mono ?_;rintro e a ⟨rfl,rfl⟩)|(go_at_call 338;refine(Tryz.strconv_ParseInt_10_at64_ok s I v r _).mono ?_;rintro e a ⟨rfl,B⟩));go_ret2;refine⟨fg (by simp[i?,Y.o])<|by simp[iA,Y.o],?_⟩;rcases B with rfl|⟨t,rfl⟩
   .exact aQ
   exact Lib.bytesWorld_below _ _ _
  |none=>rw[T]at r;have Y:=hid T;clear T;go_enter func304,ntmps304;go_wp2_with (first|(go_at_call 337;refine(mg _ _ d).mono ?_;rintro e a ⟨rfl,rfl⟩)|(go_at_call 338;refine(Tryz.strconv_ParseInt_10_at64_range s I r b _ R<|aR L).mono ?_;rintro e a ⟨N,rfl,p,a,a⟩));go_ret2;exact⟨fg (by simp[i?,Y.o])<|by simp[iA,Y.o],a⟩
def aej:Nat->List UInt8->Option (Nat×List UInt8)
 |0,_=>none
 |_+1,[]=>none
 |k+1,b :: r=>if b.toNat<128 then some (b.toNat,r) else match aej k r with
  |some (n,q)=>if n=0 then none else some (b.toNat % 128+128*n,q)
  |none=>none
def rc(l:List UInt8):Option (Nat×List UInt8):=match aej 10 l with
 |some (n,r)=>if n<18446744073709551616 then some (n,r) else none
 |none=>none
def Kf(c:UInt8):Wm.nX c=(decide (97<=(c.toNat:Int))&&decide ((c.toNat:Int)<=122)):=by rw[Wm.nX,cC];simp;omega
def Uu(c:UInt8):Wm.gS c=(decide (48<=(c.toNat:Int))&&decide ((c.toNat:Int)<=57)):=by rw[Wm.gS,cC];simp;omega
def qj(s:x')(k:Nat)(h:k<s.size):Bool:=Wm.nX s[k]||(Wm.gS s[k]&&decide (k≠0))
def Ox(s:x')(D:0<s.size)(b:∀j (h:j<s.size),qj s j h=N'):Wm.nm s=(decide (s.size<=6)&&!Wm.resv s.1.1):=by
 have V:Wm.nX s[0]=N':=by have:=b 0 D;simpa[qj]using this
 have R:s.1.1.all Wm.sd=N':=by
  rw[bV];intro x F;obtain⟨j,f,rfl⟩:=xE F;have a:j<s.size:=by rw[<-Wm.bT s];exact f
  have:=b j a;have e:s.1.1[j]=s[j]:=rfl;rw[e];unfold qj at this;unfold Wm.sd;cases C:Wm.nX s[j]with
  |true=>simp
  |false=>rw[C]at this;simp at this;simp[this.1]
 rw[Wm.Gb s D,V,R];simp
def Bg(s:x')(k:Nat)(h:k<s.size)(a:qj s k h=O'):Wm.nm s=O':=by
 unfold qj at a;simp only[lX,Bool.and_eq_false_iff]at a;rcases a.2 with Q|b
 .exact Wm.SS s k h (by simp[Wm.sd,a.1,Q])
 have:k=0:=H' b;subst this;exact Wm.Dq s h a.1
def Wn(s:x'):Wm.resv s.1.1=(s.toList==[105,110,112,117,116]||s.toList==[111,117,116,112,117,116]||s.toList==[105,102]||s.toList==[103,111,116,111]||s.toList==[114,101,116,117,114,110]):=by rw[eM];rfl
def Oy(s:x')(w:p')(y:s.size<=3000):
  Cl 68 #[k' s] w λe a=>e=n' (h'<|Wm.nm s)/\a=w:=by
 go_enter func68,ntmps68;go_wp2
 go_loop [3] (λi=>∃k:Nat,k<=s.size/\i=G k/\J (∀j (h:j<s.size),j<k->qj s j h=N')) (λi=>s.size-(intOf i).toNat)
 case atStart=>exact⟨0,bm,rfl,by show ∀j h,_;intro j h f;omega⟩
 obtain⟨k,a,rfl,T⟩:=hrel;by_cases L:k<s.size;rotate_left
 .obtain rfl:k=s.size:=I;by_cases D:s.size=0
  .have V:=hid<|Wm.w7 s D;have g:(s.size:Int)<1:=I;clear D;go_wp2;go_ret;exact⟨bC V.o.symm,rfl⟩
  have V:=hid (Ox s I λj h=>T.o j h h);have g:1<=(s.size:Int):=I;clear D;by_cases c:s.size<=6;rotate_left
  .have P:6<(s.size:Int):=I;have d:J (Wm.nm s=O'):=by show _=_;rw[V.o];simp[c]
   go_wp2;go_ret;exact⟨bC d.o.symm,rfl⟩
  have P:(s.size:Int)<=6:=I;have d:J (Wm.nm s=!Wm.resv s.1.1):=by show _=_;rw[V.o];simp[c]
  have a:J _:=Wn s;cases b:(s.toList==[105,110,112,117,116])<;>cases o:(s.toList==[111,117,116,112,117,116])<;>cases x:(s.toList==[105,102])<;>cases c:(s.toList==[103,111,116,111])<;>cases l:(s.toList==[114,101,116,117,114,110])
  all_goals
   have R:=a.o;rw[b,o,x,c,l]at R;have B:J _:=R;clear R;go_wp2;go_ret;refine⟨bC ?_,rfl⟩;rw[d.o,B.o]
   try simp
 have a:(k:Int)<(s.size:Int):=I
 have step:qj s k L=N'->∀j (h:j<s.size),j<k+1->qj s j h=N':=by
  intro o j h f;by_cases e:j=k
  .subst e;exact o
  exact T.o j h I
 have a:=hid step;clear step;by_cases C:97<=(s[k].toNat:Int)/\(s[k].toNat:Int)<=122
 .have V:J (qj s k L=N'):=by show _=_;rw[qj,Kf];simp[C]
  obtain⟨g,P⟩:=C;go_wp2
  go_round
  case rel=>exact⟨k+1,I,e',a.o V.o⟩
  exact F'
 by_cases t:48<=(s[k].toNat:Int)/\(s[k].toNat:Int)<=57
 .by_cases b:k=0
  .have V:=hid (Bg s k L<|by rw[qj,Kf];simp;omega);have K:((k:Int)==0)=N':=by rw[dP];omega
   obtain⟨g,P⟩:=t;have D:(s[k].toNat:Int)<97:=I;clear C b;go_wp2;go_ret;exact⟨bC V.o.symm,rfl⟩
  have V:J (qj s k L=N'):=by show _=_;rw[qj,Uu];simp[t,b]
  have K:((k:Int)==0)=O':=by rw[dB];omega
  obtain⟨g,P⟩:=t;have D:(s[k].toNat:Int)<97:=I;clear C b;go_wp2
  go_round
  case rel=>exact⟨k+1,I,e',a.o V.o⟩
  exact F'
 have V:=hid (Bg s k L<|by rw[qj,Kf,Uu];simp;omega);have N:(s[k].toNat:Int)<48\/(57<(s[k].toNat:Int)/\(s[k].toNat:Int)<97)\/122<(s[k].toNat:Int):=I;clear C t;rcases N with g|⟨g,P⟩|g
 .have Y:decide (97<=(s[k].toNat:Int))=O':=by rw[e9];omega
  have a:decide (48<=(s[k].toNat:Int))=O':=by rw[e9];omega
  have P:(s[k].toNat:Int)<97:=I;go_wp2;go_ret;exact⟨bC V.o.symm,rfl⟩
 .have Y:decide (97<=(s[k].toNat:Int))=O':=by rw[e9];omega
  have a:decide (48<=(s[k].toNat:Int))=N':=by rw[bM];omega
  have b:decide ((s[k].toNat:Int)<=57)=O':=by rw[e9];omega
  have c:48<=(s[k].toNat:Int):=I;go_wp2;go_ret;exact⟨bC V.o.symm,rfl⟩
 have Y:decide (97<=(s[k].toNat:Int))=N':=by rw[bM];omega
 have a:decide (48<=(s[k].toNat:Int))=N':=by rw[bM];omega
 have b:decide ((s[k].toNat:Int)<=57)=O':=by rw[e9];omega
 have F:decide ((s[k].toNat:Int)<=122)=O':=by rw[e9];omega
 have P:97<=(s[k].toNat:Int):=I;have D:57<(s[k].toNat:Int):=I;have c:48<=(s[k].toNat:Int):=I;go_wp2;go_ret;exact⟨bC V.o.symm,rfl⟩
def ku{a b}:=@Oy a b
section
def tdq(d:Int)(D:0<=d)(Y:d<=9):(-9223372036854775808+d).tdiv 10=-((9223372036854775808-d) / 10):=by rw[show(-9223372036854775808+d)=-(9223372036854775808-d)by omega,Int.neg_tdiv,Int.tdiv_eq_ediv_of_nonneg I]
def Mv(m:Nat)(d:Int)(D:0<=d)(Y:d<=9)(h:9223372036854775808<10*(m:Int)+d):-(m:Int)<(-9223372036854775808+d).tdiv 10:=by rw[tdq d D Y];omega
def Ug(m:Nat)(d:Int)(D:0<=d)(Y:d<=9)(h:10*(m:Int)+d<=9223372036854775808):(-9223372036854775808+d).tdiv 10<=-(m:Int):=by rw[tdq d D Y];omega
def I8(n:Int)(h:-9223372036854775808<=n/\n<=9223372036854775807):wrap64 n=n:=by unfold wrap64;omega
def MC(m:Nat)(c:Int)(D:48<=c)(Y:c<=57)(h:10*(m:Int)+(c-48)<=9223372036854775808):wrap64 (wrap64 (10*-(m:Int))-(c-48))=-((10*m+(c-48).toNat:Nat):Int):=by have V:wrap64 (10*-(m:Int))=10*-(m:Int):=I8 _ I;rw[V,I8 _ I];omega
def aah(m:Nat)(d:Int)(D:0<=d)(Y:d<=9)(a:-(m:Int)=(-9223372036854775808+d).tdiv 10)(X:wrap64 ((-9223372036854775808+d).tdiv 10*10) < -9223372036854775808+d):False:=by rw[tdq d D Y]at X;rw[I8 _ I]at X;omega
open Wm in
def UG(l D:u')(b:Bool)(t:dg l=D)(a:ng l=b):f? l=if kE b D then(if b then(if dL D<=9223372036854775808 then z' (-(dL D:Int)) else A') else if dL D<9223372036854775808 then z' (dL D:Int) else A') else A':=by rw[f?,oS,t,a]
open Wm in
def PZ(a:Nat)(l:u')(c:UInt8):iZ a (l++[c])=iZ a l*10+(c.toNat-48):=by rw[iZ,xh];rfl
open Wm in
def UC(a:Nat)(l r:u'):iZ a (l++r)=iZ (iZ a l) r:=by unfold iZ;rw[xh]
open Wm in
def Hg(D:x')(k:Nat)(h:k<D.size):dL (D.1.1.take<|k+1)=10*dL (D.1.1.take k)+(D[k].toNat-48):=by rw[uv D k h];unfold dL;rw[PZ];omega
open Wm in
def UB(D:x')(k:Nat):dL (D.1.1.take k)<=dL D.1.1:=by
 have:D.1.1=D.1.1.take k++D.1.1.drop k:=(ug k _).symm;rw[this];simp only[ug];unfold dL
 conv=>rhs;rw[this,UC]
 exact Np _ _
open Wm in
def abH:∀(r:u')(a:Nat),a*10 ^ ζ r<=iZ a r:=by
 intro r;induction r with
 |nil=>intro a;simp[iZ]
 |cons c r B=>intro a;rw[kR,bU,CJ];refine bX ?_<|B<|a*10+(c.toNat-48);rw[show a*(10 ^ ζ r*10)=(a*10)*10 ^ ζ r by rw[qZ (10 ^ ζ r) 10,Nat.mul_assoc]];exact xP _ I
open Wm in
def BI(D:x')(b:Bool)(h:19<D.size)(K:kE b D.1.1=N'):9223372036854775808<dL D.1.1:=by
 have T:=fj D I;have X:=bT D;rw[T]at K X|-;simp only[bU]at X;simp only[kE,aY]at K;have Q:gS D[0]=N':=by have:=K.1;simp only[vk,aY]at this;exact this.1
 have a:D[0].toNat≠48:=by intro e;have:=K.2;rw[e]at this;simp at this;omega
 have a:=(gn _).1 Q;rw[dL,kR];have U:=abH (D.1.1.drop 1)<|0*10+(D[0].toNat-48);have C:1<=D[0].toNat-48:=I;have a:10 ^ 19<=10 ^ ζ (D.1.1.drop 1):=CH I I;have N:10 ^ ζ (D.1.1.drop 1)<=(0*10+(D[0].toNat-48))*10 ^ ζ (D.1.1.drop 1):=by have:=xP (10 ^ ζ (D.1.1.drop 1)) (show 1<=0*10+(D[0].toNat-48)by omega);simpa using this
 have d:(10:Nat) ^ 19=10000000000000000000:=aj;omega
end
def DT(s:x'):(s.extract 1 s.size).1.1=s.1.1.drop 1:=Lib.extract_to_end s 1
def Q0{p:Prop}(h:p:=by
 go_enter func246,ntmps246;go_wp2;go_ret2
 exact⟨fg (by simp[i?,K.o])<|by simp[iA,K.o],rfl⟩):p:=h
def JQ(s:x')(w:p')(y:s.size<=3000)(g:0<s.size)(d:((s[0].toNat:Int)==45)=N'):
  Cl 246 #[k' s] w λe f=>e=n' (o' #[G<|i? s.1.1,h'<|iA s.1.1])/\f=w:=by
 have f:(0:Int)<(s.size:Int):=I;have o:((s.size:Int)==0)=O':=by rw[dB];omega
 obtain⟨D,b⟩:∃D,s.extract 1 s.size=D:=⟨_,rfl⟩;have t:s[0]=45:=by rw[dP]at d;exact xN.1 (by simpa using(by omega:s[0].toNat=45))
 have z:=Wm.fj s g;have P:D.1.1=s.1.1.drop 1:=by rw[<-b,DT]
 have Y:=hid (UG s.1.1 D.1.1 N' (by rw[z,t,Wm.D2,P])<|by rw[z,t];exact Wm.Dr _);have V:D.size<=3000:=by have C:=cZ length P;rw[xA]at C;have W:=Wm.bT D;have N:=Wm.bT s;omega
 have T:(s.toList==[48])=O':=by rw[dB,eM,z,t];simp
 clear z t P;by_cases F:D.size=0
 .have K:J (Wm.f? s.1.1=A'):=by show _=_;rw[Y.o,yW D N' F];rfl
  have E:((D.size:Int)==0)=N':=by rw[dP];omega
  clear Y F;exact Q0
 have U:0<D.size:=I;have E:((D.size:Int)==0)=O':=by rw[dB];omega
 have b:(0:Int)<(D.size:Int):=I;by_cases a:19<D.size
 .have K:J (Wm.f? s.1.1=A'):=by
   show _=_;rw[Y.o];split
   .rename_i b;have:=BI D N' a b;simp;omega
   rfl
  have g:decide (19<(D.size:Int))=N':=by rw[bM];omega
  clear Y F a;exact Q0
 have g:decide (19<(D.size:Int))=O':=by rw[e9];omega
 by_cases f:D[0].toNat=48
 .have K:J (Wm.f? s.1.1=A'):=by
   show _=_;have V:Wm.kE N' D.1.1=O':=by rw[Wm.fj D U];simp[Wm.kE,f]
   rw[Y.o,V];rfl
  have q:((D[0].toNat:Int)==48)=N':=by rw[dP];omega
  clear Y F a;exact Q0
 have q:((D[0].toNat:Int)==48)=O':=by rw[dB];omega
 have c:J ((if D[0].toNat==48 then decide (D.size=1)&&!true else N')=N'):=by show _=_;simp[f]
 clear F a;go_enter func246,ntmps246;go_wp2
 go_loop [6,7] (λn i=>∃(k m:Nat),k<=D.size/\i=G k/\n=G (-(m:Int))/\m<=2^63/\J (m=Wm.dL (D.1.1.take k)/\(D.1.1.take k).all Wm.gS=N')) (λ_ i=>D.size-(intOf i).toNat)
 case atStart=>exact⟨0,0,bm,rfl,rfl,I,by show _/\_;simp[Wm.dL,Wm.iZ]⟩
 obtain⟨k,m,b,rfl,rfl,a,r⟩:=hrel;by_cases L:k<D.size;rotate_left
 .obtain rfl:k=D.size:=I;have R:=r.A;have u:=r.a;have x:=yV D N' U R;rw[c.o]at x;rw[c!<|by rw[Wm.bT];exact aK]at u;have b:=Y.o;rw[x,<-u]at b;have K:J (Wm.f? s.1.1=z' (-(m:Int))):=by show _=_;rw[b];simp[a]
  clear Y r R u x b c;go_wp2;go_ret2;exact⟨fg (by simp[i?,K.o])<|by simp[iA,K.o],rfl⟩
 have a:(k:Int)<(D.size:Int):=I;by_cases h:48<=(D[k].toNat:Int)/\(D[k].toNat:Int)<=57;rotate_left
 .have K:J (Wm.f? s.1.1=A'):=by show _=_;rw[Y.o,yX D N' k L (by cases e:Wm.gS D[k]with|false=>rfl|true=>exfalso;have:=(Wm.gn _).1 e;omega)];rfl
  clear Y r;have W:(D[k].toNat:Int)<48\/57<(D[k].toNat:Int):=I;clear h;rcases W with Q|Q
  .go_wp2;go_ret2;exact⟨fg (by simp[i?,K.o])<|by simp[iA,K.o],rfl⟩
  have p:48<=(D[k].toNat:Int):=I;go_wp2;go_ret2;exact⟨fg (by simp[i?,K.o])<|by simp[iA,K.o],rfl⟩
 have B:J (Wm.gS D[k]=N'):=(Wm.gn _).2 I;have X:=hid<|Hg D k L;obtain⟨Q,p⟩:=h;by_cases j:2^63<10*(m:Int)+((D[k].toNat:Int)-48)
 .have S:=Mv m ((D[k].toNat:Int)-48) I I j
  have K:J (Wm.f? s.1.1=A'):=by
   show _=_;rw[Y.o];have C:=UB D<|k+1;have W:=X.o;have N:=r.a;have d:2^63<Wm.dL D.1.1:=I;split
   .simp;omega
   rfl
  clear Y j r X;go_wp2;go_ret2;exact⟨fg (by simp[i?,K.o])<|by simp[iA,K.o],rfl⟩
 have l:10*(m:Int)+((D[k].toNat:Int)-48)<=2^63:=I;have S:=Ug m ((D[k].toNat:Int)-48) I I l;have v:=hid<|MC m D[k].toNat Q p l;have a:J (10*m+((D[k].toNat:Int)-48).toNat=Wm.dL (D.1.1.take<|k+1)/\(D.1.1.take<|k+1).all Wm.gS=N'/\10*m+((D[k].toNat:Int)-48).toNat<=2^63):=by show _/\_/\_;have W:=X.o;have N:=r.o;refine⟨I,?_,I⟩;rw[Wm.lk D k _ L,N.2,B.o];rfl
 clear j r X l;go_wp2
 all_goals first
  |(exfalso;exact aah m ((D[k].toNat:Int)-48) I I (f')<|f')
  |skip
 all_goals
  refine⟨⟨k+1,10*m+((D[k].toNat:Int)-48).toNat,I,e',?_,a.B,⟨a.a,a.b⟩⟩,by simp[intOf];omega⟩
  first
   |exact cZ (Value.int IntKind.i64) v.o
   | (
     have a:-(m:Int)=(-2^63+((D[k].toNat:Int)-48)).tdiv 10:=f';have W:=v.o;rw[a]at W
     exact cZ (Value.int IntKind.i64) W)
end Go.Proofs.YtmipbiligijcpaaGreatDoor
