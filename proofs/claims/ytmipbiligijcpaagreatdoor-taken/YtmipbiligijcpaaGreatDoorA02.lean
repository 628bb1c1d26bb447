import Derived.WalkSpells
import Derived.WalkLawsBesides
import Derived.Deep.RegionLaw
import Derived.Test.YtmipbiligijcpaaGreatDoorProg
import Derived.Lib.ParseIntB
import Derived.Lib.Split
import Derived.Lib.FieldsP
import Derived.Test.YtmipbiligijcpaaGreatDoorShelf
import Derived.Deep.RegionHeld3
import Derived.BigQuiet
namespace Go.Proofs.YtmipbiligijcpaaGreatDoor
set_option linter.all false
set_option maxHeartbeats 1000000
set_option maxRecDepth 100000
open Go.RowKit Go.Proofs Go.Maps Go.Lib Go.WideMaps
section
variable {α:Type} {p:Prop}
theorem Aa{a b:Prop}(x:a)(y:b):a ∧ b:=⟨x,y⟩
theorem La{l:List α}{i:Nat}(h:i<l.length):∃x,l[i]?=some x:=⟨_,List.getElem?_eq_getElem h⟩
theorem Ea(x:α):∃z,z=x:=⟨x,rfl⟩
theorem ah(h:p:=by omega):p:=h
theorem aj(h:p:=by decide):p:=h
theorem ak(h:p:=by simp):p:=h
abbrev TS:=@Array.toList_inj
abbrev aJ:=@Or.inl
abbrev aI:=@Or.inr
abbrev bq:=@Array.getElem?_eq_some_iff
abbrev mE:=@List.getElem?_append_left
abbrev bn:=@List.getElem?_eq_some_iff
abbrev aD:=@if_pos
abbrev aF:=@Nat.le_refl
abbrev bw:=@Nat.le_trans
abbrev dG:=@Option.some.injEq
abbrev fD:=@Nat.lt_of_lt_of_le
abbrev rU:=@Array.getElem?_modify
abbrev bu:=@List.length_append
abbrev bY:=@List.flatMap_cons
abbrev cQ:=@List.mem_cons
abbrev aS:=@Bool.and_eq_true
abbrev bm:=@decide_eq_true_eq
abbrev jI:=@List.isEmpty_iff
abbrev aA:=@if_neg
abbrev gx:=@List.foldl_cons
abbrev Ae:=@List.all_cons
abbrev dx:=@if_true
abbrev bR:=@if_false
abbrev rT:=@true_and
abbrev mF:=@Bool.not_eq_true
abbrev er:=@beq_eq_false_iff_ne
abbrev DP:=@Int.mul_comm
abbrev DN:=@Nat.mod_lt
abbrev Ac:=@List.nodup_append
abbrev O8:=@List.prefix_rfl
abbrev jH:=@List.mem_append
abbrev bT:=@List.length_cons
abbrev J5:=@List.nodup_nil
abbrev J4:=@List.idxOf_append
abbrev Ab:=@Nat.pow_succ
abbrev rS:=@Nat.add_mul
abbrev DM:=@UInt8.toNat_ofNat'
abbrev dw:=@List.cons_append
abbrev rR:=@UInt8.toNat_lt
abbrev lA:=@Nat.add_assoc
abbrev bM:=@List.all_eq_true
abbrev gU:=@Nat.zero_mul
abbrev ct:=@Nat.zero_add
abbrev fC:=@List.getElem?_append_right
abbrev dm:=@List.set_cons_zero
abbrev DL:=@List.set_append_left
abbrev cU:=@List.set_cons_succ
abbrev ou:=@List.set_append_right
abbrev ke:=@List.length_set
abbrev O7:=@Array.toList_setIfInBounds
abbrev wH:=@Function.comp_def
abbrev z!:=@Nat.add_zero
abbrev qn:=@Ne.symm
abbrev bB:=@Nat.zero_le
abbrev kd:=@List.size_toArray
abbrev eI:=@List.length_nil
abbrev rQ:=@Array.replicate_succ
abbrev rP:=@Array.replicate_zero
abbrev rO:=@List.push_toArray
abbrev rN:=@List.append_toArray
abbrev dT:=@List.nil_append
abbrev iq:=@List.map_append
abbrev O6:=@List.length_pos_iff
abbrev bG:=@List.getElem?_map
abbrev aL:=@List.mem_of_getElem?
abbrev z?:=@Classical.choose_spec
abbrev uL:=@Bool.eq_false_iff
abbrev kK:=@List.range_succ
abbrev cx:=@List.getD_eq_getElem?_getD
abbrev eQ:=@List.getElem?_set
abbrev wG:=@List.foldl_nil
abbrev mD:=@List.getElem?_replicate
abbrev bk:=@List.getElem?_eq_getElem
abbrev de:=@List.getElem?_toArray
abbrev cP:=@List.take_of_length_le
abbrev dS:=@List.take_succ_eq_append_getElem
abbrev O5:=@List.map_singleton
abbrev ja:=@List.mem_singleton
abbrev i!:=@List.mem_iff_getElem?
abbrev cS:=@List.setIfInBounds_toArray
abbrev J3:=@Int.ofNat.inj
abbrev dv:=@congrArg
abbrev kJ:=@List.map_map
abbrev kI:=@Option.map_some
abbrev bP:=@List.mem_map
abbrev ji:=@List.eq_of_mem_replicate
abbrev tV:=@List.filter_cons
abbrev bZ:=@List.mem_range
abbrev kL:=@List.map_cons
abbrev tU:=@List.sum_cons
abbrev gN:=@List.mem_or_eq_of_mem_set
abbrev dO:=@Bool.or_eq_true
abbrev xa:=@Option.getD_some
abbrev w!:=@List.set_set
abbrev tT:=@List.map_set
abbrev jh:=@Nat.sub_self
abbrev w?:=@List.replicate_zero
abbrev gi:=@List.append_nil
abbrev dN:=@List.replicate_succ
abbrev dj:=@List.append_assoc
abbrev iw:=@Nat.lt_or_ge
abbrev l6:=@List.flatten_cons
abbrev G?:=@List.filter_eq_nil_iff
abbrev w8:=@List.map_replicate
abbrev bU:=@List.getElem?_eq_none
abbrev eM:=@List.map_congr_left
abbrev eL:=@List.getElem_mem
abbrev BP:=@Bool.or_eq_false_iff
abbrev fj:=@Bool.true_and
abbrev jg:=@Bool.false_or
abbrev w7:=@Bool.and_true
abbrev w6:=@List.idxOf_lt_length_of_mem
abbrev eT:=@decide_eq_true
abbrev eS:=@decide_eq_false
abbrev br:=@List.length_map
abbrev iu:=@Bool.not_eq_true'
abbrev dW:=@List.ext_getElem?
abbrev qL:=@List.getElem?_eq_none_iff
abbrev jX:=@List.getElem?_range
abbrev dM:=@List.length_eq_zero_iff
abbrev wZ:=@List.set_eq_take_append_cons_drop
abbrev dL:=@List.length_take
abbrev jW:=@Nat.min_eq_left
abbrev fE:=@Prod.mk.injEq
abbrev gM:=@List.not_mem_nil
abbrev ga:=@or_false
abbrev qK:=@List.mem_cons_self
abbrev dV:=@List.mem_cons_of_mem
abbrev dK:=@Option.some.inj
abbrev wY:=@List.take_append_drop
abbrev G9:=@Nat.add_sub_cancel_left
abbrev wX:=@Bool.not_true
abbrev tS:=@List.length_range
abbrev dU:=@Int.le_refl
abbrev l5:=@of_decide_eq_false
abbrev wW:=@List.foldl_append
abbrev G8:=@List.any_eq_true
abbrev BO:=@List.eq_replicate_iff
abbrev G7:=@List.getElem_range
abbrev cR:=@Bool.eq_iff_iff
abbrev oC:=@List.drop_eq_getElem_cons
abbrev qJ:=@Nat.le_of_lt
abbrev G6:=@Nat.lt_of_le_of_lt
abbrev G5:=@Int.eq_ofNat_of_zero_le
abbrev gL:=@List.length_singleton
abbrev BL:=@List.drop_length
abbrev wV:=@List.flatMap_nil
abbrev G4:=@Int.toNat_of_nonneg
abbrev BK:=@Nat.mul_one
abbrev lZ:=@List.mem_of_mem_take
abbrev G3:=@List.getElem?_of_mem
abbrev BJ:=@Option.map_eq_some_iff
abbrev bN:=@Bool.false_eq_true
abbrev BI:=@List.drop_eq_nil_of_le
abbrev wU:=@Nat.add_comm
abbrev tQ:=@List.getElem?_zip_eq_some
abbrev BH:=@Int.tdiv_le_tdiv
abbrev tP:=@List.ext_getElem
abbrev tO:=@List.getElem_map
abbrev BG:=@Bool.and_false
abbrev wT:=@Bool.false_and
abbrev wS:=@List.any_cons
abbrev BF:=@decide_true
abbrev wR:=@Bool.not_not
abbrev gK:=@decide_eq_false_iff_not
abbrev tN:=@List.nodup_cons
abbrev BE:=@List.mem_map_of_mem
abbrev tM:=@decide_eq_true_iff
abbrev BD:=@Array.toList_map
abbrev BA:=@Array.toList_range
abbrev eJ:=@beq_iff_eq
abbrev G2:=@of_decide_eq_true
abbrev By:=@Nat.mul_comm
abbrev tL:=@Nat.mod_eq_of_lt
abbrev Bx:=@Nat.mul_le_mul_left
abbrev G1:=@Nat.pow_le_pow_right
abbrev G0:=@UInt8.toNat.inj
abbrev wQ:=@Nat.sub_zero
abbrev Bw:=@Nat.or_lt_two_pow
abbrev GY:=@Nat.pow_lt_pow_right
abbrev wO:=@decide_eq_decide
abbrev wN:=@Bool.or_assoc
abbrev wM:=@List.range_add
abbrev GX:=@List.filter_append
abbrev GV:=@List.filter_congr
abbrev GU:=@List.mem_filter
abbrev GR:=@List.getElem?_modify
abbrev oy:=@List.take_length
abbrev Bv:=@List.getLast?_eq_getElem?
abbrev tI:=@List.take_zero
abbrev ox:=@List.getElem?_cons_succ
abbrev wL:=@List.dropLast_concat_getLast
abbrev wK:=@Array.getElem?_eq_none
abbrev qH:=@Array.getElem?_eq_getElem
abbrev GN:=@List.length_replicate
abbrev GM:=@Array.length_toList
abbrev GL:=@List.flatMap_append
abbrev Bt:=@Bool.and_self
end
abbrev Uv(x:Int):Value:=.int .u64 x
abbrev Ad(b o:Nat):Addr:=⟨b,o,none⟩
abbrev Bl(w w':World):Prop:=Below w.heap.size w w'
abbrev Rb(w:World)(v:Value):Ending → World → Prop:=fun e w'=>e=.returned v ∧ Below w.heap.size w w'
abbrev Iv(x:Int):Value:=.int .i64 x
abbrev bf:=@Go.heap_alloc_new
abbrev ch:=@Go.RowKit.Below.heap_alloc
abbrev aZ:=@Go.RowKit.Below.heap_setCell
abbrev aM:=@Go.RowKit.Below.refl
abbrev kf:=@Go.RowKit.Below.drew
abbrev uM:=@Go.RowKit.Below.alloc
abbrev fX:=@Go.callsIn_wide
abbrev dF:=@Go.World.ownsRow_nil
abbrev cY:=@Go.info_parts
abbrev bA:=@Go.Calls.mono
abbrev gw:=@Go.Addr.add_lit
abbrev il:=@Go.wpList_make_full
abbrev aG:=@Go.bodyPost_ret
abbrev rM:=@Go.RowKit.Below.setCell
abbrev rL:=@Go.wpIn_wide
abbrev eK:=@Go.Obj.cells.inj
abbrev nj:=@Go.wpList_append_own
abbrev jV:=@Go.Lib.cell_of_heap
abbrev BN:=@Go.Lib.frozen_of_heap
abbrev BM:=@Go.results_none
abbrev oz:=@Go.ByteArray.toList_eq
abbrev Bz:=@Go.bits_or_u64_nat
abbrev gJ:=@Go.World.grownBy_alloc
abbrev tK:=@Go.run_underlying
abbrev GZ:=@Go.Result.andThen_ok
abbrev wP:=@Go.IntKind.wrap_u64
abbrev tJ:=@Go.rounds_succ
abbrev GQ:=@Go.run_equalIn_deep
abbrev qI:=@Go.mem_ready
abbrev GO:=@Go.Oper.upon_value
abbrev wJ:=@Go.World.grownBy.trans
abbrev Bu:=@Go.wpList_lookup_own_ok_int
abbrev wI:=@Go.wpList_len_own
def Hd(p:Prop):Prop:=p
theorem Hd.o{p:Prop}(h:Hd p):p:=h
abbrev d' (W : World) (k : Nat) (a : Array Value) (t : TypeId) : Prop := W.heap[k]? = some (.cells a t (0, 0))
abbrev e' (W : World) (b o : Nat) (v : Value) : Prop := W.cell? (Ad b o) = some v
theorem h' {p : Prop} (h : p := by go_num) : p := h
theorem i' {p : Prop} (h : p := by assumption) : p := h
theorem Hd.a {p Z : Prop} (h : Hd (p ∧ Z)) : p := h.o.1
theorem Hd.A {p Z : Prop} (h : Hd (p ∧ Z)) : Z := h.o.2
theorem Hd.b {p q Z : Prop} (h : Hd (p ∧ q ∧ Z)) : q := h.o.2.1
theorem Hd.B {p q Z : Prop} (h : Hd (p ∧ q ∧ Z)) : Z := h.o.2.2
theorem Hd.c {p q r Z : Prop} (h : Hd (p ∧ q ∧ r ∧ Z)) : r := h.o.2.2.1
theorem Hd.C {p q r Z : Prop} (h : Hd (p ∧ q ∧ r ∧ Z)) : Z := h.o.2.2.2
theorem Hd.d {p q r s Z : Prop} (h : Hd (p ∧ q ∧ r ∧ s ∧ Z)) : s := h.o.2.2.2.1
theorem Hd.D {p q r s Z : Prop} (h : Hd (p ∧ q ∧ r ∧ s ∧ Z)) : Z := h.o.2.2.2.2
theorem Hd.e {p q r s t Z : Prop} (h : Hd (p ∧ q ∧ r ∧ s ∧ t ∧ Z)) : t := h.o.2.2.2.2.1
theorem Hd.E {p q r s t Z : Prop} (h : Hd (p ∧ q ∧ r ∧ s ∧ t ∧ Z)) : Z := h.o.2.2.2.2.2
theorem Hd.f {p q r s t u Z : Prop} (h : Hd (p ∧ q ∧ r ∧ s ∧ t ∧ u ∧ Z)) : u := h.o.2.2.2.2.2.1
theorem Hd.F {p q r s t u Z : Prop} (h : Hd (p ∧ q ∧ r ∧ s ∧ t ∧ u ∧ Z)) : Z := h.o.2.2.2.2.2.2
theorem Hd.g {p q r s t u v Z : Prop} (h : Hd (p ∧ q ∧ r ∧ s ∧ t ∧ u ∧ v ∧ Z)) : v := h.o.2.2.2.2.2.2.1
theorem Hd.G {p q r s t u v Z : Prop} (h : Hd (p ∧ q ∧ r ∧ s ∧ t ∧ u ∧ v ∧ Z)) : Z := h.o.2.2.2.2.2.2.2
theorem Hd.h {p q r s t u v w Z : Prop} (h : Hd (p ∧ q ∧ r ∧ s ∧ t ∧ u ∧ v ∧ w ∧ Z)) : w := h.o.2.2.2.2.2.2.2.1
theorem Hd.H {p q r s t u v w Z : Prop} (h : Hd (p ∧ q ∧ r ∧ s ∧ t ∧ u ∧ v ∧ w ∧ Z)) : Z := h.o.2.2.2.2.2.2.2.2
theorem Hd.i {p q r s t u v w x Z : Prop} (h : Hd (p ∧ q ∧ r ∧ s ∧ t ∧ u ∧ v ∧ w ∧ x ∧ Z)) : x := h.o.2.2.2.2.2.2.2.2.1
theorem Hd.I {p q r s t u v w x Z : Prop} (h : Hd (p ∧ q ∧ r ∧ s ∧ t ∧ u ∧ v ∧ w ∧ x ∧ Z)) : Z := h.o.2.2.2.2.2.2.2.2.2
theorem Hd.j {p q r s t u v w x y Z : Prop} (h : Hd (p ∧ q ∧ r ∧ s ∧ t ∧ u ∧ v ∧ w ∧ x ∧ y ∧ Z)) : y := h.o.2.2.2.2.2.2.2.2.2.1
theorem Hd.J {p q r s t u v w x y Z : Prop} (h : Hd (p ∧ q ∧ r ∧ s ∧ t ∧ u ∧ v ∧ w ∧ x ∧ y ∧ Z)) : Z := h.o.2.2.2.2.2.2.2.2.2.2
abbrev Cl:=Calls Tryz.prog
abbrev bV(a0)(a1):=(#[.slice (some (Ad a0 0)) a1 a1,.func (.func 267) #[] #[],.func (.func 296) #[] #[]]:Array Value)
abbrev bE(a0):=(#[.pointer (some (Ad a0 0))]:Array Value)
abbrev tY:=(#[.bool false,.bool false,Iv 0,.bool false,Iv 0,.bool false,Iv 0,.bool false,Iv 0,.bool false,Iv 0,.bool false,Iv 0,.bool false,Iv 0,.bool false,Iv 0]:Array Value)
abbrev b?(a0)(a1):=(.slice (some (Ad a0 0)) a1 a1:Value)
abbrev cN(a0)(a1)(a2)(a3):=(#[.slice (some (Ad a0 0)) a1 a2,Iv a3]:Array Value)
abbrev lf:=(#[.slice none 0 0,.slice none 0 0,.bool false,Iv 0,.slice none 0 0]:Array Value)
abbrev tX:=(#[.bool false,Iv 0,Iv 0,Iv 0,Iv 0,Iv 0,Iv 0,Iv 0,Iv 0,Iv 0,Iv 0,Iv 0,Iv 0,Iv 0,Iv 0,Iv 0,Iv 0]:Array Value)
abbrev ic:=(#[.slice none 0 0,.nilFunc,.nilFunc]:Array Value)
abbrev km(a0)(a1)(a2)(a3)(a4):=(#[.pointer (some (Ad a0 0)),.slice (some (Ad a1 a2)) a3 a4]:Array Value)
abbrev nk(a0)(a1):=(#[.pointer (some (Ad a0 0)),.pointer (some (Ad a1 0))]:Array Value)
abbrev iB:=(#[Iv 0,Iv 0,Iv 0,.bool false,Iv 0,Iv 0]:Array Value)
abbrev cM(a0):=(some (Ad (a0+1) 0):Option Addr)
abbrev cu(a0):=(some (Ad a0 0):Option Addr)
abbrev eE:=(.cells #[Uv 0,Uv 0] 267:Obj)
abbrev df(a0)(a1):=(.cells #[Iv a0,Iv a1] 166:Obj)
abbrev dy(a0)(a1):=(.cells #[Iv a0,Iv a1] 247:Obj)
abbrev eD(a0):=(some (Ad (a0+1+1) 0):Option Addr)
abbrev jc:=(.cells #[Uv 0,Uv 0] 267 (0,0):Obj)
abbrev fZ:=(.cells #[Iv 0,Iv 0] 247:Obj)
abbrev iA:=(#[Iv 0,Iv 0,.slice none 0 0]:Array Value)
abbrev iz:=(.func (.func 267) #[] #[]:Value)
abbrev cJ(a0)(a1):=(.cells a0 a1 (0,0):Obj)
abbrev fY(a0):=(.cells #[Iv a0] 3 (0,0):Obj)
abbrev kg(a0)(a1):=(#[.slice (some (Ad a0 0)) a1 a1]:Array Value)
abbrev iy(a0)(a1)(a2)(a3)(a4)(a5):=(#[Iv a0,Iv a1,Iv a2,.bool a3,Iv a4,Iv a5]:Array Value)
abbrev ix(a0)(a1)(a2):=(.slice (some (Ad a0 0)) a1 a2:Value)
abbrev nV(a0):=(.pointer (some (Ad a0 0)):Value)
abbrev dH(a0)(a1)(a2):=(.slice a0 (a1+1) a2:Value)
abbrev mI:=(.func (.func 296) #[] #[]:Value)
abbrev mH(a0):=(#[.slice (some (Ad a0 0)) 1 1]:Array Value)
abbrev nU(a0)(a1):=(.cells #[Iv a0,Iv a1] 166 (0,0):Obj)
abbrev nT:=(#[.slice none 0 0,Iv 0]:Array Value)
abbrev qp(a0)(a1):=(.cells #[.bool true,Iv a0,Iv a1] 150:Obj)
abbrev oE(a0):=(#[.slice (some (Ad a0 0)) 2 2]:Array Value)
abbrev Aj(a0):=(.cells #[Iv a0,Iv 0,Iv 0,.bool false,Iv 0,Iv 0] 73:Obj)
abbrev mG(a0)(a1):=(.cells #[Iv a0,.bool a1] 502:Obj)
abbrev bH(a0)(a1)(a2):=(.slice a0 a1 a2:Value)
abbrev oD(a0)(a1)(a2):=(.cells #[.bool a0,Iv a1,Iv a2] 150:Obj)
abbrev xh(a0)(a1):=(.pointer (some (Ad (a0+1) (1+a1*2))):Value)
abbrev lB(a0)(a1):=(.cells #[Uv a0,Uv a1] 267:Obj)
abbrev DR:=(#[.bool false,Iv 0,Iv 0,Iv 0,.bool false,Iv 0,Iv 0]:Array Value)
abbrev uP:=(.cells #[Iv 0,Iv 0] 247 (0,0):Obj)
abbrev rY(a0)(a1):=(.cells #[Uv a0,Uv a1] 267 (0,0):Obj)
abbrev J7:=(.cells #[.int .u8 87,.int .u8 67,.int .u8 1] 5 (3,4):Obj)
abbrev rX:=(#[Uv 0,Uv 0,Uv 0,Uv 0]:Array Value)
abbrev uO(a0):=(some (Ad (a0+1+1+1) 0):Option Addr)
abbrev O9:=(.cells #[.slice none 0 0,.slice none 0 0,.bool true,Iv 0,.slice none 0 0] 96:Obj)
abbrev qo:=(#[.bool true,Iv 0]:Array Value)
abbrev nR:=(.cells #[] 331:Obj)
abbrev kM(a0)(a1):=(.agg #[Uv a0,Uv a1]:Value)
abbrev xg(a0)(a1):=(#[Iv a0,.pointer (some (Ad a1 0))]:Array Value)
abbrev nQ(a0):=(#[.bool false,Iv a0]:Array Value)
abbrev xe(a0):=(.cells #[.bool a0] 4 (0,0):Obj)
abbrev uN:=(#[.bool false,Iv 0]:Array Value)
abbrev xd(a0)(a1)(a2)(a3)(a4)(a5)(a6):=(#[.bool a0,Iv a1,Iv a2,Iv a3,.bool a4,Iv a5,Iv a6]:Array Value)
abbrev Ai(a0)(a1):=(.pointer (some (Ad a0 (a1*5))):Value)
abbrev Ah(a0)(a1):=(#[.pointer (some (Ad a0 0)),Iv a1]:Array Value)
section
variable {b o B e size n k B':Nat} {w w' u:World} {v:Value} {cs:Array Value} {t:TypeId} {M:List Value} {Z:Option Addr} {P Q:Nat->Prop} {row:Option Nat} {p:Prop}
def aW{a b:Bool}(h:a=b):Ending.returned (.bool a)=.returned (.bool b):=by rw[h]
def gG(h:w.cell? (Ad b o)=some v):∃c t f,w.heap[b]?=some (.cells c t f):=by
 unfold World.cell? at h;simp only at h;split at h
 ·rename_i c t f e;exact⟨c,t,f,e⟩
 cases h
def ae(h:w.heap[b]?=some (.cells cs t (0,0))):(∀o,w.cell? (Ad b o)=cs[o]?)/\(∀o,w.frozen? (Ad b o)=false):=by
 refine⟨fun o=>by simp[World.cell?,h],fun o=>by simp[World.frozen?,h]⟩
def fg(h:w.ownsRow B e size v n M):∀k,v.ownBlock=some k->∃A f,w.heap[k]?=some (.cells A e f):=by
 intro k X;rcases h.2 with⟨rfl,_⟩|⟨g,C,A,rfl,_,m,_⟩
 ·simp[Value.ownBlock]at X
 simp[Value.ownBlock]at X;subst X;exact⟨A,(0,0),m⟩
def dC(h:w'.heap[k]?=w.heap[k]?):w'.cell? (Ad k o)=w.cell? (Ad k o):=by simp only[World.cell?,h]
def data_inj{a b:ByteArray}(h:a.data.toList=b.data.toList):a=b:=by
 cases a;cases b;simp only at h;congr 1;exact TS.1 h
def Gb(w:World)(v:Value)(t:TypeId):∀j u,[v][j]?=some u->(w.alloc (.cells #[v] t)).cell? (((Ad w.heap.size 0):Addr).add j)=some u:=by
 intro j u hj
 match j,hj with
 |0,hj=>simp at hj;subst hj;simp[Addr.add]
def aN(w:World)(v N:Obj):((w.alloc v).alloc N).heap[w.heap.size]?=some v/\((w.alloc v).alloc N).heap[w.heap.size+1]?=some N:=by
 have x:(w.alloc v).heap.size=w.heap.size+1:=ak
 have G:=bf w v;have O:=bf (w.alloc v) N;rw[x]at O;exact⟨by rw[ch _ _ _ ah];exact G,O⟩
def below_drewN(h:Below b u w)(n:Nat):Below b u (w.drewN n):=⟨h.os,h.tape,h.output,h.size,h.block⟩
def bS(h:w.ownsRow B e size v n M):∃a C,v=.slice a n C:=by
 rcases h.2 with⟨rfl,e⟩|⟨g,C,A,t,_⟩
 ·exact⟨none,0,by rw[e]⟩
 exact⟨_,_,t⟩
def bJ(h:w.ownsRow B e size v n M)(hb:B'<=B):w.ownsRow B' e size v n M:=by
 refine⟨h.1,?_⟩;rcases h.2 with a|⟨g,C,A,G,O,Y⟩
 ·exact aJ a
 exact aI ⟨g,C,A,G,ah,Y⟩
def cW(w:World)(b o:Nat)(v:Value):w.grownBy (w.setCell (Ad b o) v) (some b):=
 ⟨rfl,rfl,rfl,by simp[World.setCell],fun k _ P=>aZ _ _ _ _ (fun e=>P (by rw[e]))⟩
def abR{f g x:Nat}{v':Value}{d:List Value}(h:w.ownsRow B e size v n M)(p:w.ownsRow B' f g v' x d)(he:e≠f):v.ownBlock=none∨v.ownBlock≠v'.ownBlock:=by
 cases t:v.ownBlock with
 |none=>exact aJ rfl
 |some k=>
  refine aI (fun S=>?_);obtain⟨Y,m,a⟩:=fg h k t;obtain⟨c,i,b⟩:=fg p k S.symm;rw[a]at b;simp at b;exact he b.2.1
def MZ(h:w.ownsRow B e size v n M){q:Nat}(hq:q<B):v.ownBlock=none∨v.ownBlock≠some q:=by
 cases t:v.ownBlock with
 |none=>exact aJ rfl
 |some k=>have:=(h.lt k t).1;exact aI (by simp;omega)
def ax(h:w.cell? (Ad k o)=some v)(hb:Bl w w'):w'.cell? (Ad k o)=some v:=by
 obtain⟨c,t,f,Z⟩:=gG h;exact(dC (hb.block k (bq.1 Z).1)).trans h
def dQ(h:w.cell? (Ad k o)=some v):k<w.heap.size:=by
 obtain⟨c,t,f,Z⟩:=gG h;exact(bq.1 Z).1
def cz(w:World)(ao:Option Addr)(xs:List Int):Prop:=∀j x,xs[j]?=some x->∃b o,ao=some (Ad b o)/\w.cell? (Ad b (o+j))=some (Iv x)
def cz.below{M:List Int}(h:cz w Z M)(hb:Bl w w'):cz w' Z M:=by
 intro j x U;obtain⟨b,o,G,O⟩:=h j x U;exact⟨b,o,G,ax O hb⟩
def cz.pre{M g:List Int}(h:cz w Z g)(hp:M <+: g):cz w Z M:=by
 obtain⟨t,rfl⟩:=hp;intro j x U;exact h j x (by rw[mE (bn.1 U).1];exact U)
def e9{P:Program}{ops:Array Oper}{o:Oper}{a:Act}{K:Act->World->Prop}{Q:Exit->Act->World->Prop}{E:Prop}
  (D:o.guard=none) (s x:Operand) (t:TypeId) (r:o.op=Op.call {callee:=Callee.builtin Builtin.append,args:=#[s,x],argTypes:=#[t,t]})
  (F:Nat) (e:TypeId) (i:TypeInfo) (z:Value) (size bytes:Nat) (h1:P.underlying t=some (.slice e)) (h2:P.info? e=some i) (h3:i.zero=some z) (y:i.size=size) (H:i.bytes=bytes) (C:z.cells.size=size) (U:0<size)
  (v:Value) (n:Nat) (l:List Value) (hs:a.eval s=v) (p:w.ownsRow F e size v n l)
  (ad:Addr) (m c:Nat) (b:List Value) (hx:a.eval x=.slice (some ad) m c) (hn:b.length=m*size) (Z:∀j u,b[j]?=some u->w.cell? (ad.add j)=some u) (q:∀u∈b,u.oneCell'=true)
  (B:n+m<=maxLen) (G:(n+m)*bytes<=140737488355328) (f:F<=w.heap.size)
  (A:∀R I,I.ownsRow F e size R (n+m) (l++b)->w.grownBy I v.ownBlock->(R.ownBlock=v.ownBlock∨R.ownBlock=some w.heap.size)->K (a.put o.dst R) I):
  if Region.wanted o (yielded ops a.tmps)=true then Oper.wp P o a w K Q else E:=by
 have M:Region.wanted o (yielded ops a.tmps)=true:=by simp[Region.wanted,D]
 rw[aD M];obtain⟨R,I,k,r1,X,_,g⟩:=run_append_own_at (P:=P) (w:=w) F t o.type e i z size bytes h1 h2 h3 y H C U v n l p ad m c b hn Z q B G f;obtain⟨a0,J,rfl⟩:=bS p;unfold Oper.wp;simp[execOp,r,resolve,invoke,builtin,hs,hx,k,Result.andThen];exact A R I r1 X g
def aC(w:World)(a:Obj):Bl w (w.alloc a):=(aM _ _).alloc (aF _) _
def aX(w:World)(a b:Obj):Bl w ((w.alloc a).alloc b):=(aC w a).alloc ak _
def cq(w:World)(a b c:Obj):Bl w (((w.alloc a).alloc b).alloc c):=(aX w a b).alloc (by simp;omega) _
def dD(w:World)(a b c d:Obj):Bl w ((((w.alloc a).alloc b).alloc c).alloc d):=(cq w a b c).alloc (by simp;omega) _
def aq{v:World}(h:Bl u v)(k:Bl v w):Bl u w:=h.trans (k.mono h.size)
structure Kp(b:Nat)(w w':World):Prop where
  os:w'.os=w.os
  tape:w'.tape=w.tape
  output:w'.output=w.output
  size:w.heap.size<=w'.heap.size
  keep:∀k o,w.heap[k]?=some o->k≠b->(∀c f,o≠.cells c 5 f)->w'.heap[k]?=some o
def Kp.refl(b:Nat)(w:World):Kp b w w:=⟨rfl,rfl,rfl,aF _,fun _ _ h _ _=>h⟩
def Kp.trans{v:World}(h:Kp b u v)(k:Kp b v w):Kp b u w:=
 ⟨k.os.trans h.os,k.tape.trans h.tape,k.output.trans h.output,bw h.size k.size,fun j o a c d=>k.keep j o (h.keep j o a c d) c d⟩
def yx(h:Kp b w w')(o:Nat)(v:Value):Kp b w (w'.setCell (Ad b o) v):=
 ⟨h.os,h.tape,h.output,by simpa[World.setCell]using h.size,fun k x a c d=>(aZ _ _ _ _ c).trans (h.keep k x a c d)⟩
def yz(m:w.grownBy w' v.ownBlock)(c:w.ownsRow B 5 1 v n M):Kp b w w':=by
 refine⟨m.os,m.tape,m.output,m.size,fun k o a _ d=>?_⟩;refine(m.block k (bq.1 a).1 ?_).trans a;intro e;rcases c.2 with⟨rfl,_⟩|⟨g,C,A,rfl,_,r,_⟩
 ·simp[Value.ownBlock]at e
 simp only[Value.ownBlock,dG]at e;subst e;rw[a]at r;cases r;exact d _ _ rfl
structure Fr(P:Nat->Prop)(w w':World):Prop where
  os:w'.os=w.os
  tape:w'.tape=w.tape
  output:w'.output=w.output
  size:w.heap.size<=w'.heap.size
  block:∀k,k<w.heap.size->P k->w'.heap[k]?=w.heap[k]?
def Fr.refl(P:Nat->Prop)(w:World):Fr P w w:=⟨rfl,rfl,rfl,aF _,fun _ _ _=>rfl⟩
def Fr.aR(h:Bl w w'):Fr P w w':=⟨h.os,h.tape,h.output,h.size,fun k X _=>h.block k X⟩
def Fr.trans{v:World}(h:Fr P u v)(k:Fr Q v w)(hi:∀x,x<u.heap.size->P x->Q x):Fr P u w:=
 ⟨k.os.trans h.os,k.tape.trans h.tape,k.output.trans h.output,bw h.size k.size,fun x E K=>(k.block x (fD E h.size) (hi x E K)).trans (h.block x E K)⟩
def Fr.dr(h:w.grownBy w' row)(hP:∀k,k<w.heap.size->P k->some k≠row):Fr P w w':=⟨h.os,h.tape,h.output,h.size,fun k X K=>h.block k X (hP k X K)⟩
def Fr.grown{v:World}(h:Fr P u v)(k:v.grownBy w row)(hP:∀x,x<u.heap.size->P x->some x≠row):Fr P u w:=
 ⟨k.os.trans h.os,k.tape.trans h.tape,k.output.trans h.output,bw h.size k.size,fun x E K=>(k.block x (fD E h.size) (hP x E K)).trans (h.block x E K)⟩
def Fr.mono{v:World}(h:Fr P u v)(hi:∀x,x<u.heap.size->Q x->P x):Fr Q u v:=
 ⟨h.os,h.tape,h.output,h.size,fun x E K=>h.block x E (hi x E K)⟩
def Fr.own(h:Fr P w w')(a:w.ownsRow B e size v n M)(hv:∀k,v.ownBlock=some k->P k):w'.ownsRow B e size v n M:=by
 have J:=a.lt;refine⟨a.1,?_⟩;rcases a.2 with S|⟨g,C,A,Q,Y,c,X⟩
 ·exact aJ S
 subst Q;exact aI ⟨g,C,A,rfl,Y,(h.block g (J g rfl).2 (hv g rfl)).trans c,X⟩
def Fr.below(h:Fr P w w')(f:B<=w.heap.size)(hP:∀k,k<B->P k):Below B w w':=⟨h.os,h.tape,h.output,h.size,fun k X=>h.block k ah (hP k X)⟩
def Fr.set{v:World}{x:Value}(h:Fr P u v)(hP:∀k,P k->k≠b):Fr P u (v.setCell (Ad b o) x):=
 ⟨h.os,h.tape,h.output,by simpa[World.setCell]using h.size,fun k X K=>(aZ _ _ _ _ (hP k K)).trans (h.block k X K)⟩
def aw(h:w.heap[b]?=some (.cells cs t (0,0)))(v:Value):(w.setCell (Ad b o) v).heap[b]?=some (.cells (cs.setIfInBounds o v) t (0,0)):=by
 simp[World.setCell,rU,h]
def hid(h:p):Hd p:=h
def blt{o:Obj}(h:w.heap[k]?=some o):k<w.heap.size:=(bq.1 h).1
def aE{o:Obj}(hb:Bl w w')(h:w.heap[k]?=some o):w'.heap[k]?=some o:=(hb.block k (blt h)).trans h
def au(h:p:=by kernel_rfl):p:=h
def ay(h:p:=by repeat(first|with_reducible exact aM _ _|with_reducible refine below_drewN ?_ _|with_reducible refine kf ?_|refine uM ?_ (by first|(simp;done)|(simp;omega)) _)):p:=h
end
def infoByte:(Tryz.prog.info? 5).map (fun i=>(i.zero,i.size,i.bytes))=some (some (.int .u8 0),1,1):=au
def sP:(Tryz.prog.info? 3).map (fun i=>(i.zero,i.size,i.bytes))=some (some (Iv 0),1,8):=au
open Go.RowKit Go.Proofs Go.Maps Tryz
abbrev BS:=Nat×Nat
def b!(s:BS):Value:=.agg #[Uv s.1,Uv s.2]
structure bF(s:BS):Prop where
  lo:s.1<18446744073709551616
  hi:s.2<18446744073709551616
def Xx{p:Prop}(h:p:=by
 have h:Tryz.prog.underlying 267=some (.array 2 194):=au
 simp[Instr.index,tK h,asIntOf,go_sem]):p:=h
def rm(a b:Int)(w:World):(Instr.index 267 (kM a b) (Iv 0)).run Tryz.prog w=.ok (Uv a) w:=by
 exact Xx
def rj(a b:Int)(w:World):(Instr.index 267 (kM a b) (Iv 1)).run Tryz.prog w=.ok (Uv b) w:=by
 exact Xx
def F3(n d:Nat)(hn:n=d+1)(a b c e:Int)(w:World):(Op.equalIn (n+1) 267 (kM a b) (kM c e)).run Tryz.prog w=.ok (a==c&&b==e) w:=by
 have h:Tryz.prog.underlying 267=some (.array 2 194):=au
 have O:Tryz.prog.underlying 194=some (.int .u64):=au
 have H:∀x y:Int,(Op.equalIn n 194 (Uv x) (Uv y)).run Tryz.prog w=.ok (x==y) w:=by intro x y;rw[hn];exact run_equalIn_int w d _ _ _ _ _ O
 have z:(sizeOf 194).run Tryz.prog w=.ok 1 w:=by simp[go_sem]
 have K:∀x y:Int,(part 194 #[Uv x,Uv y] 0).run Tryz.prog w=.ok (Uv x) w:=by intro x y;simp[go_sem]
 have Q:∀x y:Int,(part 194 #[Uv x,Uv y] 1).run Tryz.prog w=.ok (Uv y) w:=by intro x y;simp[go_sem]
 have L:(List.range' 0 2)=[0,1]:=rfl;simp only[Op.equalIn,Sem.run_bind,tK h,GZ,z];rw[Std.Legacy.Range.forIn_eq_forIn_range'];simp only[Std.Legacy.Range.size,wQ,Nat.add_sub_cancel,Nat.div_one,L,List.forIn_cons,List.forIn_nil,Sem.run_bind,gU,K,Q,H,GZ,BK];cases f:(a==c)
 ·simp
 simp only[wX,bN,bR,Sem.run_pure,GZ,Sem.run_bind,K,Q,H,Nat.one_mul];cases g:(b==e)<;>simp
def aa4(a b c d:Int)(w:World):(binOp .eql 267 (kM a b) (kM c d)).run Tryz.prog w=.ok (.bool (a==c&&b==d)) w:=by
 rw[run_eql_struct,F3 9999 9998 rfl];rfl
def K6(a b c d:Int)(w:World):(binOp .neq 267 (kM a b) (kM c d)).run Tryz.prog w=.ok (.bool (!(a==c&&b==d))) w:=by
 rw[run_neq_struct,F3 9999 9998 rfl];rfl
def oe(a b:Nat)(ha:a<18446744073709551616)(hb:b<18446744073709551616):bits .andNot .u64 (a:Int) (b:Int)=((a&&&(18446744073709551615-b):Nat):Int):=by
 have E:a&&&(18446744073709551615-b)<2 ^ 64:=Nat.and_lt_two_pow _ ah;have G:(BitVec.ofInt 64 (a:Int)).toNat=a:=by
  rw[BitVec.ofInt_natCast,BitVec.toNat_ofNat];exact tL ah
 have O:(BitVec.ofInt 64 (b:Int)).toNat=b:=by
  rw[BitVec.ofInt_natCast,BitVec.toNat_ofNat];exact tL ah
 show IntKind.u64.wrap ((BitVec.ofInt 64 (a:Int)&&&~~~BitVec.ofInt 64 (b:Int)).toNat:Int)=_;rw[BitVec.toNat_and,BitVec.toNat_not,G,O,wP];have e:2 ^ 64-1-b=18446744073709551615-b:=ah
 rw[e];omega
def Zk(a b:Nat):Nat:=a&&&(18446744073709551615-b)
def eH(s t:BS):BS:=(Zk s.1 t.1,Zk s.2 t.2)
def jJ(s t:BS)(w:World)(hs:bF s)(N:bF t):
  Cl 153 #[b! s,b! t] w (Rb w (b! (eH s t))):=by
 have H:=fun w=>rm (t.1:Int) (t.2:Int) w
 have L:=fun w=>rj (t.1:Int) (t.2:Int) w
 have S:=oe s.1 t.1 hs.lo N.lo;have Q:=oe s.2 t.2 hs.hi N.hi;simp only[b!];go_enter func153,ntmps153
 go_wp2_with fail
 refine wp_loop_rounds 3 ?_;rw[tJ]
 go_wp2_with fail
 rw[tJ]
 go_wp2_with fail
 rw[tJ]
 go_wp2_with fail
 refine aG (v:=b! (eH s t)) (by simp[results,results153,go_sem,b!,eH,Zk]) rfl ⟨rfl,cq _ _ _ _⟩
section
variable {n:Nat}
structure Vl where
  kind:Int
  lo:Int
  hi:Int
  early:Bool
  first:Int
  rank:Int
structure Nd where
  facts:List Int
  aO:List Int
  reached:Bool
  rank:Int
  vals:List Vl
structure Ct where
  problem:Int
  bK:Int
  nodes:List Nd
def rk(n:Int):Bool:=decide (0<=n)&&decide (n<=100000)
def cw:Int->List Int->Bool
 |_,[]=>true
 |fl,f :: r=>decide (fl<=f)&&decide (f<=100000)&&cw (f+1) r
def ey(g:Int)(aO:List Int)(k:Nat):Bool:=if g=1 then decide (aO.length=k)&&aO.all rk else aO.isEmpty
def eO(g:Int)(n:Nd):Bool:=!n.reached&&decide (n.rank=0)&&n.vals.isEmpty&&cw 0 n.facts&&ey g n.aO n.facts.length
def nF(g r:Int)(v:Vl):Bool:=decide (g=1)&&decide (r<v.rank)&&decide (v.rank<=100000)&&decide (v.kind=2)&&decide (v.lo=0)&&decide (v.hi=0)
def ew(p g r:Int)(v:Vl):Bool:=
 if p=6 then decide (v.kind=3)&&!v.early&&decide (v.first=0)&&decide (v.rank=0)&&decide (v.lo<=v.hi)
 else if v.early then nF g r v
 else decide (v.kind=1)&&decide (v.hi=0)&&decide (v.first=0)&&decide (v.rank=0)||decide (v.kind=2)&&decide (v.lo=0)&&decide (v.hi=0)&&decide (v.first=0)&&decide (v.rank=0)
def j5(n:Nd):Bool:=!n.reached&&decide (n.rank=0)&&n.facts.isEmpty&&n.aO.isEmpty&&n.vals.isEmpty
def eF(p g:Int)(n:Nd):Bool:=n.facts.isEmpty&&n.aO.isEmpty&&decide (n.vals.length<=8)&&rk n.rank&&(decide (g=1)||decide (n.rank=0))&&n.vals.all (ew p g n.rank)
def cy(p g:Int)(n:Nd):Bool:=if p<=4 then eO g n else if n.reached then eF p g n else j5 n
def known(p g:Int):Bool:=decide (1<=p)&&decide (p<=6)&&(decide (g=2)||decide (g=1)&&!decide (p=6))
def kq(c:Ct):Bool:=known c.problem c.bK&&decide (c.nodes.length<=60)&&c.nodes.all (cy c.problem c.bK)
def ik(n:Nat):List UInt8:=if h:n<128 then[UInt8.ofNat n] else UInt8.ofNat (n % 128+128) :: ik (n / 128)
def cO(x:Int):List UInt8:=ik x.toNat
def DQ(x:Int):Nat:=if 0<=x then(2*x).toNat else(-2*x-1).toNat
def zp(x:Int):List UInt8:=ik (DQ x)
def c! : Int->List Int->List Int
 |_,[]=>[]
 |fl,f :: r=>(f-fl) :: c! (f+1) r
def setB(n:Nd):List UInt8:=ik n.facts.length++(c! 0 n.facts).flatMap cO++n.aO.flatMap cO
def eN(p g:Int)(v:Vl):List UInt8:=
 if p=6 then zp v.lo++ik (v.hi-v.lo).toNat
 else if v.kind=1 then 1 :: zp v.lo
 else if g=1 then(if v.early then 2 :: 1 :: (zp v.first++cO v.rank) else[2,0])
 else[2]
def nL(p g:Int)(n:Nd):List UInt8:=(if g=1 then cO n.rank else[])++ik n.vals.length++n.vals.flatMap (eN p g)
def di(p g:Int)(n:Nd):List UInt8:=if p<=4 then setB n else if n.reached then 1 :: nL p g n else[0]
def ob(c:Ct):List UInt8:=[87,67,1,UInt8.ofNat c.problem.toNat,UInt8.ofNat c.bK.toNat]++ik c.nodes.length
def ij(c:Ct):List UInt8:=ob c++c.nodes.flatMap (di c.problem c.bK)
def enc(c:Ct):Option (List UInt8):=if kq c&&decide ((ij c).length<=60000) then some (ij c) else none
theorem kH(h:n<128):ik n=[UInt8.ofNat n]:=by rw[ik,dif_pos h]
theorem p!(h:¬n<128):ik n=UInt8.ofNat (n % 128+128) :: ik (n / 128):=by rw[ik,dif_neg h]
theorem JL:∀(k n:Nat),n<128 ^ k->(ik n).length<=k∨k=0
 |0,n,h=>aI rfl
 |k+1,n,h=>by
  left
  by_cases J:n<128
  ·rw[kH J];simp
  rw[p! J];have G:n / 128<128 ^ k:=by rw[Ab]at h;omega
  rcases JL k _ G with O|O
  ·simp;exact O
  subst O;simp at G;omega
theorem gB(h:n<18446744073709551616):(ik n).length<=10:=by
 rcases JL 10 n ah with h|h
 ·exact h
 omega
theorem sU{α:Type}(f:α->List UInt8)(k:Nat):∀(l:List α),(∀x∈l,(f x).length<=k)->(l.flatMap f).length<=l.length*k
 |[],_=>by simp
 |a :: l,h=>by
  have G:=h a ak;have O:=sU f k l (fun x E=>h x (by simp[E]));simp only[bY,bu,bT,rS];omega
theorem xM:∀(fs:List Int) (U:Int),cw U fs=true->(fs.length:Int)+U<=100001∨fs=[]
 |[],_,_=>aI rfl
 |f :: r,U,h=>by
  left
  simp[cw]at h;obtain⟨⟨G,O⟩,Y⟩:=h;rcases xM r (f+1) Y with K|K
  ·simp;omega
  subst K;simp;omega
theorem pI{fs:List Int}(h:cw 0 fs=true):fs.length<=100001:=by
 rcases xM fs 0 h with h|h
 ·omega
 subst h;simp
end
section
variable {w w':World} {Z:Option Addr}
def jA(w:World)(ao:Option Addr)(vs:List Vl):Prop:=∀j v,vs[j]?=some v->∃b o,ao=some (Ad b o)/\w.cell? (Ad b (o+j*6))=some (Iv v.kind)/\w.cell? (Ad b (o+j*6+1))=some (Iv v.lo)/\w.cell? (Ad b (o+j*6+2))=some (Iv v.hi)/\w.cell? (Ad b (o+j*6+3))=some (.bool v.early)/\w.cell? (Ad b (o+j*6+4))=some (Iv v.first)/\w.cell? (Ad b (o+j*6+5))=some (Iv v.rank)
structure rJ(w:World)(fa ra va:Option Addr)(fc rc vc:Nat)(n:Nd):Prop where
  facts:cz w fa n.facts
  aO:cz w ra n.aO
  vals:jA w va n.vals
  adP:fa=none->fc=0
  aeh:ra=none->rc=0
  aeg:va=none->vc=0
def cj(w:World)(ao:Option Addr)(ns:List Nd):Prop:=∀j n,ns[j]?=some n->∃b o fa ra va fc rc vc,ao=some (Ad b o)/\w.cell? (Ad b (o+j*5))=some (.slice fa n.facts.length fc)/\w.cell? (Ad b (o+j*5+1))=some (.slice ra n.aO.length rc)/\w.cell? (Ad b (o+j*5+2))=some (.bool n.reached)/\w.cell? (Ad b (o+j*5+3))=some (Iv n.rank)/\w.cell? (Ad b (o+j*5+4))=some (.slice va n.vals.length vc)/\rJ w fa ra va fc rc vc n
def jA.below{vs:List Vl}(h:jA w Z vs)(hb:Bl w w'):jA w' Z vs:=by
 intro j v U;obtain⟨b,o,G,P,Y,c,X,k,u⟩:=h j v U;exact⟨b,o,G,ax P hb,ax Y hb,ax c hb,ax X hb,ax k hb,ax u hb⟩
def rJ.below{fa ra va:Option Addr}{fc rc vc:Nat}{n:Nd}(h:rJ w fa ra va fc rc vc n)(hb:Bl w w'):rJ w' fa ra va fc rc vc n:=
 ⟨h.facts.below hb,h.aO.below hb,h.vals.below hb,h.adP,h.aeh,h.aeg⟩
def cj.below{B:List Nd}(h:cj w Z B)(hb:Bl w w'):cj w' Z B:=by
 intro j n U;obtain⟨b,o,fa,ra,va,fc,rc,vc,G,P,Y,c,X,k,u⟩:=h j n U;exact⟨b,o,fa,ra,va,fc,rc,vc,G,ax P hb,ax Y hb,ax c hb,ax X hb,ax k hb,u.below hb⟩
def eX(x:Int):Prop:=-9223372036854775808<=x/\x<=9223372036854775807
structure za(v:Vl):Prop where
  kind:eX v.kind
  lo:eX v.lo
  hi:eX v.hi
  first:eX v.first
  rank:eX v.rank
structure gD(n:Nd):Prop where
  facts:∀f∈n.facts,eX f
  aO:∀f∈n.aO,eX f
  rank:eX n.rank
  vals:∀v∈n.vals,za v
  fsz:n.facts.length*8<=140737488355328
  rsz:n.aO.length*8<=140737488355328
  vsz:n.vals.length*48<=140737488355328
structure py(c:Ct):Prop where
  problem:eX c.problem
  bK:eX c.bK
  nodes:∀n∈c.nodes,gD n
  sz:c.nodes.length*88<=140737488355328
end
open Go.RowKit Go.Proofs Go.Maps Tryz
def Pg(a b:Nat):Zk a b<18446744073709551616:=by
 unfold Zk;have:a&&&(18446744073709551615-b)<2 ^ 64:=Nat.and_lt_two_pow _ ah;omega
def jj(s t:BS):bF (eH s t):=⟨Pg _ _,Pg _ _⟩
def zS(s:BS):Bool:=s.1==0&&s.2==0
def ri(s t:BS)(w:World)(hs:bF s)(N:bF t):
  Cl 296 #[b! s,b! t] w (Rb w (.bool (zS (eH s t)))):=by
 have d:Hd (∀W,Cl 153 #[b! s,b! t] W (Rb W (b! (eH s t)))):=fun W=>jJ s t W hs N
 obtain⟨z,R⟩:=Ea (eH s t);rw[<-R]at d⊢;clear R hs N;have a:=fun w=>aa4 (z.1:Int) (z.2:Int) 0 0 w
 have g:Tryz.prog.eqGuardType Tryz.prog.depth 267=false:=au
 simp only[b!]at d⊢;go_enter func296,ntmps296
 go_wp2_with (go_at_call 153;refine(d.o _).mono ?_;rintro e T ⟨rfl,A⟩)
 go_wp2_with fail
 go_ret
 refine⟨aW ?_,aq (aX _ _ _) A⟩;unfold zS;rw[cR];simp only[aS,eJ];omega
def ld(w:World)(ao:Option Addr)(ss:List BS):Prop:=∀j s,ss[j]?=some s->∃b o,ao=some (Ad b o)/\w.cell? (Ad b (o+j*2))=some (Uv s.1)/\w.cell? (Ad b (o+j*2+1))=some (Uv s.2)
def eP(s t:BS):BS:=(s.1|||t.1,s.2|||t.2)
def zj(ss:List BS):BS:=ss.foldl eP (0,0)
def gp{s t:BS}(h:bF s)(k:bF t):bF (eP s t):=
 ⟨by have:=h.lo;have:=k.lo;have:s.1|||t.1<2 ^ 64:=Bw ah ah;show s.1|||t.1<_;omega,by have:=h.hi;have:=k.hi;have:s.2|||t.2<2 ^ 64:=Bw ah ah;show s.2|||t.2<_;omega⟩
def Pz:∀(m:List BS) (u:BS),bF u->(∀s∈m,bF s)->bF (m.foldl eP u)
 |[],u,h,_=>h
 |s :: r,u,h,k=>Pz r _ (gp h (k s ak)) (fun x E=>k x (by simp[E]))
def Py(m:List BS)(k:∀s∈m,bF s):bF (zj m):=Pz m _ ⟨aj,aj⟩ k
def Px{m:List BS}{k:Nat}{s:BS}(h:m[k]?=some s):zj (m.take (k+1))=eP (zj (m.take k)) s:=by
 have hl:=(bn.1 h).1;rw[dS hl,(bn.1 h).2];simp[zj]
def An(Z:Option Addr)(c:Nat)(m:List BS)(w:World)(h:ld w Z m)(hi:∀s∈m,bF s)(hl:m.length<=1000):
  Cl 267 #[.slice Z m.length c] w (Rb w (b! (zj m))):=by
 go_enter func267,ntmps267
 go_wp2_with fail
 go_loopw[10] (fun i wr=>∃k:Nat,k<=m.length/\i=Iv k/\Hd (Bl w wr/\wr.heap[w.heap.size]?=some jc/\wr.heap[w.heap.size+1]?=some (.cells #[Uv (zj (m.take k)).1,Uv (zj (m.take k)).2] 267 (0,0)))) (fun i _=>m.length-(intOf i).toNat)
 case atStart=>
  refine⟨0,bB _,rfl,aX _ _ _,(aN _ _ _).1,?_⟩;have:=(aN w eE eE).2
  simpa[zj]using this
 obtain⟨k,X,rfl,M⟩:=hrel;by_cases J:k<m.length;rotate_left
 ·have b:¬(k:Int)<(m.length:Int):=ah
  have r:m.take k=m:=cP ah;rw[r]at M;obtain⟨F,y⟩:=ae M.B;obtain⟨B,o⟩:=ae M.b
  go_wp2_with fail
  have A:(wr.setCell (Ad w.heap.size 0) (Uv ((zj m).1:Int))).cell? (Ad w.heap.size 0)=some (Uv ((zj m).1:Int)):=by rw[(ae (aw M.b _)).1];rfl
  have l:((wr.setCell (Ad w.heap.size 0) (Uv ((zj m).1:Int))).setCell (Ad w.heap.size 1) (Uv ((zj m).2:Int))).cell? (Ad w.heap.size 1)=some (Uv ((zj m).2:Int)):=by rw[(ae (aw (aw M.b _) _)).1];rfl
  refine aG (v:=b! (zj m)) (by simp[results,results267,go_sem,b!,A,l]) rfl ⟨rfl,?_⟩;exact(M.a.setCell (aF _) _).setCell (aF _) _
 have b:(k:Int)<(m.length:Int):=ah
 obtain⟨s,E⟩:=La J;obtain⟨n,v,rfl,P,Y⟩:=h k s E;have q:=fun w=>rm (s.1:Int) (s.2:Int) w
 have L:=fun w=>rj (s.1:Int) (s.2:Int) w
 have t:=ax P M.a;have C:=ax Y M.a;obtain⟨F,y⟩:=ae M.B;have p:=dQ t;have U:=(bq.1 M.B).1;have d:=hi s (aL E);have a:=Py (m.take k) (fun x E=>hi x (lZ E));have S:=Bz (zj (m.take k)).1 s.1 a.lo d.lo;have Q:=Bz (zj (m.take k)).2 s.2 a.hi d.hi;have f:=(show Hd _ from E);clear d a E;obtain⟨u,j⟩:=Ea (zj (m.take k));rw[<-j]at F S Q;have O:=(show Hd _ from j);clear j
 go_wp2_with fail
 generalize g:wr.alloc (lB s.1 s.2)=V;have H:Hd (Bl w V/\V.heap[w.heap.size]?=some jc/\V.heap[w.heap.size+1]?=some (rY u.1 u.2)):=by
  subst g;have T:=(bq.1 M.b).1;refine⟨M.a.alloc M.a.size _,?_,?_⟩
  ·rw[ch _ _ _ T];exact M.b
  rw[ch _ _ _ U,O.o];exact M.B
 clear g F y P Y t C;obtain⟨F,y⟩:=ae H.B;refine wp_loop_rounds 3 ?_;rw[tJ]
 go_wp2_with fail
 obtain⟨B,o⟩:=ae (aw (o:=0) H.B (Uv ((u.1|||s.1:Nat):Int)));clear F y;rw[tJ]
 go_wp2_with fail
 rw[tJ]
 go_wp2_with fail
 go_roundw
 case rel=>
  refine⟨k+1,ah,h',?_,?_,?_⟩
  ·exact(H.a.setCell (by show _<=w.heap.size+1;omega) _).setCell (by show _<=w.heap.size+1;omega) _
  ·rw[aZ _ _ _ _ (by show w.heap.size≠w.heap.size+1;omega),aZ _ _ _ _ (by show w.heap.size≠w.heap.size+1;omega)]
   exact H.b
  rw[Px f.o,<-O.o];exact aw (aw H.B _) _
 simp[intOf];omega
namespace Wm
def zF(c:UInt8):Bool:=decide (97<=c.toNat)&&decide (c.toNat<=122)
def rF(c:UInt8):Bool:=decide (48<=c.toNat)&&decide (c.toNat<=57)
def xj(c:UInt8):Bool:=zF c||rF c
def resv(l:List UInt8):Bool:=l==[105,110,112,117,116]||l==[111,117,116,112,117,116]||l==[105,102]||l==[103,111,116,111]||l==[114,101,116,117,114,110]
def Ye(l:List UInt8):Bool:=
 match l with
 |[]=>false
 |c :: r=>zF c&&(c :: r).all xj&&decide (r.length+1<=6)&&!resv (c :: r)
def nm(s:ByteArray):Bool:=Ye s.data.toList
theorem RQ(s:ByteArray)(k:Nat)(h:k<s.size):s.data.toList[k]?=some s[k]:=by
 rw[bk (by simpa using h)];rfl
theorem Mi(s:ByteArray)(k:Nat)(h:k<s.size):s.data.toList.take (k+1)=s.data.toList.take k++[s[k]]:=by
 rw[dS (by simpa using h)];rfl
theorem cV(s:ByteArray):s.data.toList.length=s.size:=rfl
theorem uI(s:ByteArray)(h:0<s.size):s.data.toList=s[0] :: s.data.toList.drop 1:=by
 have:=RQ s 0 h;cases hl:s.data.toList with
 |nil=>rw[hl]at this;simp at this
 |cons a t=>rw[hl]at this;simp at this;simp[this]
theorem pj(s:ByteArray)(k:Nat)(p:UInt8->Bool)(h:k<s.size):(s.data.toList.take (k+1)).all p=((s.data.toList.take k).all p&&p s[k]):=by
 rw[Mi s k h];simp[List.all_append]
theorem vq(l:List UInt8)(k:Nat)(p:UInt8->Bool)(h:l.all p=true):(l.take k).all p=true:=by
 rw[bM]at h⊢;exact fun x E=>h x (lZ E)
theorem K4(s:ByteArray)(h0:0<s.size):nm s=(zF s[0]&&s.data.toList.all xj&&decide (s.size<=6)&&!resv s.data.toList):=by
 have hl:=cV s;have Z:=uI s h0;unfold nm Ye;rw[Z]at hl⊢;simp only[bT]at hl;show(zF s[0]&&_&&decide ((List.drop 1 s.data.toList).length+1<=6)&&_)=_;rw[hl]
theorem UN(s:ByteArray)(h:s.size=0):nm s=false:=by
 have hl:=cV s;have:s.data.toList=[]:=dM.1 ah;unfold nm;rw[this];rfl
theorem UO(s:ByteArray)(h:6<s.size):nm s=false:=by
 rw[K4 s ah];simp;intros;omega
theorem UQ(s:ByteArray)(h0:0<s.size)(h:zF s[0]=false):nm s=false:=by rw[K4 s h0,h];rfl
theorem Z5(s:ByteArray)(k:Nat)(h:k<s.size)(hb:xj s[k]=false):nm s=false:=by
 rw[K4 s ah];have:s.data.toList.all xj=false:=by
  cases e:s.data.toList.all xj with
  |false=>rfl
  |true=>
   have:=vq _ (k+1) _ e;rw[pj s k _ h,hb]at this;simp at this
 rw[this];simp
theorem Z4(s:ByteArray)(h0:0<s.size)(E:s.size<=6)(T:zF s[0]=true)(ha:(s.data.toList.take s.size).all xj=true):nm s=!resv s.data.toList:=by
 rw[K4 s h0,T];rw[cP (by rw[cV];exact aF _)]at ha;rw[ha];simp[E]
def UJ(l:List UInt8):Int:=if l==[43] then 0 else if l==[45] then 1 else if l==[42] then 2 else if l==[47] then 3 else 0
def ZX(l:List UInt8):Bool:=l==[43]||l==[45]||l==[42]||l==[47]
def Ub(l:List UInt8):Int:=if l==[60] then 0 else if l==[60,61] then 1 else if l==[61,61] then 2 else if l==[33,61] then 3 else 0
def Tl(l:List UInt8):Bool:=l==[60]||l==[60,61]||l==[61,61]||l==[33,61]
end Wm
open Go.RowKit Go.Proofs Tryz
def iO(c:UInt8)(w:World):
  Cl 191 #[.int .u8 c.toNat] w fun e I=>e=.returned (.bool (Wm.zF c))/\I=w:=by
 go_enter func191,ntmps191
 go_wp2
 all_goals
  go_ret
  refine⟨aW ?_,rfl⟩;unfold Wm.zF
  first|(rw[cR];simp;omega)|skip
def lN(c:UInt8)(w:World):
  Cl 192 #[.int .u8 c.toNat] w fun e I=>e=.returned (.bool (Wm.rF c))/\I=w:=by
 go_enter func192,ntmps192
 go_wp2
 all_goals
  go_ret
  refine⟨aW ?_,rfl⟩;unfold Wm.rF
  first|(rw[cR];simp;omega)|skip
def yE(s:ByteArray)(w:World):
  Cl 193 #[.string s] w fun e I=>e=.returned (.bool (Wm.resv s.data.toList))/\I=w:=by
 rw[<-oz];go_enter func193,ntmps193
 go_wp2
 all_goals
  go_ret
  refine⟨aW ?_,rfl⟩;unfold Wm.resv
  simp_all
def dB(s:ByteArray)(w:World)(hs:s.size<=maxLen):
  Cl 124 #[.string s] w fun e I=>e=.returned (.bool (Wm.nm s))/\I=w:=by
 unfold maxLen at hs;by_cases o:s.size=0
 ·go_enter func124,ntmps124
  go_wp2
  go_ret
  exact⟨aW (Wm.UN s o).symm,rfl⟩
 by_cases E:6<s.size
 ·go_enter func124,ntmps124
  go_wp2
  go_ret
  exact⟨aW (Wm.UO s E).symm,rfl⟩
 have K:0<s.size:=ah
 have S:((s.size:Int)==0)=false:=by rw[er];omega
 have b:decide (6<(s.size:Int))=false:=by rw[gK];omega
 cases T:Wm.zF s[0]with
 |false=>
  go_enter func124,ntmps124
  go_wp2_with (go_at_call 191;refine(iO _ _).mono ?_;rintro e I ⟨rfl,rfl⟩)
  go_ret
  exact⟨aW (Wm.UQ s K T).symm,rfl⟩
 | true=>
  go_enter func124,ntmps124
  go_wp2_with (go_at_call 191;refine(iO _ _).mono ?_;rintro e I ⟨rfl,rfl⟩)
  go_loop [20] (fun i=>∃k:Nat,k<=s.size/\i=Iv k/\(s.data.toList.take k).all Wm.xj=true) (fun i=>s.size-(intOf i).toNat)
  case atStart=>exact⟨0,bB _,rfl,ak⟩
  obtain⟨k,X,rfl,y⟩:=hrel;have j:Hd ((s.data.toList.take k).all Wm.xj=true):=y;clear y;by_cases J:k<s.size;rotate_left
  ·go_wp2_with (go_at_call 193;refine(yE _ _).mono ?_;rintro e I ⟨rfl,rfl⟩)
   go_ret
   exact⟨aW (Wm.Z4 s K ah T (by rw[show s.size=k by omega];exact j.o)).symm,rfl⟩
  cases hl:Wm.zF s[k]with
  |true=>
   go_wp2_with (go_at_call 191;refine(iO _ _).mono ?_;rintro e I ⟨rfl,rfl⟩)
   go_round
   case rel=>exact⟨k+1,ah,h',by rw[Wm.pj s k _ J,j.o];simp[Wm.xj,hl]⟩
   simp[intOf];omega
  | false=>
   cases hd:Wm.rF s[k]with
   |true=>
    go_wp2_with (first|(go_at_call 191;refine(iO _ _).mono ?_;rintro e I ⟨rfl,rfl⟩)|(go_at_call 192;refine(lN _ _).mono ?_;rintro e I ⟨rfl,rfl⟩))
    go_round
    case rel=>exact⟨k+1,ah,h',by rw[Wm.pj s k _ J,j.o];simp[Wm.xj,hd]⟩
    simp[intOf];omega
   |false=>
    go_wp2_with (first|(go_at_call 191;refine(iO _ _).mono ?_;rintro e I ⟨rfl,rfl⟩)|(go_at_call 192;refine(lN _ _).mono ?_;rintro e I ⟨rfl,rfl⟩))
    go_ret
    exact⟨aW (Wm.Z5 s k J (by simp[Wm.xj,hl,hd])).symm,rfl⟩
def ug{a b:Int}{c d:Bool}(h:a=b)(p:c=d):Ending.returned (.tuple #[Iv a,.bool c])=.returned (.tuple #[Iv b,.bool d]):=by rw[h,p]
def ER(s:ByteArray)(w:World):
  Cl 262 #[.string s] w fun e I=>e=.returned (.tuple #[Iv (Wm.UJ s.data.toList),.bool (Wm.ZX s.data.toList)])/\I=w:=by
 rw[<-oz];go_enter func262,ntmps262
 go_wp2
 all_goals
  go_ret2
  refine⟨ug ?_ ?_,rfl⟩<;>simp_all[Wm.UJ,Wm.ZX]
def zD(s:ByteArray)(w:World):
  Cl 260 #[.string s] w fun e I=>e=.returned (.tuple #[Iv (Wm.Ub s.data.toList),.bool (Wm.Tl s.data.toList)])/\I=w:=by
 rw[<-oz];go_enter func260,ntmps260
 go_wp2
 all_goals
  go_ret2
  refine⟨ug ?_ ?_,rfl⟩<;>simp_all[Wm.Ub,Wm.Tl]
def Fu(c:Int)(w:World):
  Cl 122 #[.int .i32 c] w fun e I=>e=.returned (.bool (c==32||c==9||c==13))/\I=w:=by
 go_enter func122,ntmps122
 go_wp2
 all_goals
  go_ret
  refine⟨aW ?_,rfl⟩
  simp_all
namespace Wm
def yT(a:Nat)(l:List UInt8):Nat:=l.foldl (fun a c=>a*10+(c.toNat-48)) a
def td(l:List UInt8):Nat:=yT 0 l
def dg(l:List UInt8):List UInt8:=trimPrefix l [45]
def ng(l:List UInt8):Bool:=hasPrefix l [45]
def yn(neg:Bool)(d:List UInt8):Bool:=
 match d with
 |[]=>false
 |c :: r=>(c :: r).all rF&&(if c.toNat==48 then decide (r.length=0)&&!neg else true)
def vz(l:List UInt8):Bool:=yn (ng l) (dg l)
def tg(l:List UInt8):Option Int:=
 if vz l then(if ng l then(if td (dg l)<=9223372036854775808 then some (-(td (dg l):Int)) else none) else if td (dg l)<9223372036854775808 then some (td (dg l):Int) else none) else none
theorem V!(l:List UInt8):∀a,a<=yT a l:=by
 induction l with
 |nil=>intro a;exact aF _
 |cons c r B=>intro a;have:=B (a*10+(c.toNat-48));simp only[yT,gx]at this⊢;omega
theorem N9(a:Nat)(c:UInt8)(r:List UInt8):yT a (c :: r)=yT (a*10+(c.toNat-48)) r:=by unfold yT;rw[gx]
theorem F6(c:UInt8):rF c=true↔48<=c.toNat/\c.toNat<=57:=by simp[rF]
theorem UF(M a:Nat)(c:UInt8)(r:List UInt8)(Z:48<=c.toNat/\c.toNat<=57):parseUintM M a (c :: r)=if 1844674407370955162<=a then .range else if M<a*10+(c.toNat-48) then .range else parseUintM M (a*10+(c.toNat-48)) r:=by
 rw[parseUintM,aD Z]
theorem ar1(M a x f:Nat)(U:M<18446744073709551620)(h1:1844674407370955162<=a)(T:a*10+x<=f):¬f<=M:=by omega
theorem PK(M:Nat)(U:M<18446744073709551620):∀(l:List UInt8) (a:Nat),l.all rF=true->a<=M->parseUintM M a l=if yT a l<=M then .ok (yT a l) else .range
 |[],a,_,ha=>by rw[aD (show yT a []<=M from ha)];rfl
 |c :: r,a,hd,ha=>by
  have b:rF c=true:=by simp only[Ae,aS]at hd;exact hd.1
  have v:r.all rF=true:=by simp only[Ae,aS]at hd;exact hd.2
  have Z:=(F6 c).1 b;have T:=V! r (a*10+(c.toNat-48));rw[UF M a c r Z,N9];by_cases G:1844674407370955162<=a
  ·rw[aD G,aA (ar1 M a _ _ U G T)]
  rw[aA G];by_cases O:M<a*10+(c.toNat-48)
  ·rw[aD O,aA ah]
  rw[aA O];exact PK M U r _ v ah
theorem ym{a:Bool}{d:List UInt8}(h:yn a d=true):d.all rF=true/\d≠[]:=by
 cases d with
 |nil=>simp[yn]at h
 |cons c r=>simp only[yn,aS]at h;exact⟨h.1,by simp⟩
theorem Sk(r:List UInt8):dg (45 :: r)=r:=by simp[dg,trimPrefix,hasPrefix,List.isPrefixOf]
theorem QR(r:List UInt8):ng (45 :: r)=true:=by simp[ng,hasPrefix,List.isPrefixOf]
theorem I1(c:UInt8)(r:List UInt8)(h:c≠45):ng (c :: r)=false:=by
 simp[ng,hasPrefix,List.isPrefixOf];exact fun e=>h e.symm
theorem Sj(c:UInt8)(r:List UInt8)(h:c≠45):dg (c :: r)=c :: r:=by
 have:=I1 c r h;unfold ng at this;simp[dg,trimPrefix,this]
theorem X! : (2:Nat) ^ (64-1)=9223372036854775808:=by decide
theorem X?:(2:Nat) ^ 64-1=18446744073709551615:=by decide
theorem Wc(r:List UInt8)(h:vz (45 :: r)=true):tg (45 :: r)=if td r<=9223372036854775808 then some (-(td r:Int)) else none:=by
 unfold tg;rw[aD h,QR,Sk];rfl
theorem Wb(c:UInt8)(r:List UInt8)(Z:c≠45)(h:vz (c :: r)=true):tg (c :: r)=if td (c :: r)<9223372036854775808 then some (td (c :: r):Int) else none:=by
 unfold tg;rw[aD h,I1 c r Z,Sj c r Z];rfl
theorem MY(l:List UInt8)(h:vz l=true):parseIntB 64 l=match tg l with|some v=>.ok v|none=>.range:=by
 cases l with
 |nil=>simp[vz,dg,trimPrefix,hasPrefix,yn]at h
 | cons c r=>
  by_cases Z:c=45
  ·subst Z
   rw[Wc r h];unfold vz at h;rw[Sk,QR]at h;obtain⟨y,J⟩:=ym h;have a:=PK 18446744073709551615 ah r 0 y ah;unfold parseIntB parseUintB;simp only[show(45:UInt8).toNat=45 from rfl,or_true,dx,J,bR];rw[X?,X!,a];have e:yT 0 r=td r:=rfl;rw[e];by_cases G:td r<=18446744073709551615;rotate_left
   ·rw[aA G,aA ah]
   rw[aD G];by_cases O:td r<=9223372036854775808
   ·rw[aD O]
    simp only[not_true,false_and,bR,rT];rw[aA ah]
   rw[aA O];simp only[not_true,false_and,bR,rT];rw[aD ah]
  rw[Wb c r Z h];unfold vz at h;rw[Sj c r Z,I1 c r Z]at h;obtain⟨y,J⟩:=ym h;have a:=PK 18446744073709551615 ah (c :: r) 0 y ah;have f:48<=c.toNat/\c.toNat<=57:=by
   simp only[Ae,aS]at y;exact(F6 c).1 y.1
  unfold parseIntB parseUintB;have d:¬(c.toNat=43∨c.toNat=45):=by omega
  have b:¬c.toNat=45:=by omega
  simp only[d,bR,J];rw[X?,X!,a];simp only[b];have e:yT 0 (c :: r)=td (c :: r):=rfl;rw[e];by_cases G:td (c :: r)<=18446744073709551615;rotate_left
  ·rw[aA G,aA ah]
  rw[aD G];by_cases O:td (c :: r)<9223372036854775808
  ·rw[aD O]
   simp only[not_false_eq_true,rT,false_and,bR];rw[aA ah]
  rw[aA O];simp only[not_false_eq_true,rT];rw[aD ah]
end Wm
open Go.RowKit Go.Proofs Tryz
def F9(s p:ByteArray)(w:World):
  Cl 91 #[.string s,.string p] w fun e I=>∃(D:ByteArray) (b:Bool),e=.returned (.tuple #[.string D,.bool b])/\Hd (D.data.toList=Lib.trimPrefix s.data.toList p.data.toList/\b=Lib.hasPrefix s.data.toList p.data.toList)/\I=w:=
 (Tryz.strings_CutPrefix s p w).mono fun _ _ h=>⟨_,_,h.1,⟨rfl,rfl⟩,h.2⟩
def PQ(l p:List UInt8):(Lib.trimPrefix l p).length<=l.length:=by unfold Lib.trimPrefix;split<;>simp
def IU(D:ByteArray)(b:Bool)(h:D.size=0):Wm.yn b D.data.toList=false:=by
 have:D.data.toList=[]:=dM.1 h;rw[this];rfl
def QN(D:ByteArray)(b:Bool)(k:Nat)(h:k<D.size)(hd:Wm.rF D[k]=false):Wm.yn b D.data.toList=false:=by
 cases e:Wm.yn b D.data.toList with
 |false=>rfl
 |true=>
  have:=Wm.vq _ (k+1) _ (Wm.ym e).1;rw[Wm.pj D k _ h,hd]at this;simp at this
def QM(D:ByteArray)(b:Bool)(h:0<D.size)(ha:(D.data.toList.take D.size).all Wm.rF=true):Wm.yn b D.data.toList=if D[0].toNat==48 then decide (D.size=1)&&!b else true:=by
 rw[cP (by rw[Wm.cV];exact aF _)]at ha;have hl:=Wm.cV D;have Z:=Wm.uI D h;rw[Z]at hl ha;unfold Wm.yn;rw[Z];simp only[bT]at hl;simp only[ha,fj];have:decide ((List.drop 1 D.data.toList).length=0)=decide (D.size=1):=by rw[cR];simp only[bm];omega
 rw[this]
def mf(s:ByteArray)(w:World)(hs:s.size<=maxLen):
  Cl 337 #[.string s] w fun e I=>e=.returned (.bool (Wm.vz s.data.toList))/\I=w:=by
 unfold maxLen at hs;go_enter func337,ntmps337
 go_wp2_with fail
 refine(F9 _ _ _).mono ?_;rintro e I ⟨D,b,rfl,U,rfl⟩;have c:D.size<=2 ^ 63-1:=by
  have G:=PQ s.data.toList [45];have O:=dv List.length U.a;have Y:=Wm.cV D;have g:=Wm.cV s;simp only at O;omega
 have m:Hd (Wm.vz s.data.toList=Wm.yn b D.data.toList):=by
  show _=_;rw[U.a,U.A];rfl
 clear U;by_cases o:D.size=0
 ·go_wp2
  go_ret
  exact⟨aW (m.o.trans (IU D b o)).symm,rfl⟩
 have K:0<D.size:=ah
 have S:((D.size:Int)==0)=false:=by rw[er];omega
 go_wp2
 go_loop [16] (fun i=>∃k:Nat,k<=D.size/\i=Iv k/\Hd ((D.data.toList.take k).all Wm.rF=true)) (fun i=>D.size-(intOf i).toNat)
 case atStart=>exact⟨0,bB _,rfl,by show _=true;simp⟩
 obtain⟨k,X,rfl,j⟩:=hrel;by_cases J:k<D.size
 ·cases hd:Wm.rF D[k]with
  |true=>
   go_wp2_with (go_at_call 192;refine(lN _ _).mono ?_;rintro e I ⟨rfl,rfl⟩)
   go_round
   case rel=>exact⟨k+1,ah,h',by show _=true;rw[Wm.pj D k _ J,j.o,hd];rfl⟩
   simp[intOf];omega
  |false=>
   go_wp2_with (go_at_call 192;refine(lN _ _).mono ?_;rintro e I ⟨rfl,rfl⟩)
   go_ret
   exact⟨aW (m.o.trans (QN D b k J hd)).symm,rfl⟩
 obtain rfl:k=D.size:=ah
 have d:=QM D b K j.o;have n:Hd (Wm.vz s.data.toList=if D[0].toNat==48 then decide (D.size=1)&&!b else true):=m.o.trans d;clear d;by_cases f:D[0].toNat=48;rotate_left
 ·have a:((D[0].toNat:Int)==48)=false:=by rw[er];omega
  go_wp2
  go_ret
  refine⟨aW ?_,rfl⟩;rw[n.o];simp[f]
 have a:((D[0].toNat:Int)==48)=true:=by rw[eJ];omega
 by_cases G:D.size=1
 ·have Q:((D.size:Int)==1)=true:=by rw[eJ];omega
  go_wp2
  go_ret
  refine⟨aW ?_,rfl⟩;rw[n.o];simp[f,G]
 have Q:((D.size:Int)==1)=false:=by rw[er];omega
 go_wp2
 go_ret
 refine⟨aW ?_,rfl⟩;rw[n.o];simp[f,G]
def zP(l:List UInt8):Int:=(Wm.tg l).getD 0
def JJ(l:List UInt8):Bool:=(Wm.tg l).isSome
def Sw{l:List UInt8}(h:Wm.vz l=false):Wm.tg l=none:=by unfold Wm.tg;rw[h];rfl
def sw(s:ByteArray)(ev:Value)(w:World)(hs:s.size<=3000)(hv:w.cell? (Ad 5 0)=some ev)(M:∃j n,ev=.iface j n):
  Cl 304 #[.string s] w (Rb w (.tuple #[Iv (zP s.data.toList),.bool (JJ s.data.toList)])):=by
 have C:s.size<=maxLen:=by unfold maxLen;omega
 cases J:Wm.vz s.data.toList with
 |false=>
  go_enter func304,ntmps304
  go_wp2_with (go_at_call 337;refine(mf _ _ C).mono ?_;rintro e I ⟨rfl,rfl⟩)
  go_ret2
  exact⟨ug (by simp[zP,Sw J]) (by simp[JJ,Sw J]),aM _ _⟩
 | true=>
  have a:=Wm.MY _ J;cases Z:Wm.tg s.data.toList with
  |some v=>
   rw[Z]at a;have f:Hd (Wm.tg s.data.toList=some v):=Z;clear Z;go_enter func304,ntmps304
   go_wp2_with (first|(go_at_call 337;refine(mf _ _ C).mono ?_;rintro e I ⟨rfl,rfl⟩)|(go_at_call 338;refine(Tryz.strconv_ParseInt_10_at64_ok s ah v a _).mono ?_;rintro e I ⟨rfl,c⟩))
   go_ret2
   refine⟨ug (by simp[zP,f.o]) (by simp[JJ,f.o]),?_⟩;rcases c with rfl|⟨t,rfl⟩
   ·exact aM _ _
   exact Lib.bytesWorld_below _ _ _
  |none=>
   rw[Z]at a;have f:Hd (Wm.tg s.data.toList=none):=Z;clear Z;go_enter func304,ntmps304
   go_wp2_with (first|(go_at_call 337;refine(mf _ _ C).mono ?_;rintro e I ⟨rfl,rfl⟩)|(go_at_call 338;refine(Tryz.strconv_ParseInt_10_at64_range s ah a ev _ hv (aI M)).mono ?_;rintro e I ⟨N,rfl,B,b,D⟩))
   go_ret2
   exact⟨ug (by simp[zP,f.o]) (by simp[JJ,f.o]),D⟩
section
variable {w:World} {rb l:Nat}
open Go.RowKit Go.Proofs Go.Maps Tryz
abbrev cC:=List UInt8
def kV(l:cC):Lit:=.string l
def np(D:DataW Unit)(i:Nat):List cC->DataW Unit
 |[]=>D
 |v :: r=>np (D.put (kV v) (.lit (.int .i64 i))) (i+1) r
def tab(vs:List cC):DataW Unit:=np (.map []) 0 vs
def r8(v:cC):∀(l:List cC) (D:DataW Unit) (i:Nat),np D i (l++[v])=(np D i l).put (kV v) (.lit (.int .i64 ((i+l.length:Nat):Int)))
 |[],D,i=>by simp[np]
 |x :: l,D,i=>by
  rw[dw,np,np,r8 v l]
  congr 4
  simp;omega
def oI(vs:List cC)(v:cC):tab (vs++[v])=(tab vs).put (kV v) (.lit (.int .i64 (vs.length:Int))):=by
 unfold tab;rw[r8];simp
def pS(l:cC):WideAt.IsKeyLit (kV l):=by simp[kV,WideAt.IsKeyLit]
def xr(vs:List cC):Tidy (tab vs):=by
 suffices h:∀n (vs:List cC),vs.length=n->Tidy (tab vs)from h _ vs rfl
 intro n
 induction n with
 |zero=>intro vs h;rw[dM.1 h];exact tidy_empty
 |succ n B=>
  intro vs h;obtain⟨l,v,rfl⟩:∃l v,vs=l++[v]:=⟨vs.dropLast,vs.getLast (by intro e;simp[e]at h),(wL _).symm⟩;rw[oI];exact(B l (by simpa using h)).put (pS v) _
def sM{a b:cC}(h:kV a=kV b):a=b:=by simpa[kV]using h
def C2(vs:List cC)(v:cC):Maps.has (tab vs) (kV v)=decide (v∈vs):=by
 suffices h:∀n (vs:List cC),vs.length=n->Maps.has (tab vs) (kV v)=decide (v∈vs)from h _ vs rfl
 intro n
 induction n with
 |zero=>intro vs h;rw[dM.1 h];rfl
 | succ n B=>
  intro vs h;obtain⟨l,x,rfl⟩:∃l v,vs=l++[v]:=⟨vs.dropLast,vs.getLast (by intro e;simp[e]at h),(wL _).symm⟩;rw[oI];by_cases e:v=x
  ·subst e
   rw[Maps.has_put_same (xr l).isMap (pS v)];simp
  rw[Maps.has_put_other (fun f=>e (sM f)),B l (by simpa using h)];simp[e]
def Ej(vs:List cC)(hd:vs.Nodup):Maps.size (tab vs)=vs.length:=by
 suffices h:∀n (vs:List cC),vs.length=n->vs.Nodup->Maps.size (tab vs)=vs.length from h _ vs rfl hd
 intro n
 induction n with
 |zero=>intro vs h _;rw[dM.1 h];rfl
 | succ n B=>
  intro vs h hd;obtain⟨l,x,rfl⟩:∃l v,vs=l++[v]:=⟨vs.dropLast,vs.getLast (by intro e;simp[e]at h),(wL _).symm⟩;have J:x∉l:=by
   rw[Ac]at hd;exact fun E=>hd.2.2 x E x ak rfl
  rw[oI,Maps.size_put (xr l),C2,B l (by simpa using h) (by rw[Ac]at hd;exact hd.1)];simp[J]
def aby(vs:List cC)(hd:vs.Nodup)(v:cC)(hv:v∈vs):(tab vs).atKey (kV v) (.lit (.int .i64 0))=.lit (.int .i64 (vs.idxOf v:Int)):=by
 suffices h:∀n (vs:List cC),vs.length=n->vs.Nodup->v∈vs->(tab vs).atKey (kV v) (.lit (.int .i64 0))=.lit (.int .i64 (vs.idxOf v:Int))from h _ vs rfl hd hv
 intro n
 induction n with
 |zero=>intro vs h _ hv;rw[dM.1 h]at hv;cases hv
 | succ n B=>
  intro vs h hd hv;obtain⟨l,x,rfl⟩:∃l v,vs=l++[v]:=⟨vs.dropLast,vs.getLast (by intro e;simp[e]at h),(wL _).symm⟩;have J:x∉l:=by
   rw[Ac]at hd;exact fun E=>hd.2.2 x E x ak rfl
  rw[oI];by_cases e:v=x
  ·subst e
   rw[Maps.atKey_put_same (xr l).isMap (pS v),J4,aA J];simp
  have hl:v∈l:=by simpa[e]using hv
  rw[Maps.atKey_put_other (fun f=>e (sM f)),B l (by simpa using h) (by rw[Ac]at hd;exact hd.1) hl,J4,aD hl]
def lh(vs:List cC)(v:cC):Int:=if v∈vs then(vs.idxOf v:Int) else vs.length
def dI(vs:List cC)(v:cC):List cC:=if v∈vs then vs else vs++[v]
def Hh{vs:List cC}(h:vs.Nodup)(v:cC):(dI vs v).Nodup:=by
 unfold dI;split
 ·exact h
 rw[Ac];exact⟨h,ak,by rintro a y b D rfl;simp at D;subst D;contradiction⟩
def mK(vs:List cC)(v:cC):(dI vs v).length<=vs.length+1:=by
 unfold dI;split<;>simp
def Fm:Keyed Tryz.prog 9:=string_keyed underlying9
def Ag(w:World):(zeroValue 3).run Tryz.prog w=.ok (.int .i64 0) w:=by kernel_rfl
structure Rd(w:World)(rb mb:Nat)(vs:List cC):Prop where
  box:w.heap[rb]?=some (.cells #[.map (some mb)] 143 (0,0))
  own:w.ownsMap Tryz.prog 9 (plainElem Tryz.prog 3) mb vs.length (tab vs)
  nodup:vs.Nodup
def Rd.cell{vs:List cC}(h:Rd w rb l vs):w.cell? (Ad rb 0)=some (.map (some l)):=by simp[World.cell?,h.box]
def Rd.isMap{vs:List cC}(h:Rd w rb l vs):∃es c,w.heap[l]?=some (.map es c):=by
 obtain⟨es,c,D,_⟩:=h.own;exact⟨es,c,D⟩
def Rd.ne{vs:List cC}(h:Rd w rb l vs):rb≠l:=by
 rintro rfl;obtain⟨es,c,D⟩:=h.isMap;rw[h.box]at D;cases D
def Rd.kept{w':World}{vs:List cC}(h:Rd w rb l vs)(m:w.grownBy w' none):Rd w' rb l vs:=
 ⟨(m.block rb (bq.1 h.box).1 ak).trans h.box,h.own.kept m ak,h.nodup⟩
def bC{W S:World}(hb:Below W.heap.size W S):W.grownBy S none:=⟨hb.os,hb.tape,hb.output,hb.size,fun k X _=>hb.block k X⟩
def iC(s:ByteArray)(rb l:Nat)(vs:List cC)(w:World)(hs:s.size<=maxLen)(hn:vs.length<maxLen)(M:Rd w rb l vs):
  Cl 261 #[.pointer (some (Ad rb 0)),.string s] w fun e I=>
   e=.returned (.int .i64 (lh vs s.data.toList))/\Rd I rb l (dI vs s.data.toList)/\w.grownBy I (some l):=by
 have Z:=M.cell;have x:keyOf Tryz.prog 9 (.string s)=some (kV s.data.toList):=keyOf_string_mk underlying9 hs;have p:=M.own;by_cases C:s.data.toList∈vs
 ·have T:Maps.has (tab vs) (kV s.data.toList)=true:=by rw[C2];simpa using C
  go_enter func261,ntmps261
  go_wp2_with (first
   |(at_lookup;refine wpList_lookup_own_ok_int _ rfl _ _ 141 rfl 9 3 .i64 Fm underlying141 underlying3 (Ag _) l vs.length (tab vs) rfl p _ _ rfl x ?_;intro c u q))
  go_ret
  have e:=u.symm.trans (aby vs M.nodup _ C);simp only[DataW.lit.injEq,Lit.int.injEq,rT]at e;subst e;exact⟨by simp[lh,C],by simpa[dI,C]using M,World.grownBy.refl _ _⟩
 have T:Maps.has (tab vs) (kV s.data.toList)=false:=by rw[C2];simpa using C
 have a:=Ej vs M.nodup;go_enter func261,ntmps261
 go_wp2_with (first
  |(at_lookup;refine wpList_lookup_own_ok_int _ rfl _ _ 141 rfl 9 3 .i64 Fm underlying141 underlying3 (Ag _) l vs.length (tab vs) rfl p _ _ rfl x ?_;intro c u q)
  |(at_len;refine wpList_len_own _ rfl _ 141 rfl 9 3 underlying141 _ l vs.length (tab vs) rfl p ?_)
  |(at_mapUpdate;refine wpList_mapUpdate_own _ rfl _ _ _ 141 rfl 9 3 Fm underlying141 _ l vs.length (tab vs) rfl p hn _ _ _ rfl rfl x _ [] (plainElem_int underlying3 (WalkArith.wf_i64 (by unfold maxLen at hn;omega))) ?_;intro S n Y))
 go_ret
 refine⟨by simp[lh,C],⟨?_,?_,Hh M.nodup _⟩,Y⟩
 ·exact(Y.block rb (bq.1 M.box).1 (by simp;exact M.ne)).trans M.box
 have e:dI vs s.data.toList=vs++[s.data.toList]:=by simp[dI,C]
 rw[e,oI,bu];exact n
end
section
variable {w w':World} {l rb:Nat} {row:Option Nat} {vs:List cC} {a:Addr}
open Go.RowKit Go.Proofs Go.Maps Tryz
structure ot where
  isVar:Bool
  var:Int
  const:Int
def tB(vs:List cC)(s:ByteArray):ot:=if Wm.nm s then⟨true,lh vs s.data.toList,0⟩ else⟨false,0,zP s.data.toList⟩
def fz(s:ByteArray):Bool:=Wm.nm s||JJ s.data.toList
def dP(vs:List cC)(s:ByteArray):List cC:=if Wm.nm s then dI vs s.data.toList else vs
def kT(vs:List cC)(s:ByteArray):(dP vs s).length<=vs.length+1:=by unfold dP;split;exact mK _ _;omega
def en(w:World):Prop:=∃te pe,w.cell? (Ad 5 0)=some (.iface te pe)
def en.kept(h:en w)(hm:∃es c,w.heap[l]?=some (.map es c))(m:w.grownBy w' row)(hr:row=none∨row=some l):en w':=by
 obtain⟨j,n,Z⟩:=h;obtain⟨c,t,f,D⟩:=gG Z;refine⟨j,n,m.cell Z ?_⟩;rcases hr with rfl|rfl
 ·simp
 intro e;simp only[dG]at e;subst e;obtain⟨es,F,hm⟩:=hm;rw[D]at hm;cases hm
def Rd.grown(h:Rd w rb l vs)(hb:Bl w w'):Rd w' rb l vs:=h.kept (bC hb)
def jQ{a c:World}(h:a.grownBy c none)(row:Option Nat):a.grownBy c row:=⟨h.os,h.tape,h.output,h.size,fun i hi _=>h.block i hi ak⟩
def ZV(o:ot):Value:=.agg #[.bool o.isVar,Iv o.var,Iv o.const]
def Rd.alloc(h:Rd w rb l vs)(o:Obj):Rd (w.alloc o) rb l vs:=h.kept (gJ _ _ _)
def en.alloc(h:en w)(o:Obj):en (w.alloc o):=by
 obtain⟨j,n,Z⟩:=h;exact⟨j,n,(gJ w o none).cell Z ak⟩
def Rd.lt(h:Rd w rb l vs):l<w.heap.size:=h.own.lt
def dA{S:World}{cs:Array Value}{t:TypeId}(m:(w.alloc (.cells cs t)).grownBy S row)(hm:∀k,row=some k->k<w.heap.size):S.heap[w.heap.size]?=some (cJ cs t):=by
 rw[m.block w.heap.size ak (fun e=>by have:=hm _ e.symm;omega)];exact bf w _
def cX(h:w.grownBy w' row)(ha:w.heap.size<=a.block)(v:Value):w.grownBy (w'.setCell a v) row:=
 ⟨h.os,h.tape,h.output,by simpa[World.setCell]using h.size,fun k X L=>(aZ _ _ _ _ ah).trans (h.block k X L)⟩
def Rd.set(h:Rd w rb l vs)(h1:a.block≠rb)(h2:a.block≠l)(v:Value):Rd (w.setCell a v) rb l vs:=
 ⟨(aZ _ _ _ _ (qn h1)).trans h.box,h.own.setCell (qn h2) v,h.nodup⟩
def Rd.Lf(h:Rd w rb l vs):rb<w.heap.size:=(bq.1 h.box).1
def cm{o:Obj}(h:(w.alloc o).grownBy w' row):w.grownBy w' row:=(gJ w o row).trans h
def Xn{p:Prop}(h:p:=by
 exact((c.set (by simp;omega) (by simp;omega) _).set (by simp;omega) (by simp;omega) _).set (by simp;omega) (by simp;omega) _):p:=h
def EU(s:ByteArray)(rb l:Nat)(vs:List cC)(w:World)(hs:s.size<=3000)(hn:vs.length<maxLen)(M:Rd w rb l vs)(X:en w):
  Cl 259 #[.pointer (some (Ad rb 0)),.string s] w fun e I=>
   e=.returned (.tuple #[ZV (tB vs s),.bool (fz s)])/\Rd I rb l (dP vs s)/\w.grownBy I (some l):=by
 have C:s.size<=maxLen:=by unfold maxLen;omega
 have G:=M.lt;have O:=M.Lf;cases d:Wm.nm s with
 | true=>
  go_enter func259,ntmps259
  go_wp2_with (first|(go_at_call 124;refine(dB _ _ C).mono ?_;rintro e I ⟨rfl,rfl⟩)|(go_at_call 261;refine(iC s rb l vs _ C hn (M.alloc _)).mono ?_;rintro e S ⟨rfl,c,i⟩;have eB:=dA i (fun k e=>by cases e;exact M.lt);obtain⟨H,q⟩:=ae eB))
  refine aG (v:=.tuple #[.agg #[.bool true,Iv (lh vs s.data.toList),Iv 0],.bool true]) (by simp[results,results259,go_sem,H]) rfl ⟨by simp[tB,ZV,fz,d],?_,?_⟩
  ·rw[show dP vs s=dI vs s.data.toList by simp[dP,d]]
   exact Xn
  exact cX (cX (cX (cm i) (aF _) _) (aF _) _) (aF _) _
 | false=>
  obtain⟨j,n,Z⟩:=X.alloc (Obj.cells #[Value.bool false,Value.int IntKind.i64 0,Value.int IntKind.i64 0] 150);go_enter func259,ntmps259
  go_wp2_with (first|(go_at_call 124;refine(dB _ _ C).mono ?_;rintro e I ⟨rfl,rfl⟩)|(go_at_call 304;refine(sw s (.iface j n) _ hs Z ⟨j,n,rfl⟩).mono ?_;rintro e S ⟨rfl,A⟩;have eB:=dA (bC A) (fun k e=>by cases e);obtain⟨H,q⟩:=ae eB))
  have i:=jQ (bC A) (some l);have c:=(M.alloc _).kept (bC A);refine aG (v:=.tuple #[.agg #[.bool false,Iv 0,Iv (zP s.data.toList)],.bool (JJ s.data.toList)]) (by simp[results,results259,go_sem,H]) rfl ⟨by simp[tB,ZV,fz,d],?_,?_⟩
  ·rw[show dP vs s=vs by simp[dP,d]]
   exact Xn
  exact cX (cX (cX (cm i) (aF _) _) (aF _) _) (aF _) _
def jt(s:ByteArray)(rb l:Nat)(vs:List cC)(w:World)(hs:s.size<=3000)(hn:vs.length<maxLen)(M:Rd w rb l vs)(X:en w):
  Cl 259 #[.pointer (some (Ad rb 0)),.string s] w fun e I=>∃(p:Bool) (va K:Int),
   e=.returned (.tuple #[.agg #[.bool p,Iv va,Iv K],.bool (fz s)])/\Hd (tB vs s=⟨p,va,K⟩)/\Rd I rb l (dP vs s)/\w.grownBy I (some l):=
 (EU s rb l vs w hs hn M X).mono fun _ _ h=>⟨_,_,_,h.1,rfl,h.2.1,h.2.2⟩
def en.grown(h:en w)(M:Rd w rb l vs)(m:w.grownBy w' (some l)):en w':=h.kept M.isMap m (aI rfl)
def en.set(h:en w)(ha:a.block≠5)(v:Value):en (w.setCell a v):=by
 obtain⟨j,n,Z⟩:=h;refine⟨j,n,?_⟩;rw[World.cell?_of_block (w:=w) (aZ _ _ _ _ (qn ha))];exact Z
def en.lt(h:en w):5<w.heap.size:=by
 obtain⟨j,n,Z⟩:=h;exact World.block_lt_of_cell? w _ Z
end
section
variable {w w':World} {g t l:Nat} {ws:List ByteArray}
open Go.RowKit Go.Proofs Go.Maps Tryz
def Ws(w:World)(g off:Nat)(ws:List ByteArray):Prop:=∃cur,w.heap[g]?=some (.cells cur 9 (0,0))/\(cur.toList.drop off).take ws.length=ws.map Value.string
def Ws.cell(h:Ws w g t ws)(j:Nat)(x:ByteArray)(hj:ws[j]?=some x):w.cell? (Ad g (t+j))=some (.string x):=by
 obtain⟨A,D,N⟩:=h;have hl:j<ws.length:=(bn.1 hj).1;have G:((A.toList.drop t).take ws.length)[j]?=some (.string x):=by rw[N];simp[hj]
 rw[List.getElem?_take,aD hl,List.getElem?_drop]at G;simp[World.cell?,D]
 simpa using G
def Ws.lt(h:Ws w g t ws):g<w.heap.size:=by
 obtain⟨A,D,_⟩:=h;exact(bq.1 D).1
def Ws.of_block(h:Ws w g t ws)(hb:w'.heap[g]?=w.heap[g]?):Ws w' g t ws:=by
 obtain⟨A,G,O⟩:=h;exact⟨A,hb.trans G,O⟩
def Ws.Z6(h:Ws w g t ws)(hm:∃es c,w.heap[l]?=some (.map es c)):g≠l:=by
 rintro rfl;obtain⟨A,G,_⟩:=h;obtain⟨es,c,O⟩:=hm;rw[G]at O;cases O
def Ws.grown(h:Ws w g t ws)(hm:∃es c,w.heap[l]?=some (.map es c))(m:w.grownBy w' (some l)):Ws w' g t ws:=
 h.of_block (m.block g h.lt (by simp;exact h.Z6 hm))
def Ws.alloc(h:Ws w g t ws)(o:Obj):Ws (w.alloc o) g t ws:=h.of_block (ch w o g h.lt)
def Ws.set(h:Ws w g t ws){a:Addr}(ha:g≠a.block)(v:Value):Ws (w.setCell a v) g t ws:=h.of_block (aZ _ _ _ _ ha)
def Ws.tail{x:ByteArray}(h:Ws w g t (x :: ws)):Ws w g (t+1) ws:=by
 obtain⟨A,G,O⟩:=h;refine⟨A,G,?_⟩;have:=dv (List.drop 1) O
 simpa[List.drop_take,List.drop_drop,wU]using this
structure SN where
  kind:Int
  var:Int
  op:Int
  test:Int
  a:ot
  b:ot
  goal:ByteArray
def o0:ot:=⟨false,0,0⟩
def emp:ByteArray:=⟨#[]⟩
def aK(bj:ByteArray)(wv:Value)(n:SN)(ev:Value):Array Value:=
 #[.string bj,wv,Iv n.kind,Iv n.var,Iv n.op,Iv n.test,.bool n.a.isVar,Iv n.a.var,Iv n.a.const,.bool n.b.isVar,Iv n.b.var,Iv n.b.const,ev,.string n.goal]
def gq:Value:=.slice none 0 0
def jl(n:SN):Value:=.agg (aK emp gq n gq)
def om:SN:=⟨0,0,0,0,o0,o0,emp⟩
def l8(rb:Nat)(a:Option Addr)(len C:Nat)(w:World)(h:((len:Int) !=2)=true)(hl:len<=3001):
  Cl 194 #[.pointer (some (Ad rb 0)),.slice a len C] w fun e I=>
   e=.returned (.tuple #[jl om,.bool false])/\Bl w I:=by
 go_enter func194,ntmps194
 go_wp2
 exact aG (v:=.tuple #[jl om,.bool false]) (by simp[results,results194,go_sem,jl,aK,om,o0,emp,gq]) rfl ⟨rfl,(aM _ _).alloc (aF _) _⟩
def xP(rb l g t C:Nat)(V S:ByteArray)(vs:List cC)(w:World)(hs:S.size<=3000)(hn:vs.length<maxLen)(M:Rd w rb l vs)(X:en w)(hW:Ws w g t [V,S]):
  Cl 194 #[.pointer (some (Ad rb 0)),.slice (some (Ad g t)) 2 C] w fun e I=>
   e=.returned (.tuple #[jl ⟨3,0,0,0,tB vs S,o0,emp⟩,.bool (fz S)])/\Rd I rb l (dP vs S)/\w.grownBy I (some l):=by
 have Z:=hW.cell 1 S rfl;have m:=hW.lt;have a:=M.lt;have L:=M.Lf;go_enter func194,ntmps194
 go_wp2_with (first|(go_at_call 259;refine(jt S rb l vs _ hs hn (M.alloc _) (X.alloc _)).mono ?_;rintro e z ⟨p,va,K,rfl,j,c,i⟩;have eB:=dA i (fun k e=>by cases e;exact M.lt);obtain⟨H,q⟩:=ae eB;have R:w.heap.size<z.heap.size:=(bq.1 eB).1))
 refine aG (v:=.tuple #[jl ⟨3,0,0,0,⟨p,va,K⟩,o0,emp⟩,.bool (fz S)]) (by simp[results,results194,go_sem,jl,aK,o0,emp,gq,H,R]) rfl ⟨by rw[j.o],?_,?_⟩
 ·refine Rd.alloc ?_ _
  repeat(refine Rd.set ?_ (by simp;omega) (by simp;omega) _)
  exact c
 refine wJ ?_ (gJ _ _ _)
 repeat(refine cX ?_ (aF _) _)
 exact cm i
end
section
variable {w:World} {b:Nat} {cs:Array Value} {t:TypeId}
open Go.RowKit Go.Proofs Go.Maps Tryz
def oK(a:Option Addr)(len C:Nat)(w:World)(h:((len:Int) !=2)=true)(hl:len<=3001):
  Cl 196 #[.slice a len C] w fun e I=>
   e=.returned (.tuple #[jl om,.bool false])/\Bl w I:=by
 go_enter func196,ntmps196
 go_wp2
 exact aG (v:=.tuple #[jl om,.bool false]) (by simp[results,results196,go_sem,jl,aK,om,o0,emp,gq]) rfl ⟨rfl,(aM _ _).alloc (aF _) _⟩
def Ce(g t C:Nat)(V S:ByteArray)(w:World)(hs:S.size<=3000)(hW:Ws w g t [V,S]):
  Cl 196 #[.slice (some (Ad g t)) 2 C] w fun e I=>
   e=.returned (.tuple #[jl ⟨5,0,0,0,o0,o0,S⟩,.bool (Wm.nm S)])/\Bl w I:=by
 have Z:=hW.cell 1 S rfl;have m:=hW.lt;have a:S.size<=maxLen:=by unfold maxLen;omega
 have P:=World.new_ne w (Ad g (t+1)) Z;go_enter func196,ntmps196
 go_wp2
 go_region_held3 (fun I=>I.cell? (Ad g (t+1))=some (.string S)) (go_keep) ((go_at_call 124;refine(dB _ _ a).mono ?_;rintro e I ⟨rfl,rfl⟩))
 go_wp2
 exact aG (v:=.tuple #[jl ⟨5,0,0,0,o0,o0,S⟩,.bool (Wm.nm S)]) (by simp[results,results196,go_sem,jl,aK,o0,emp,gq]) rfl ⟨rfl,((aM _ _).alloc (aF _) _).drew⟩
def kW{w':World}{l:Nat}(h:w.heap[b]?=some (cJ cs t))(hm:∃es c,w.heap[l]?=some (.map es c))(m:w.grownBy w' (some l)):w'.heap[b]?=some (cJ cs t):=by
 refine(m.block b (bq.1 h).1 ?_).trans h;simp only[ne_eq,dG];rintro rfl;obtain⟨es,c,e⟩:=hm;rw[h]at e;cases e
def nH(h:w.heap[b]?=some (cJ cs t))(o:Obj):(w.alloc o).heap[b]?=some (cJ cs t):=
 (ch w o b (bq.1 h).1).trans h
def Xm{p:Prop}(h:p:=by
 go_enter func195,ntmps195
 go_wp2
 exact aG (v:=.tuple #[jl om,.bool false]) (by simp[results,results195,go_sem,jl,aK,om,o0,emp,gq]) rfl ⟨rfl,(aM _ _).alloc (aF _) _⟩):p:=h
def ME(rb:Nat)(a:Option Addr)(len C:Nat)(w:World)(h:((len:Int) !=6)=true)(hl:len<=3001):
  Cl 195 #[.pointer (some (Ad rb 0)),.slice a len C] w fun e I=>
   e=.returned (.tuple #[jl om,.bool false])/\Bl w I:=by
 exact Xm
def H!(rb g t C:Nat)(V S z s J Z:ByteArray)(w:World)(hW:Ws w g t [V,S,z,s,J,Z])(K:(J.toList==[103,111,116,111])=false):
  Cl 195 #[.pointer (some (Ad rb 0)),.slice (some (Ad g t)) 6 C] w fun e I=>
   e=.returned (.tuple #[jl om,.bool false])/\Bl w I:=by
 have a:=hW.cell 4 J rfl;have m:=hW.lt;exact Xm
end
namespace Wm
def fB(c:UInt8):Bool:=c.toNat==32||c.toNat==9||c.toNat==13
def mr(cur:List UInt8):List UInt8->List (List UInt8)
 |[]=>if cur=[] then[] else[cur]
 |c :: r=>if fB c then(if cur=[] then mr [] r else cur :: mr [] r) else mr (cur++[c]) r
def CB(x:Nat):Bool:=x==32||x==9||x==13
theorem LQ(n k u x S:Nat)(h:128<=k):128<=(decodeN n k u x S).1/\(2<=(decodeN n k u x S).2->128<=u)/\(3<=(decodeN n k u x S).2->128<=x)/\(4<=(decodeN n k u x S).2->128<=S)/\(decodeN n k u x S).2<=4:=by
 unfold decodeN
 repeat' split
 all_goals(simp only;omega)
theorem V?(n k u x S:Nat)(h:k<128):decodeN n k u x S=(k,1):=by unfold decodeN;rw[aD h]
theorem abv(c:UInt8)(h:128<=c.toNat):fB c=false:=by simp[fB];omega
theorem mW(s:ByteArray)(k:Nat)(h:k<s.size):s.get! k=s[k]:=by
 simp[ByteArray.get!,ByteArray.getElem_eq_getElem_data];rw[getElem!_pos]
theorem N!(A:List UInt8):∀(a b:List UInt8),(∀x∈a,fB x=false)->mr A (a++b)=mr (A++a) b:=by
 intro a
 induction a generalizing A with
 |nil=>intro b _;simp
 |cons c a B=>
  intro b h;have Z:=h c ak;rw[dw,mr,Z];simp only[bN,bR];rw[B _ b (fun x E=>h x (by simp[E]))];simp
def sub(l:List UInt8)(a b:Nat):List UInt8:=(l.drop a).take (b-a)
theorem sub_self(l:List UInt8)(a:Nat):sub l a a=[]:=by simp[sub]
theorem D9(l:List UInt8)(a b c:Nat)(h1:a<=b)(h2:b<=c):sub l a c=sub l a b++sub l b c:=by
 unfold sub;have Q:l.drop b=(l.drop a).drop (b-a):=by rw[List.drop_drop];congr 1;omega
 rw[Q,show c-a=(b-a)+(c-b)by omega,List.take_add]
theorem Si(l:List UInt8)(a b:Nat)(h:a<=b):l.drop a=sub l a b++l.drop b:=by
 unfold sub;have Q:l.drop b=(l.drop a).drop (b-a):=by rw[List.drop_drop];congr 1;omega
 rw[Q,wY]
def qD(l:List UInt8)(st:Option Nat)(pos:Nat):List UInt8:=match st with|none=>[]|some a=>sub l a pos
theorem PU(l:List UInt8)(a b:Nat)(h:a<b)(hb:b<=l.length):sub l a b≠[]:=by
 intro e;have:=dv List.length e;simp[sub]at this;omega
theorem SM(s:ByteArray)(pos:Nat)(hp:pos<s.size)(h:128<=s[pos].toNat):∀x∈sub s.data.toList pos (pos+(Utf8.decode s pos).2),fB x=false:=by
 have hd:=LQ (s.size-pos) (s.get! pos).toNat (s.get! (pos+1)).toNat (s.get! (pos+2)).toNat (s.get! (pos+3)).toNat (by rw[mW s pos hp];exact h);rw[<-decode_at]at hd;obtain⟨_,G,O,Y,K⟩:=hd;intro x E;obtain⟨j,U,rfl⟩:=List.getElem_of_mem E;have f:j<(Utf8.decode s pos).2/\pos+j<s.size:=by
  simp[sub]at U;have:=cV s;have T:s.data.toList.length=s.data.size:=by simp
  omega
 have e:(sub s.data.toList pos (pos+(Utf8.decode s pos).2))[j]=s[pos+j]:=by
  simp[sub];rfl
 rw[e];apply abv;rcases j with _|_|_|_|j
 ·simpa using h
 ·rw[<-mW s (pos+1) f.2];exact G ah
 ·rw[<-mW s (pos+2) f.2];exact O ah
 ·rw[<-mW s (pos+3) f.2];exact Y ah
 omega
theorem abY{p:Prop}(h:p:=by
 cases st with
 |none=>simp[qD,mr]
 |some a=>
  have:=PU s.data.toList a s.size (Y a rfl) ah
  simp[qD,mr,this]):p:=h
theorem spans_eq(s:ByteArray):∀(f pos:Nat) (st:Option Nat) (c:List (Nat×Nat)),s.size<=pos+f->pos<=s.size->(∀a,st=some a->a<pos) →
  (closeSpans s (spansFromP CB s f pos st c)).map (fun x=>sub s.data.toList x.1 x.2)=c.map (fun x=>sub s.data.toList x.1 x.2)++mr (qD s.data.toList st pos) (s.data.toList.drop pos):=by
 have d:=cV s;intro f
 induction f with
 |zero=>
  intro pos st c G O Y;obtain rfl:pos=s.size:=by omega
  rw[show s.data.toList.drop s.size=[] from BI ah];unfold spansFromP closeSpans;exact abY
 | succ f B=>
  intro pos st c G O Y;by_cases J:pos<s.size;rotate_left
  ·rw[spansFromP_end _ _ _ _ _ _ J]
   obtain rfl:pos=s.size:=by omega
   rw[show s.data.toList.drop s.size=[] from BI ah];unfold closeSpans;exact abY
  have M:=width_pos s pos;have g:pos+(Utf8.decode s pos).2<=s.size:=by
   have:=decodeN_le_n' (s.size-pos) (s.get! pos).toNat (s.get! (pos+1)).toNat (s.get! (pos+2)).toNat (s.get! (pos+3)).toNat ah;rw[<-decode_at]at this;omega
  unfold spansFromP;rw[aD J];by_cases D:s[pos].toNat<128;rotate_left
  ·have Z:=SM s pos J ah
   have hd:=LQ (s.size-pos) (s.get! pos).toNat (s.get! (pos+1)).toNat (s.get! (pos+2)).toNat (s.get! (pos+3)).toNat (by rw[mW s pos J];omega);rw[<-decode_at]at hd;have K:CB (Utf8.decode s pos).1=false:=by simp[CB];omega
   rw[K];simp only[bN,bR];rw[Si s.data.toList pos (pos+(Utf8.decode s pos).2) ah,N! _ _ _ Z];cases st with
   |none=>
    simp only;rw[B _ (some pos) c ah g (fun a h=>by cases h;omega)];simp[qD]
   |some a=>
    simp only;rw[B _ (some a) c ah g (fun b h=>by cases h;have:=Y a rfl;omega)];simp only[qD];rw[D9 s.data.toList a pos _ (by have:=Y a rfl;omega) ah]
  have i:Utf8.decode s pos=(s[pos].toNat,1):=by rw[decode_at,mW s pos J];exact V? _ _ _ _ _ D
  have e:s.data.toList.drop pos=s[pos] :: s.data.toList.drop (pos+1):=by
   rw[oC ah];rfl
  have r:sub s.data.toList pos (pos+1)=[s[pos]]:=by
   unfold sub;rw[e];simp
  rw[i];simp only;have z:CB s[pos].toNat=fB s[pos]:=rfl;cases j:fB s[pos]with
  | true=>
   rw[z,j,aD rfl,e,mr,j];cases st with
   |none=>
    simp only;rw[B (pos+1) none c ah ah (fun a h=>by cases h)];simp[qD]
   |some a=>
    simp only;rw[B (pos+1) none _ ah ah (fun a h=>by cases h)];have:=PU s.data.toList a pos (Y a rfl) ah;simp[qD,this]
  | false=>
   rw[z,j,e,mr,j];simp only[bN,bR];cases st with
   |none=>
    simp only;rw[B (pos+1) (some pos) c ah ah (fun a h=>by cases h;omega)];simp[qD,r]
   |some a=>
    simp only;rw[B (pos+1) (some a) c ah ah (fun b h=>by cases h;have:=Y a rfl;omega)];simp only[qD];rw[D9 s.data.toList a pos (pos+1) (by have:=Y a rfl;omega) ah,r]
theorem NZ(s:ByteArray):(goFieldsP CB s).map (·.data.toList)=mr [] s.data.toList:=by
 have h:=spans_eq s s.size 0 none [] ah ah (fun a h=>by cases h);simp only[qD,List.drop_zero,List.map_nil,dT]at h;rw[<-h];unfold goFieldsP spansOfP;rw[kJ];apply eM;intro x _;simp only[Function.comp];rw[extract_data];simp[sub,List.take_drop]
def CT(cur:List UInt8):List UInt8->List (List UInt8)
 |[]=>[cur]
 |c :: r=>if c=10 then cur :: CT [] r else CT (cur++[c]) r
theorem KX(c d:UInt8)(r:List UInt8):([c].isPrefixOf (d :: r))=(c==d):=by simp[List.isPrefixOf]
theorem Fg:∀(l A:List UInt8),(index l [10]=-1/\CT A l=[A++l])∨∃a b,l=a++10 :: b/\index l [10]=(a.length:Int)/\CT A l=(A++a) :: CT [] b:=by
 intro l
 induction l with
 |nil=>intro A;exact aJ ⟨by simp[index],by simp[CT]⟩
 | cons c r B=>
  intro A;by_cases Z:c=10
  ·subst Z
   exact aI ⟨[],r,rfl,by simp[index,KX],by simp[CT]⟩
  have K:([10].isPrefixOf (c :: r))=false:=by rw[KX];simp;exact fun e=>Z e.symm
  rcases B (A++[c])with⟨G,O⟩|⟨a,b,o,G,O⟩
  ·refine aJ ⟨?_,?_⟩
   ·simp[index,K,G]
   rw[CT,aA Z,O];simp
  refine aI ⟨c :: a,b,by rw[o];rfl,?_,?_⟩
  ·have P:¬(index r [10]==-1)=true:=by rw[G];simp
   rw[index,K];simp only[bN,bR];rw[aA P,G];simp
  rw[CT,aA Z,O];simp
theorem Mn:∀(n:Nat) (l:List UInt8),l.length<=n->splitK [10] 0 (count l [10]) l=CT [] l:=by
 intro n
 induction n with
 |zero=>
  intro l h;obtain rfl:l=[]:=dM.1 ah;rw[count_miss (by simp[index])];rfl
 |succ n B=>
  intro l h;rcases Fg l []with⟨G,O⟩|⟨a,b,o,G,O⟩
  ·rw[count_miss G,O];rfl
  rw[count_hit ak G,wU 1,splitK,O];have P:¬(index l [10]==-1)=true:=by rw[G];simp
  rw[aA P,G];have Q:l.take ((a.length:Int).toNat+0)=a:=by rw[o];simp
  have z:l.drop ((a.length:Int).toNat+([10]:List UInt8).length)=b:=by rw[o];simp
  have I:l.drop (a.length+([10]:List UInt8).length)=b:=by rw[o];simp
  rw[Q,z,I,B b (by rw[o]at h;simp at h;omega)];simp
theorem yq(s:ByteArray):(splitB ⟨#[10]⟩ 0 (countB s ⟨#[10]⟩) s).map (·.data.toList)=CT [] s.data.toList:=by
 rw[splitB_data];exact Mn _ _ (aF _)
end Wm
section
namespace Wm
open Go.Lib
theorem aai:∀(l A x:List UInt8),x∈CT A l->x.length<=A.length+l.length:=by
 intro l
 induction l with
 |nil=>intro A x E;simp[CT]at E;subst E;simp
 | cons c r B=>
  intro A x E;rw[CT]at E;split at E
  ·rcases cQ.1 E with rfl|h
   ·simp
   have:=B [] x h;simp at this⊢;omega
  have:=B _ x E;simp at this⊢;omega
theorem Wa:∀(l A x:List UInt8),x∈mr A l->x.length<=A.length+l.length/\x≠[]:=by
 intro l
 induction l with
 |nil=>
  intro A x E;rw[mr]at E;split at E
  ·simp at E
  rename_i h;simp at E;subst E;exact⟨by simp,h⟩
 |cons c r B=>
  intro A x E;rw[mr]at E;split at E;rotate_left
  ·have:=B _ x E;simp only[bu,bT,eI]at this⊢;exact⟨by omega,this.2⟩
  split at E
  ·have:=B [] x E;simp only[eI,bT]at this⊢;exact⟨by omega,this.2⟩
  rename_i h
  rcases cQ.1 E with rfl|E
  ·exact⟨by simp,h⟩
  have:=B [] x E;simp only[eI,bT]at this⊢;exact⟨by omega,this.2⟩
theorem Sr:∀(l A:List UInt8),(mr A l).length<=l.length+1:=by
 intro l
 induction l with
 |nil=>intro A;rw[mr];split<;>simp
 | cons c r B=>
  intro A;rw[mr];split
  ·split
   ·have:=B [];simp;omega
   have:=B [];simp;omega
  have:=B (A++[c]);simp;omega
theorem U0:∀(l A:List UInt8),(CT A l).length=count l [10]+1:=by
 intro l
 suffices h:∀n (l A:List UInt8),l.length<=n->(CT A l).length=count l [10]+1 from fun A=>h _ l A (aF _)
 intro n
 induction n with
 |zero=>
  intro l A h;obtain rfl:l=[]:=dM.1 ah;rw[count_miss (by simp[index])];simp[CT]
 |succ n B=>
  intro l A h;rcases Fg l A with⟨G,O⟩|⟨a,b,o,G,O⟩
  ·rw[count_miss G,O];rfl
  have I:l.drop (a.length+([10]:List UInt8).length)=b:=by rw[o];simp
  rw[count_hit ak G,O,I,bT,B b [] (by rw[o]at h;simp at h;omega)];omega
theorem JK(l:List UInt8):count l [10]<=l.length+1:=count_le l [10]
end Wm
end
open Go.RowKit Go.Proofs Tryz
def Bs(w:World)(B b:Nat)(l:List UInt8):Prop:=
 B<=b/\∃p v,(p=.pointer none∨p=.pointer (some (Ad b 0)))/\w.heap[b]?=some (.cells #[p,v] 159 (0,0))/\w.ownsRow B 5 1 v l.length (Lib.byteCells l)/\v.ownBlock≠some b
def sizeBuilder:(Tryz.prog.info? 159).map (·.size)=some 2:=au
def liesBuilder:liesAt Tryz.prog Tryz.prog.depth 159 (2 / Tryz.prog.cellsOf 159) 0 159 1=true:=au
def vJ(b:Nat)(v:Value)(w:World)(h:w.heap[b]?=some (.cells #[.pointer none,v] 159 (0,0))):
  Cl 130 (bE b) w fun e I=>e=.returned (.tuple #[])/\I=w.setCell (Ad b 0) (nV b):=by
 have Z:w.cell? (Ad b 0)=some (.pointer none):=by simp[World.cell?,h]
 have V:w.frozen? (Ad b 0)=false:=by simp[World.frozen?,h]
 have k:w.shape? b=some (159,2):=by simp[World.shape?,h]
 clear h;obtain⟨j,U,a⟩:=BJ.1 sizeBuilder;go_enter func130,ntmps130
 go_wp2
 rw[Lib.run_to_unsafe w (Ad b 0) underlying156 underlying314 U (by rw[a];decide) k (Nat.zero_lt_succ 1)];simp only[Result.andThen];rw[GO]
 go_wp2
 rw[run_callFunc_extern func199 au au au (e:=Extern.AbiNoEscape.same) au];rw[Lib.run_noEscape];simp only[Result.andThen];rw[GO]
 go_wp2
 rw[Lib.run_from_unsafe w (Ad b 0) underlying314 underlying156 U k liesBuilder];simp only[Result.andThen];rw[GO]
 go_wp2
 go_end0
 exact⟨rfl,rfl⟩
def yV(b:Nat)(v:Value)(w:World)(h:w.heap[b]?=some (.cells #[.pointer (some (Ad b 0)),v] 159 (0,0))):
  Cl 130 (bE b) w fun e I=>e=.returned (.tuple #[])/\I=w:=by
 have Z:w.cell? (Ad b 0)=some (nV b):=by simp[World.cell?,h]
 clear h;obtain⟨j,U,_⟩:=BJ.1 sizeBuilder;go_enter func130,ntmps130
 go_wp2
 rw[Lib.run_neq_ptr_same w _ underlying156 U]
 go_wp2
 go_end0
 exact⟨rfl,rfl⟩
def aeP(w:World)(B b:Nat)(l:List UInt8):Prop:=
 B<=b/\∃v,w.heap[b]?=some (.cells #[.pointer (some (Ad b 0)),v] 159 (0,0))/\w.ownsRow B 5 1 v l.length (Lib.byteCells l)/\v.ownBlock≠some b
def qE(B b:Nat)(l:List UInt8)(w:World)(h:Bs w B b l):
  Cl 130 (bE b) w fun e I=>e=.returned (.tuple #[])/\aeP I B b l/\Kp b w I/\Below B w I:=by
 obtain⟨f,p,v,K,D,a,J⟩:=h;rcases K with rfl|rfl;rotate_left
 ·refine(yV b v w D).mono ?_
  rintro e I ⟨rfl,rfl⟩;exact⟨rfl,⟨f,v,D,a,J⟩,Kp.refl _ _,aM _ _⟩
 refine(vJ b v w D).mono ?_;rintro e I ⟨rfl,rfl⟩;refine⟨rfl,⟨f,v,?_,?_,J⟩,yx (Kp.refl b w) 0 _,(aM B w).setCell (p:=(Ad b 0)) f _⟩
 ·simp[World.setCell,rU,D]
 refine⟨a.1,?_⟩;rcases a.2 with h|⟨g,C,A,t,G,O,Y⟩
 ·exact aJ h
 refine aI ⟨g,C,A,t,G,(aZ _ _ _ _ ?_).trans O,Y⟩;rintro rfl;exact J (by rw[t];rfl)
def Oe(l:List UInt8)(s:ByteArray):Lib.byteCells l++Lib.strCells s=Lib.byteCells (l++s.data.toList):=by
 simp[Lib.byteCells,Lib.strCells]
def gF(B b:Nat)(l:List UInt8)(s:ByteArray)(w:World)(h:Bs w B b l)(hlen:l.length+s.size<=140737488355328)(y:B<=w.heap.size):
  Cl 81 #[.pointer (some (Ad b 0)),.string s] w fun e I=>(∃n,e=.returned (.tuple #[Iv n,.nilIface]))/\Bs I B b (l++s.data.toList)/\Kp b w I/\Below B w I:=by
 obtain⟨L,hi,D,O,K⟩:=cY infoByte;go_enter func81,ntmps81
 go_wp2_with (go_at_call 130;refine(qE B b l _ h).mono ?_)
 rintro e S ⟨rfl,G,U,c⟩;obtain⟨f,v,a,p,P⟩:=G;have E:S.cell? (Ad b 0)=some (nV b):=by rw[jV a];rfl
 have u:S.cell? (Ad b 1)=some v:=by rw[jV a];rfl
 go_wp2_with (at_builtin;refine Lib.wpList_append_own_string _ rfl _ _ 157 9 rfl B 5 L underlying157 underlying9 hi D O K _ _ _ rfl p s rfl ?c3 ?c4 ?c5 ?_)
 case c3=>unfold maxLen;omega
 case c4=>omega
 case c5=>have:=c.size;omega
 intro R z q i _;have J:b<S.heap.size:=(bq.1 a).1;have N:z.heap[b]?=some (.cells #[.pointer (some (Ad b 0)),v] 159 (0,0)):=by
  rw[i.block b J (fun e=>P e.symm)];exact a
 have o:z.cell? (Ad b 0)=some (nV b):=by rw[jV N];rfl
 have H:z.cell? (Ad b 1)=some v:=by rw[jV N];rfl
 have m:z.frozen? (Ad b 1)=false:=BN N 1;obtain⟨Z,x,C,rfl⟩:∃Z x C,R=.slice Z x C:=by
  rcases q.2 with⟨t,_⟩|⟨g,C,A,t,_⟩
  ·exact⟨_,_,_,t⟩
  exact⟨_,_,_,t⟩
 go_wp2
 go_ret2
 have d:(Value.slice Z x C).ownBlock≠some b:=by
  rcases q.2 with⟨t,_⟩|⟨g,F,A,t,_,r,_⟩
  ·rw[t];simp[Value.ownBlock]
  rw[t];simp only[Value.ownBlock,ne_eq,dG];rintro rfl;rw[N]at r;simp at r
 refine⟨⟨_,rfl⟩,⟨f,_,_,aI rfl,?_,?_,d⟩,yx (U.trans (yz i p)) 1 _,(c.grown i (by have:=c.size;omega) (fun k X=>(p.lt k X).1)).setCell (p:=(Ad b 1)) f _⟩
 ·simp[World.setCell,rU,N]
 rw[Oe]at q;rw[bu,Wm.cV];refine⟨by simpa using q.1,?_⟩;rcases q.2 with h|⟨g,F,A,t,G,j,Y⟩
 ·exact aJ h
 refine aI ⟨g,F,A,t,G,(aZ _ _ _ _ ?_).trans j,Y⟩;rintro rfl;exact d (by rw[t];rfl)
def qq(B b:Nat)(l:List UInt8)(c:UInt8)(w:World)(h:Bs w B b l)(hlen:l.length+1<=140737488355328)(y:B<=w.heap.size):
  Cl 82 #[.pointer (some (Ad b 0)),.int .u8 c.toNat] w fun e I=>e=.returned .nilIface/\Bs I B b (l++[c])/\Kp b w I/\Below B w I:=by
 obtain⟨L,hi,D,O,K⟩:=cY infoByte;go_enter func82,ntmps82
 go_wp2_with (go_at_call 130;refine(qE B b l _ h).mono ?_)
 rintro e S ⟨rfl,G,U,A⟩;obtain⟨f,v,s,p,P⟩:=G;have T:S.cell? (Ad b 0)=some (nV b):=by rw[jV s];rfl
 have c1:S.cell? (Ad b 1)=some v:=by rw[jV s];rfl
 go_wp2_with (at_builtin;refine nj _ rfl _ _ 157 rfl B 5 L (.int .u8 0) 1 1 underlying157 hi D O K rfl aj _ _ _ rfl (p.alloc _) (Ad S.heap.size 0) 1 1 [.int .u8 c.toNat] rfl rfl ?c1 ?c2 ?c3 ?c4 ?c5 ?_)
 case c1=>
  intro j u hj
  match j,hj with
  |0,hj=>simp at hj;subst hj;simp[Addr.add]
 case c2=>intro u E;simp at E;subst E;rfl
 case c3=>unfold maxLen;omega
 case c4=>omega
 case c5=>have:=A.size;simp;omega
 intro R z q i _;have J:b<S.heap.size:=(bq.1 s).1;have N:z.heap[b]?=some (.cells #[.pointer (some (Ad b 0)),v] 159 (0,0)):=by
  rw[i.block b (by simp;omega) (fun e=>P e.symm)];exact(ch _ _ _ J).trans s
 have Q:z.cell? (Ad b 0)=some (nV b):=by rw[jV N];rfl
 have V:z.cell? (Ad b 1)=some v:=by rw[jV N];rfl
 have m:z.frozen? (Ad b 1)=false:=BN N 1;obtain⟨Z,x,C,rfl⟩:∃Z x C,R=.slice Z x C:=by
  rcases q.2 with⟨t,_⟩|⟨g,C,H,t,_⟩
  ·exact⟨_,_,_,t⟩
  exact⟨_,_,_,t⟩
 go_wp2
 go_ret
 have d:(Value.slice Z x C).ownBlock≠some b:=by
  rcases q.2 with⟨t,_⟩|⟨g,F,H,t,_,r,_⟩
  ·rw[t];simp[Value.ownBlock]
  rw[t];simp only[Value.ownBlock,ne_eq,dG];rintro rfl;rw[N]at r;simp at r
 have n:Kp b S (S.alloc (.cells #[.int .u8 c.toNat] 5)):=⟨rfl,rfl,rfl,ak,fun k o a _ _=>(ch _ _ _ (bq.1 a).1).trans a⟩;refine⟨rfl,⟨f,_,_,aI rfl,?_,?_,d⟩,yx (U.trans (n.trans (yz i (p.alloc _)))) 1 _,((A.alloc (by have:=A.size;omega) _).grown i (by have:=A.size;simp;omega) (fun k X=>(p.lt k X).1)).setCell (p:=(Ad b 1)) f _⟩
 ·simp[World.setCell,rU,N]
 have e:Lib.byteCells (l++[c])=Lib.byteCells l++[Value.int .u8 c.toNat]:=by simp[Lib.byteCells]
 rw[bu,e];refine⟨by simpa using q.1,?_⟩;rcases q.2 with h|⟨g,F,H,t,G,M,Y⟩
 ·exact aJ h
 refine aI ⟨g,F,H,t,G,(aZ _ _ _ _ ?_).trans M,Y⟩;rintro rfl;exact d (by rw[t];rfl)
def Bs.isF{w:World}{B b:Nat}{l:List UInt8}(h:Bs w B b l):Lib.IsBuilderF 159 5 B b (Lib.byteCells l) w:=by
 obtain⟨f,p,v,K,D,g,J⟩:=h;have hl:(Lib.byteCells l).length=l.length:=by simp[Lib.byteCells]
 have hF:w.ownsRowF B 5 1 v (Lib.byteCells l).length (Lib.byteCells l):=by rw[hl];exact World.ownsRowF_of g
 rcases K with rfl|rfl
 ·exact aJ ⟨f,v,D,hF,J⟩
 exact aI ⟨f,v,D,hF,J⟩
def tj(B b:Nat)(l:List UInt8)(w:World)(h:Bs w B b l)(h0:l≠[]):
  Cl 83 (bE b) w fun e I=>e=.returned (.string ⟨l.toArray⟩)/\Below B w I:=
 (Tryz.Builder_String_k B b l w h.isF h0).mono fun _ _ h=>⟨h.1,h.2.2.1⟩
open Go.RowKit Go.Proofs Go.Maps Tryz
def jk(v:Vl):Value:=.agg (iy v.kind v.lo v.hi v.early v.first v.rank)
def cg(p g:Int)(w:World):Cl 203 #[.agg #[Iv p,Iv g]] w fun e I=>e=.returned (.bool (decide (g=1)))/\I=w.alloc (df p g):=by
 go_enter func203,ntmps203
 go_wp2
 go_ret
 exact⟨aW (by rw[cR];simp),rfl⟩
def eR(p g:Int)(w:World):Cl 134 #[.agg #[Iv p,Iv g]] w fun e I=>e=.returned (.bool (decide (p<=4)))/\I=w.alloc (df p g):=by
 go_enter func134,ntmps134
 go_wp2
 go_ret
 exact⟨rfl,rfl⟩
def lM(p g:Int)(w:World):Cl 131 #[.agg #[Iv p,Iv g]] w fun e I=>e=.returned (.bool (known p g))/\I=w.alloc (df p g):=by
 go_enter func131,ntmps131
 go_wp2
 all_goals
  go_ret
  refine⟨aW ?_,by first|rfl|simp_all⟩;unfold known;rw[cR];simp;omega
def Ft(p g r:Int)(v:Vl)(he:v.early=true)(w:World):Cl 305 #[.agg #[Iv p,Iv g],.agg (iy v.kind v.lo v.hi v.early v.first v.rank),Iv r] w fun e I=>e=.returned (.bool (nF g r v))/\Below w.heap.size w I:=by
 go_enter func305,ntmps305
 go_wp2_with (go_at_call 203;refine(cg _ _ _).mono ?_;rintro e S ⟨rfl,rfl⟩)
 all_goals
  go_ret
  refine⟨aW ?_,by first|exact cq _ _ _ _|exact aX _ _ _⟩;unfold nF;simp[*]
  try omega
def XM{p:Prop}(h:p:=by
 go_enter func265,ntmps265
 go_wp2_with fail
 all_goals
  go_ret
  refine⟨aW ?_,by first|exact cq _ _ _ _|exact aX _ _ _⟩;unfold ew
  simp[*]):p:=h
def pT(p g r:Int)(v:Vl)(w:World):Cl 265 #[.agg #[Iv p,Iv g],.agg (iy v.kind v.lo v.hi v.early v.first v.rank),Iv r] w (Rb w (.bool (ew p g r v))):=by
 by_cases E:p=6
 ·exact XM
 cases H:v.early with
 |true=>
  have Z:=fun W=>Ft p g r v H W
  rw[H]at Z;go_enter func265,ntmps265
  go_wp2_with (go_at_call 305;refine(Z _).mono ?_;rintro e S ⟨rfl,D⟩)
  go_ret
  refine⟨aW (by unfold ew;simp[E,H]),aq (aX _ _ _) D⟩
 |false=>
  exact XM
section
variable {w u:World} {B b:Nat}
open Go.RowKit Go.Proofs Go.Maps Tryz
def Wr(w:World)(B b:Nat)(l:List UInt8):Prop:=
 B<=b/\∃v,w.heap[b]?=some (.cells #[v] 168 (0,0))/\w.ownsRow B 5 1 v l.length (Lib.byteCells l)/\v.ownBlock≠some b
structure eh(w w':World)(B b:Nat)(l:List UInt8):Prop where
  wr:Wr w' B b l
  kp:Kp b w w'
  below:Below B w w'
def Wr.lt{l:List UInt8}(h:Wr w B b l):b<w.heap.size:=(bq.1 h.2.choose_spec.1).1
def Wr.alloc{l:List UInt8}(h:Wr w B b l)(o:Obj):Wr (w.alloc o) B b l:=by
 obtain⟨f,v,D,g,J⟩:=h;exact⟨f,v,(ch _ _ _ (bq.1 D).1).trans D,g.alloc o,J⟩
def eh.trans{v:World}{l m:List UInt8}(h:eh u v B b l)(k:eh v w B b m):eh u w B b m:=⟨k.wr,h.kp.trans k.kp,h.below.trans k.below⟩
def Fq(b:Nat)(w:World)(o:Obj):Kp b w (w.alloc o):=⟨rfl,rfl,rfl,ak,fun _ _ a _ _=>(ch _ _ _ (bq.1 a).1).trans a⟩
def Wr.wrote{l:List UInt8}(h:Wr w B b l):eh w w B b l:=⟨h,Kp.refl _ _,aM _ _⟩
def eh.alloc{l:List UInt8}(h:eh u w B b l)(o:Obj):eh u (w.alloc o) B b l:=
 ⟨h.wr.alloc o,h.kp.trans (Fq _ _ _),h.below.alloc (qJ (G6 h.wr.1 h.wr.lt)) _⟩
def eh.box{w':World}{k:Nat}{l q:List UInt8}{cs:Array Value}{t:TypeId}(h:eh w w' B b l)(M:Wr w B b q)(hk:w.heap[k]?=some (cJ cs t))(N:t≠168)(H:t≠5):w'.heap[k]?=some (cJ cs t):=by
 refine h.kp.keep k _ hk ?_ (fun F E e=>by simp at e;exact H e.2.1);rintro rfl;obtain⟨_,v,D,_⟩:=M;rw[hk]at D;simp at D;exact N D.2
def fR(B b:Nat)(l:List UInt8)(c:UInt8)(w:World)(h:Wr w B b l)(hlen:l.length+1<=140737488355328):
  Cl 85 #[.pointer (some (Ad b 0)),.int .u8 c.toNat] w fun e I=>e=.returned (.tuple #[])/\eh w I B b (l++[c]):=by
 obtain⟨o,hi,D,O,K⟩:=cY infoByte;have L:=G6 h.1 h.lt;obtain⟨f,v,a,p,P⟩:=h;have c1:w.cell? (Ad b 0)=some v:=by rw[jV a];rfl
 have J:b<w.heap.size:=(bq.1 a).1;have X:=(show Hd _ from Aa a (Aa p P));clear p a;go_enter func85,ntmps85
 go_wp2_with (at_builtin;refine nj _ rfl _ _ 157 rfl B 5 o (.int .u8 0) 1 1 underlying157 hi D O K rfl aj _ _ _ rfl (X.b.alloc _) (Ad w.heap.size 0) 1 1 [.int .u8 c.toNat] rfl rfl ?c1 ?c2 ?c3 ?c4 ?c5 ?_)
 case c1=>exact Gb _ _ _
 case c2=>intro u E;simp at E;subst E;rfl
 case c3=>unfold maxLen;omega
 case c4=>omega
 case c5=>simp;omega
 intro R z q i _;obtain⟨a,p,P⟩:=X.o;have N:z.heap[b]?=some (.cells #[v] 168 (0,0)):=by
  rw[i.block b (by simp;omega) (fun e=>P e.symm)];exact(ch _ _ _ J).trans a
 have s:z.cell? (Ad b 0)=some v:=by rw[jV N];rfl
 have m:z.frozen? (Ad b 0)=false:=BN N 0;obtain⟨Z,C,rfl⟩:=bS q
 go_wp2
 go_end0
 have d:(Value.slice Z (l.length+1) C).ownBlock≠some b:=by
  rcases q.2 with⟨t,_⟩|⟨g,F,A,t,_,r,_⟩
  ·rw[t];simp[Value.ownBlock]
  rw[t];simp only[Value.ownBlock,ne_eq,dG];rintro rfl;rw[N]at r;simp at r
 refine⟨rfl,⟨f,_,?_,?_,d⟩,yx ((Fq _ _ _).trans (yz i (p.alloc _))) 0 _,(((aM _ _).alloc (qJ L) _).grown i (by simp;omega) (fun k n=>(p.lt k n).1)).setCell (p:=(Ad b 0)) f _⟩
 ·simp[World.setCell,rU,N]
 have e:Lib.byteCells (l++[c])=Lib.byteCells l++[Value.int .u8 c.toNat]:=by simp[Lib.byteCells]
 rw[bu,e];refine⟨by simpa using q.1,?_⟩;rcases q.2 with h|⟨g,F,A,t,G,j,Y⟩
 ·exact aJ h
 refine aI ⟨g,F,A,t,G,(aZ _ _ _ _ ?_).trans j,Y⟩;rintro rfl;exact d (by rw[t];rfl)
def sV(B b:Nat)(l:List UInt8)(c:Bool)(w:World)(h:Wr w B b l)(hlen:l.length+1<=140737488355328):
  Cl 136 #[.pointer (some (Ad b 0)),.bool c] w fun e I=>e=.returned (.tuple #[])/\eh w I B b (l++[if c then 1 else 0]):=by
 cases c with
 |true=>
  go_enter func136,ntmps136
  go_wp2_with (go_at_call 85;refine(fR B b l 1 _ h hlen).mono ?_;rintro e S ⟨rfl,G⟩)
  go_end0
  exact⟨rfl,G⟩
 |false=>
  go_enter func136,ntmps136
  go_wp2_with (go_at_call 85;refine(fR B b l 0 _ h hlen).mono ?_;rintro e S ⟨rfl,G⟩)
  go_end0
  exact⟨rfl,G⟩
def QF:∀r:Fin 256,bits BinOp.or IntKind.u8 ((r.val:Nat):Int) 128=((r.val % 128+128:Nat):Int):=by decide +kernel
def adh(m:Nat):bits BinOp.or IntKind.u8 ((m:Int) % 256) 128=(((UInt8.ofNat (m % 128+128)).toNat:Nat):Int):=by
 have h:=QF ⟨m % 256,DN _ aj⟩;have e:(((⟨m % 256,DN _ aj⟩:Fin 256).val:Nat):Int)=(m:Int) % 256:=ak
 rw[e]at h;rw[h];simp only[DM];omega
def yX{m:Nat}(h:m<256):(m:Int)=(((UInt8.ofNat m).toNat:Nat):Int):=by simp only[DM];omega
def uH(B b:Nat)(l:List UInt8)(n:Nat)(w:World)(h:Wr w B b l)(hn:n<18446744073709551616)(hlen:(l++ik n).length<=140737488355328):
  Cl 133 #[.pointer (some (Ad b 0)),Uv n] w fun e I=>e=.returned (.tuple #[])/\eh w I B b (l++ik n):=by
 have d:=(show Hd _ from h.wrote);clear h;go_enter func133,ntmps133
 go_wp2_with fail
 go_loopw[1] (fun i wr=>∃(m:Nat) (q:List UInt8),i=Uv m/\m<18446744073709551616/\Hd (q++ik m=l++ik n)/\Hd (eh w wr B b q)) (fun i _=>(intOf i).toNat)
 case atStart=>exact⟨n,l,rfl,hn,by show _=_;rfl,d⟩
 clear d;obtain⟨m,q,rfl,C,K,d⟩:=hrel;have c:q.length+1<=140737488355328:=by
  have G:=dv List.length K.o;have O:1<=(ik m).length:=by
   by_cases z:m<128
   ·rw[kH z];simp
   rw[p! z];simp
  simp only[bu]at G hlen;omega
 by_cases z:m<128
 ·have a:¬(128<=(m:Int)):=ah
  go_wp2_with fail
  rw[yX (show m<256 by omega)];refine(fR B b q (UInt8.ofNat m) wr d.o.wr c).mono ?_;rintro e S ⟨rfl,G⟩
  go_wp2_with fail
  go_end0
  refine⟨rfl,d.o.trans ?_⟩;rw[<-K.o,kH z];exact G
 have a:128<=(m:Int):=ah
 go_wp2_with fail
 rw[adh m];refine(fR B b q (UInt8.ofNat (m % 128+128)) wr d.o.wr c).mono ?_;rintro e S ⟨rfl,G⟩
 go_wp2_with fail
 refine⟨⟨m / 128,q++[UInt8.ofNat (m % 128+128)],ak,ah,?_,d.o.trans G⟩,by simp[intOf];omega⟩;show _=_;rw[<-K.o,p! z];simp
def gW(B b:Nat)(l:List UInt8)(x:Int)(w:World)(h:Wr w B b l)(hx:0<=x)(T:x<=9223372036854775807)(hlen:(l++cO x).length<=140737488355328):
  Cl 86 (Ah b x) w fun e I=>e=.returned (.tuple #[])/\eh w I B b (l++cO x):=by
 obtain⟨n,rfl⟩:=G5 hx;have J:n<18446744073709551616:=ah
 have H:=(show Hd _ from Aa h hlen);clear h hlen;go_enter func86,ntmps86
 go_wp2_with (go_at_call 133;refine(uH B b l n _ H.a J H.A).mono ?_;rintro e S ⟨rfl,G⟩)
 go_end0
 exact⟨rfl,G⟩
def XG{p:Prop}(h:p:=by
 go_enter func266,ntmps266
 go_wp2_with fail
 refine(uH B b l (DQ x) _ H.a R H.A).mono ?_;rintro e S ⟨rfl,G⟩
 go_wp2_with fail
 go_end0
 exact⟨rfl,G⟩):p:=h
def qZ(B b:Nat)(l:List UInt8)(x:Int)(w:World)(h:Wr w B b l)(hx:eX x)(hlen:(l++zp x).length<=140737488355328):
  Cl 266 (Ah b x) w fun e I=>e=.returned (.tuple #[])/\eh w I B b (l++zp x):=by
 obtain⟨a,q⟩:=hx;have H:=(show Hd _ from Aa h hlen);clear h hlen;have R:DQ x<18446744073709551616:=by unfold DQ;split<;>omega
 by_cases o:0<=x
 ·have e:2*x=((DQ x:Nat):Int):=by unfold DQ;rw[aD o];omega
  exact XG
 have e:2*-(x+1)+1=((DQ x:Nat):Int):=by unfold DQ;rw[aA o];omega
 exact XG
end
section
variable {k:Nat} {α:Type} {p:Prop}
open Go.RowKit Go.Proofs Go.Maps Tryz
def qQ{fl:Int}{fs:List Int}{f:Int}(h:fs[k]?=some f):cw fl (fs.drop k)=(decide (fl<=f)&&decide (f<=100000)&&cw (f+1) (fs.drop (k+1))):=by
 have hl:=bn.1 h;rw[oC hl.1,hl.2];rfl
def mZ{l:List α}{x:α}{p:α->Bool}(h:l[k]?=some x):(l.drop k).all p=(p x&&(l.drop (k+1)).all p):=by
 have hl:=bn.1 h;rw[oC hl.1,hl.2];rfl
def Dw(fa:Option Addr)(fc:Nat)(fs:List Int)(w:World)(h:cz w fa fs)(d:∀f∈fs,eX f)(hl:fs.length*8<=140737488355328):
    Cl 263 #[.slice fa fs.length fc] w (Rb w (.bool (cw 0 fs))):=by
  have l:Hd (cz w fa fs/\∀f∈fs,eX f):=⟨h,d⟩;clear h d;go_enter func263,ntmps263
  go_wp2_with fail
  go_loopw[3,8] (fun U i wr=>wr=w/\∃(k:Nat) (f:Int),k<=fs.length/\i=Iv k/\U=Iv f/\Hd (cw 0 fs=cw f (fs.drop k))) (fun _ i _=>fs.length-(intOf i).toNat)
  case atStart=>exact⟨rfl,0,0,bB _,rfl,rfl,by show _=_;simp⟩
  obtain⟨rfl,k,U,X,rfl,rfl,M⟩:=hrel;by_cases J:k<fs.length;rotate_left
  · have s:¬(k:Int)<(fs.length:Int):=ah
    obtain rfl:k=fs.length:=ah
    go_wp2_with fail
    go_ret
    exact⟨aW (by rw[M.o];simp[cw]),aM _ _⟩
  have s:(k:Int)<(fs.length:Int):=ah
  obtain⟨x,E⟩:=La J;obtain⟨u,v,rfl,Y⟩:=l.a k x E;obtain⟨H,q⟩:=l.A x (aL E);have a:Hd (fs[k]?=some x):=E;clear E
  go_wp2_with fail
  all_goals first
    | (refine⟨⟨by trivial,k+1,x+1,ah,h',h',?_⟩,by simp[intOf];omega⟩
       show _=_;rw[M.o,qQ a.o];have A:U<=x/\x<=100000:=ah
       simp[A.1,A.2])
    | (go_ret
       refine⟨aW ?_,aM _ _⟩;rw[M.o,qQ a.o]
       symm
       rw[uL];simp
       omega)
def Dv(p g:Int)(ra:Option Addr)(rc:Nat)(rs:List Int)(m:Nat)(w:World)(h:cz w ra rs)(hm:m*8<=140737488355328)(hl:rs.length*8<=140737488355328):
    Cl 264 #[.agg #[Iv p,Iv g],.slice ra rs.length rc,Iv m] w (Rb w (.bool (ey g rs m))):=by
  have l:Hd (cz w ra rs):=h;clear h;by_cases b:g=1;rotate_left
  · go_enter func264,ntmps264
    go_wp2_with (go_at_call 203;refine(cg _ _ _).mono ?_;rintro e S ⟨rfl,rfl⟩)
    go_ret
    exact⟨aW (by unfold ey;rw[aA b];cases rs<;>simp<;>omega),aX _ _ _⟩
  by_cases y:rs.length=m;rotate_left
  · have a:((rs.length:Int) !=(m:Int))=true:=by simp;omega
    go_enter func264,ntmps264
    go_wp2_with (go_at_call 203;refine(cg _ _ _).mono ?_;rintro e S ⟨rfl,rfl⟩)
    go_ret
    exact⟨aW (by unfold ey;simp[b,y]),aX _ _ _⟩
  subst y;go_enter func264,ntmps264
  go_wp2_with (go_at_call 203;refine(cg _ _ _).mono ?_;rintro e S ⟨rfl,rfl⟩)
  have R:=(show Hd _ from aX w (.cells #[Iv p,Iv 1] 166) (.cells #[Iv p,Iv 1] 166))
  go_loopw[21] (fun i wr=>∃k:Nat,k<=rs.length/\i=Iv k/\Hd (Bl w wr)/\Hd (rs.all rk=(rs.drop k).all rk)) (fun i _=>rs.length-(intOf i).toNat)
  case atStart=>exact⟨0,bB _,rfl,R,by show _=_;simp⟩
  clear R;obtain⟨k,X,rfl,R,M⟩:=hrel;by_cases J:k<rs.length;rotate_left
  · have s:¬(k:Int)<(rs.length:Int):=ah
    obtain rfl:k=rs.length:=ah
    go_wp2_with fail
    go_ret
    exact⟨aW (by unfold ey;rw[M.o];simp),R.o⟩
  have s:(k:Int)<(rs.length:Int):=ah
  obtain⟨x,E⟩:=La J;obtain⟨u,v,rfl,Y⟩:=(l.o.below R.o) k x E;have f:Hd (rs[k]?=some x):=E;clear E
  go_wp2_with fail
  all_goals first
    | (refine⟨⟨k+1,ah,h',R,?_⟩,by simp[intOf];omega⟩
       show _=_;rw[M.o,mZ f.o];have A:rk x=true:=by unfold rk;simp;omega
       simp[A])
    | (go_ret
       refine⟨aW ?_,R.o⟩;unfold ey;rw[M.o,mZ f.o];have A:rk x=false:=by unfold rk;rw[uL];simp;omega
       simp[A,b])
def pY(l:List α):l.isEmpty=decide (l.length=0):=by cases l<;>simp
def U7(l:List α):(((l.length:Nat):Int)==0)=decide (l=[]):=by
 cases l with
 |nil=>rfl
 |cons a r=>simp;omega
def CU{l:List α}(h:¬l.length=0):(((l.length:Nat):Int) !=0)=true:=by rw[bne_iff_ne];omega
def Jd(fa ra va:Option Addr)(fc rc vc:Nat)(n:Nd)(w:World)(h:gD n):
  Cl 201 #[.agg #[.slice fa n.facts.length fc,.slice ra n.aO.length rc,.bool n.reached,Iv n.rank,.slice va n.vals.length vc]] w (Rb w (.bool (j5 n))):=by
 go_enter func201,ntmps201
 go_wp2
 all_goals
  go_ret
  refine⟨aW ?_,aC _ _⟩;unfold j5;simp[pY,U7, *]
def Nt(p g:Int)(fa ra va:Option Addr)(fc rc vc:Nat)(n:Nd)(w:World)(h:rJ w fa ra va fc rc vc n)(hn:gD n):
  Cl 200 #[.agg #[Iv p,Iv g],.agg #[.slice fa n.facts.length fc,.slice ra n.aO.length rc,.bool n.reached,Iv n.rank,.slice va n.vals.length vc]] w (Rb w (.bool (eO g n))):=by
 obtain⟨facts,aO,reached,rank,vals⟩:=n;have l:Hd (cz w fa facts/\cz w ra aO):=⟨h.facts,h.aO⟩;have m:=(show Hd _ from hn);clear h hn;cases reached with
 |true=>
  go_enter func200,ntmps200
  go_wp2_with fail
  go_ret
  exact⟨aW (by simp[eO]),aX _ _ _⟩
 | false=>
  by_cases L:rank=0;rotate_left
  ·go_enter func200,ntmps200
   go_wp2_with fail
   go_ret
   exact⟨aW (by simp[eO,L]),aX _ _ _⟩
  by_cases t:vals.length=0;rotate_left
  ·have C:=CU t
   go_enter func200,ntmps200
   go_wp2_with fail
   go_ret
   exact⟨aW (by simp[eO,pY,t]),aX _ _ _⟩
  subst L;have C:((vals.length:Int) !=0)=false:=by simp[t]
  go_enter func200,ntmps200
  go_wp2_with (first
   |(go_at_call 263;refine(Dw fa fc facts _ (l.a.below (aX _ _ _)) m.o.facts m.o.fsz).mono ?_;rintro e T ⟨rfl,A⟩;obtain⟨F,y⟩:=ae ((A.block _ (by simp;omega)).trans (aN w _ _).1);obtain⟨B,o⟩:=ae ((A.block _ ak).trans (aN w _ _).2);have q:=(show Hd _ from aq (aX _ _ _) A);clear A)
   |(go_at_call 264;refine(Dv _ _ ra rc aO _ _ (l.A.below q.o) m.o.fsz m.o.rsz).mono ?_;rintro e r ⟨rfl,N⟩))
  all_goals
   go_ret
   refine⟨aW ?_,by first|exact aq q.o N|exact q.o⟩;simp[eO,pY,t, *]
def XL(h:p:=by
 have s:¬(k:Int)<(vals.length:Int):=ah
 obtain rfl:k=vals.length:=ah
 go_wp2_with fail
 go_ret
 exact⟨aW (by rw[G.o,j.o];simp),d.o⟩):p:=h
def XK(h:p:=by
 refine⟨⟨k+1,ah,h',aq (aq M.o (aC _ _)) N,?_⟩,by simp[intOf];omega⟩;show _=_;rw[j.o,mZ H.o,b]
 rfl):p:=h
def XJ(h:p:=by
 subst U
 exact⟨cq _ _ _ _,(ch _ _ _ (by simp;omega)).trans (aN w _ _).1,(ch _ _ _ ak).trans (aN w _ _).2⟩):p:=h
def XI(h:p:=by
 go_ret
 exact⟨aW (by rw[G.o,j.o,mZ H.o,b];rfl),aq (aq d.o (aC _ _)) N⟩):p:=h
def Nu(p g:Int)(fa ra va:Option Addr)(fc rc vc:Nat)(n:Nd)(w:World)(h:rJ w fa ra va fc rc vc n)(hn:gD n)(a:n.reached=true):
  Cl 202 #[.agg #[Iv p,Iv g],.agg #[.slice fa n.facts.length fc,.slice ra n.aO.length rc,.bool n.reached,Iv n.rank,.slice va n.vals.length vc]] w (Rb w (.bool (eF p g n))):=by
 obtain⟨facts,aO,reached,rank,vals⟩:=n;simp only at a;subst a;have l:Hd (jA w va vals):=h.vals;have m:=(show Hd _ from hn);have h3:vals.length*48<=140737488355328:=hn.vsz;clear h hn;by_cases V:facts.length=0;rotate_left
 ·have t:=CU V
  go_enter func202,ntmps202
  go_wp2_with fail
  go_ret
  exact⟨aW (by simp[eF,pY,V]),aX _ _ _⟩
 by_cases L:aO.length=0;rotate_left
 ·have f:=CU L
  go_enter func202,ntmps202
  go_wp2_with fail
  all_goals
   go_ret
   exact⟨aW (by simp[eF,pY,L]),aX _ _ _⟩
 by_cases hv:vals.length<=8;rotate_left
 ·have C:¬((vals.length:Int)<=8):=ah
  obtain rfl:facts=[]:=dM.1 V;obtain rfl:aO=[]:=dM.1 L;simp only[eI];go_enter func202,ntmps202
  go_wp2_with fail
  go_ret
  exact⟨aW (by simp[eF,pY,hv]),aX _ _ _⟩
 obtain rfl:facts=[]:=dM.1 V;obtain rfl:aO=[]:=dM.1 L;simp only[eI];by_cases A:0<=rank/\rank<=100000;rotate_left
 ·go_enter func202,ntmps202
  go_wp2_with fail
  all_goals
   go_ret
   exact⟨aW (by simp[eF,rk];omega),aX _ _ _⟩
 cases E:decide (g=1)with
 | false=>
  by_cases K:rank=0;rotate_left
  ·have D:(rank !=0)=true:=by rw[bne_iff_ne];exact K
   go_enter func202,ntmps202
   go_wp2_with (go_at_call 203;refine(cg _ _ _).mono ?_;rw[E];rintro e S ⟨rfl,rfl⟩)
   go_ret
   exact⟨aW (by simp[eF,E,K]),cq _ _ _ _⟩
  subst K;have G:Hd (eF p g ⟨[],[],true,0,vals⟩=vals.all (ew p g 0)):=by
   show _=_;simp[eF,rk];omega
  go_enter func202,ntmps202
  go_wp2_with (go_at_call 203;refine(cg _ _ _).mono ?_;rw[E];rintro e S ⟨rfl,rfl⟩)
  generalize U:((w.alloc (df p g)).alloc (.cells #[.slice fa 0 fc,.slice ra 0 rc,.bool true,Iv 0,.slice va vals.length vc] 96)).alloc (df p g)=T;have R:Hd (Bl w T/\T.heap[w.heap.size]?=some (nU p g)/\d' T (w.heap.size+1) #[.slice fa 0 fc,.slice ra 0 rc,.bool true,Iv 0,.slice va vals.length vc] 96):=by
   exact XJ
  clear U E A
  go_loopw[44] (fun i wr=>∃k:Nat,k<=vals.length/\i=Iv k/\Hd (Bl T wr)/\Hd (vals.all (ew p g 0)=(vals.drop k).all (ew p g 0))) (fun i _=>vals.length-(intOf i).toNat)
  case atStart=>exact⟨0,bB _,rfl,aM _ _,by show _=_;simp⟩
  obtain⟨k,hk,rfl,M,j⟩:=hrel;obtain⟨F,y⟩:=ae ((M.o.block _ (bq.1 R.b).1).trans R.b);obtain⟨B,o⟩:=ae ((M.o.block _ (bq.1 R.B).1).trans R.B);have d:Hd (Bl w wr):=aq R.a M.o;have q:=(bq.1 R.B).1;have W:=M.o.size;have Q:w.heap.size<wr.heap.size:=ah
  have z:w.heap.size+1<wr.heap.size:=ah
  clear q W;by_cases J:k<vals.length;rotate_left
  ·exact XL
  have s:(k:Int)<(vals.length:Int):=ah
  obtain⟨v,x⟩:=La J;obtain⟨O,o1,rfl,P,Y,c,X,Z,u⟩:=(l.o.below d.o) k v x;have H:Hd (vals[k]?=some v):=x;clear x;cases b:ew p g 0 v with
  |true=>
   go_wp2_with (go_at_call 265;refine(pT p g 0 v _).mono ?_;rw[b];rintro e r ⟨rfl,N⟩)
   exact XK
  |false=>
   go_wp2_with (go_at_call 265;refine(pT p g 0 v _).mono ?_;rw[b];rintro e r ⟨rfl,N⟩)
   exact XI
 | true=>
  have G:Hd (eF p g ⟨[],[],true,rank,vals⟩=vals.all (ew p g rank)):=by
   show _=_;simp[eF,rk,E,A];omega
  go_enter func202,ntmps202
  go_wp2_with (go_at_call 203;refine(cg _ _ _).mono ?_;rw[E];rintro e S ⟨rfl,rfl⟩)
  generalize U:((w.alloc (df p g)).alloc (.cells #[.slice fa 0 fc,.slice ra 0 rc,.bool true,Iv rank,.slice va vals.length vc] 96)).alloc (df p g)=T;have R:Hd (Bl w T/\T.heap[w.heap.size]?=some (nU p g)/\d' T (w.heap.size+1) #[.slice fa 0 fc,.slice ra 0 rc,.bool true,Iv rank,.slice va vals.length vc] 96):=by
   exact XJ
  clear U E A
  go_loopw[44] (fun i wr=>∃k:Nat,k<=vals.length/\i=Iv k/\Hd (Bl T wr)/\Hd (vals.all (ew p g rank)=(vals.drop k).all (ew p g rank))) (fun i _=>vals.length-(intOf i).toNat)
  case atStart=>exact⟨0,bB _,rfl,aM _ _,by show _=_;simp⟩
  obtain⟨k,hk,rfl,M,j⟩:=hrel;obtain⟨F,y⟩:=ae ((M.o.block _ (bq.1 R.b).1).trans R.b);obtain⟨B,o⟩:=ae ((M.o.block _ (bq.1 R.B).1).trans R.B);have d:Hd (Bl w wr):=aq R.a M.o;have q:=(bq.1 R.B).1;have W:=M.o.size;have Q:w.heap.size<wr.heap.size:=ah
  have z:w.heap.size+1<wr.heap.size:=ah
  clear q W;by_cases J:k<vals.length;rotate_left
  ·exact XL
  have s:(k:Int)<(vals.length:Int):=ah
  obtain⟨v,x⟩:=La J;obtain⟨O,o1,rfl,P,Y,c,X,Z,u⟩:=(l.o.below d.o) k v x;have H:Hd (vals[k]?=some v):=x;clear x;cases b:ew p g rank v with
  |true=>
   go_wp2_with (go_at_call 265;refine(pT p g rank v _).mono ?_;rw[b];rintro e r ⟨rfl,N⟩)
   exact XK
  |false=>
   go_wp2_with (go_at_call 265;refine(pT p g rank v _).mono ?_;rw[b];rintro e r ⟨rfl,N⟩)
   exact XI
end
open Go.RowKit Go.Proofs Go.Maps Tryz
def yF(p g:Int)(fa ra va:Option Addr)(fc rc vc:Nat)(n:Nd)(w:World)(h:rJ w fa ra va fc rc vc n)(hn:gD n):
  Cl 132 #[.agg #[Iv p,Iv g],.agg #[.slice fa n.facts.length fc,.slice ra n.aO.length rc,.bool n.reached,Iv n.rank,.slice va n.vals.length vc]] w (Rb w (.bool (cy p g n))):=by
 have l:=(show Hd _ from Aa h hn);clear h hn;cases K:decide (p<=4)with
 | true=>
  have j:Hd (cy p g n=eO g n):=by show _=_;unfold cy;rw[aD (by simpa using K)]
  go_enter func132,ntmps132
  go_wp2_with (first
   |(go_at_call 134;refine(eR _ _ _).mono ?_;rw[K];rintro e S ⟨rfl,rfl⟩)
   |(go_at_call 200;refine(Nt p g fa ra va fc rc vc n _ (l.a.below (cq _ _ _ _)) l.A).mono ?_;rintro e T ⟨rfl,A⟩))
  go_ret
  exact⟨aW j.o.symm,aq (cq _ _ _ _) A⟩
 | false=>
  have a:Hd (¬p<=4):=by show ¬p<=4;simpa using K
  cases L:n.reached with
  | true=>
   have j:Hd (cy p g n=eF p g n):=by show _=_;unfold cy;rw[aA a.o,L];rfl
   have Z:=fun W D=>Nu p g fa ra va fc rc vc n W (l.a.below D) l.A L
   rw[L]at Z;go_enter func132,ntmps132
   go_wp2_with (first
    |(go_at_call 134;refine(eR _ _ _).mono ?_;rw[K];rintro e S ⟨rfl,rfl⟩)
    |(go_at_call 202;refine(Z _ (cq _ _ _ _)).mono ?_;rintro e T ⟨rfl,A⟩))
   go_ret
   exact⟨aW j.o.symm,aq (cq _ _ _ _) A⟩
  | false=>
   have j:Hd (cy p g n=j5 n):=by show _=_;unfold cy;rw[aA a.o,L];rfl
   have Z:=fun W=>Jd fa ra va fc rc vc n W l.A
   rw[L]at Z;go_enter func132,ntmps132
   go_wp2_with (first
    |(go_at_call 134;refine(eR _ _ _).mono ?_;rw[K];rintro e S ⟨rfl,rfl⟩)
    |(go_at_call 201;refine(Z _).mono ?_;rintro e T ⟨rfl,A⟩))
   go_ret
   exact⟨aW j.o.symm,aq (cq _ _ _ _) A⟩
def XH{p:Prop}(h:p:=by
 go_enter func84,ntmps84
 go_wp2_with (go_at_call 131;refine(lM _ _ _).mono ?_;rw[X];rintro e S ⟨rfl,rfl⟩)
 go_ret
 exact⟨aW j.o.symm,cq _ _ _ _⟩):p:=h
def yG(na:Option Addr)(nc:Nat)(c:Ct)(w:World)(h:cj w na c.nodes)(Z:py c):
  Cl 84 #[.agg #[Iv c.problem,Iv c.bK,.slice na c.nodes.length nc]] w (Rb w (.bool (kq c))):=by
 obtain⟨p,g,B⟩:=c;have l:Hd (cj w na B/\∀n∈B,gD n):=⟨h,Z.nodes⟩;have z:B.length*88<=140737488355328:=Z.sz;clear h Z;simp only;cases X:known p g with
 |false=>
  have j:Hd (kq ⟨p,g,B⟩=false):=by show _=_;simp[kq,X]
  exact XH
 | true=>
  by_cases f:B.length<=60;rotate_left
  ·have j:Hd (kq ⟨p,g,B⟩=false):=by show _=_;simp[kq,f]
   have m:60<(B.length:Int):=ah
   exact XH
  have j:Hd (kq ⟨p,g,B⟩=B.all (cy p g)):=by show _=_;simp[kq,X,f]
  have m:¬(60<(B.length:Int)):=ah
  go_enter func84,ntmps84
  go_wp2_with (go_at_call 131;refine(lM _ _ _).mono ?_;rw[X];rintro e S ⟨rfl,rfl⟩)
  generalize U:((w.alloc (.cells #[Iv p,Iv g,.slice na B.length nc] 51)).alloc (df p g)).alloc (df p g)=T;have R:Hd (Bl w T/\T.heap[w.heap.size+1]?=some (nU p g)):=by
   subst U;exact⟨cq _ _ _ _,(ch _ _ _ ak).trans (aN w _ _).2⟩
  clear U X
  go_loopw[23] (fun i wr=>∃k:Nat,k<=B.length/\i=Iv k/\Hd (Bl T wr)/\Hd (B.all (cy p g)=(B.drop k).all (cy p g))) (fun i _=>B.length-(intOf i).toNat)
  case atStart=>exact⟨0,bB _,rfl,aM _ _,by show _=_;simp⟩
  obtain⟨k,X,rfl,M,t⟩:=hrel;obtain⟨E,o⟩:=ae ((M.o.block _ (bq.1 R.A).1).trans R.A);have d:Hd (Bl w wr):=aq R.a M.o;have q:=(bq.1 R.A).1;have W:=M.o.size;have D:w.heap.size+1<wr.heap.size:=ah
  clear q W;by_cases J:k<B.length;rotate_left
  ·have s:¬(k:Int)<(B.length:Int):=ah
   obtain rfl:k=B.length:=ah
   go_wp2_with fail
   go_ret
   exact⟨aW (by rw[j.o,t.o];simp),d.o⟩
  have s:(k:Int)<(B.length:Int):=ah
  obtain⟨n,a⟩:=La J;obtain⟨x,v,fa,ra,va,fc,rc,vc,rfl,P,Y,A,C,y,u⟩:=(l.a.below d.o) k n a;have H:Hd (B[k]?=some n/\gD n/\rJ wr fa ra va fc rc vc n):=⟨a,l.A n (aL a),u⟩;clear a u;cases b:cy p g n with
  |true=>
   go_wp2_with (go_at_call 132;refine(yF p g fa ra va fc rc vc n _ (H.B.below (aC _ _)) H.b).mono ?_;rw[b];rintro e r ⟨rfl,N⟩)
   refine⟨⟨k+1,ah,h',aq (aq M.o (aC _ _)) N,?_⟩,by simp[intOf];omega⟩;show _=_;rw[t.o,mZ H.a,b];rfl
  |false=>
   go_wp2_with (go_at_call 132;refine(yF p g fa ra va fc rc vc n _ (H.B.below (aC _ _)) H.b).mono ?_;rw[b];rintro e r ⟨rfl,N⟩)
   go_ret
   exact⟨aW (by rw[j.o,t.o,mZ H.a,b];rfl),aq (aq d.o (aC _ _)) N⟩
end Go.Proofs.YtmipbiligijcpaaGreatDoor
