import Derived.WalkSpells
import Derived.WalkLawsBesides
import Derived.Deep.RegionLaw
import Derived.Test.YtmipbiligijcpaaGreatDoorProg
import Derived.Lib.ParseIntB
import Derived.Lib.Split
import Derived.Lib.FieldsP
import Derived.Test.YtmipbiligijcpaaGreatDoorShelf
import Derived.Deep.RegionHeld3
namespace Go.Proofs.YtmipbiligijcpaaGreatDoor
set_option linter.all false
set_option maxHeartbeats 0
open Go.RowKit Go.Proofs Go.Maps List Tryz Go.Lib Go.WideMaps open List renaming length->ζ open _root_.Array renaming size->δ open World renaming setCell->κ,ownsRow->ρ,cell?->χ,grownBy->ξ open Value renaming ownBlock->φ open Value renaming slice->h',bool->i',string->m',tuple->p' open Obj renaming cells->j' open Ending renaming returned->o' open Option renaming some->C',none->D' open Bool renaming true->P',false->Q'
section
variable {α:Type}{p:Prop}
theorem M{a b:Prop}(x:a)(y:b):a/\b:=⟨x,y⟩
theorem La{l:List α}{i:Nat}(h:i<l.length):∃x,l[i]?=some x:=⟨_,List.getElem?_eq_getElem h⟩
theorem Ea(x:α):∃z,z=x:=⟨x,rfl⟩
theorem I(h:p:=by omega):p:=h
theorem aj(h:p:=by decide):p:=h
theorem ak(h:p:=by simp):p:=h
abbrev WC:=@Array.toList_inj
abbrev aI:=@Or.inl
abbrev aH:=@Or.inr
abbrev bG:=@Array.getElem?_eq_some_iff
abbrev iC:=@List.getElem?_append_left
abbrev aV:=@List.getElem?_eq_some_iff
abbrev aB:=@if_pos
abbrev aD:=@Nat.le_refl
abbrev br:=@Nat.le_trans
abbrev dq:=@Option.some.injEq
abbrev ep:=@Nat.lt_of_lt_of_le
abbrev sH:=@Array.getElem?_modify
abbrev vD:=@Bool.eq_false_iff
abbrev bZ:=@List.all_eq_true
abbrev kI:=@List.range_succ
abbrev oX:=@List.set_append_right
abbrev aW:=@List.length_append
abbrev b9:=@List.flatMap_cons
abbrev cO:=@List.mem_cons
abbrev aS:=@Bool.and_eq_true
abbrev bw:=@decide_eq_true_eq
abbrev j2:=@List.isEmpty_iff
abbrev ax:=@if_neg
abbrev e8:=@List.foldl_cons
abbrev qY:=@List.all_cons
abbrev b8:=@if_true
abbrev bB:=@if_false
abbrev oj:=@true_and
abbrev j0:=@Bool.not_eq_true
abbrev dO:=@beq_eq_false_iff_ne
abbrev Fl:=@Int.mul_comm
abbrev Fk:=@Nat.mod_lt
abbrev fh:=@List.getElem?_append_right
abbrev L6:=@List.getElem?_of_mem
abbrev aK:=@List.mem_of_getElem?
abbrev vC:=@List.nodup_append
abbrev jZ:=@List.prefix_rfl
abbrev Fj:=@List.prefix_append
abbrev eC:=@List.mem_append
abbrev bR:=@List.length_cons
abbrev vB:=@List.nodup_nil
abbrev vA:=@Nat.pow_succ
abbrev qX:=@Nat.add_mul
abbrev gN:=@Nat.zero_mul
abbrev bW:=@Nat.zero_add
abbrev xI:=@Nat.mul_comm
abbrev ld:=@Nat.add_assoc
abbrev Rn:=@Nat.mul_le_mul_right
abbrev cQ:=@congrArg
abbrev Rm:=@Nat.mul_add_div
abbrev Br:=@Nat.pow_pos
abbrev Rl:=@Nat.div_eq_of_lt
abbrev Bq:=@UInt8.toNat_inj
abbrev jY:=@Bool.not_eq_true'
abbrev fg:=@List.length_eq_zero_iff
abbrev Fi:=@Nat.pow_le_pow_right
abbrev gM:=@Prod.mk.injEq
abbrev Bp:=@List.getElem_idxOf
abbrev qW:=@List.idxOf_lt_length_of_mem
abbrev Bo:=@List.idxOf_append
abbrev eS:=@Bool.or_eq_true
abbrev eo:=@beq_iff_eq
abbrev L5:=@List.cons.injEq
abbrev Fh:=@UInt8.toNat_ofNat'
abbrev dA:=@List.cons_append
abbrev sG:=@UInt8.toNat_lt
abbrev dp:=@List.set_cons_zero
abbrev Fg:=@List.set_append_left
abbrev da:=@List.set_cons_succ
abbrev xH:=@List.getElem?_take
abbrev jn:=@List.length_set
abbrev Rk:=@Array.toList_setIfInBounds
abbrev xG:=@Function.comp_def
abbrev k!:=@Nat.add_zero
abbrev oh:=@Ne.symm
abbrev bq:=@Nat.zero_le
abbrev kH:=@List.size_toArray
abbrev de:=@List.length_nil
abbrev sF:=@Array.replicate_succ
abbrev sE:=@Array.replicate_zero
abbrev sD:=@List.push_toArray
abbrev sC:=@List.append_toArray
abbrev c!:=@List.nil_append
abbrev eR:=@List.map_append
abbrev L4:=@List.length_pos_iff
abbrev bH:=@List.getElem?_map
abbrev Bn:=@Classical.choose_spec
abbrev cy:=@List.getD_eq_getElem?_getD
abbrev eQ:=@List.getElem?_set
abbrev rP:=@List.foldl_nil
abbrev jy:=@List.getElem?_replicate
abbrev aQ:=@List.getElem?_eq_getElem
abbrev cz:=@List.getElem?_toArray
abbrev b!:=@List.take_of_length_le
abbrev cX:=@List.take_succ_eq_append_getElem
abbrev Jv:=@List.map_singleton
abbrev eX:=@List.mem_singleton
abbrev dN:=@List.mem_iff_getElem?
abbrev cj:=@List.setIfInBounds_toArray
abbrev Dg:=@Int.ofNat.inj
abbrev fF:=@List.map_map
abbrev gD:=@Option.map_some
abbrev bp:=@List.mem_map
abbrev iM:=@List.eq_of_mem_replicate
abbrev nD:=@List.filter_cons
abbrev cq:=@List.mem_range
abbrev dX:=@List.map_cons
abbrev lh:=@List.sum_cons
abbrev hU:=@List.mem_or_eq_of_mem_set
abbrev Df:=@Option.getD_some
abbrev x7:=@List.set_set
abbrev mx:=@List.map_set
abbrev jx:=@Nat.sub_self
abbrev x6:=@List.replicate_zero
abbrev fQ:=@List.append_nil
abbrev eW:=@List.replicate_succ
abbrev df:=@List.append_assoc
abbrev Ju:=@List.singleton_append
abbrev iL:=@Nat.lt_or_ge
abbrev oY:=@List.flatten_cons
abbrev Jt:=@List.filter_eq_nil_iff
abbrev rO:=@List.map_replicate
abbrev b?:=@List.getElem?_eq_none
abbrev eJ:=@List.map_congr_left
abbrev e9:=@List.getElem_mem
abbrev x5:=@Bool.or_eq_false_iff
abbrev eV:=@Bool.true_and
abbrev km:=@Bool.false_or
abbrev x4:=@Bool.and_true
abbrev dM:=@decide_eq_true
abbrev di:=@decide_eq_false
abbrev bA:=@List.length_map
abbrev dQ:=@List.ext_getElem?
abbrev rN:=@List.getElem?_eq_none_iff
abbrev jv:=@List.getElem?_range
abbrev xZ:=@List.set_eq_take_append_cons_drop
abbrev dG:=@List.length_take
abbrev kj:=@Nat.min_eq_left
abbrev g!:=@List.not_mem_nil
abbrev gC:=@or_false
abbrev rM:=@List.mem_cons_self
abbrev eI:=@List.mem_cons_of_mem
abbrev dW:=@Option.some.inj
abbrev xY:=@List.take_append_drop
abbrev Js:=@Nat.add_sub_cancel_left
abbrev uA:=@List.length_range
abbrev cV:=@Int.le_refl
abbrev gZ:=@of_decide_eq_false
abbrev uz:=@List.foldl_append
abbrev De:=@List.any_eq_true
abbrev Dd:=@List.eq_replicate_iff
abbrev Jr:=@List.getElem_range
abbrev cK:=@Bool.eq_iff_iff
abbrev nC:=@List.drop_eq_getElem_cons
abbrev rL:=@Nat.le_of_lt
abbrev Jq:=@Nat.lt_of_le_of_lt
abbrev Jp:=@Int.eq_ofNat_of_zero_le
abbrev fP:=@List.length_singleton
abbrev rK:=@Int.toNat_natCast
abbrev Db:=@List.drop_length
abbrev xW:=@List.flatMap_nil
abbrev Da:=@Int.toNat_of_nonneg
abbrev rJ:=@Nat.mul_one
abbrev C!:=@List.mem_filter
abbrev lg:=@List.mem_of_mem_take
abbrev Jo:=@List.length_take_le
abbrev bV:=@Bool.false_eq_true
abbrev C?:=@Int.tdiv_neg
abbrev C9:=@List.getElem?_set_ne
abbrev C8:=@List.filter_append
abbrev xV:=@of_decide_eq_true
abbrev rI:=@List.map_nil
abbrev xU:=@List.drop_eq_nil_of_le
abbrev C7:=@List.getLast?_eq_getElem?
abbrev C6:=@List.drop_zero
abbrev Jn:=@List.getElem_of_mem
abbrev nB:=@List.take_length
abbrev Jm:=@Array.size_modify
abbrev gB:=@decide_eq_false_iff_not
abbrev Jl:=@List.length_drop
abbrev C5:=@List.getElem?_drop
abbrev nz:=@List.getElem?_cons_succ
abbrev rH:=@Nat.sub_zero
abbrev xT:=@decide_true
abbrev C4:=@Option.map_eq_some_iff
abbrev xS:=@Nat.add_comm
abbrev uy:=@List.getElem?_zip_eq_some
abbrev C2:=@Int.tdiv_le_tdiv
abbrev Jk:=@List.ext_getElem
abbrev xR:=@List.any_cons
abbrev xQ:=@Bool.not_not
abbrev C1:=@Bool.false_and
abbrev ux:=@List.nodup_cons
abbrev uw:=@List.mem_map_of_mem
abbrev uu:=@decide_eq_true_iff
abbrev C0:=@Array.toList_map
abbrev CZ:=@Array.toList_range
abbrev Jj:=@Nat.mul_le_mul_left
abbrev rG:=@Nat.mod_eq_of_lt
abbrev Ji:=@UInt8.toNat.inj
abbrev CX:=@Nat.or_lt_two_pow
abbrev Jg:=@Nat.pow_lt_pow_right
abbrev xO:=@decide_eq_decide
abbrev xN:=@Bool.or_assoc
abbrev xM:=@List.range_add
abbrev Jf:=@List.filter_congr
abbrev Je:=@List.getElem?_modify
abbrev Jd:=@List.getElem_map
abbrev uo:=@List.take_zero
abbrev Jb:=@List.prefix_refl
abbrev CV:=@List.length_replicate
abbrev xL:=@List.dropLast_concat_getLast
abbrev xK:=@Array.getElem?_eq_none
abbrev rE:=@Array.getElem?_eq_getElem
abbrev I!:=@Array.length_toList
abbrev I?:=@List.flatMap_append
abbrev CS:=@Bool.and_self
end
section
variable {p:Prop}
abbrev Z(x:Int):Value:=.int .u64 x
abbrev O(b o:Nat):Addr:=⟨b,o,none⟩
abbrev Bl(w w':World):Prop:=Below w.heap.size w w'
abbrev Rb(w:World)(v:Value):Ending->World->Prop:=λe w'=>e=.returned v/\Below w.heap.size w w'
abbrev G(x:Int):Value:=.int .i64 x
abbrev bj:=@Go.heap_alloc_new
abbrev ch:=@Go.RowKit.Below.heap_alloc
abbrev bh:=@Go.RowKit.Below.heap_setCell
abbrev aP:=@Go.RowKit.Below.refl
abbrev iJ:=@Go.RowKit.Below.drew
abbrev qZ:=@Go.RowKit.Below.alloc
abbrev gw:=@Go.callsIn_wide
abbrev cY:=@Go.World.ownsRow_nil
abbrev cG:=@Go.info_parts
abbrev bE:=@Go.Calls.mono
abbrev fH:=@Go.Addr.add_lit
abbrev eK:=@Go.wpList_make_full
abbrev aC:=@Go.bodyPost_ret
abbrev nE:=@Go.wpIn_wide
abbrev eU:=@Go.Obj.cells.inj
abbrev iK:=@Go.wpList_append_own
abbrev ki:=@Go.Lib.cell_of_heap
abbrev Dc:=@Go.Lib.frozen_of_heap
abbrev xX:=@Go.results_none
abbrev eT:=@Go.ByteArray.toList_eq
abbrev CY:=@Go.bits_or_u64_nat
abbrev gY:=@Go.World.grownBy_alloc
abbrev ur:=@Go.run_underlying
abbrev Jh:=@Go.Result.andThen_ok
abbrev xP:=@Go.IntKind.wrap_u64
abbrev uq:=@Go.rounds_succ
abbrev lf:=@Go.RowKit.Below.setCell
abbrev Jc:=@Go.run_equalIn_deep
abbrev CW:=@Go.RowKit.ownsRow_setCell_below
abbrev rF:=@Go.mem_ready
abbrev Ja:=@Go.Oper.upon_value
abbrev CU:=@Go.World.grownBy.trans
abbrev CT:=@Go.wpList_lookup_own_ok_int
abbrev xJ:=@Go.wpList_len_own
def J(p:Prop):Prop:=p
theorem J.o(h:J p):p:=h
theorem ſ(h:p):J p:=h
abbrev d' (W : World) (k : Nat) (a : Array Value) (t : TypeId) : Prop := W.heap[k]? = some (.cells a t (0, 0))
theorem f' {p : Prop} (h : p := by go_num) : p := h
theorem g' {p : Prop} (h : p := by assumption) : p := h
theorem J.a {p Y : Prop} (h : J<|p/\Y) : p := h.o.1
theorem J.A {p Y : Prop} (h : J<|p/\Y) : Y := h.o.2
theorem J.b {p q Y : Prop} (h : J<|p/\q/\Y) : q := h.o.2.1
theorem J.B {p q Y : Prop} (h : J<|p/\q/\Y) : Y := h.o.2.2
theorem J.c {p q r Y : Prop} (h : J<|p/\q/\r/\Y) : r := h.o.2.2.1
theorem J.C {p q r Y : Prop} (h : J<|p/\q/\r/\Y) : Y := h.o.2.2.2
theorem J.d {p q r s Y : Prop} (h : J<|p/\q/\r/\s/\Y) : s := h.o.2.2.2.1
theorem J.D {p q r s Y : Prop} (h : J<|p/\q/\r/\s/\Y) : Y := h.o.2.2.2.2
theorem J.e {p q r s t Y : Prop} (h : J<|p/\q/\r/\s/\t/\Y) : t := h.o.2.2.2.2.1
theorem J.E {p q r s t Y : Prop} (h : J<|p/\q/\r/\s/\t/\Y) : Y := h.o.2.2.2.2.2
theorem J.f {p q r s t u Y : Prop} (h : J<|p/\q/\r/\s/\t/\u/\Y) : u := h.o.2.2.2.2.2.1
theorem J.F {p q r s t u Y : Prop} (h : J<|p/\q/\r/\s/\t/\u/\Y) : Y := h.o.2.2.2.2.2.2
theorem J.g {p q r s t u v Y : Prop} (h : J<|p/\q/\r/\s/\t/\u/\v/\Y) : v := h.o.2.2.2.2.2.2.1
theorem J.G {p q r s t u v Y : Prop} (h : J<|p/\q/\r/\s/\t/\u/\v/\Y) : Y := h.o.2.2.2.2.2.2.2
theorem J.h {p q r s t u v w Y : Prop} (h : J<|p/\q/\r/\s/\t/\u/\v/\w/\Y) : w := h.o.2.2.2.2.2.2.2.1
theorem J.H {p q r s t u v w Y : Prop} (h : J<|p/\q/\r/\s/\t/\u/\v/\w/\Y) : Y := h.o.2.2.2.2.2.2.2.2
theorem J.i {p q r s t u v w x Y : Prop} (h : J<|p/\q/\r/\s/\t/\u/\v/\w/\x/\Y) : x := h.o.2.2.2.2.2.2.2.2.1
theorem J.I {p q r s t u v w x Y : Prop} (h : J<|p/\q/\r/\s/\t/\u/\v/\w/\x/\Y) : Y := h.o.2.2.2.2.2.2.2.2.2
theorem J.j {p q r s t u v w x y Y : Prop} (h : J<|p/\q/\r/\s/\t/\u/\v/\w/\x/\y/\Y) : y := h.o.2.2.2.2.2.2.2.2.2.1
theorem J.J {p q r s t u v w x y Y : Prop} (h : J<|p/\q/\r/\s/\t/\u/\v/\w/\x/\y/\Y) : Y := h.o.2.2.2.2.2.2.2.2.2.2
theorem H' {p:Prop}(h:p:=by simp[intOf];omega):p:=h
attribute [go_sem] results
theorem I' {p:Prop}(h:p:=by first|omega|(simp<;>omega)):p:=h
theorem J' {p q:Prop}(x:q)(h:q->p:=by intro h;simpa using h):p:=h x
theorem L' {p q:Prop}(x:q)(h:q->p:=by intro h;omega):p:=h x
abbrev t':=World
abbrev u':=Option Addr
abbrev y':=List UInt8
abbrev z':=ByteArray
abbrev A':=Value
end
variable {n:Nat}{w:t'}
abbrev Cl:=Calls Tryz.prog
abbrev dB(a0)(a1):=(#[.slice (some<|O a0 0) a1 a1,.func (.func 267) #[] #[],.func (.func 296) #[] #[]]:Array A')
abbrev bM(a0):=(#[.pointer<|some<|O a0 0]:Array A')
abbrev cw(a0)(a1):=(.slice (some<|O a0 0) a1 a1:A')
abbrev lL:=(#[.slice none 0 0,.slice none 0 0,.bool false,G 0,.slice none 0 0]:Array A')
abbrev AI:=(#[.bool false,.bool false,G 0,.bool false,G 0,.bool false,G 0,.bool false,G 0,.bool false,G 0,.bool false,G 0,.bool false,G 0,.bool false,G 0]:Array A')
abbrev ei(a0)(a1)(a2)(a3):=(#[.slice (some<|O a0 0) a1 a2,G a3]:Array A')
abbrev ko(a0)(a1)(a2)(a3)(a4):=(#[.pointer<|some<|O a0 0,.slice (some<|O a1 a2) a3 a4]:Array A')
abbrev AH:=(#[.bool false,G 0,G 0,G 0,G 0,G 0,G 0,G 0,G 0,G 0,G 0,G 0,G 0,G 0,G 0,G 0,G 0]:Array A')
abbrev nF:=(#[G 0,G 0,G 0,.bool false,G 0,G 0]:Array A')
abbrev rQ(a0)(a1):=(#[.pointer<|some<|O a0 0,.pointer<|some<|O a1 0]:Array A')
abbrev mN:=(.cells #[.slice none 0 0,.nilFunc,.nilFunc] 260 (0,0):Obj)
abbrev cA(a0):=(some (O a0 0):u')
abbrev Fp:=(#[.slice none 0 0,.nilFunc,.nilFunc]:Array A')
abbrev dr(a0)(a1):=(.cells #[G a0,G a1] 166:Obj)
abbrev fj:=(.cells #[Z 0,Z 0] 267:Obj)
abbrev eu(a0)(a1)(a2):=(.slice (some<|O a0 0) a1 a2:A')
abbrev jo:=(.cells #[Z 0,Z 0] 267 (0,0):Obj)
abbrev iQ:=(#[G 0,G 0,.slice none 0 0]:Array A')
abbrev iP:=(.func (.func 267) #[] #[]:A')
abbrev cL(a0)(a1):=(.cells a0 a1 (0,0):Obj)
abbrev iO:=(.cells #[G 0,G 0] 247:Obj)
abbrev o4:=(#[G 0,.slice none 0 0,.slice none 0 0]:Array A')
abbrev iN(a0):=(.cells #[G a0] 3 (0,0):Obj)
abbrev kL(a0)(a1):=(#[.slice (some<|O a0 0) a1 a1]:Array A')
abbrev lR(a0):=(.pointer (some<|O a0 0):A')
abbrev mM:=(.func (.func 296) #[] #[]:A')
abbrev bk(a0)(a1)(a2):=(.slice a0 a1 a2:A')
abbrev mL(a0):=(#[.slice (some<|O a0 0) 1 1]:Array A')
abbrev kK(a0)(a1):=(.cells #[Z a0,Z a1] 267:Obj)
abbrev ot(a0)(a1):=(.cells #[G a0,G a1] 166 (0,0):Obj)
abbrev oq:=(#[.slice none 0 0,G 0]:Array A')
abbrev kJ(a0)(a1):=(.cells #[G a0,G a1] 247:Obj)
abbrev rh(a0)(a1):=(.cells #[.bool true,G a0,G a1] 150:Obj)
abbrev Bw(a0):=(.cells #[G a0,G 0,G 0,.bool false,G 0,G 0] 73:Obj)
abbrev rf(a0):=(#[.slice (some<|O a0 0) 2 2]:Array A')
abbrev oZ(a0)(a1)(a2):=(.cells #[.bool a0,G a1,G a2] 150:Obj)
abbrev Fo:=(#[.bool false,G 0,G 0,G 0,.bool false,G 0,G 0]:Array A')
abbrev vF:=(.cells #[G 0,G 0] 247 (0,0):Obj)
abbrev q!(a0)(a1):=(.cells #[Z a0,Z a1] 267 (0,0):Obj)
abbrev gO(a0)(a1)(a2)(a3)(a4):=(#[G a0,G a1,.slice a2 a3 a4]:Array A')
abbrev sK(a0)(a1)(a2)(a3)(a4)(a5)(a6):=(#[.bool a0,G a1,G a2,G a3,.bool a4,G a5,G a6]:Array A')
abbrev L8:=(.cells #[.int .u8 87,.int .u8 67,.int .u8 1] 5 (3,4):Obj)
abbrev Ro:=(.cells #[.slice none 0 0,.slice none 0 0,.bool true,G 0,.slice none 0 0] 96:Obj)
abbrev q?:=(#[.bool true,G 0]:Array A')
abbrev oo:=(.cells #[] 331:Obj)
abbrev lj(a0)(a1):=(.agg #[Z a0,Z a1]:A')
abbrev Bv(a0)(a1):=(#[.pointer<|some<|O a0 0,.string a1]:Array A')
abbrev ya(a0)(a1):=(#[G a0,.pointer<|some<|O a1 0]:Array A')
abbrev om(a0):=(#[.bool false,G a0]:Array A')
abbrev x!(a0):=(.cells #[.bool a0] 4 (0,0):Obj)
abbrev x?:=(#[Z 0,Z 0,Z 0,Z 0]:Array A')
abbrev vE:=(#[.bool false,G 0]:Array A')
abbrev Bu(a0)(a1):=(.pointer (some<|O a0<|a1*5):A')
namespace Wm
def mV(c:UInt8):Bool:=decide (97<=c.toNat)&&decide (c.toNat<=122)
def nk(c:UInt8):Bool:=decide (48<=c.toNat)&&decide (c.toNat<=57)
def yb(c:UInt8):Bool:=mV c||nk c
def resv(l:List UInt8):Bool:=l==[105,110,112,117,116]||l==[111,117,116,112,117,116]||l==[105,102]||l==[103,111,116,111]||l==[114,101,116,117,114,110]
def TG(l:List UInt8):Bool:=
 match l with
 |[]=>false
 |c :: r=>mV c&&(c :: r).all yb&&decide (r.length+1<=6)&&!resv (c :: r)
def nm(s:ByteArray):Bool:=TG s.data.toList
theorem UG(s:ByteArray)(k:Nat)(h:k<s.size):s.data.toList[k]?=some s[k]:=by rw[aQ<|by simpa using h];rfl
theorem OH(s:ByteArray)(k:Nat)(h:k<s.size):s.data.toList.take (k+1)=s.data.toList.take k++[s[k]]:=by rw[cX<|by simpa using h];rfl
theorem bS(s:ByteArray):s.data.toList.length=s.size:=rfl
theorem vr(s:ByteArray)(h:0<s.size):s.data.toList=s[0] :: s.data.toList.drop 1:=by
 have:=UG s 0 h;cases X:s.data.toList with
 |nil=>rw[X]at this;simp at this
 |cons a t=>rw[X]at this;simp at this;simp[this]
theorem pR(s:ByteArray)(k:Nat)(p:UInt8->Bool)(h:k<s.size):(s.data.toList.take<|k+1).all p=((s.data.toList.take k).all p&&p s[k]):=by rw[OH s k h];simp[List.all_append]
theorem wu(l:List UInt8)(k:Nat)(p:UInt8->Bool)(h:l.all p=true):(l.take k).all p=true:=by rw[bZ]at h|-;exact λx F=>h x<|lg F
theorem Nb(s:ByteArray)(D:0<s.size):nm s=(mV s[0]&&s.data.toList.all yb&&decide (s.size<=6)&&!resv s.data.toList):=by have X:=bS s;unfold nm TG;rw[vr s D]at X|-;simp only[bR]at X;show(mV s[0]&&_&&decide ((List.drop 1 s.data.toList).length+1<=6)&&_)=_;rw[X]
theorem M!(s:ByteArray)(h:s.size=0):nm s=false:=by have X:=bS s;have:s.data.toList=[]:=fg.1 I;unfold nm;rw[this];rfl
theorem XT(s:ByteArray)(h:6<s.size):nm s=false:=by rw[Nb s I];simp;intros;omega
theorem Na(s:ByteArray)(D:0<s.size)(h:mV s[0]=false):nm s=false:=by rw[Nb s D,h];rfl
theorem acB(s:ByteArray)(k:Nat)(h:k<s.size)(a:yb s[k]=false):nm s=false:=by
 rw[Nb s I];have:s.data.toList.all yb=false:=by
  cases e:s.data.toList.all yb with
  |false=>rfl
  |true=>have:=wu _ (k+1) _ e;rw[pR s k _ h,a]at this;simp at this
 rw[this];simp
theorem acA(s:ByteArray)(D:0<s.size)(c:s.size<=6)(V:mV s[0]=true)(a:(s.data.toList.take s.size).all yb=true):nm s=!resv s.data.toList:=by rw[Nb s D,V];rw[b!<|by rw[bS];exact aD _]at a;rw[a];simp[c]
def Q5(l:List UInt8):Int:=if l==[43] then 0 else if l==[45] then 1 else if l==[42] then 2 else if l==[47] then 3 else 0
def Ts(l:List UInt8):Bool:=l==[43]||l==[45]||l==[42]||l==[47]
def WW(l:List UInt8):Int:=if l==[60] then 0 else if l==[60,61] then 1 else if l==[61,61] then 2 else if l==[33,61] then 3 else 0
def V!(l:List UInt8):Bool:=l==[60]||l==[60,61]||l==[61,61]||l==[33,61]
end Wm
section
variable {a u:t'}{b o B e size k f:Nat}{v:A'}{L:Array A'}{t:TypeId}{D:List A'}{q:u'}{P Q:Nat->Prop}{p:Prop}
def aZ{a b:Bool}(h:a=b):o' (i' a)=o' (i' b):=by rw[h]
def ft(h:χ w (O b o)=C' v):∃c t f,w.1[b]?=C' (j' c t f):=by
 unfold World.cell? at h;simp only at h;split at h
 .rename_i c t f e;exact⟨c,t,f,e⟩
 cases h
def A(h:w.1[b]?=C' (j' L t (0,0))):(∀o,χ w (O b o)=L[o]?)/\(∀o,w.frozen? (O b o)=Q'):=by refine⟨λo=>by simp[World.cell?,h],λo=>by simp[World.frozen?,h]⟩
def eZ(h:ρ w B e size v n D):∀k,φ v=C' k->∃Y f,w.1[k]?=C' (j' Y e f):=by
 intro k a;rcases h.2 with⟨rfl,_⟩|⟨g,b,Y,rfl,_,b,_⟩
 .simp[Value.ownBlock]at a
 simp[Value.ownBlock]at a;subst a;exact⟨Y,(0,0),b⟩
def bF(h:a.1[k]?=w.1[k]?):χ a (O k o)=χ w (O k o):=by simp only[World.cell?,h]
def Â{a b:z'}(h:a.1.1=b.1.1):a=b:=by cases a;cases b;simp only at h;congr 1;exact WC.1 h
def Ix(w:t')(v:A')(t:TypeId):∀j u,[v][j]?=C' u->χ (w.alloc<|j' #[v] t) (((O w.1.size 0):Addr).add j)=C' u:=by
 intro j u hj
 match j,hj with
 |0,hj=>simp at hj;subst hj;simp[Addr.add]
def Ap{a b c}:=@Ix a b c
def bP(w:t')(a f:Obj):((w.alloc a).alloc f).1[δ w.1]?=C' a/\((w.alloc a).alloc f).1[δ w.1+1]?=C' f:=by have W:δ (w.alloc a).1=δ w.1+1:=ak;have C:=bj w a;have b:=bj (w.alloc a) f;rw[W]at b;exact⟨by rw[ch _ _ _ I];exact C,b⟩
def eO{a b c}:=@bP a b c
def below_drewN(h:Below b u w)(n:Nat):Below b u (w.drewN n):=⟨h.os,h.tape,h.output,h.size,h.block⟩
def aX(h:ρ w B e size v n D):∃a b,v=h' a n b:=by
 rcases h.2 with⟨rfl,e⟩|⟨g,b,Y,R,_⟩
 .exact⟨D',0,by rw[e]⟩
 exact⟨_,_,R⟩
def bC(h:ρ w B e size v n D)(a:f<=B):ρ w f e size v n D:=by
 refine⟨h.1,?_⟩;rcases h.2 with a|⟨g,b,Y,C,c,N⟩
 .exact aI a
 exact aH ⟨g,b,Y,C,I,N⟩
def fV(w:t')(b o:Nat)(v:A'):ξ w (κ w (O b o) v) (C' b):=
 ⟨rfl,rfl,rfl,by simp[World.setCell],λk _ z=>bh _ _ _ _ λe=>z<|by rw[e]⟩
def ub{a b c d}:=@fV a b c d
def bY{L d u:Nat}{g:A'}{c:List A'}(h:ρ w B e size v n D)(s:ρ w f L d g u c)(l:e≠L):φ v=D'\/φ v≠φ g:=by
 cases R:φ v with
 |none=>exact aI rfl
 |some k=>refine aH λo=>?_;obtain⟨Q,K,a⟩:=eZ h k R;obtain⟨p,B,b⟩:=eZ s k o.symm;rw[a]at b;simp at b;exact l b.2.1
def Py(h:ρ w B e size v n D){q:Nat}(a:q<B):φ v=D'\/φ v≠C' q:=by
 cases R:φ v with
 |none=>exact aI rfl
 |some k=>have:=(h.lt k R).1;exact aH I'
def aA(h:χ w (O k o)=C' v)(b:Bl w a):χ a (O k o)=C' v:=by obtain⟨c,t,f,T⟩:=ft h;exact(bF<|b.block k (bG.1 T).1).trans h
def dh(h:χ w (O k o)=C' v):k<δ w.1:=by obtain⟨c,t,f,T⟩:=ft h;exact(bG.1 T).1
def b7(w:t')(ao:u')(xs:List Int):Prop:=∀j x,xs[j]?=C' x->∃b o,ao=C' (O b o)/\χ w (O b<|o+j)=C' (G x)
def b7.below{D:List Int}(h:b7 w q D)(c:Bl w a):b7 a q D:=by intro j x f;obtain⟨b,o,C,a⟩:=h j x f;exact⟨b,o,C,aA a c⟩
def b7.pre{D z:List Int}(h:b7 w q z)(U:D <+: z):b7 w q D:=by obtain⟨t,rfl⟩:=U;intro j x f;exact h j x (by rw[iC (aV.1 f).1];exact f)
def wk(W:t')(v:A')(t:TypeId)(k:Nat)(a:k=δ W.1):∀j u,[v][j]?=C' u->χ (W.alloc<|j' #[v] t) (((O k 0):Addr).add j)=C' u:=by subst a;exact Ix W v t
def dS{P:Program}{ops:Array Oper}{o:Oper}{a:Act}{K:Act->t'->Prop}{Q:Exit->Act->t'->Prop}{E:Prop}
  (q:o.guard=D') (s x:Operand) (t:TypeId) (p:o.op=Op.call {callee:=Callee.builtin Builtin.append,args:=#[s,x],argTypes:=#[t,t]})
  (k:Nat) (e:TypeId) (i:TypeInfo) (z:A') (size bytes:Nat) (C:P.underlying t=C' (.slice e)) (W:P.info? e=C' i) (N:i.zero=C' z) (X:i.size=size) (l:i.bytes=bytes) (h6:z.cells.size=size) (V:0<size)
  (v:A') (n:Nat) (f:List A') (y:a.eval s=v) (D:ρ w k e size v n f)
  (R:Addr) (m c:Nat) (b:List A') (F:a.eval x=h' (C' R) m c) (hn:ζ b=m*size) (T:∀j u,b[j]?=C' u->χ w (R.add j)=C' u) (U:∀u∈b,u.oneCell'=P')
  (u:n+m<=maxLen) (b2:(n+m)*bytes<=140737488355328) (hB:k<=δ w.1)
  (Y:∀g j,ρ j k e size g (n+m) (f++b)->ξ w j (φ v)->(φ g=φ v\/φ g=C' w.1.size)->K (a.put o.dst g) j):
  if Region.wanted o (yielded ops a.tmps)=P' then Oper.wp P o a w K Q else E:=by
 have B:Region.wanted o (yielded ops a.tmps)=P':=by simp[Region.wanted,q]
 rw[aB B];obtain⟨g,j,r,r1,q,_,L⟩:=run_append_own_at (P:=P) (w:=w) k t o.type e i z size bytes C W N X l h6 V v n f D R m c b hn T U u b2 hB;obtain⟨U,T,rfl⟩:=aX D;simp[Oper.wp,execOp,p,resolve,invoke,builtin,y,F,r,Result.andThen];exact Y g j r1 q L
def cE(w:t')(a:Obj):Bl w (w.alloc a):=(aP _ _).alloc (aD _) _
def aY{a b}:=@cE a b
def vu(w:t')(a b:Obj):Bl w ((w.alloc a).alloc b):=(cE w a).alloc ak _
def cU{a b c}:=@vu a b c
def pO(w:t')(a b c:Obj):Bl w (((w.alloc a).alloc b).alloc c):=(vu w a b).alloc I' _
def gU{a b c d}:=@pO a b c d
def sw(w:t')(a b c d:Obj):Bl w ((((w.alloc a).alloc b).alloc c).alloc d):=(pO w a b c).alloc I' _
def oe{a b c d e}:=@sw a b c d e
def aq{v:t'}(h:Bl u v)(k:Bl v w):Bl u w:=h.trans<|k.mono h.size
structure Kp(b:Nat)(w w':t'):Prop where
  os:w'.os=w.os
  tape:w'.tape=w.tape
  output:w'.output=w.output
  size:δ w.1<=δ w'.1
  keep:∀k o,w.1[k]?=C' o->k≠b->(∀c f,o≠j' c 5 f)->w'.1[k]?=C' o
def Kp.refl(b:Nat)(w:t'):Kp b w w:=⟨rfl,rfl,rfl,aD _,λ_ _ h _ _=>h⟩
def Kp.trans{v:t'}(h:Kp b u v)(k:Kp b v w):Kp b u w:=
 ⟨k.os.trans h.os,k.tape.trans h.tape,k.output.trans h.output,br h.size k.size,λj o a c d=>k.keep j o (h.keep j o a c d) c d⟩
def zz(h:Kp b w a)(o:Nat)(v:A'):Kp b w (κ a (O b o) v):=
 ⟨h.os,h.tape,h.output,by simpa[World.setCell]using h.size,λk x a c d=>(bh _ _ _ _ c).trans<|h.keep k x a c d⟩
def zA{h:t'}(f:ξ w h<|φ v)(i:ρ w B 5 1 v n D):Kp b w h:=by
 refine⟨f.os,f.tape,f.output,f.size,λk o a _ d=>?_⟩;refine(f.block k (bG.1 a).1 ?_).trans a;intro e;rcases i.2 with⟨rfl,_⟩|⟨g,j,Y,rfl,_,c,_⟩
 .simp[Value.ownBlock]at e
 simp only[Value.ownBlock,dq]at e;subst e;rw[a]at c;cases c;exact d _ _ rfl
structure Fr(P:Nat->Prop)(w w':t'):Prop where
  os:w'.os=w.os
  tape:w'.tape=w.tape
  output:w'.output=w.output
  size:δ w.1<=δ w'.1
  block:∀k,k<δ w.1->P k->w'.1[k]?=w.1[k]?
def Fr.refl(P:Nat->Prop)(w:t'):Fr P w w:=⟨rfl,rfl,rfl,aD _,λ_ _ _=>rfl⟩
def Fr.aR(h:Bl w a):Fr P w a:=⟨h.os,h.tape,h.output,h.size,λk a _=>h.block k a⟩
def Fr.trans{v:t'}(h:Fr P u v)(k:Fr Q v w)(S:∀x,x<δ u.1->P x->Q x):Fr P u w:=
 ⟨k.os.trans h.os,k.tape.trans h.tape,k.output.trans h.output,br h.size k.size,λx F U=>(k.block x (ep F h.size)<|S x F U).trans<|h.block x F U⟩
def Fr.dI{q:Option Nat}(h:ξ w a q)(hP:∀k,k<δ w.1->P k->some k≠q):Fr P w a:=⟨h.os,h.tape,h.output,h.size,λk a U=>h.block k a<|hP k a U⟩
def Fr.grown{v:t'}{q:Option Nat}(h:Fr P u v)(k:ξ v w q)(hP:∀x,x<δ u.1->P x->some x≠q):Fr P u w:=
 ⟨k.os.trans h.os,k.tape.trans h.tape,k.output.trans h.output,br h.size k.size,λx F U=>(k.block x (ep F h.size)<|hP x F U).trans<|h.block x F U⟩
def Fr.mono{v:t'}(h:Fr P u v)(S:∀x,x<δ u.1->Q x->P x):Fr Q u v:=
 ⟨h.os,h.tape,h.output,h.size,λx F U=>h.block x F<|S x F U⟩
def Fr.own{c:t'}(h:Fr P w c)(b:ρ w B e size v n D)(R:∀k,φ v=C' k->P k):ρ c B e size v n D:=by
 have L:=b.lt;refine⟨b.1,?_⟩;rcases b.2 with o|⟨g,a,Y,V,Q,p,d⟩
 .exact aI o
 subst V;exact aH ⟨g,a,Y,rfl,Q,(h.block g (L g rfl).2<|R g rfl).trans p,d⟩
def Fr.below(h:Fr P w a)(v:B<=δ w.1)(hP:∀k,k<B->P k):Below B w a:=⟨h.os,h.tape,h.output,h.size,λk a=>h.block k I<|hP k a⟩
def Fr.set{v:t'}{x:A'}(h:Fr P u v)(hP:∀k,P k->k≠b):Fr P u (κ v (O b o) x):=
 ⟨h.os,h.tape,h.output,by simpa[World.setCell]using h.size,λk a U=>(bh _ _ _ _<|hP k U).trans<|h.block k a U⟩
def aw(h:w.1[b]?=C' (j' L t (0,0)))(v:A'):(κ w (O b o) v).1[b]?=C' (j' (L.setIfInBounds o v) t (0,0)):=by simp[World.setCell,sH,h]
def À{o:Obj}(h:w.1[k]?=C' o):k<δ w.1:=(bG.1 h).1
def aF{o:Obj}(b:Bl w a)(h:w.1[k]?=C' o):a.1[k]?=C' o:=(b.block k<|À h).trans h
def ZA(w:t')(a f b:Obj):(((w.alloc a).alloc f).alloc b).1[δ w.1+1+1]?=C' b:=by have:=bj ((w.alloc a).alloc f) b;simpa using this
def qL(w:t')(a f c b:Obj):((((w.alloc a).alloc f).alloc c).alloc b).1[δ w.1]?=C' a/\((((w.alloc a).alloc f).alloc c).alloc b).1[δ w.1+1]?=C' f/\((((w.alloc a).alloc f).alloc c).alloc b).1[δ w.1+1+1]?=C' c/\((((w.alloc a).alloc f).alloc c).alloc b).1[δ w.1+1+1+1]?=C' b:=by
 have d:=bj (((w.alloc a).alloc f).alloc c) b;rw[show(((w.alloc a).alloc f).alloc c).1.size=δ w.1+1+1+1 by simp]at d;refine⟨?_,?_,?_,d⟩
 .rw[ch _ _ _<|by simp;try omega,ch _ _ _<|by simp;try omega];exact(bP w a f).1
 .rw[ch _ _ _<|by simp;try omega,ch _ _ _<|by simp;try omega];exact(bP w a f).2
 rw[ch _ _ _<|by simp;try omega];exact ZA w a f c
def ĵ(h:p:=by
 refine⟨h.1,?_⟩;rcases h.2 with a|⟨g,b,Y,C,c,N,d⟩
 .exact aI a
 exact aH ⟨g,b,Y,C,c,(f.block g (bG.1 N).1).trans N,d⟩):p:=h
def bu(h:ρ w B e size v n D)(f:Bl w a):ρ a B e size v n D:=by exact ĵ
def uK{f:Nat->Bool}(h:f k=Q')(b:k<n):(range n).all f=Q':=by rw[vD];intro a;rw[bZ]at a;have:=a k<|J' b;rw[h]at this;cases this
def lq(f:Nat->Bool)(k:Nat):(range<|k+1).all f=((range k).all f&&f k):=by simp[kI]
def JS{α:Type}(a l:List α)(m i:Nat)(x:α)(h:ζ a=m):(a++l).set (m+i) x=a++l.set i x:=by rw[oX _ _ I];congr 2;omega
def t?{a b c d e f}:=@JS a b c d e f
def H(h:p:=by kernel_rfl):p:=h
def ay(h:p:=by repeat(first|with_reducible exact aP _ _|with_reducible refine below_drewN ?_ _|with_reducible refine iJ ?_|refine qZ ?_ (by first|(simp;done)|(simp;omega)) _)):p:=h
end
def jb(c:UInt8)(w:t'):
  Cl 191 #[.int .u8 c.toNat] w λe a=>e=o' (i'<|Wm.mV c)/\a=w:=by
 go_enter func191,ntmps191;go_wp2
 all_goals
  go_ret;refine⟨aZ ?_,rfl⟩;unfold Wm.mV
  first|(rw[cK];simp;omega)|skip
def l7(c:UInt8)(w:t'):
  Cl 192 #[.int .u8 c.toNat] w λe a=>e=o' (i'<|Wm.nk c)/\a=w:=by
 go_enter func192,ntmps192;go_wp2
 all_goals
  go_ret;refine⟨aZ ?_,rfl⟩;unfold Wm.nk
  first|(rw[cK];simp;omega)|skip
def zF(s:z')(w:t'):
  Cl 193 #[m' s] w λe a=>e=o' (i'<|Wm.resv s.1.1)/\a=w:=by
 rw[<-eT];go_enter func193,ntmps193;go_wp2
 all_goals
  go_ret;refine⟨aZ ?_,rfl⟩;unfold Wm.resv;simp_all
def eg(s:z')(w:t')(y:s.size<=maxLen):
  Cl 124 #[m' s] w λe a=>e=o' (i'<|Wm.nm s)/\a=w:=by
 unfold maxLen at y;by_cases D:s.size=0
 .go_enter func124,ntmps124;go_wp2;go_ret;exact⟨aZ (Wm.M! s D).symm,rfl⟩
 by_cases c:6<s.size
 .go_enter func124,ntmps124;go_wp2;go_ret;exact⟨aZ (Wm.XT s c).symm,rfl⟩
 have U:0<s.size:=I;have o:((s.size:Int)==0)=Q':=by rw[dO];omega
 have b:decide (6<(s.size:Int))=Q':=by rw[gB];omega
 cases V:Wm.mV s[0]with
 |false=>go_enter func124,ntmps124;go_wp2_with (go_at_call 191;refine(jb _ _).mono ?_;rintro e a ⟨rfl,rfl⟩);go_ret;exact⟨aZ (Wm.Na s U V).symm,rfl⟩
 |true=>
  go_enter func124,ntmps124;go_wp2_with (go_at_call 191;refine(jb _ _).mono ?_;rintro e a ⟨rfl,rfl⟩)
  go_loop [20] (λi=>∃k:Nat,k<=s.size/\i=G k/\(s.1.1.take k).all Wm.yb=P') (λi=>s.size-(intOf i).toNat)
  case atStart=>exact⟨0,bq _,rfl,ak⟩
  obtain⟨k,b,rfl,b⟩:=hrel;have T:=ſ b;clear b;by_cases L:k<s.size;rotate_left
  .go_wp2_with (go_at_call 193;refine(zF _ _).mono ?_;rintro e a ⟨rfl,rfl⟩);go_ret;exact⟨aZ (Wm.acA s U I V<|by rw[show s.size=k by omega];exact T.o).symm,rfl⟩
  cases X:Wm.mV s[k]with
  |true=>
   go_wp2_with (go_at_call 191;refine(jb _ _).mono ?_;rintro e a ⟨rfl,rfl⟩)
   go_round
   case rel=>exact⟨k+1,I,f',by rw[Wm.pR s k _ L,T.o];simp[Wm.yb,X]⟩
   exact H'
  |false=>
   cases Q:Wm.nk s[k]with
   |true=>
    go_wp2_with (first|(go_at_call 191;refine(jb _ _).mono ?_;rintro e a ⟨rfl,rfl⟩)|(go_at_call 192;refine(l7 _ _).mono ?_;rintro e a ⟨rfl,rfl⟩))
    go_round
    case rel=>exact⟨k+1,I,f',by rw[Wm.pR s k _ L,T.o];simp[Wm.yb,Q]⟩
    exact H'
   |false=>go_wp2_with (first|(go_at_call 191;refine(jb _ _).mono ?_;rintro e a ⟨rfl,rfl⟩)|(go_at_call 192;refine(l7 _ _).mono ?_;rintro e a ⟨rfl,rfl⟩));go_ret;exact⟨aZ (Wm.acB s k L<|by simp[Wm.yb,X,Q]).symm,rfl⟩
def uM{a b:Int}{c d:Bool}(h:a=b)(s:c=d):o' (p' #[G a,i' c])=o' (p' #[G b,i' d]):=by rw[h,s]
def Gt(s:z')(w:t'):
  Cl 262 #[m' s] w λe a=>e=o' (p' #[G<|Wm.Q5 s.1.1,i'<|Wm.Ts s.1.1])/\a=w:=by
 rw[<-eT];go_enter func262,ntmps262;go_wp2
 all_goals
  go_ret2;refine⟨uM ?_ ?_,rfl⟩<;>simp_all[Wm.Q5,Wm.Ts]
def A4(s:z')(w:t'):
  Cl 260 #[m' s] w λe a=>e=o' (p' #[G<|Wm.WW s.1.1,i'<|Wm.V! s.1.1])/\a=w:=by
 rw[<-eT];go_enter func260,ntmps260;go_wp2
 all_goals
  go_ret2;refine⟨uM ?_ ?_,rfl⟩<;>simp_all[Wm.WW,Wm.V!]
def Hf(c:Int)(w:t'):
  Cl 122 #[.int .i32 c] w λe a=>e=o' (i'<|c==32||c==9||c==13)/\a=w:=by
 go_enter func122,ntmps122;go_wp2
 all_goals
  go_ret;refine⟨aZ ?_,rfl⟩;simp_all
namespace Wm
def oQ(a:Nat)(l:List UInt8):Nat:=l.foldl (λa c=>a*10+(c.toNat-48)) a
def gp(l:List UInt8):Nat:=oQ 0 l
def dg(l:List UInt8):List UInt8:=trimPrefix l [45]
def ng(l:List UInt8):Bool:=hasPrefix l [45]
def pG(neg:Bool)(d:List UInt8):Bool:=
 match d with
 |[]=>false
 |c :: r=>(c :: r).all nk&&(if c.toNat==48 then decide (r.length=0)&&!neg else true)
def r!(l:List UInt8):Bool:=pG (ng l)<|dg l
def np(l:List UInt8):Option Int:=
 if r! l then(if ng l then(if gp (dg l)<=9223372036854775808 then some (-(gp (dg l):Int)) else none) else if gp (dg l)<9223372036854775808 then some (gp (dg l):Int) else none) else none
theorem Zg(l:List UInt8):∀a,a<=oQ a l:=by
 induction l with
 |nil=>intro a;exact aD _
 |cons c r B=>intro a;have:=B<|a*10+(c.toNat-48);simp only[oQ,e8]at this|-;omega
theorem qG(a:Nat)(c:UInt8)(r:List UInt8):oQ a (c :: r)=oQ (a*10+(c.toNat-48)) r:=by unfold oQ;rw[e8]
theorem nj(c:UInt8):nk c=true↔48<=c.toNat/\c.toNat<=57:=by simp[nk]
theorem XF(b a:Nat)(c:UInt8)(r:List UInt8)(T:48<=c.toNat/\c.toNat<=57):parseUintM b a (c :: r)=if 1844674407370955162<=a then .range else if b<a*10+(c.toNat-48) then .range else parseUintM b (a*10+(c.toNat-48)) r:=by rw[parseUintM,aB T]
theorem ar1(c a x f:Nat)(b:c<18446744073709551620)(C:1844674407370955162<=a)(u:a*10+x<=f):¬f<=c:=by omega
theorem R9(d:Nat)(b:d<18446744073709551620):∀(l:List UInt8)(a:Nat),l.all nk=true->a<=d->parseUintM d a l=if oQ a l<=d then .ok (oQ a l) else .range
 |[],a,_,ha=>by rw[aB<|show oQ a []<=d from ha];rfl
 |c :: r,a,Q,ha=>by
  have U:nk c=true:=by simp only[qY,aS]at Q;exact Q.1
  have P:r.all nk=true:=by simp only[qY,aS]at Q;exact Q.2
  have T:=(nj c).1 U;have u:=Zg r<|a*10+(c.toNat-48);rw[XF d a c r T,qG];by_cases C:1844674407370955162<=a
  .rw[aB C,ax<|ar1 d a _ _ b C u]
  rw[ax C];by_cases e:d<a*10+(c.toNat-48)
  .rw[aB e,ax I]
  rw[ax e];exact R9 d b r _ P I
theorem zk{a:Bool}{d:List UInt8}(h:pG a d=true):d.all nk=true/\d≠[]:=by
 cases d with
 |nil=>simp[pG]at h
 |cons c r=>simp only[pG,aS]at h;exact⟨h.1,by simp⟩
theorem LB(r:List UInt8):dg (45 :: r)=r:=by simp[dg,trimPrefix,hasPrefix,List.isPrefixOf]
theorem KK(r:List UInt8):ng (45 :: r)=true:=by simp[ng,hasPrefix,List.isPrefixOf]
theorem D9(c:UInt8)(r:List UInt8)(h:c≠45):ng (c :: r)=false:=by simp[ng,hasPrefix,List.isPrefixOf];exact λe=>h e.symm
theorem EF(c:UInt8)(r:List UInt8)(h:c≠45):dg (c :: r)=c :: r:=by have:=D9 c r h;unfold ng at this;simp[dg,trimPrefix,this]
theorem IT:(2:Nat) ^ (64-1)=9223372036854775808:=by decide
theorem KV:(2:Nat) ^ 64-1=18446744073709551615:=by decide
theorem Zm(r:List UInt8)(h:r! (45 :: r)=true):np (45 :: r)=if gp r<=9223372036854775808 then some (-(gp r:Int)) else none:=by unfold np;rw[aB h,KK,LB];rfl
theorem Zl(c:UInt8)(r:List UInt8)(T:c≠45)(h:r! (c :: r)=true):np (c :: r)=if gp (c :: r)<9223372036854775808 then some (gp (c :: r):Int) else none:=by unfold np;rw[aB h,D9 c r T,EF c r T];rfl
theorem Px(l:List UInt8)(h:r! l=true):parseIntB 64 l=match np l with|some v=>.ok v|none=>.range:=by
 cases l with
 |nil=>simp[r!,dg,trimPrefix,hasPrefix,pG]at h
 |cons c r=>
  by_cases T:c=45
  .subst T;rw[Zm r h];unfold r! at h;rw[LB,KK]at h;obtain⟨a,K⟩:=zk h;have f:=R9 18446744073709551615 I r 0 a I;unfold parseIntB parseUintB;simp only[show(45:UInt8).toNat=45 from rfl,or_true,b8,K,bB];rw[KV,IT,f];have e:oQ 0 r=gp r:=rfl;rw[e];by_cases C:gp r<=18446744073709551615;rotate_left
   .rw[ax C,ax I]
   rw[aB C];by_cases d:gp r<=9223372036854775808
   .rw[aB d];simp only[not_true,false_and,bB,oj];rw[ax I]
   rw[ax d];simp only[not_true,false_and,bB,oj];rw[aB I]
  rw[Zl c r T h];unfold r! at h;rw[EF c r T,D9 c r T]at h;obtain⟨a,K⟩:=zk h;have f:=R9 18446744073709551615 I (c :: r) 0 a I;have z:48<=c.toNat/\c.toNat<=57:=by simp only[qY,aS]at a;exact(nj c).1 a.1
  unfold parseIntB parseUintB;have a:¬(c.toNat=43∨c.toNat=45):=by omega
  have b:¬c.toNat=45:=by omega
  simp only[a,bB,K];rw[KV,IT,f];simp only[b];have e:oQ 0 (c :: r)=gp (c :: r):=rfl;rw[e];by_cases C:gp (c :: r)<=18446744073709551615;rotate_left
  .rw[ax C,ax I]
  rw[aB C];by_cases d:gp (c :: r)<9223372036854775808
  .rw[aB d];simp only[not_false_eq_true,oj,false_and,bB];rw[ax I]
  rw[ax d];simp only[not_false_eq_true,oj];rw[aB I]
end Wm
def Ip(s p:z')(w:t'):
  Cl 91 #[m' s,m' p] w λe a=>∃(D:z')(b:Bool),e=o' (p' #[m' D,i' b])/\J (D.1.1=Lib.trimPrefix s.1.1 p.1.1/\b=Lib.hasPrefix s.1.1 p.1.1)/\a=w:=
 (Tryz.strings_CutPrefix s p w).mono λ_ _ h=>⟨_,_,h.1,⟨rfl,rfl⟩,h.2⟩
def Sc(l p:y'):ζ (Lib.trimPrefix l p)<=ζ l:=by unfold Lib.trimPrefix;split<;>simp
def KE(D:z')(b:Bool)(h:D.size=0):Wm.pG b D.1.1=Q':=by have:D.1.1=[]:=fg.1 h;rw[this];rfl
def TA(D:z')(b:Bool)(k:Nat)(h:k<D.size)(Q:Wm.nk D[k]=Q'):Wm.pG b D.1.1=Q':=by
 cases e:Wm.pG b D.1.1 with
 |false=>rfl
 |true=>have:=Wm.wu _ (k+1) _ (Wm.zk e).1;rw[Wm.pR D k _ h,Q]at this;simp at this
def Tz(D:z')(b:Bool)(h:0<D.size)(a:(D.1.1.take D.size).all Wm.nk=P'):Wm.pG b D.1.1=if D[0].toNat==48 then decide (D.size=1)&&!b else P':=by
 rw[b!<|by rw[Wm.bS];exact aD _]at a;have X:=Wm.bS D;have T:=Wm.vr D h;rw[T]at X a;unfold Wm.pG;rw[T];simp only[bR]at X;simp only[a,eV];have:decide (ζ (drop 1 D.1.1)=0)=decide (D.size=1):=by rw[cK];simp only[bw];omega
 rw[this]
def mG(s:z')(w:t')(y:s.size<=maxLen):
  Cl 337 #[m' s] w λe a=>e=o' (i'<|Wm.r! s.1.1)/\a=w:=by
 unfold maxLen at y;go_enter func337,ntmps337;go_wp2_with fail;refine(Ip _ _ _).mono ?_;rintro e a ⟨D,b,rfl,t,rfl⟩;have f:D.size<=2 ^ 63-1:=by have C:=Sc s.1.1 [45];have c:=cQ length t.a;have N:=Wm.bS D;have d:=Wm.bS s;simp only at c;omega
 have K:J (Wm.r! s.1.1=Wm.pG b D.1.1):=by show _=_;rw[t.a,t.A];rfl
 clear t;by_cases c:D.size=0
 .go_wp2;go_ret;exact⟨aZ (K.o.trans<|KE D b c).symm,rfl⟩
 have U:0<D.size:=I;have o:((D.size:Int)==0)=Q':=by rw[dO];omega
 go_wp2
 go_loop [16] (λi=>∃k:Nat,k<=D.size/\i=G k/\J ((D.1.1.take k).all Wm.nk=P')) (λi=>D.size-(intOf i).toNat)
 case atStart=>exact⟨0,bq _,rfl,by show _=P';simp⟩
 obtain⟨k,c,rfl,T⟩:=hrel;by_cases L:k<D.size
 .cases Q:Wm.nk D[k]with
  |true=>
   go_wp2_with (go_at_call 192;refine(l7 _ _).mono ?_;rintro e a ⟨rfl,rfl⟩)
   go_round
   case rel=>exact⟨k+1,I,f',by show _=P';rw[Wm.pR D k _ L,T.o,Q];rfl⟩
   exact H'
  |false=>go_wp2_with (go_at_call 192;refine(l7 _ _).mono ?_;rintro e a ⟨rfl,rfl⟩);go_ret;exact⟨aZ (K.o.trans<|TA D b k L Q).symm,rfl⟩
 obtain rfl:k=D.size:=I;have a:=Tz D b U T.o;have d:=ſ<|K.o.trans a;clear a;by_cases a:D[0].toNat=48;rotate_left
 .have c:((D[0].toNat:Int)==48)=Q':=by rw[dO];omega
  go_wp2;go_ret;refine⟨aZ ?_,rfl⟩;rw[d.o];simp[a]
 have c:((D[0].toNat:Int)==48)=P':=by rw[eo];omega
 by_cases C:D.size=1
 .have V:((D.size:Int)==1)=P':=by rw[eo];omega
  go_wp2;go_ret;refine⟨aZ ?_,rfl⟩;rw[d.o];simp[a,C]
 have V:((D.size:Int)==1)=Q':=by rw[dO];omega
 go_wp2;go_ret;refine⟨aZ ?_,rfl⟩;rw[d.o];simp[a,C]
def zZ(l:y'):Int:=(Wm.np l).getD 0
def wP(l:y'):Bool:=(Wm.np l).isSome
def Vf{l:y'}(h:Wm.r! l=Q'):Wm.np l=D':=by rw[Wm.np,h];rfl
def s9(s:z')(b:A')(w:t')(y:s.size<=3000)(R:χ w (O 5 0)=C' b)(L:∃i z,b=.iface i z):
  Cl 304 #[m' s] w (Rb w<|p' #[G<|zZ s.1.1,i'<|wP s.1.1]):=by
 have d:s.size<=maxLen:=by unfold maxLen;omega
 cases K:Wm.r! s.1.1 with
 |false=>go_enter func304,ntmps304;go_wp2_with (go_at_call 337;refine(mG _ _ d).mono ?_;rintro e a ⟨rfl,rfl⟩);go_ret2;exact⟨uM (by simp[zZ,Vf K])<|by simp[wP,Vf K],aP _ _⟩
 |true=>
  have r:=Wm.Px _ K;cases T:Wm.np s.1.1 with
  |some v=>
   rw[T]at r;have Y:=ſ T;clear T;go_enter func304,ntmps304;go_wp2_with (first|(go_at_call 337;refine(mG _ _ d).mono ?_;rintro e a ⟨rfl,rfl⟩)|(go_at_call 338;refine(Tryz.strconv_ParseInt_10_at64_ok s I v r _).mono ?_;rintro e a ⟨rfl,B⟩));go_ret2;refine⟨uM (by simp[zZ,Y.o])<|by simp[wP,Y.o],?_⟩;rcases B with rfl|⟨t,rfl⟩
   .exact aP _ _
   exact Lib.bytesWorld_below _ _ _
  |none=>rw[T]at r;have Y:=ſ T;clear T;go_enter func304,ntmps304;go_wp2_with (first|(go_at_call 337;refine(mG _ _ d).mono ?_;rintro e a ⟨rfl,rfl⟩)|(go_at_call 338;refine(Tryz.strconv_ParseInt_10_at64_range s I r b _ R<|aH L).mono ?_;rintro e a ⟨N,rfl,p,a,a⟩));go_ret2;exact⟨uM (by simp[zZ,Y.o])<|by simp[wP,Y.o],a⟩
section
variable {b:t'}{a x:Nat}
abbrev bD:=y'
def lC(l:bD):Lit:=.string l
def nG(D:DataW Unit)(i:Nat):List bD->DataW Unit
 |[]=>D
 |v::r=>nG (D.put (lC v)<|.lit<|.int .i64 i) (i+1) r
def tab(vs:List bD):DataW Unit:=nG (.map []) 0 vs
def sP(v:bD):∀(l:List bD)(D:DataW Unit)(i:Nat),nG D i (l++[v])=(nG D i l).put (lC v) (.lit<|.int .i64 ((i+ζ l:Nat):Int))
 |[],D,i=>by simp[nG]
 |x::l,D,i=>by rw[dA,nG,nG,sP v l];congr 4;simp;omega
def ph(E:List bD)(v:bD):tab (E++[v])=(tab E).put (lC v) (.lit<|.int .i64 (ζ E:Int)):=by unfold tab;rw[sP];simp
def qw(l:bD):WideAt.IsKeyLit (lC l):=by simp[lC,WideAt.IsKeyLit]
def ym(E:List bD):Tidy (tab E):=by
 suffices h:∀n (E:List bD),ζ E=n->Tidy (tab E)from h _ E rfl
 intro n;induction n with
 |zero=>intro E h;rw[fg.1 h];exact tidy_empty
 |succ n B=>intro E h;obtain⟨l,v,rfl⟩:∃l v,E=l++[v]:=⟨E.dropLast,E.getLast (by intro e;simp[e]at h),(xL _).symm⟩;rw[ph];exact(B l<|J' h).put (qw v) _
def tF{a b:bD}(h:lC a=lC b):a=b:=by simpa[lC]using h
def Es(E:List bD)(v:bD):Maps.has (tab E) (lC v)=decide (v∈E):=by
 suffices h:∀n (E:List bD),ζ E=n->Maps.has (tab E) (lC v)=decide (v∈E)from h _ E rfl
 intro n;induction n with
 |zero=>intro E h;rw[fg.1 h];rfl
 |succ n B=>
  intro E h;obtain⟨l,x,rfl⟩:∃l v,E=l++[v]:=⟨E.dropLast,E.getLast (by intro e;simp[e]at h),(xL _).symm⟩;rw[ph];by_cases e:v=x
  .subst e;rw[Maps.has_put_same (ym l).isMap<|qw v];simp
  rw[Maps.has_put_other λL=>e<|tF L,B l<|J' h];simp[e]
def FV(E:List bD)(Q:E.Nodup):Maps.size (tab E)=ζ E:=by
 suffices h:∀n (E:List bD),ζ E=n->E.Nodup->Maps.size (tab E)=ζ E from h _ E rfl Q
 intro n;induction n with
 |zero=>intro E h _;rw[fg.1 h];rfl
 |succ n B=>
  intro E h Q;obtain⟨l,x,rfl⟩:∃l v,E=l++[v]:=⟨E.dropLast,E.getLast (by intro e;simp[e]at h),(xL _).symm⟩;have K:x∉l:=by rw[vC]at Q;exact λF=>Q.2.2 x F x ak rfl
  rw[ph,Maps.size_put<|ym l,Es,B l (J' h) (by rw[vC]at Q;exact Q.1)];simp[K]
def Lo(E:List bD)(Q:E.Nodup)(v:bD)(R:v∈E):(tab E).atKey (lC v) (.lit<|.int .i64 0)=.lit (.int .i64 (E.idxOf v:Int)):=by
 suffices h:∀n (E:List bD),ζ E=n->E.Nodup->v∈E->(tab E).atKey (lC v) (.lit<|.int .i64 0)=.lit (.int .i64 (E.idxOf v:Int))from h _ E rfl Q R
 intro n;induction n with
 |zero=>intro E h _ R;rw[fg.1 h]at R;cases R
 |succ n B=>
  intro E h Q R;obtain⟨l,x,rfl⟩:∃l v,E=l++[v]:=⟨E.dropLast,E.getLast (by intro e;simp[e]at h),(xL _).symm⟩;have K:x∉l:=by rw[vC]at Q;exact λF=>Q.2.2 x F x ak rfl
  rw[ph];by_cases e:v=x
  .subst e;rw[Maps.atKey_put_same (ym l).isMap<|qw v,Bo,ax K];simp
  have X:v∈l:=by simpa[e]using R
  rw[Maps.atKey_put_other λL=>e<|tF L,B l (J' h) (by rw[vC]at Q;exact Q.1) X,Bo,aB X]
def fY(vs:List bD)(v:bD):Int:=if v∈vs then(vs.idxOf v:Int) else ζ vs
def cZ(vs:List bD)(v:bD):List bD:=if v∈vs then vs else vs++[v]
def yj{E:List bD}(h:E.Nodup)(v:bD):(cZ E v).Nodup:=by
 unfold cZ;split
 .exact h
 rw[vC];exact⟨h,ak,by rintro a a b a rfl;simp at a;subst a;contradiction⟩
def j4(E:List bD)(v:bD):ζ (cZ E v)<=ζ E+1:=by unfold cZ;split<;>simp
def G7:Keyed Tryz.prog 9:=string_keyed underlying9
def Bt(w:t'):(zeroValue 3).run Tryz.prog w=.ok (.int .i64 0) w:=by kernel_rfl
structure Rd(w:t')(rb mb:Nat)(vs:List bD):Prop where
  box:w.1[rb]?=C' (j' #[.map<|C' mb] 143 (0,0))
  own:w.ownsMap Tryz.prog 9 (plainElem Tryz.prog 3) mb (ζ vs) (tab vs)
  nodup:vs.Nodup
def Rd.cell{E:List bD}(h:Rd w a x E):χ w (O a 0)=C' (.map<|C' x):=by simp[World.cell?,h.box]
def Rd.isMap{E:List bD}(h:Rd w a x E):∃a c,w.1[x]?=C' (.map a c):=by obtain⟨a,c,b,_⟩:=h.own;exact⟨a,c,b⟩
def Rd.ne{E:List bD}(h:Rd w a x E):a≠x:=by rintro rfl;obtain⟨a,c,a⟩:=h.isMap;rw[h.box]at a;cases a
def Rd.kept{E:List bD}(h:Rd w a x E)(c:ξ w b D'):Rd b a x E:=
 ⟨(c.block a (bG.1 h.box).1 ak).trans h.box,h.own.kept c ak,h.nodup⟩
def bI{W:t'}(a:Below W.1.size W b):ξ W b D':=⟨a.os,a.tape,a.output,a.size,λk b _=>a.block k b⟩
def kQ(s:z')(g x:Nat)(E:List bD)(w:t')(y:s.size<=maxLen)(K:ζ E<maxLen)(v:Rd w g x E):
  Cl 261 (Bv g s) w λe a=>
   e=o' (.int .i64<|fY E s.1.1)/\Rd a g x (cZ E s.1.1)/\ξ w a (C' x):=by
 have T:=v.cell;have q:keyOf Tryz.prog 9 (m' s)=C' (lC s.1.1):=keyOf_string_mk underlying9 y;have o:=v.own;by_cases f:s.1.1∈E
 .have V:Maps.has (tab E) (lC s.1.1)=P':=by rw[Es];simpa using f
  go_enter func261,ntmps261
  go_wp2_with (first
   |(at_lookup;refine wpList_lookup_own_ok_int _ rfl _ _ 141 rfl 9 3 .i64 G7 underlying141 underlying3 (Bt _) x (ζ E) (tab E) rfl o _ _ rfl q ?_;intro c W h))
  go_ret;have e:=W.symm.trans<|Lo E v.nodup _ f;simp only[DataW.lit.injEq,Lit.int.injEq,oj]at e;subst e;exact⟨by simp[fY,f],by simpa[cZ,f]using v,World.grownBy.refl _ _⟩
 have V:Maps.has (tab E) (lC s.1.1)=Q':=by rw[Es];simpa using f
 have a:=FV E v.nodup;go_enter func261,ntmps261
 go_wp2_with (first
  |(at_lookup;refine wpList_lookup_own_ok_int _ rfl _ _ 141 rfl 9 3 .i64 G7 underlying141 underlying3 (Bt _) x (ζ E) (tab E) rfl o _ _ rfl q ?_;intro c W h)
  |(at_len;refine wpList_len_own _ rfl _ 141 rfl 9 3 underlying141 _ x (ζ E) (tab E) rfl o ?_)
  |(at_mapUpdate;refine wpList_mapUpdate_own _ rfl _ _ _ 141 rfl 9 3 G7 underlying141 _ x (ζ E) (tab E) rfl o K _ _ _ rfl rfl q _ [] (plainElem_int underlying3<|WalkArith.wf_i64 (by unfold maxLen at K;omega)) ?_;intro b a d))
 go_ret;refine⟨by simp[fY,f],⟨?_,?_,yj v.nodup _⟩,d⟩
 .exact(d.block g (bG.1 v.box).1<|by simp;exact v.ne).trans v.box
 have e:cZ E s.1.1=E++[s.1.1]:=by simp[cZ,f]
 rw[e,ph,aW];exact a
end
def tH:(Tryz.prog.info? 5).map (λi=>(i.zero,i.size,i.bytes))=C' (C'<|.int .u8 0,1,1):=H
def K9:(Tryz.prog.info? 2).map (λi=>(i.zero,i.size,i.bytes))=C' (C'<|G 0,1,8):=H
def nW:(Tryz.prog.info? 3).map (λi=>(i.zero,i.size,i.bytes))=C' (C'<|G 0,1,8):=H
structure Vl where
  aO:Int
  lo:Int
  hi:Int
  bO:Bool
  first:Int
  rank:Int
structure Nd where
  facts:List Int
  a! : List Int
  reached:Bool
  rank:Int
  aG:List Vl
structure Ct where
  aM:Int
  cu:Int
  nodes:List Nd
def rk(n:Int):Bool:=decide (0<=n)&&decide (n<=100000)
def cR:Int->List Int->Bool
 |_,[]=>true
 |fl,f :: r=>decide (fl<=f)&&decide (f<=100000)&&cR (f+1) r
def eF(g:Int)(a! : List Int)(k:Nat):Bool:=if g=1 then decide (a!.length=k)&&a!.all rk else a!.isEmpty
def e6(g:Int)(n:Nd):Bool:=!n.reached&&decide (n.rank=0)&&n.aG.isEmpty&&cR 0 n.facts&&eF g n.a! n.facts.length
def nR(g r:Int)(v:Vl):Bool:=decide (g=1)&&decide (r<v.rank)&&decide (v.rank<=100000)&&decide (v.aO=2)&&decide (v.lo=0)&&decide (v.hi=0)
def eE(p g r:Int)(v:Vl):Bool:=
 if p=6 then decide (v.aO=3)&&!v.bO&&decide (v.first=0)&&decide (v.rank=0)&&decide (v.lo<=v.hi)
 else if v.bO then nR g r v
 else decide (v.aO=1)&&decide (v.hi=0)&&decide (v.first=0)&&decide (v.rank=0)||decide (v.aO=2)&&decide (v.lo=0)&&decide (v.hi=0)&&decide (v.first=0)&&decide (v.rank=0)
def ky(n:Nd):Bool:=!n.reached&&decide (n.rank=0)&&n.facts.isEmpty&&n.a!.isEmpty&&n.aG.isEmpty
def eM(p g:Int)(n:Nd):Bool:=n.facts.isEmpty&&n.a!.isEmpty&&decide (n.aG.length<=8)&&rk n.rank&&(decide (g=1)||decide (n.rank=0))&&n.aG.all (eE p g n.rank)
def cB(p g:Int)(n:Nd):Bool:=if p<=4 then e6 g n else if n.reached then eM p g n else ky n
def Á(p g:Int):Bool:=decide (1<=p)&&decide (p<=6)&&(decide (g=2)||decide (g=1)&&!decide (p=6))
def ku(c:Ct):Bool:=Á c.aM c.cu&&decide (c.nodes.length<=60)&&c.nodes.all (cB c.aM c.cu)
def iI(n:Nat):List UInt8:=if h:n<128 then[UInt8.ofNat n] else UInt8.ofNat (n % 128+128) :: iI (n / 128)
def cT(x:Int):List UInt8:=iI x.toNat
def Fm(x:Int):Nat:=if 0<=x then(2*x).toNat else(-2*x-1).toNat
def AO(x:Int):List UInt8:=iI<|Fm x
def dm:Int->List Int->List Int
 |_,[]=>[]
 |fl,f :: r=>(f-fl) :: dm (f+1) r
def Æ(n:Nd):List UInt8:=iI n.facts.length++(dm 0 n.facts).flatMap cT++n.a!.flatMap cT
def eY(p g:Int)(v:Vl):List UInt8:=
 if p=6 then AO v.lo++iI (v.hi-v.lo).toNat
 else if v.aO=1 then 1 :: AO v.lo
 else if g=1 then(if v.bO then 2 :: 1 :: (AO v.first++cT v.rank) else[2,0])
 else[2]
def n!(p g:Int)(n:Nd):List UInt8:=(if g=1 then cT n.rank else[])++iI n.aG.length++n.aG.flatMap (eY p g)
def dv(p g:Int)(n:Nd):List UInt8:=if p<=4 then Æ n else if n.reached then 1 :: n! p g n else[0]
def oH(c:Ct):List UInt8:=[87,67,1,UInt8.ofNat c.aM.toNat,UInt8.ofNat c.cu.toNat]++iI c.nodes.length
def iF(c:Ct):List UInt8:=oH c++c.nodes.flatMap (dv c.aM c.cu)
def enc(c:Ct):Option (List UInt8):=if ku c&&decide ((iF c).length<=60000) then some (iF c) else none
theorem k?(h:n<128):iI n=[UInt8.ofNat n]:=by rw[iI,dif_pos h]
theorem qI(h:¬n<128):iI n=UInt8.ofNat (n % 128+128) :: iI (n / 128):=by rw[iI,dif_neg h]
theorem LH:∀(k n:Nat),n<128 ^ k->(iI n).length<=k∨k=0
 |0,n,h=>aH rfl
 |k+1,n,h=>by
  left;by_cases K:n<128
  .rw[k? K];simp
  rw[qI K];have C:n / 128<128 ^ k:=by rw[vA]at h;omega
  rcases LH k _ C with a|a
  .simp;exact a
  subst a;simp at C;omega
theorem gR(h:n<18446744073709551616):(iI n).length<=10:=by
 rcases LH 10 n I with h|h
 .exact h
 omega
theorem tL{α:Type}(f:α->List UInt8)(k:Nat):∀(l:List α),(∀x∈l,(f x).length<=k)->(l.flatMap f).length<=l.length*k
 |[],_=>by simp
 |a :: l,h=>by have C:=h a ak;have a:=tL f k l (λx F=>h x<|by simp[F]);simp only[b9,aW,bR,qX];omega
theorem yH:∀(o:List Int)(Y:Int),cR Y o=true->(o.length:Int)+Y<=100001∨o=[]
 |[],_,_=>aH rfl
 |f :: r,Y,h=>by
  left;simp[cR]at h;obtain⟨⟨C,a⟩,N⟩:=h;rcases yH r (f+1) N with d|d
  .simp;omega
  subst d;simp;omega
theorem p?{o:List Int}(h:cR 0 o=true):o.length<=100001:=by
 rcases yH o 0 h with h|h
 .omega
 subst h;simp
section
variable {d:Option Tmp}{op:Op}{ty:TypeId}{ps:String}{af:Array Edge}{gd:Option (Nat×Bool)}
def tk{P:Program}{md:Region.Mode}{ops:Array Oper}{Q:Exit->Act->t'->Prop}{S:t'->Prop}(i:Nat){x:Oper}{v:A'}{fuel:Nat}{listed:Array Bool}{a:Act}{w:t'}(d:ops[i]?=C' x)
  (b:(Region.noSelect ops&&Region.free md ops listed i&&(Region.ready md ops listed).contains i)=P')
  (W:∀c a w,Q (.panic c) (a.put x.dst v) w->Q (.panic c) a w) (B:YieldsIf P ops S x v a) (u:S w)
  (h:wpAnyH P md ops Q S fuel (listed.setIfInBounds i P') (a.put x.dst v) w):wpAnyH P md ops Q S (fuel+1) listed a w:=by
 rw[aS,aS]at b;exact wpAnyH_take d b.1.1 b.1.2 b.2 W B u h
section
variable {P:Program}{md:Region.Mode}{ops:Array Oper}{Q:Exit->Act->t'->Prop}{S:t'->Prop}{fuel:Nat}{listed:Array Bool}{a a':Act}{w:t'}
def tz(i:Nat)(v:A')(h:wpAnyH P md ops Q S fuel (listed.setIfInBounds i P') a' w)(hi:ops[i]?=C' ⟨d,op,ty,ps,af,gd⟩:=by rfl)(hk:(Region.noSelect ops&&Region.free md ops listed i&&(Region.ready md ops listed).contains i)=P':=by kernel_rfl)
  (hQ:∀c a w,Q (.panic c) (a.put d v) w->Q (.panic c) a w:=by exact λ_ _ _ h=>h) (y:YieldsIf P ops S ⟨d,op,ty,ps,af,gd⟩ v a) (hS:S w:=by assumption) (ha:a.put d v=a':=by(try simp only[Act.put,cj,dp,da]);rfl):wpAnyH P md ops Q S (fuel+1) listed a w:=by
 subst ha;exact tk i hi hk hQ y hS h
def tq(i:Nat)(v:A')(h:wpAnyH P md ops Q S fuel (listed.setIfInBounds i P') a' w)(hi:ops[i]?=C' ⟨d,op,ty,ps,af,gd⟩:=by rfl)(hk:(Region.noSelect ops&&Region.free md ops listed i&&(Region.ready md ops listed).contains i)=P':=by kernel_rfl)
 (hQ:∀c a w,Q (.panic c) (a.put d v) w->Q (.panic c) a w:=by exact λ_ _ _ h=>h) (hw:Region.wanted ⟨d,op,ty,ps,af,gd⟩ (yielded ops a.tmps)=P':=by kernel_rfl)
 (y:∀w,S w->(execOp a.eval ⟨d,op,ty,ps,af,gd⟩).run P w=.ok (.value v) w:=by intro W' bm;clear aE;go_simp) (hS:S w:=by assumption) (ha:a.put d v=a':=by(try simp only[Act.put,cj,dp,da]);rfl):wpAnyH P md ops Q S (fuel+1) listed a w:=tz i v h hi hk hQ (aI ⟨hw,y⟩) hS ha
def tr{R:t'->Prop}(i:Nat)(v:A')(k:∀w,S w->R w)(h:wpAnyH P md ops Q S fuel (listed.setIfInBounds i P') a' w)(hi:ops[i]?=C' ⟨d,op,ty,ps,af,gd⟩:=by rfl)(hk:(Region.noSelect ops&&Region.free md ops listed i&&(Region.ready md ops listed).contains i)=P':=by kernel_rfl)
 (hQ:∀c a w,Q (.panic c) (a.put d v) w->Q (.panic c) a w:=by exact λ_ _ _ h=>h) (hw:Region.wanted ⟨d,op,ty,ps,af,gd⟩ (yielded ops a.tmps)=P':=by kernel_rfl)
 (y:∀w,S w->R w->(execOp a.eval ⟨d,op,ty,ps,af,gd⟩).run P w=.ok (.value v) w:=by intro W' bm k1;clear aE bm;go_simp) (hS:S w:=by assumption) (ha:a.put d v=a':=by(try simp only[Act.put,cj,dp,da]);rfl):wpAnyH P md ops Q S (fuel+1) listed a w:=tz i v h hi hk hQ (aI ⟨hw,λw q=>y w q<|k w q⟩) hS ha
def tn(i:Nat)(h:wpAnyH P md ops Q S fuel (listed.setIfInBounds i P') a' w)(hi:ops[i]?=C' ⟨d,op,ty,ps,af,gd⟩:=by rfl)(hk:(Region.noSelect ops&&Region.free md ops listed i&&(Region.ready md ops listed).contains i)=P':=by kernel_rfl)
 (hQ:∀c a w,Q (.panic c) (a.put d undef) w->Q (.panic c) a w:=by exact λ_ _ _ h=>h) (hw:Region.wanted ⟨d,op,ty,ps,af,gd⟩ (yielded ops a.tmps)=Q':=by kernel_rfl) (hS:S w:=by assumption) (ha:a.put d undef=a':=by(try simp only[Act.put,cj,dp,da]);rfl):wpAnyH P md ops Q S (fuel+1) listed a w:=tz i undef h hi hk hQ (aH ⟨hw,rfl⟩) hS ha
def r1(i:Nat)(h:∀K:Act->t'->Prop,Shut (∀a w,S w->(S w->wpAnyH P md ops Q S fuel (listed.setIfInBounds i P') a w)->K a w)->if Region.wanted ⟨d,op,ty,ps,af,gd⟩ (yielded ops a.tmps)=P' then Oper.wp P ⟨d,op,ty,ps,af,gd⟩ a w K Q else K (a.put d undef) w)(hi:ops[i]?=C' ⟨d,op,ty,ps,af,gd⟩:=by rfl)(hr:Region.ready md ops listed=[i]:=by kernel_rfl):wpAnyH P md ops Q S (fuel+1) listed a w:=
 wpAnyH_ready hr ak (AllReadyH.cons hi h AllReadyH.nil)
end
def pt{p q:Prop}(hq:q)(h:q->p:=by intro h;(try simp only[Act.put,cj,dp,da]);exact h):p:=h hq
end
def lr:Nat->List UInt8->Option (Nat×List UInt8)
 |0,_=>none
 |_+1,[]=>none
 |k+1,b :: r=>if b.toNat<128 then some (b.toNat,r) else match lr k r with
  |some (n,q)=>if n=0 then none else some (b.toNat % 128+128*n,q)
  |none=>none
theorem Gd:∀(k n:Nat)(r:List UInt8),n<128 ^ k->lr k (iI n++r)=some (n,r)∨k=0
 |0,n,r,h=>aH rfl
 |k+1,n,r,h=>by
  left;by_cases K:n<128
  .rw[k? K];have:(UInt8.ofNat n).toNat=n:=by simp only[Fh];omega
   simp[lr,this,K]
  rw[qI K];have c:(UInt8.ofNat<|n % 128+128).toNat=n % 128+128:=by simp only[Fh];omega
  have C:n / 128<128 ^ k:=by rw[vA]at h;omega
  have b:k≠0:=by rintro rfl;simp at C;omega
  rcases Gd k (n / 128) r C with a|a
  .have N:n / 128≠0:=by omega
   simp only[dA,lr,c,a];rw[ax I,ax N];congr 2;omega
  exact absurd a b
theorem Gc:∀(k:Nat)(l:List UInt8)(n:Nat)(r:List UInt8),lr k l=some (n,r)->l=iI n++r/\n<128 ^ k
 |0,l,n,r,h=>by simp[lr]at h
 |k+1,[],n,r,h=>by simp[lr]at h
 |k+1,b :: q,n,r,h=>by
  have a:=sG b;rw[lr]at h;by_cases C:b.toNat<128
  .rw[aB C]at h;simp at h;obtain⟨rfl,rfl⟩:=h;rw[k? C];refine⟨by simp,?_⟩;have:128 ^ (k+1)=128 ^ k*128:=vA ..;have:0<128 ^ k:=Br I;omega
  rw[ax C]at h;cases a:lr k q with
  |none=>rw[a]at h;simp at h
  |some p=>
   obtain⟨m,s⟩:=p;rw[a]at h;simp only at h;by_cases d:m=0
   .rw[aB d]at h;simp at h
   rw[ax d]at h;simp at h;obtain⟨rfl,rfl⟩:=h;obtain⟨rfl,L⟩:=Gc k q m s a;have a:¬b.toNat % 128+128*m<128:=by omega
   have N:(b.toNat % 128+128*m) / 128=m:=by omega
   have d:(b.toNat % 128+128*m) % 128+128=b.toNat:=by omega
   rw[qI a,N,d];refine⟨by simp,?_⟩;have:128 ^ (k+1)=128 ^ k*128:=vA ..;omega
def rc(l:List UInt8):Option (Nat×List UInt8):=match lr 10 l with
 |some (n,r)=>if n<18446744073709551616 then some (n,r) else none
 |none=>none
theorem yP(l:List UInt8)(n:Nat)(r:List UInt8):rc l=some (n,r)↔l=iI n++r/\n<18446744073709551616:=by
 constructor;rotate_left
 .rintro⟨rfl,h⟩;unfold rc;rcases Gd 10 n r I with a|a
  .rw[a];simp only;rw[aB h]
  omega
 intro h;unfold rc at h;cases a:lr 10 l with
 |none=>rw[a]at h;simp at h
 |some p=>
  obtain⟨m,s⟩:=p;rw[a]at h;simp only at h;split at h
  .rename_i d;simp at h;obtain⟨rfl,rfl⟩:=h;exact⟨(Gc 10 l m s a).1,d⟩
  cases h
def wz{a b c}:=@yP a b c
def oI(i n:Nat):Option (Nat×List UInt8)->Option (Nat×List UInt8)
 |some (m,r)=>if 0<i/\m=0 then none else if n+128 ^ i*m<18446744073709551616 then some (n+128 ^ i*m,r) else none
 |none=>none
theorem ab4(l:List UInt8):rc l=oI 0 0 (lr 10 l):=by
 unfold rc oI;cases lr 10 l with
 |none=>rfl
 |some p=>have n:=p;simp
theorem Y0(i n k:Nat):oI i n (lr k [])=none:=by cases k<;>simp[lr,oI]
theorem tO(i n k:Nat)(b:UInt8)(r:List UInt8)(h:b.toNat<128):oI i n (lr (k+1)<|b :: r)=if 0<i/\b.toNat=0 then none else if n+128 ^ i*b.toNat<18446744073709551616 then some (n+128 ^ i*b.toNat,r) else none:=by simp[lr,h,oI]
theorem H!(i n k:Nat)(b:UInt8)(r:List UInt8)(h:¬b.toNat<128):oI i n (lr (k+1)<|b :: r)=oI (i+1) (n+128 ^ i*(b.toNat % 128)) (lr k r):=by
 rw[lr,ax h];cases lr k r with
 |none=>rfl
 |some p=>
  obtain⟨m,q⟩:=p;by_cases d:m=0
  .simp[oI,d]
  have e:n+128 ^ i*(b.toNat % 128+128*m)=n+128 ^ i*(b.toNat % 128)+128 ^ (i+1)*m:=by rw[Nat.mul_add,vA,Nat.mul_assoc,ld]
  have f:¬(0<i/\b.toNat % 128+128*m=0):=by omega
  have a:¬(0<i+1/\m=0):=by omega
  simp only[oI,ax d,ax f,ax a,e]
