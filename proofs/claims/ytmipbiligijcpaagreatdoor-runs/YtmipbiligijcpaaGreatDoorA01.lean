/- A part of the proof: contracts of functions of the program. -/
import Derived.WalkKit
import Derived.WalkSpells
import Derived.WalkLawsBesides
import Derived.Maps.AppendAt
import Derived.Deep.RegionLaw
import Derived.Test.YtmipbiligijcpaaGreatDoorProg
import Derived.Lib.ParseIntB
import Derived.Lib.Split
import Derived.Lib.FieldsP
import Derived.Lib.Strings
import Derived.Test.YtmipbiligijcpaaGreatDoorShelf
namespace Go.Proofs.YtmipbiligijcpaaGreatDoor
set_option linter.unusedVariables false
set_option linter.unusedSimpArgs false
open Go.RowKit Go.Proofs Go.Maps

theorem ret_bool {a b : Bool} (h : a = b) : Ending.returned (.bool a) = .returned (.bool b) := by rw [h]
theorem not_map_of_cell {w : World} {b o : Nat} {v : Value} (h : w.cell? ⟨b, o, none⟩ = some v) : ∃ c t f, w.heap[b]? = some (.cells c t f) := by
  unfold World.cell? at h
  simp only at h
  split at h
  · rename_i c t f e; exact ⟨c, t, f, e⟩
  · cases h
theorem box_cells {w : World} {b : Nat} {cs : Array Value} {t : TypeId} (h : w.heap[b]? = some (.cells cs t (0, 0))) : (∀ o, w.cell? ⟨b, o, none⟩ = cs[o]?) ∧ (∀ o, w.frozen? ⟨b, o, none⟩ = false) := by
  refine ⟨fun o => by simp [World.cell?, h], fun o => by simp [World.frozen?, h]⟩
theorem own_cells {w : World} {B e size n : Nat} {v : Value} {xs : List Value} (h : w.ownsRow B e size v n xs) : ∀ k, v.ownBlock = some k → ∃ cur f, w.heap[k]? = some (.cells cur e f) := by
  intro k hk
  rcases h.2 with ⟨rfl, _⟩ | ⟨g, cap, cur, rfl, _, hg, _⟩
  · simp [Value.ownBlock] at hk
  · simp [Value.ownBlock] at hk
    subst hk
    exact ⟨cur, (0, 0), hg⟩
theorem cell_block {w w' : World} {k o : Nat} (h : w'.heap[k]? = w.heap[k]?) : w'.cell? ⟨k, o, none⟩ = w.cell? ⟨k, o, none⟩ := by simp only [World.cell?, h]
theorem data_inj {a b : ByteArray} (h : a.data.toList = b.data.toList) : a = b := by
  cases a; cases b; simp only at h; congr 1; exact Array.toList_inj.1 h
theorem cell_one (w : World) (v : Value) (t : TypeId) : ∀ j u, [v][j]? = some u → (w.alloc (.cells #[v] t)).cell? ((⟨w.heap.size, 0, none⟩ : Addr).add j) = some u := by
  intro j u hj
  match j, hj with
  | 0, hj => simp at hj; subst hj; simp [Addr.add]
theorem alloc2 (w : World) (o1 o2 : Obj) : ((w.alloc o1).alloc o2).heap[w.heap.size]? = some o1 ∧ ((w.alloc o1).alloc o2).heap[w.heap.size + 1]? = some o2 := by
  have z1 : (w.alloc o1).heap.size = w.heap.size + 1 := by simp
  have h1 := heap_alloc_new w o1
  have h2 := heap_alloc_new (w.alloc o1) o2
  rw [z1] at h2
  exact ⟨by rw [Below.heap_alloc _ _ _ (by omega)]; exact h1, h2⟩
theorem below_drewN {b : Nat} {u w : World} (h : Below b u w) (n : Nat) : Below b u (w.drewN n) := ⟨h.os, h.tape, h.output, h.size, h.block⟩
theorem own_drewN {w : World} {B e size n : Nat} {v : Value} {xs : List Value} (h : w.ownsRow B e size v n xs) (q : Nat) : (w.drewN q).ownsRow B e size v n xs := h
theorem sl_of_own {w : World} {B e size n : Nat} {v : Value} {xs : List Value} (h : w.ownsRow B e size v n xs) : ∃ a cap, v = .slice a n cap := by
  rcases h.2 with ⟨rfl, e⟩ | ⟨g, cap, cur, hv, _⟩
  · exact ⟨none, 0, by rw [e]⟩
  · exact ⟨_, _, hv⟩
theorem own_mono {w : World} {B B' e size n : Nat} {v : Value} {xs : List Value} (h : w.ownsRow B e size v n xs) (hb : B' ≤ B) : w.ownsRow B' e size v n xs := by
  refine ⟨h.1, ?_⟩
  rcases h.2 with a | ⟨g, cap, cur, h1, h2, h3⟩
  · exact Or.inl a
  · exact Or.inr ⟨g, cap, cur, h1, by omega, h3⟩
theorem grown_self (w : World) (b o : Nat) (v : Value) : w.grownBy (w.setCell ⟨b, o, none⟩ v) (some b) :=
  ⟨rfl, rfl, rfl, by simp [World.setCell], fun k _ hne => Below.heap_setCell _ _ _ _ (fun e => hne (by rw [e]))⟩
theorem own_ne_ty {w : World} {B B' e e' size size' n n' : Nat} {v v' : Value} {xs xs' : List Value} (h : w.ownsRow B e size v n xs) (h' : w.ownsRow B' e' size' v' n' xs') (he : e ≠ e') : v.ownBlock = none ∨ v.ownBlock ≠ v'.ownBlock := by
  cases hv : v.ownBlock with
  | none => exact Or.inl rfl
  | some k =>
    refine Or.inr (fun e0 => ?_)
    obtain ⟨c1, f1, a⟩ := own_cells h k hv
    obtain ⟨c2, f2, b⟩ := own_cells h' k e0.symm
    rw [a] at b
    simp at b
    exact he b.2.1
theorem own_lt_ne {w : World} {B e size n : Nat} {v : Value} {xs : List Value} (h : w.ownsRow B e size v n xs) {q : Nat} (hq : q < B) : v.ownBlock = none ∨ v.ownBlock ≠ some q := by
  cases hv : v.ownBlock with
  | none => exact Or.inl rfl
  | some k => have := (h.lt k hv).1; exact Or.inr (by simp; omega)
theorem cell_stays {w w' : World} {k o : Nat} {v : Value} (h : w.cell? ⟨k, o, none⟩ = some v) (hb : Below w.heap.size w w') : w'.cell? ⟨k, o, none⟩ = some v := by
  obtain ⟨c, t, f, hc⟩ := not_map_of_cell h
  exact (cell_block (hb.block k (Array.getElem?_eq_some_iff.1 hc).1)).trans h
theorem cell_lt {w : World} {k o : Nat} {v : Value} (h : w.cell? ⟨k, o, none⟩ = some v) : k < w.heap.size := by
  obtain ⟨c, t, f, hc⟩ := not_map_of_cell h
  exact (Array.getElem?_eq_some_iff.1 hc).1
/-- the slice reads as these numbers -/
def IntsAt (w : World) (ao : Option Addr) (xs : List Int) : Prop := ∀ j x, xs[j]? = some x → ∃ b o, ao = some ⟨b, o, none⟩ ∧ w.cell? ⟨b, o + j, none⟩ = some (.int .i64 x)
theorem IntsAt.below {w w' : World} {ao : Option Addr} {xs : List Int} (h : IntsAt w ao xs) (hb : Below w.heap.size w w') : IntsAt w' ao xs := by
  intro j x hj
  obtain ⟨b, o, h1, h2⟩ := h j x hj
  exact ⟨b, o, h1, cell_stays h2 hb⟩
theorem IntsAt.pre {w : World} {ao : Option Addr} {xs ys : List Int} (h : IntsAt w ao ys) (hp : xs <+: ys) : IntsAt w ao xs := by
  obtain ⟨t, rfl⟩ := hp
  intro j x hj
  exact h j x (by rw [List.getElem?_append_left (List.getElem?_eq_some_iff.1 hj).1]; exact hj)
theorem cell_one_at (W : World) (v : Value) (t : TypeId) (k : Nat) (hk : k = W.heap.size) : ∀ j u, [v][j]? = some u → (W.alloc (.cells #[v] t)).cell? ((⟨k, 0, none⟩ : Addr).add j) = some u := by
  subst hk
  exact cell_one W v t
/-- append to a row of one's own, as one step of a region that draws; where the new row lies -/
theorem step_own2 {P : Program} {ops : Array Oper} {o : Oper} {a : Act} {w : World} {K : Act → World → Prop} {Q : Exit → Act → World → Prop} {E : Prop}
    (hg : o.guard = none) (s x : Operand) (t : TypeId) (hop : o.op = Op.call { callee := Callee.builtin Builtin.append, args := #[s, x], argTypes := #[t, t] })
    (base : Nat) (e : TypeId) (i : TypeInfo) (z : Value) (size bytes : Nat) (h1 : P.underlying t = some (.slice e)) (h2 : P.info? e = some i) (h3 : i.zero = some z) (h4 : i.size = size) (h5 : i.bytes = bytes) (h6 : z.cells.size = size) (h7 : 0 < size)
    (v : Value) (n : Nat) (olds : List Value) (hs : a.eval s = v) (hown : w.ownsRow base e size v n olds)
    (ad : Addr) (m c : Nat) (news : List Value) (hx : a.eval x = .slice (some ad) m c) (hn : news.length = m * size) (hc : ∀ j u, news[j]? = some u → w.cell? (ad.add j) = some u) (h1c : ∀ u ∈ news, u.oneCell' = true)
    (b1 : n + m ≤ maxLen) (b2 : (n + m) * bytes ≤ 140737488355328) (hB : base ≤ w.heap.size)
    (hK : ∀ v' w', w'.ownsRow base e size v' (n + m) (olds ++ news) → w.grownBy w' v.ownBlock → (v'.ownBlock = v.ownBlock ∨ v'.ownBlock = some w.heap.size) → K (a.put o.dst v') w') :
    if Region.wanted o (yielded ops a.tmps) = true then Oper.wp P o a w K Q else E := by
  have hw : Region.wanted o (yielded ops a.tmps) = true := by simp [Region.wanted, hg]
  rw [if_pos hw]
  obtain ⟨v', w', hrun, r1, r2, _, r4⟩ := run_append_own_at (P := P) (w := w) base t o.type e i z size bytes h1 h2 h3 h4 h5 h6 h7 v n olds hown ad m c news hn hc h1c b1 b2 hB
  obtain ⟨a0, c0, rfl⟩ := sl_of_own hown
  unfold Oper.wp
  simp [execOp, hop, resolve, invoke, builtin, hs, hx, hrun, Result.andThen]
  exact hK v' w' r1 r2 r4
theorem below1 (w : World) (a : Obj) : Below w.heap.size w (w.alloc a) := (Below.refl _ _).alloc (Nat.le_refl _) _
theorem below2 (w : World) (a b : Obj) : Below w.heap.size w ((w.alloc a).alloc b) := (below1 w a).alloc (by simp) _
theorem below3 (w : World) (a b c : Obj) : Below w.heap.size w (((w.alloc a).alloc b).alloc c) := (below2 w a b).alloc (by simp; omega) _
theorem below4 (w : World) (a b c d : Obj) : Below w.heap.size w ((((w.alloc a).alloc b).alloc c).alloc d) := (below3 w a b c).alloc (by simp; omega) _
theorem below_trans {u v w : World} (h : Below u.heap.size u v) (k : Below v.heap.size v w) : Below u.heap.size u w := h.trans (k.mono h.size)
/-- what a writer's method leaves: every block but b that is no row of bytes -/
structure Kp (b : Nat) (w w' : World) : Prop where
  os : w'.os = w.os
  tape : w'.tape = w.tape
  output : w'.output = w.output
  size : w.heap.size ≤ w'.heap.size
  keep : ∀ k o, w.heap[k]? = some o → k ≠ b → (∀ c f, o ≠ .cells c 5 f) → w'.heap[k]? = some o
theorem Kp.refl (b : Nat) (w : World) : Kp b w w := ⟨rfl, rfl, rfl, Nat.le_refl _, fun _ _ h _ _ => h⟩
theorem Kp.trans {b : Nat} {u v w : World} (h : Kp b u v) (k : Kp b v w) : Kp b u w :=
  ⟨k.os.trans h.os, k.tape.trans h.tape, k.output.trans h.output, Nat.le_trans h.size k.size, fun j o a c d => k.keep j o (h.keep j o a c d) c d⟩
theorem kp_set {b : Nat} {w w' : World} (h : Kp b w w') (o : Nat) (v : Value) : Kp b w (w'.setCell ⟨b, o, none⟩ v) :=
  ⟨h.os, h.tape, h.output, by simpa [World.setCell] using h.size, fun k x a c d => (Below.heap_setCell _ _ _ _ c).trans (h.keep k x a c d)⟩
theorem kp_grown {b B : Nat} {w w' : World} {v : Value} {n : Nat} {xs : List Value} (hg : w.grownBy w' v.ownBlock) (ho : w.ownsRow B 5 1 v n xs) : Kp b w w' := by
  refine ⟨hg.os, hg.tape, hg.output, hg.size, fun k o a _ d => ?_⟩
  refine (hg.block k (Array.getElem?_eq_some_iff.1 a).1 ?_).trans a
  intro e
  rcases ho.2 with ⟨rfl, _⟩ | ⟨g, cap, cur, rfl, _, hgg, _⟩
  · simp [Value.ownBlock] at e
  · simp only [Value.ownBlock, Option.some.injEq] at e
    subst e
    rw [a] at hgg
    cases hgg
    exact d _ _ rfl
/-- what stands of a world: the blocks that P takes -/
structure Fr (P : Nat → Prop) (w w' : World) : Prop where
  os : w'.os = w.os
  tape : w'.tape = w.tape
  output : w'.output = w.output
  size : w.heap.size ≤ w'.heap.size
  block : ∀ k, k < w.heap.size → P k → w'.heap[k]? = w.heap[k]?
theorem Fr.refl (P : Nat → Prop) (w : World) : Fr P w w := ⟨rfl, rfl, rfl, Nat.le_refl _, fun _ _ _ => rfl⟩
theorem Fr.of_below {P : Nat → Prop} {w w' : World} (h : Below w.heap.size w w') : Fr P w w' := ⟨h.os, h.tape, h.output, h.size, fun k hk _ => h.block k hk⟩
theorem Fr.trans {P Q : Nat → Prop} {u v w : World} (h : Fr P u v) (k : Fr Q v w) (hi : ∀ x, x < u.heap.size → P x → Q x) : Fr P u w :=
  ⟨k.os.trans h.os, k.tape.trans h.tape, k.output.trans h.output, Nat.le_trans h.size k.size, fun x hx hp => (k.block x (Nat.lt_of_lt_of_le hx h.size) (hi x hx hp)).trans (h.block x hx hp)⟩
theorem Fr.of_grown {P : Nat → Prop} {w w' : World} {row : Option Nat} (h : w.grownBy w' row) (hP : ∀ k, k < w.heap.size → P k → some k ≠ row) : Fr P w w' := ⟨h.os, h.tape, h.output, h.size, fun k hk hp => h.block k hk (hP k hk hp)⟩
theorem Fr.grown {P : Nat → Prop} {u v w : World} {row : Option Nat} (h : Fr P u v) (k : v.grownBy w row) (hP : ∀ x, x < u.heap.size → P x → some x ≠ row) : Fr P u w :=
  ⟨k.os.trans h.os, k.tape.trans h.tape, k.output.trans h.output, Nat.le_trans h.size k.size, fun x hx hp => (k.block x (Nat.lt_of_lt_of_le hx h.size) (hP x hx hp)).trans (h.block x hx hp)⟩
theorem Fr.mono {P Q : Nat → Prop} {u v : World} (h : Fr P u v) (hi : ∀ x, x < u.heap.size → Q x → P x) : Fr Q u v :=
  ⟨h.os, h.tape, h.output, h.size, fun x hx hp => h.block x hx (hi x hx hp)⟩
theorem Fr.own {P : Nat → Prop} {w w' : World} {B e size n : Nat} {v : Value} {xs : List Value} (h : Fr P w w') (ho : w.ownsRow B e size v n xs) (hv : ∀ k, v.ownBlock = some k → P k) : w'.ownsRow B e size v n xs := by
  have hlt := ho.lt
  refine ⟨ho.1, ?_⟩
  rcases ho.2 with e0 | ⟨g, cap, cur, e1, c1, c2, c3⟩
  · exact Or.inl e0
  · subst e1
    exact Or.inr ⟨g, cap, cur, rfl, c1, (h.block g (hlt g rfl).2 (hv g rfl)).trans c2, c3⟩
theorem Fr.below {P : Nat → Prop} {w w' : World} {B : Nat} (h : Fr P w w') (hB : B ≤ w.heap.size) (hP : ∀ k, k < B → P k) : Below B w w' := ⟨h.os, h.tape, h.output, h.size, fun k hk => h.block k (by omega) (hP k hk)⟩
theorem Fr.set {P : Nat → Prop} {u v : World} {b o : Nat} {x : Value} (h : Fr P u v) (hP : ∀ k, P k → k ≠ b) : Fr P u (v.setCell ⟨b, o, none⟩ x) :=
  ⟨h.os, h.tape, h.output, by simpa [World.setCell] using h.size, fun k hk hp => (Below.heap_setCell _ _ _ _ (hP k hp)).trans (h.block k hk hp)⟩
theorem heap_set1 {w : World} {b o : Nat} {cs : Array Value} {t : TypeId} (h : w.heap[b]? = some (.cells cs t (0, 0))) (v : Value) : (w.setCell ⟨b, o, none⟩ v).heap[b]? = some (.cells (cs.setIfInBounds o v) t (0, 0)) := by
  simp [World.setCell, Array.getElem?_modify, h]
theorem hid {p : Prop} (h : p) : Hid p := h
theorem blt {w : World} {k : Nat} {o : Obj} (h : w.heap[k]? = some o) : k < w.heap.size := (Array.getElem?_eq_some_iff.1 h).1
/-- a block that stood below still stands -/
theorem bxb {w w' : World} {k : Nat} {o : Obj} (hb : Below w.heap.size w w') (h : w.heap[k]? = some o) : w'.heap[k]? = some o := (hb.block k (blt h)).trans h
end Go.Proofs.YtmipbiligijcpaaGreatDoor
namespace Go.Proofs.YtmipbiligijcpaaGreatDoor
set_option linter.unusedVariables false
set_option linter.unusedSimpArgs false
open Go.RowKit Go.Proofs Go.Maps

theorem infoByte : (Tryz.prog.info? 5).map (fun i => (i.zero, i.size, i.bytes)) = some (some (.int .u8 0), 1, 1) := by kernel_rfl
theorem info64 : (Tryz.prog.info? 2).map (fun i => (i.zero, i.size, i.bytes)) = some (some (.int .i64 0), 1, 8) := by kernel_rfl
theorem infoInt : (Tryz.prog.info? 3).map (fun i => (i.zero, i.size, i.bytes)) = some (some (.int .i64 0), 1, 8) := by kernel_rfl
end Go.Proofs.YtmipbiligijcpaaGreatDoor
namespace Go.Proofs.YtmipbiligijcpaaGreatDoor
set_option linter.unusedVariables false
set_option linter.unusedSimpArgs false
namespace Wm

def letB (c : UInt8) : Bool := decide (97 ≤ c.toNat) && decide (c.toNat ≤ 122)
def digB (c : UInt8) : Bool := decide (48 ≤ c.toNat) && decide (c.toNat ≤ 57)
def wrdB (c : UInt8) : Bool := letB c || digB c
def resv (l : List UInt8) : Bool := l == [105, 110, 112, 117, 116] || l == [111, 117, 116, 112, 117, 116] || l == [105, 102] || l == [103, 111, 116, 111] || l == [114, 101, 116, 117, 114, 110]
def nameL (l : List UInt8) : Bool :=
  match l with
  | [] => false
  | c :: r => letB c && (c :: r).all wrdB && decide (r.length + 1 ≤ 6) && !resv (c :: r)
def nm (s : ByteArray) : Bool := nameL s.data.toList

theorem get_data (s : ByteArray) (k : Nat) (h : k < s.size) : s.data.toList[k]? = some s[k] := by
  rw [List.getElem?_eq_getElem (by simpa using h)]; rfl
theorem take_snoc (s : ByteArray) (k : Nat) (h : k < s.size) : s.data.toList.take (k + 1) = s.data.toList.take k ++ [s[k]] := by
  rw [List.take_succ_eq_append_getElem (by simpa using h)]; rfl
theorem len_data (s : ByteArray) : s.data.toList.length = s.size := rfl
theorem cons_data (s : ByteArray) (h : 0 < s.size) : s.data.toList = s[0] :: s.data.toList.drop 1 := by
  have := get_data s 0 h
  cases hl : s.data.toList with
  | nil => rw [hl] at this; simp at this
  | cons a t => rw [hl] at this; simp at this; simp [this]
theorem all_take (s : ByteArray) (k : Nat) (p : UInt8 → Bool) (h : k < s.size) : (s.data.toList.take (k + 1)).all p = ((s.data.toList.take k).all p && p s[k]) := by
  rw [take_snoc s k h]; simp [List.all_append]
theorem all_of_take (l : List UInt8) (k : Nat) (p : UInt8 → Bool) (h : l.all p = true) : (l.take k).all p = true := by
  rw [List.all_eq_true] at h ⊢
  exact fun x hx => h x (List.mem_of_mem_take hx)

theorem nm_eq (s : ByteArray) (h0 : 0 < s.size) : nm s = (letB s[0] && s.data.toList.all wrdB && decide (s.size ≤ 6) && !resv s.data.toList) := by
  have hl := len_data s
  have hc := cons_data s h0
  unfold nm nameL
  rw [hc] at hl ⊢
  simp only [List.length_cons] at hl
  show (letB s[0] && _ && decide ((List.drop 1 s.data.toList).length + 1 ≤ 6) && _) = _
  rw [hl]
theorem nm_none (s : ByteArray) (h : s.size = 0) : nm s = false := by
  have hl := len_data s
  have : s.data.toList = [] := List.length_eq_zero_iff.1 (by omega)
  unfold nm; rw [this]; rfl
theorem nm_long (s : ByteArray) (h : 6 < s.size) : nm s = false := by
  rw [nm_eq s (by omega)]; simp; intros; omega
theorem nm_head (s : ByteArray) (h0 : 0 < s.size) (h : letB s[0] = false) : nm s = false := by rw [nm_eq s h0, h]; rfl
theorem nm_bad (s : ByteArray) (k : Nat) (h : k < s.size) (hb : wrdB s[k] = false) : nm s = false := by
  rw [nm_eq s (by omega)]
  have : s.data.toList.all wrdB = false := by
    cases e : s.data.toList.all wrdB with
    | false => rfl
    | true =>
      have := all_of_take _ (k + 1) _ e
      rw [all_take s k _ h, hb] at this; simp at this
  rw [this]; simp
theorem nm_end (s : ByteArray) (h0 : 0 < s.size) (h6 : s.size ≤ 6) (hh : letB s[0] = true) (ha : (s.data.toList.take s.size).all wrdB = true) : nm s = !resv s.data.toList := by
  rw [nm_eq s h0, hh]
  rw [List.take_of_length_le (by rw [len_data]; exact Nat.le_refl _)] at ha
  rw [ha]; simp [h6]
def opN (l : List UInt8) : Int := if l == [43] then 0 else if l == [45] then 1 else if l == [42] then 2 else if l == [47] then 3 else 0
def opB (l : List UInt8) : Bool := l == [43] || l == [45] || l == [42] || l == [47]
def tsN (l : List UInt8) : Int := if l == [60] then 0 else if l == [60, 61] then 1 else if l == [61, 61] then 2 else if l == [33, 61] then 3 else 0
def tsB (l : List UInt8) : Bool := l == [60] || l == [60, 61] || l == [61, 61] || l == [33, 61]
end Wm
end Go.Proofs.YtmipbiligijcpaaGreatDoor
namespace Go.Proofs.YtmipbiligijcpaaGreatDoor
set_option linter.unusedVariables false
set_option linter.unusedSimpArgs false
open Go.RowKit Go.Proofs


set_option maxHeartbeats 400000 in
theorem isLetter_any (c : UInt8) (w : World) :
    Calls Tryz.prog 191 #[.int .u8 c.toNat] w fun e w' => e = .returned (.bool (Wm.letB c)) ∧ w' = w := by
  go_enter Tryz.func191, Tryz.ntmps191
  go_wp2
  all_goals
    go_ret
    refine ⟨ret_bool ?_, rfl⟩
    unfold Wm.letB
    first | (rw [Bool.eq_iff_iff]; simp; omega) | skip
set_option maxHeartbeats 400000 in
theorem isDigit_any (c : UInt8) (w : World) :
    Calls Tryz.prog 192 #[.int .u8 c.toNat] w fun e w' => e = .returned (.bool (Wm.digB c)) ∧ w' = w := by
  go_enter Tryz.func192, Tryz.ntmps192
  go_wp2
  all_goals
    go_ret
    refine ⟨ret_bool ?_, rfl⟩
    unfold Wm.digB
    first | (rw [Bool.eq_iff_iff]; simp; omega) | skip
set_option maxHeartbeats 400000 in
theorem isReserved_any (s : ByteArray) (w : World) :
    Calls Tryz.prog 193 #[.string s] w fun e w' => e = .returned (.bool (Wm.resv s.data.toList)) ∧ w' = w := by
  rw [← ByteArray.toList_eq]
  go_enter Tryz.func193, Tryz.ntmps193
  go_wp2
  all_goals
    go_ret
    refine ⟨ret_bool ?_, rfl⟩
    unfold Wm.resv
    simp_all
set_option maxHeartbeats 400000 in
theorem isName_any (s : ByteArray) (w : World) (hs : s.size ≤ maxLen) :
    Calls Tryz.prog 124 #[.string s] w fun e w' => e = .returned (.bool (Wm.nm s)) ∧ w' = w := by
  unfold maxLen at hs
  by_cases h0 : s.size = 0
  · go_enter Tryz.func124, Tryz.ntmps124
    go_wp2
    go_ret
    exact ⟨ret_bool (Wm.nm_none s h0).symm, rfl⟩
  by_cases h6 : 6 < s.size
  · go_enter Tryz.func124, Tryz.ntmps124
    go_wp2
    go_ret
    exact ⟨ret_bool (Wm.nm_long s h6).symm, rfl⟩
  have hp : 0 < s.size := by omega
  have e0 : ((s.size : Int) == 0) = false := by rw [beq_eq_false_iff_ne]; omega
  have e6 : decide (6 < (s.size : Int)) = false := by rw [decide_eq_false_iff_not]; omega
  cases hh : Wm.letB s[0] with
  | false =>
    go_enter Tryz.func124, Tryz.ntmps124
    go_wp2_with (go_at_call 191; refine (isLetter_any _ _).mono ?_; rintro e w' ⟨rfl, rfl⟩)
    go_ret
    exact ⟨ret_bool (Wm.nm_head s hp hh).symm, rfl⟩
  | true =>
    go_enter Tryz.func124, Tryz.ntmps124
    go_wp2_with (go_at_call 191; refine (isLetter_any _ _).mono ?_; rintro e w' ⟨rfl, rfl⟩)
    go_loop [20] (fun i => ∃ k : Nat, k ≤ s.size ∧ i = .int .i64 k ∧ (s.data.toList.take k).all Wm.wrdB = true) (fun i => s.size - (intOf i).toNat)
    case atStart => exact ⟨0, Nat.zero_le _, rfl, by simp⟩
    case round =>
      obtain ⟨k, hk, rfl, ha⟩ := hrel
      have HA : Hid ((s.data.toList.take k).all Wm.wrdB = true) := ha
      clear ha
      by_cases hlt : k < s.size
      · cases hl : Wm.letB s[k] with
        | true =>
          go_wp2_with (go_at_call 191; refine (isLetter_any _ _).mono ?_; rintro e w' ⟨rfl, rfl⟩)
          go_round
          case rel => exact ⟨k + 1, by omega, by go_num, by rw [Wm.all_take s k _ hlt, HA.out]; simp [Wm.wrdB, hl]⟩
          case measure => simp [intOf]; omega
        | false =>
          cases hd : Wm.digB s[k] with
          | true =>
            go_wp2_with (first | (go_at_call 191; refine (isLetter_any _ _).mono ?_; rintro e w' ⟨rfl, rfl⟩) | (go_at_call 192; refine (isDigit_any _ _).mono ?_; rintro e w' ⟨rfl, rfl⟩))
            go_round
            case rel => exact ⟨k + 1, by omega, by go_num, by rw [Wm.all_take s k _ hlt, HA.out]; simp [Wm.wrdB, hd]⟩
            case measure => simp [intOf]; omega
          | false =>
            go_wp2_with (first | (go_at_call 191; refine (isLetter_any _ _).mono ?_; rintro e w' ⟨rfl, rfl⟩) | (go_at_call 192; refine (isDigit_any _ _).mono ?_; rintro e w' ⟨rfl, rfl⟩))
            go_ret
            exact ⟨ret_bool (Wm.nm_bad s k hlt (by simp [Wm.wrdB, hl, hd])).symm, rfl⟩
      · go_wp2_with (go_at_call 193; refine (isReserved_any _ _).mono ?_; rintro e w' ⟨rfl, rfl⟩)
        go_ret
        exact ⟨ret_bool (Wm.nm_end s hp (by omega) hh (by rw [show s.size = k by omega]; exact HA.out)).symm, rfl⟩

theorem ret_ib {a b : Int} {c d : Bool} (h : a = b) (h' : c = d) : Ending.returned (.tuple #[.int .i64 a, .bool c]) = .returned (.tuple #[.int .i64 b, .bool d]) := by rw [h, h']
set_option maxHeartbeats 400000 in
theorem parseOp_any (s : ByteArray) (w : World) :
    Calls Tryz.prog 262 #[.string s] w fun e w' => e = .returned (.tuple #[.int .i64 (Wm.opN s.data.toList), .bool (Wm.opB s.data.toList)]) ∧ w' = w := by
  rw [← ByteArray.toList_eq]
  go_enter Tryz.func262, Tryz.ntmps262
  go_wp2
  all_goals
    go_ret2
    refine ⟨ret_ib ?_ ?_, rfl⟩ <;> simp_all [Wm.opN, Wm.opB]
set_option maxHeartbeats 400000 in
theorem parseTest_any (s : ByteArray) (w : World) :
    Calls Tryz.prog 260 #[.string s] w fun e w' => e = .returned (.tuple #[.int .i64 (Wm.tsN s.data.toList), .bool (Wm.tsB s.data.toList)]) ∧ w' = w := by
  rw [← ByteArray.toList_eq]
  go_enter Tryz.func260, Tryz.ntmps260
  go_wp2
  all_goals
    go_ret2
    refine ⟨ret_ib ?_ ?_, rfl⟩ <;> simp_all [Wm.tsN, Wm.tsB]
set_option maxHeartbeats 400000 in
theorem isBlank_any (c : Int) (w : World) :
    Calls Tryz.prog 122 #[.int .i32 c] w fun e w' => e = .returned (.bool (c == 32 || c == 9 || c == 13)) ∧ w' = w := by
  go_enter Tryz.func122, Tryz.ntmps122
  go_wp2
  all_goals
    go_ret
    refine ⟨ret_bool ?_, rfl⟩
    simp_all
end Go.Proofs.YtmipbiligijcpaaGreatDoor
namespace Go.Proofs.YtmipbiligijcpaaGreatDoor
set_option linter.unusedVariables false
set_option linter.unusedSimpArgs false
namespace Wm
open Go.Lib

def decF (a : Nat) (l : List UInt8) : Nat := l.foldl (fun a c => a * 10 + (c.toNat - 48)) a
def decV (l : List UInt8) : Nat := decF 0 l
def dg (l : List UInt8) : List UInt8 := trimPrefix l [45]
def ng (l : List UInt8) : Bool := hasPrefix l [45]
def numD (neg : Bool) (d : List UInt8) : Bool :=
  match d with
  | [] => false
  | c :: r => (c :: r).all digB && (if c.toNat == 48 then decide (r.length = 0) && !neg else true)
def numL (l : List UInt8) : Bool := numD (ng l) (dg l)
def cstL (l : List UInt8) : Option Int :=
  if numL l then (if ng l then (if decV (dg l) ≤ 9223372036854775808 then some (-(decV (dg l) : Int)) else none) else if decV (dg l) < 9223372036854775808 then some (decV (dg l) : Int) else none) else none

theorem decF_ge (l : List UInt8) : ∀ a, a ≤ decF a l := by
  induction l with
  | nil => intro a; exact Nat.le_refl _
  | cons c r ih => intro a; have := ih (a * 10 + (c.toNat - 48)); simp only [decF, List.foldl_cons] at this ⊢; omega
theorem decF_cons (a : Nat) (c : UInt8) (r : List UInt8) : decF a (c :: r) = decF (a * 10 + (c.toNat - 48)) r := by unfold decF; rw [List.foldl_cons]
theorem digB_iff (c : UInt8) : digB c = true ↔ 48 ≤ c.toNat ∧ c.toNat ≤ 57 := by simp [digB]
theorem pu_cons (M a : Nat) (c : UInt8) (r : List UInt8) (hc : 48 ≤ c.toNat ∧ c.toNat ≤ 57) : parseUintM M a (c :: r) = if 1844674407370955162 ≤ a then .range else if M < a * 10 + (c.toNat - 48) then .range else parseUintM M (a * 10 + (c.toNat - 48)) r := by
  rw [parseUintM, if_pos hc]
theorem ar1 (M a x f : Nat) (hM : M < 18446744073709551620) (h1 : 1844674407370955162 ≤ a) (hge : a * 10 + x ≤ f) : ¬ f ≤ M := by omega
theorem uintM (M : Nat) (hM : M < 18446744073709551620) : ∀ (l : List UInt8) (a : Nat), l.all digB = true → a ≤ M → parseUintM M a l = if decF a l ≤ M then .ok (decF a l) else .range
  | [], a, _, ha => by rw [if_pos (show decF a [] ≤ M from ha)]; rfl
  | c :: r, a, hd, ha => by
    have hd1 : digB c = true := by simp only [List.all_cons, Bool.and_eq_true] at hd; exact hd.1
    have hd2 : r.all digB = true := by simp only [List.all_cons, Bool.and_eq_true] at hd; exact hd.2
    have hc := (digB_iff c).1 hd1
    have hge := decF_ge r (a * 10 + (c.toNat - 48))
    rw [pu_cons M a c r hc, decF_cons]
    by_cases h1 : 1844674407370955162 ≤ a
    · rw [if_pos h1, if_neg (ar1 M a _ _ hM h1 hge)]
    · rw [if_neg h1]
      by_cases h2 : M < a * 10 + (c.toNat - 48)
      · rw [if_pos h2, if_neg (by omega)]
      · rw [if_neg h2]
        exact uintM M hM r _ hd2 (by omega)
theorem numD_all {neg : Bool} {d : List UInt8} (h : numD neg d = true) : d.all digB = true ∧ d ≠ [] := by
  cases d with
  | nil => simp [numD] at h
  | cons c r => simp only [numD, Bool.and_eq_true] at h; exact ⟨h.1, by simp⟩
theorem dg_neg (r : List UInt8) : dg (45 :: r) = r := by simp [dg, trimPrefix, hasPrefix, List.isPrefixOf]
theorem ng_neg (r : List UInt8) : ng (45 :: r) = true := by simp [ng, hasPrefix, List.isPrefixOf]
theorem ng_pos (c : UInt8) (r : List UInt8) (h : c ≠ 45) : ng (c :: r) = false := by
  simp [ng, hasPrefix, List.isPrefixOf]; exact fun e => h e.symm
theorem dg_pos (c : UInt8) (r : List UInt8) (h : c ≠ 45) : dg (c :: r) = c :: r := by
  have := ng_pos c r h
  unfold ng at this
  simp [dg, trimPrefix, this]
theorem pow63 : (2 : Nat) ^ (64 - 1) = 9223372036854775808 := by decide
theorem pow64 : (2 : Nat) ^ 64 - 1 = 18446744073709551615 := by decide
theorem cst_neg (r : List UInt8) (h : numL (45 :: r) = true) : cstL (45 :: r) = if decV r ≤ 9223372036854775808 then some (-(decV r : Int)) else none := by
  unfold cstL; rw [if_pos h, ng_neg, dg_neg]; rfl
theorem cst_pos (c : UInt8) (r : List UInt8) (hc : c ≠ 45) (h : numL (c :: r) = true) : cstL (c :: r) = if decV (c :: r) < 9223372036854775808 then some (decV (c :: r) : Int) else none := by
  unfold cstL; rw [if_pos h, ng_pos c r hc, dg_pos c r hc]; rfl
theorem parse_num (l : List UInt8) (h : numL l = true) : parseIntB 64 l = match cstL l with | some v => .ok v | none => .range := by
  cases l with
  | nil => simp [numL, dg, trimPrefix, hasPrefix, numD] at h
  | cons c r =>
    by_cases hc : c = 45
    · subst hc
      rw [cst_neg r h]
      unfold numL at h
      rw [dg_neg, ng_neg] at h
      obtain ⟨ha, hn⟩ := numD_all h
      have hU := uintM 18446744073709551615 (by omega) r 0 ha (by omega)
      unfold parseIntB parseUintB
      simp only [show (45 : UInt8).toNat = 45 from rfl, or_true, if_true, hn, if_false]
      rw [pow64, pow63, hU]
      have e : decF 0 r = decV r := rfl
      rw [e]
      by_cases h1 : decV r ≤ 18446744073709551615
      · rw [if_pos h1]
        by_cases h2 : decV r ≤ 9223372036854775808
        · rw [if_pos h2]
          simp only [not_true, false_and, if_false, true_and]
          rw [if_neg (by omega)]
        · rw [if_neg h2]
          simp only [not_true, false_and, if_false, true_and]
          rw [if_pos (by omega)]
      · rw [if_neg h1, if_neg (by omega)]
    · rw [cst_pos c r hc h]
      unfold numL at h
      rw [dg_pos c r hc, ng_pos c r hc] at h
      obtain ⟨ha, hn⟩ := numD_all h
      have hU := uintM 18446744073709551615 (by omega) (c :: r) 0 ha (by omega)
      have hcd : 48 ≤ c.toNat ∧ c.toNat ≤ 57 := by
        simp only [List.all_cons, Bool.and_eq_true] at ha; exact (digB_iff c).1 ha.1
      unfold parseIntB parseUintB
      have n43 : ¬ (c.toNat = 43 ∨ c.toNat = 45) := by omega
      have n45 : ¬ c.toNat = 45 := by omega
      simp only [n43, if_false, hn]
      rw [pow64, pow63, hU]
      simp only [n45]
      have e : decF 0 (c :: r) = decV (c :: r) := rfl
      rw [e]
      by_cases h1 : decV (c :: r) ≤ 18446744073709551615
      · rw [if_pos h1]
        by_cases h2 : decV (c :: r) < 9223372036854775808
        · rw [if_pos h2]
          simp only [not_false_eq_true, true_and, false_and, if_false]
          rw [if_neg (by omega)]
        · rw [if_neg h2]
          simp only [not_false_eq_true, true_and]
          rw [if_pos (by omega)]
      · rw [if_neg h1, if_neg (by omega)]
end Wm
end Go.Proofs.YtmipbiligijcpaaGreatDoor
namespace Go.Proofs.YtmipbiligijcpaaGreatDoor
set_option linter.unusedVariables false
set_option linter.unusedSimpArgs false
open Go.RowKit Go.Proofs

theorem cutPrefix_D (s p : ByteArray) (w : World) :
    Calls Tryz.prog 91 #[.string s, .string p] w fun e w' => ∃ (D : ByteArray) (b : Bool), e = .returned (.tuple #[.string D, .bool b]) ∧ Hid (D.data.toList = Lib.trimPrefix s.data.toList p.data.toList ∧ b = Lib.hasPrefix s.data.toList p.data.toList) ∧ w' = w :=
  (Tryz.strings_CutPrefix s p w).mono fun _ _ h => ⟨_, _, h.1, ⟨rfl, rfl⟩, h.2⟩
theorem trim_len (l p : List UInt8) : (Lib.trimPrefix l p).length ≤ l.length := by unfold Lib.trimPrefix; split <;> simp
theorem numD_empty (D : ByteArray) (b : Bool) (h : D.size = 0) : Wm.numD b D.data.toList = false := by
  have : D.data.toList = [] := List.length_eq_zero_iff.1 h
  rw [this]; rfl
theorem numD_bad (D : ByteArray) (b : Bool) (k : Nat) (h : k < D.size) (hd : Wm.digB D[k] = false) : Wm.numD b D.data.toList = false := by
  cases e : Wm.numD b D.data.toList with
  | false => rfl
  | true =>
    have := Wm.all_of_take _ (k + 1) _ (Wm.numD_all e).1
    rw [Wm.all_take D k _ h, hd] at this; simp at this
theorem numD_end (D : ByteArray) (b : Bool) (h : 0 < D.size) (ha : (D.data.toList.take D.size).all Wm.digB = true) : Wm.numD b D.data.toList = if D[0].toNat == 48 then decide (D.size = 1) && !b else true := by
  rw [List.take_of_length_le (by rw [Wm.len_data]; exact Nat.le_refl _)] at ha
  have hl := Wm.len_data D
  have hc := Wm.cons_data D h
  rw [hc] at hl ha
  unfold Wm.numD
  rw [hc]
  simp only [List.length_cons] at hl
  simp only [ha, Bool.true_and]
  have : decide ((List.drop 1 D.data.toList).length = 0) = decide (D.size = 1) := by rw [Bool.eq_iff_iff]; simp only [decide_eq_true_eq]; omega
  rw [this]

set_option maxHeartbeats 400000 in
theorem isNumeral_any (s : ByteArray) (w : World) (hs : s.size ≤ maxLen) :
    Calls Tryz.prog 337 #[.string s] w fun e w' => e = .returned (.bool (Wm.numL s.data.toList)) ∧ w' = w := by
  unfold maxLen at hs
  go_enter Tryz.func337, Tryz.ntmps337
  go_wp2_with fail
  refine (cutPrefix_D _ _ _).mono ?_
  rintro e w' ⟨D, b, rfl, hD, rfl⟩
  have hDs : D.size ≤ 2 ^ 63 - 1 := by
    have h1 := trim_len s.data.toList [45]
    have h2 := congrArg List.length hD.out.1
    have h3 := Wm.len_data D
    have h4 := Wm.len_data s
    simp only at h2
    omega
  have HN : Hid (Wm.numL s.data.toList = Wm.numD b D.data.toList) := by
    show _ = _
    rw [hD.out.1, hD.out.2]; rfl
  clear hD
  by_cases h0 : D.size = 0
  · go_wp2
    go_ret
    exact ⟨ret_bool (HN.out.trans (numD_empty D b h0)).symm, rfl⟩
  have hp : 0 < D.size := by omega
  have e0 : ((D.size : Int) == 0) = false := by rw [beq_eq_false_iff_ne]; omega
  go_wp2
  go_loop [16] (fun i => ∃ k : Nat, k ≤ D.size ∧ i = .int .i64 k ∧ Hid ((D.data.toList.take k).all Wm.digB = true)) (fun i => D.size - (intOf i).toNat)
  case atStart => exact ⟨0, Nat.zero_le _, rfl, by show _ = true; simp⟩
  case round =>
    obtain ⟨k, hk, rfl, HA⟩ := hrel
    by_cases hlt : k < D.size
    · cases hd : Wm.digB D[k] with
      | true =>
        go_wp2_with (go_at_call 192; refine (isDigit_any _ _).mono ?_; rintro e w' ⟨rfl, rfl⟩)
        go_round
        case rel => exact ⟨k + 1, by omega, by go_num, by show _ = true; rw [Wm.all_take D k _ hlt, HA.out, hd]; rfl⟩
        case measure => simp [intOf]; omega
      | false =>
        go_wp2_with (go_at_call 192; refine (isDigit_any _ _).mono ?_; rintro e w' ⟨rfl, rfl⟩)
        go_ret
        exact ⟨ret_bool (HN.out.trans (numD_bad D b k hlt hd)).symm, rfl⟩
    · obtain rfl : k = D.size := by omega
      have hE := numD_end D b hp HA.out
      have HE : Hid (Wm.numL s.data.toList = if D[0].toNat == 48 then decide (D.size = 1) && !b else true) := HN.out.trans hE
      clear hE
      by_cases h48 : D[0].toNat = 48
      · have c48 : ((D[0].toNat : Int) == 48) = true := by rw [beq_iff_eq]; omega
        by_cases h1 : D.size = 1
        · have e1 : ((D.size : Int) == 1) = true := by rw [beq_iff_eq]; omega
          go_wp2
          go_ret
          refine ⟨ret_bool ?_, rfl⟩
          rw [HE.out]; simp [h48, h1]
        · have e1 : ((D.size : Int) == 1) = false := by rw [beq_eq_false_iff_ne]; omega
          go_wp2
          go_ret
          refine ⟨ret_bool ?_, rfl⟩
          rw [HE.out]; simp [h48, h1]
      · have c48 : ((D[0].toNat : Int) == 48) = false := by rw [beq_eq_false_iff_ne]; omega
        go_wp2
        go_ret
        refine ⟨ret_bool ?_, rfl⟩
        rw [HE.out]; simp [h48]

/-- the number a word spells, and whether it does -/
def cstV (l : List UInt8) : Int := (Wm.cstL l).getD 0
def cstB (l : List UInt8) : Bool := (Wm.cstL l).isSome
theorem cst_no {l : List UInt8} (h : Wm.numL l = false) : Wm.cstL l = none := by unfold Wm.cstL; rw [h]; rfl

set_option maxHeartbeats 400000 in
theorem parseConstant_any (s : ByteArray) (ev : Value) (w : World) (hs : s.size ≤ 3000) (hv : w.cell? ⟨5, 0, none⟩ = some ev) (hev : ∃ te pe, ev = .iface te pe) :
    Calls Tryz.prog 304 #[.string s] w fun e w' => e = .returned (.tuple #[.int .i64 (cstV s.data.toList), .bool (cstB s.data.toList)]) ∧ Below w.heap.size w w' := by
  have hm : s.size ≤ maxLen := by unfold maxLen; omega
  cases hn : Wm.numL s.data.toList with
  | false =>
    go_enter Tryz.func304, Tryz.ntmps304
    go_wp2_with (go_at_call 337; refine (isNumeral_any _ _ hm).mono ?_; rintro e w' ⟨rfl, rfl⟩)
    go_ret2
    exact ⟨ret_ib (by simp [cstV, cst_no hn]) (by simp [cstB, cst_no hn]), Below.refl _ _⟩
  | true =>
    have hpn := Wm.parse_num _ hn
    cases hc : Wm.cstL s.data.toList with
    | some v =>
      rw [hc] at hpn
      have HC : Hid (Wm.cstL s.data.toList = some v) := hc
      clear hc
      go_enter Tryz.func304, Tryz.ntmps304
      go_wp2_with (first | (go_at_call 337; refine (isNumeral_any _ _ hm).mono ?_; rintro e w' ⟨rfl, rfl⟩) | (go_at_call 338; refine (Tryz.strconv_ParseInt_10_at64_ok s (by omega) v hpn _).mono ?_; rintro e w' ⟨rfl, hw⟩))
      go_ret2
      refine ⟨ret_ib (by simp [cstV, HC.out]) (by simp [cstB, HC.out]), ?_⟩
      rcases hw with rfl | ⟨t, rfl⟩
      · exact Below.refl _ _
      · exact Lib.bytesWorld_below _ _ _
    | none =>
      rw [hc] at hpn
      have HC : Hid (Wm.cstL s.data.toList = none) := hc
      clear hc
      go_enter Tryz.func304, Tryz.ntmps304
      go_wp2_with (first | (go_at_call 337; refine (isNumeral_any _ _ hm).mono ?_; rintro e w' ⟨rfl, rfl⟩) | (go_at_call 338; refine (Tryz.strconv_ParseInt_10_at64_range s (by omega) hpn ev _ hv (Or.inr hev)).mono ?_; rintro e w' ⟨N, rfl, hN, hNb, hb⟩))
      go_ret2
      exact ⟨ret_ib (by simp [cstV, HC.out]) (by simp [cstB, HC.out]), hb⟩
end Go.Proofs.YtmipbiligijcpaaGreatDoor
