/- A part of the proof: contracts of functions of the program. -/
import Derived.Test.YtmipbiligijcpaaGreatDoorA31
import Derived.Test.YtmipbiligijcpaaGreatDoorA16
import Derived.Laws.OwnMore
namespace Go.Proofs.YtmipbiligijcpaaGreatDoor
set_option linter.unusedVariables false
set_option linter.unusedSimpArgs false
open Go.RowKit Go.Proofs Go.Maps

/-- what a op b is (0, where there is none); is there one? -/
def opVal (o a b : Int) : Int := if o = 0 then wrap64 (a + b) else if o = 1 then wrap64 (a - b) else if o = 2 then wrap64 (a * b) else if b = 0 then 0 else wrap64 (a.tdiv b)
def opOk (o b : Int) : Bool := o == 0 || o == 1 || o == 2 || !(b == 0)
def tsSo (t a b : Int) : Bool := if t = 0 then decide (a < b) else if t = 1 then decide (a ≤ b) else if t = 2 then a == b else a != b
theorem wrap0 : wrap64 0 = 0 := by unfold wrap64; omega
theorem le_split (a b : Int) : (decide (a < b) || a == b) = decide (a ≤ b) := by
  rw [Bool.eq_iff_iff]; simp; omega
set_option maxHeartbeats 400000 in
theorem apply_any (o a b : Int) (w : World) :
    Calls Tryz.prog 172 #[.int .i64 o, .int .i64 a, .int .i64 b] w fun e w' => e = .returned (.tuple #[.int .i64 (opVal o a b), .bool (opOk o b)]) ∧ w' = w := by
  by_cases hb : b = 0
  · subst hb
    go_enter Tryz.func172, Tryz.ntmps172
    go_wp2
    all_goals
      go_ret2
      refine ⟨ret_ib ?_ ?_, rfl⟩ <;> simp_all [opVal, opOk, wrap0]
  · have h0 : (b == 0) = false := by simp [hb]
    go_enter Tryz.func172, Tryz.ntmps172
    go_wp2
    all_goals
      go_ret2
      refine ⟨ret_ib ?_ ?_, rfl⟩ <;> simp_all [opVal, opOk, wrap0]
set_option maxHeartbeats 400000 in
theorem holds_any (t a b : Int) (w : World) :
    Calls Tryz.prog 173 #[.int .i64 t, .int .i64 a, .int .i64 b] w fun e w' => e = .returned (.bool (tsSo t a b)) ∧ w' = w := by
  go_enter Tryz.func173, Tryz.ntmps173
  go_wp2
  all_goals
    go_ret
    refine ⟨ret_bool ?_, rfl⟩ <;> simp_all [tsSo]
end Go.Proofs.YtmipbiligijcpaaGreatDoor
namespace Go.Proofs.YtmipbiligijcpaaGreatDoor
set_option linter.unusedVariables false
set_option linter.unusedSimpArgs false
open Go.RowKit Go.Proofs Go.Maps

def opW (vals : List Int) (o : Opd) : Int := if o.isVar then vals.getD o.var.toNat 0 else o.const
/-- the operand's variable is there -/
def opdIn (n : Nat) (o : Opd) : Prop := o.isVar = true → 0 ≤ o.var ∧ o.var < n
theorem own_slice {w : World} {B e n : Nat} {v : Value} {xs : List Value} (h : w.ownsRow B e 1 v n xs) (h0 : 0 < n) : ∃ g cap, v = .slice (some ⟨g, 0, none⟩) n cap ∧ B ≤ g ∧ n ≤ cap ∧ ∀ j x, xs[j]? = some x → j < n → w.cell? ⟨g, j, none⟩ = some x := by
  rcases h.2 with ⟨_, e⟩ | ⟨g, cap, cur, hv, hb, hg, hc, hm, hs, ht⟩
  · omega
  · refine ⟨g, cap, hv, hb, hc, fun j x hx hj => ?_⟩
    rw [← ht, List.getElem?_take, if_pos (by omega)] at hx
    simp only [World.cell?, hg]
    simpa using hx
set_option maxHeartbeats 400000 in
theorem value_any (sb B : Nat) (vv iv ov : Value) (vals : List Int) (o : Opd) (w : World) (hb : w.heap[sb]? = some (.cells #[vv, iv, ov] 182 (0, 0))) (hv : w.ownsRow B 2 1 vv vals.length (vals.map (Value.int .i64))) (ho : opdIn vals.length o) :
    Calls Tryz.prog 171 #[.pointer (some ⟨sb, 0, none⟩), .agg #[.bool o.isVar, .int .i64 o.var, .int .i64 o.const]] w fun e w' => e = .returned (.int .i64 (opW vals o)) ∧ ∃ n, w' = (w.alloc (.cells #[.bool o.isVar, .int .i64 o.var, .int .i64 o.const] 150)).drewN n := by
  obtain ⟨hx1, hx2⟩ := box_cells hb
  obtain ⟨b, v, c⟩ := o
  cases b with
  | false =>
    have HV : Hid (opW vals ⟨false, v, c⟩ = c) := rfl
    go_enter Tryz.func171, Tryz.ntmps171
    go_wp2
    go_ret
    rw [HV.out]
    exact ⟨rfl, 0, rfl⟩
  | true =>
    obtain ⟨h0, h1⟩ := ho rfl
    simp only at h0 h1
    obtain ⟨k, rfl⟩ : ∃ k : Nat, v = k := ⟨v.toNat, by omega⟩
    obtain ⟨x, hx⟩ : ∃ x, vals[k]? = some x := ⟨_, List.getElem?_eq_getElem (by omega)⟩
    have HV : Hid (opW vals ⟨true, k, c⟩ = x) := by show _ = _; simp [opW, List.getD, hx]
    obtain ⟨g, cap, rfl, hgB, hcap, hcell⟩ := own_slice hv (by omega)
    have hgw : g < w.heap.size := (hv.lt g rfl).2
    have hsw : sb < w.heap.size := (Array.getElem?_eq_some_iff.1 hb).1
    have n1 : g ≠ w.heap.size := by omega
    have n2 : w.heap.size ≠ g := by omega
    have n3 : sb ≠ w.heap.size := by omega
    have n4 : w.heap.size ≠ sb := by omega
    have hc := hcell k (.int .i64 x) (by simp [hx]) (by omega)
    clear hcell hx
    go_enter Tryz.func171, Tryz.ntmps171
    go_wp2
    go_quiet (fail)
    go_wp2
    go_ret
    rw [HV.out]
    exact ⟨rfl, _, rfl⟩
end Go.Proofs.YtmipbiligijcpaaGreatDoor
namespace Go.Proofs.YtmipbiligijcpaaGreatDoor
set_option linter.unusedVariables false
set_option linter.unusedSimpArgs false
open Go.RowKit Go.Proofs Go.Maps

/-- what may have turned -/
structure VF (sb : Nat) (a b : Option Nat) (w w' : World) : Prop where
  os : w'.os = w.os
  tape : w'.tape = w.tape
  output : w'.output = w.output
  size : w.heap.size ≤ w'.heap.size
  block : ∀ k, k < w.heap.size → k ≠ sb → some k ≠ a → some k ≠ b → w'.heap[k]? = w.heap[k]?
theorem VF.refl (sb : Nat) (a b : Option Nat) (w : World) : VF sb a b w w := ⟨rfl, rfl, rfl, Nat.le_refl _, fun _ _ _ _ _ => rfl⟩
theorem VF.of_below {sb : Nat} {a b : Option Nat} {w w' : World} (h : Below w.heap.size w w') : VF sb a b w w' := ⟨h.os, h.tape, h.output, h.size, fun k hk _ _ _ => h.block k hk⟩
theorem VF.then {sb : Nat} {a b : Option Nat} {u v w : World} (h : VF sb a b u v) (k : Below v.heap.size v w) : VF sb a b u w :=
  ⟨k.os.trans h.os, k.tape.trans h.tape, k.output.trans h.output, Nat.le_trans h.size k.size, fun j hj h1 h2 h3 => (k.block j (Nat.lt_of_lt_of_le hj h.size)).trans (h.block j hj h1 h2 h3)⟩
theorem VF.set {sb : Nat} {a b : Option Nat} {u w : World} (h : VF sb a b u w) {ad : Addr} (ha : u.heap.size ≤ ad.block ∨ ad.block = sb ∨ some ad.block = a ∨ some ad.block = b) (v : Value) : VF sb a b u (w.setCell ad v) :=
  ⟨h.os, h.tape, h.output, by simpa [World.setCell] using h.size, fun k hk h1 h2 h3 => (Below.heap_setCell _ _ _ _ (by
    rcases ha with e | e | e | e
    · omega
    · intro e2; exact h1 (e2.trans e)
    · intro e2; exact h2 (by rw [e2, e])
    · intro e2; exact h3 (by rw [e2, e]))).trans (h.block k hk h1 h2 h3)⟩
/-- the inputs that are left: a slice of whoever's, below B -/
def InL (w : World) (B : Nat) (v : Value) (ins : List Int) : Prop := ∃ ao cap, v = .slice ao ins.length cap ∧ ins.length ≤ cap ∧ cap ≤ maxLen ∧ ∀ j x, ins[j]? = some x → ∃ b o, ao = some ⟨b, o, none⟩ ∧ b < B ∧ w.cell? ⟨b, o + j, none⟩ = some (.int .i64 x)
theorem InL.mono {w w' : World} {B : Nat} {v : Value} {ins : List Int} (h : InL w B v ins) (hb : ∀ k, k < B → w'.heap[k]? = w.heap[k]?) : InL w' B v ins := by
  obtain ⟨ao, cap, h1, h2, h3, h4⟩ := h
  refine ⟨ao, cap, h1, h2, h3, fun j x hj => ?_⟩
  obtain ⟨b, o, e, hlt, hc⟩ := h4 j x hj
  exact ⟨b, o, e, hlt, (cell_block (hb b hlt)).trans hc⟩
/-- the state of a run -/
structure MS (w : World) (sb B : Nat) (vals ins outs : List Int) (vv iv ov : Value) : Prop where
  box : w.heap[sb]? = some (.cells #[vv, iv, ov] 182 (0, 0))
  low : B ≤ sb
  vals : w.ownsRow B 2 1 vv vals.length (vals.map (Value.int .i64))
  ins : InL w B iv ins
  outs : w.ownsRow B 2 1 ov outs.length (outs.map (Value.int .i64))
  ne : vv.ownBlock = none ∨ vv.ownBlock ≠ ov.ownBlock
theorem MS.lt {w : World} {sb B : Nat} {vals ins outs : List Int} {vv iv ov : Value} (h : MS w sb B vals ins outs vv iv ov) : sb < w.heap.size := (Array.getElem?_eq_some_iff.1 h.box).1
theorem MS.below {w W : World} {sb B : Nat} {vals ins outs : List Int} {vv iv ov : Value} (h : MS w sb B vals ins outs vv iv ov) (hb : Below w.heap.size w W) : MS W sb B vals ins outs vv iv ov :=
  ⟨(hb.block _ h.lt).trans h.box, h.low, own_of_below h.vals hb, h.ins.mono (fun k hk => hb.block k (by have := h.lt; have := h.low; omega)), own_of_below h.outs hb, h.ne⟩
theorem own_ne_box {w : World} {B e size n g cap sb t : Nat} {xs : List Value} {cs : Array Value} (h : w.ownsRow B e size (.slice (some ⟨g, 0, none⟩) n cap) n xs) (hb : w.heap[sb]? = some (.cells cs t (0, 0))) (ht : e ≠ t) : g ≠ sb := by
  rintro rfl
  obtain ⟨c1, f1, h1⟩ := own_cells h g rfl
  rw [h1] at hb
  simp at hb
  exact ht hb.2.1
theorem row_fz {w : World} {B e size n g cap : Nat} {xs : List Value} (h : w.ownsRow B e size (.slice (some ⟨g, 0, none⟩) n cap) n xs) : ∀ o, w.frozen? ⟨g, o, none⟩ = false := by
  rcases h.2 with ⟨e0, _⟩ | ⟨g', cap', cur, hv, hb, hg, _⟩
  · cases e0
  · cases hv
    exact (box_cells hg).2
/-- a value is put -/
theorem MS.put {w W : World} {sb B g cap k : Nat} {vals ins outs : List Int} {iv ov : Value} (h : MS w sb B vals ins outs (.slice (some ⟨g, 0, none⟩) vals.length cap) iv ov) (hb : Below w.heap.size w W) (x : Int) : MS (W.setCell ⟨g, k, none⟩ (.int .i64 x)) sb B (vals.set k x) ins outs (.slice (some ⟨g, 0, none⟩) vals.length cap) iv ov ∧ VF sb (some g) ov.ownBlock w (W.setCell ⟨g, k, none⟩ (.int .i64 x)) := by
  have h2 := h.below hb
  have hne : g ≠ sb := own_ne_box h.vals h.box (by decide)
  have hgB := (h.vals.lt g rfl).1
  obtain ⟨s1, s2⟩ := h2.vals.stored k (.int .i64 x)
  refine ⟨⟨(Below.heap_setCell _ _ _ _ (fun e => hne e.symm)).trans h2.box, h.low, ?_, ?_, ?_, h.ne⟩, (VF.of_below hb).set (ad := ⟨g, k, none⟩) (Or.inr (Or.inr (Or.inl rfl))) _⟩
  · rw [List.length_set, List.map_set]; exact s1
  · exact h2.ins.mono (fun q hq => Below.heap_setCell _ _ _ _ (by show q ≠ g; omega))
  · refine h2.outs.kept s2 ?_
    rcases h.ne with e | e
    · cases e
    · exact Or.inr (fun e2 => e (by rw [e2]; rfl))
set_option maxHeartbeats 1000000 in
set_option maxRecDepth 100000 in
theorem visit_copy (sb B : Nat) (vv iv ov wv ev : Value) (vals ins outs : List Int) (lab goal : ByteArray) (var op test : Int) (a b : Opd) (w : World) (hM : MS w sb B vals ins outs vv iv ov) (ha : opdIn vals.length a) (hv : 0 ≤ var ∧ var < vals.length) :
    Calls Tryz.prog 98 #[.pointer (some ⟨sb, 0, none⟩), .agg (snCells lab wv ⟨0, var, op, test, a, b, goal⟩ ev)] w fun e w' => e = .returned (.int .i64 0) ∧ MS w' sb B (vals.set var.toNat (opW vals a)) ins outs vv iv ov ∧ VF sb vv.ownBlock ov.ownBlock w w' := by
  obtain ⟨k, rfl⟩ : ∃ k : Nat, var = k := ⟨var.toNat, by omega⟩
  obtain ⟨hx1, hx2⟩ := box_cells hM.box
  obtain ⟨g, cap, rfl, hgB, hcap, hcell⟩ := own_slice hM.vals (by omega)
  obtain ⟨x0, hx0⟩ : ∃ x, vals[k]? = some x := ⟨_, List.getElem?_eq_getElem (by omega)⟩
  have hfz := row_fz hM.vals
  have hc := hcell k (.int .i64 x0) (by simp [hx0]) (by omega)
  have hgw : g < w.heap.size := (hM.vals.lt g rfl).2
  have hsw : sb < w.heap.size := (Array.getElem?_eq_some_iff.1 hM.box).1
  have n5 : g ≠ sb := own_ne_box hM.vals hM.box (by decide)
  have n6 : sb ≠ g := n5.symm
  have n1 : g ≠ w.heap.size := by omega
  have n2 : w.heap.size ≠ g := by omega
  have n3 : sb ≠ w.heap.size := by omega
  have n4 : w.heap.size ≠ sb := by omega
  have hki : (k : Int) < (vals.length : Int) := hv.2
  have HM : Hid (MS w sb B vals ins outs (.slice (some ⟨g, 0, none⟩) vals.length cap) iv ov) := hM
  clear hcell hM
  simp only [snCells]
  go_enter Tryz.func98, Tryz.ntmps98
  go_wp2_with fail
  go_region_held3 (fun w' => w'.cell? ⟨sb, 0, none⟩ = some (.slice (some ⟨g, 0, none⟩) vals.length cap) ∧ w'.cell? ⟨w.heap.size, 3, none⟩ = some (.int .i64 k) ∧ w'.cell? ⟨w.heap.size, 6, none⟩ = some (.bool a.isVar) ∧ w'.cell? ⟨w.heap.size, 7, none⟩ = some (.int .i64 a.var) ∧ w'.cell? ⟨w.heap.size, 8, none⟩ = some (.int .i64 a.const)) (go_keep) ((go_at_call 171; refine (value_any sb B (.slice (some ⟨g, 0, none⟩) vals.length cap) iv ov vals a _ (by exact (Below.heap_alloc _ _ _ hsw).trans HM.out.box) (by exact HM.out.vals.alloc _) ha).mono ?_; rintro e W' ⟨rfl, nq, rfl⟩))
  go_wp2_with fail
  go_ret
  exact ⟨rfl, HM.out.put (k := k) (below_drewN (((Below.refl _ _).alloc (Nat.le_refl _) _).alloc (by simp) _) _) (opW vals a)⟩
end Go.Proofs.YtmipbiligijcpaaGreatDoor
