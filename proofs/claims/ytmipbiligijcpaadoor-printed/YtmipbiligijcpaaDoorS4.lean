/- A run's state: each kind of node. -/
import Derived.Test.YtmipbiligijcpaaDoorB2
import Derived.Test.YtmipbiligijcpaaDoorS3
import Derived.Test.YtmipbiligijcpaaDoorG
namespace Go.Proofs.YtmipbiligijcpaaDoor
set_option linter.unusedVariables false
set_option linter.unusedSimpArgs false
open Go.RowKit Go.Proofs Go.Maps

theorem far3_heap {w : World} {k : Nat} (hk : k < w.heap.size) (o1 o2 o3 : Obj) (n : Nat) : ((((w.alloc o1).alloc o2).drewN n).alloc o3).heap[k]? = w.heap[k]? :=
  (Below.heap_alloc (((w.alloc o1).alloc o2).drewN n) o3 k (by show k < ((w.alloc o1).alloc o2).heap.size; simp; omega)).trans ((Below.heap_alloc (w.alloc o1) o2 k (by simp; omega)).trans (Below.heap_alloc w o1 k hk))
theorem far3 {w : World} {k : Nat} (hk : k < w.heap.size) : ∀ (o1 o2 o3 : Obj) (n j : Nat), ((((w.alloc o1).alloc o2).drewN n).alloc o3).cell? ⟨k, j, none⟩ = w.cell? ⟨k, j, none⟩ := fun o1 o2 o3 n j => cell_block (far3_heap hk o1 o2 o3 n)
theorem far3_fz {w : World} {k : Nat} (hk : k < w.heap.size) : ∀ (o1 o2 o3 : Obj) (n j : Nat), ((((w.alloc o1).alloc o2).drewN n).alloc o3).frozen? ⟨k, j, none⟩ = w.frozen? ⟨k, j, none⟩ := fun o1 o2 o3 n j => by simp only [World.frozen?, far3_heap hk o1 o2 o3 n]
theorem own_ne_sb {w : World} {sb B n : Nat} {v : Value} {xs : List Value} {cs : Array Value} (h : w.ownsRow B 2 1 v n xs) (hb : w.heap[sb]? = some (.cells cs 72 (0, 0))) : v.ownBlock = none ∨ v.ownBlock ≠ some sb := by
  cases hv : v.ownBlock with
  | none => exact Or.inl rfl
  | some k =>
    refine Or.inr (fun e => ?_)
    obtain ⟨c1, f1, h1⟩ := own_cells h k hv
    cases e
    rw [h1] at hb
    simp at hb
theorem MS.out {w W W4 : World} {sb B : Nat} {vals ins outs : List Int} {vv iv ov v4 : Value} {y : Int} (h : MS w sb B vals ins outs vv iv ov) (hb : Below w.heap.size w W) (hg : W.grownBy W4 ov.ownBlock) (ho : W4.ownsRow B 2 1 v4 (outs.length + 1) (outs.map (Value.int .i64) ++ [.int .i64 y])) (hn : v4.ownBlock = ov.ownBlock ∨ v4.ownBlock = some W.heap.size) : VF sb vv.ownBlock ov.ownBlock w (W4.setCell ⟨sb, 2, none⟩ v4) ∧ (∃ ov', MS (W4.setCell ⟨sb, 2, none⟩ v4) sb B vals ins (outs ++ [y]) vv iv ov' ∧ (ov'.ownBlock = ov.ownBlock ∨ ∃ q, ov'.ownBlock = some q ∧ w.heap.size ≤ q)) := by
  have h2 := h.below hb
  have hz := hb.size
  have hne := own_ne_sb h2.outs h2.box
  have hsb : some sb ≠ ov.ownBlock := by
    rcases hne with e | e
    · rw [e]; simp
    · exact fun e2 => e e2.symm
  have hb4 : W4.heap[sb]? = some (.cells #[vv, iv, ov] 72 (0, 0)) := (hg.block sb h2.lt hsb).trans h2.box
  have hset := grown_self W4 sb 2 v4
  refine ⟨⟨hg.os.trans hb.os, hg.tape.trans hb.tape, hg.output.trans hb.output, by have := hg.size; simp [World.setCell]; omega, fun k hk h1 _ h3 => (Below.heap_setCell _ _ _ _ h1).trans ((hg.block k (by omega) h3).trans (hb.block k hk))⟩, v4, ⟨?_, h.low, ?_, ?_, ?_, ?_⟩, ?_⟩
  · rw [heap_setCell_same _ _ _ _ _ _ hb4]; rfl
  · have h4 := h2.vals.kept hg h.ne
    exact h4.kept hset (own_ne_sb h4 hb4)
  · refine h2.ins.mono (fun k hk => (Below.heap_setCell _ _ _ _ (by have := h.low; show k ≠ sb; omega)).trans (hg.block k (by have := h.low; have := h2.lt; omega) ?_))
    intro e
    have := (h2.outs.lt k e.symm).1
    omega
  · rw [List.length_append, List.map_append]
    exact ho.kept hset (own_ne_sb ho hb4)
  · rcases hn with e | e
    · rw [e]; exact h.ne
    · rw [e]
      cases hv : vv.ownBlock with
      | none => exact Or.inl rfl
      | some k =>
        have := (h.vals.lt k hv).2
        exact Or.inr (by simp; omega)
  · rcases hn with e | e
    · exact Or.inl e
    · exact Or.inr ⟨_, e, by omega⟩
theorem inl_take {w : World} {B ib io cp : Nat} {x : Int} {r : List Int} (h : InL w B (.slice (some ⟨ib, io, none⟩) (r.length + 1) cp) (x :: r)) : InL w B (.slice (some ⟨ib, io + 1, none⟩) r.length (cp - 1)) r := by
  obtain ⟨ao, cap, e, h1, h2, h3⟩ := h
  cases e
  refine ⟨_, _, rfl, by simp at h1; omega, by omega, fun j y hj => ?_⟩
  obtain ⟨b, o, e, hlt, hc⟩ := h3 (j + 1) y (by simpa using hj)
  cases e
  exact ⟨_, _, rfl, hlt, by rw [show io + 1 + j = io + (j + 1) by omega]; exact hc⟩
theorem inl_last {w : World} {B : Nat} {ao : Option Addr} {r : List Int} (h : r.length = 0) : InL w B (.slice ao r.length 0) r := by
  refine ⟨ao, 0, rfl, by omega, by simp, fun j y hj => ?_⟩
  have := (List.getElem?_eq_some_iff.1 hj).1
  omega
theorem MS.take {w : World} {sb B g cap k : Nat} {vals ins outs r : List Int} {iv ov v' : Value} (h : MS w sb B vals ins outs (.slice (some ⟨g, 0, none⟩) vals.length cap) iv ov) (x : Int) (hi : InL w B v' r) : VF sb (some g) ov.ownBlock w ((w.setCell ⟨g, k, none⟩ (.int .i64 x)).setCell ⟨sb, 1, none⟩ v') ∧ MS ((w.setCell ⟨g, k, none⟩ (.int .i64 x)).setCell ⟨sb, 1, none⟩ v') sb B (vals.set k x) r outs (.slice (some ⟨g, 0, none⟩) vals.length cap) v' ov := by
  obtain ⟨h2, hf⟩ := h.put (k := k) (Below.refl _ _) x
  have hset := grown_self (w.setCell ⟨g, k, none⟩ (.int .i64 x)) sb 1 v'
  have hgB := (h.vals.lt g rfl).1
  refine ⟨hf.set (ad := ⟨sb, 1, none⟩) (Or.inr (Or.inl rfl)) _, ⟨?_, h.low, h2.vals.kept hset (own_ne_sb h2.vals h2.box), ?_, h2.outs.kept hset (own_ne_sb h2.outs h2.box), h.ne⟩⟩
  · rw [heap_setCell_same _ _ _ _ _ _ h2.box]; rfl
  · exact hi.mono (fun q hq => (Below.heap_setCell _ _ _ _ (by have := h.low; show q ≠ sb; omega)).trans (Below.heap_setCell _ _ _ _ (by show q ≠ g; omega)))
/-- behind an append to the outputs the state's box and the node's stand -/
theorem outs_kept {w W W4 : World} {sb B : Nat} {vals ins outs : List Int} {vv iv ov : Value} {cs : Array Value} {t : Nat} (h : MS w sb B vals ins outs vv iv ov) (hb : Below (w.heap.size + 1) (w.alloc (.cells cs t)) W) (hn : (w.alloc (.cells cs t)).heap[w.heap.size]? = some (.cells cs t (0, 0))) (hg : W.grownBy W4 ov.ownBlock) : ((∀ o, W4.cell? ⟨sb, o, none⟩ = #[vv, iv, ov][o]?) ∧ ∀ o, W4.frozen? ⟨sb, o, none⟩ = false) ∧ (∀ o, W4.cell? ⟨w.heap.size, o, none⟩ = cs[o]?) ∧ ∀ o, W4.frozen? ⟨w.heap.size, o, none⟩ = false := by
  have hz := hb.size
  have hs := h.lt
  have hsz : (w.alloc (.cells cs t)).heap.size = w.heap.size + 1 := by simp
  refine ⟨box_cells (t := 72) ?_, box_cells (t := t) ?_⟩
  · refine (hg.block sb (by omega) ?_).trans ((hb.block sb (by omega)).trans ((Below.heap_alloc _ _ _ hs).trans h.box))
    intro e
    obtain ⟨c1, f1, h1⟩ := own_cells h.outs sb e.symm
    have h2 := h.box
    rw [h1] at h2
    simp at h2
  · refine (hg.block w.heap.size (by omega) ?_).trans ((hb.block _ (by omega)).trans hn)
    intro e
    have := (h.outs.lt _ e.symm).2
    omega
set_option maxHeartbeats 2000000 in
set_option maxRecDepth 100000 in
theorem visit_if (sb B : Nat) (vv iv ov wv ev : Value) (vals ins outs : List Int) (lab goal : ByteArray) (var op test : Int) (a b : Opd) (w : World) (hM : MS w sb B vals ins outs vv iv ov) :
    Calls Tryd.prog 21 #[.pointer (some ⟨sb, 0, none⟩), .agg (snCells lab wv ⟨4, var, op, test, a, b, goal⟩ ev)] w fun e w' => e = .returned (.int .i64 0) ∧ MS w' sb B vals ins outs vv iv ov ∧ VF sb vv.ownBlock ov.ownBlock w w' := by
  have HM : Hid (MS w sb B vals ins outs vv iv ov) := hM
  clear hM
  simp only [snCells]
  go_enter Tryd.func21, Tryd.ntmps21
  go_wp2_with fail
  go_ret
  exact ⟨rfl, HM.out.below (by repeat (first | with_reducible exact Below.refl _ _ | with_reducible refine below_drewN ?_ _ | with_reducible refine Below.drew ?_ | refine Below.alloc ?_ (by first | (simp; done) | (simp; omega)) _)), VF.of_below (by repeat (first | with_reducible exact Below.refl _ _ | with_reducible refine below_drewN ?_ _ | with_reducible refine Below.drew ?_ | refine Below.alloc ?_ (by first | (simp; done) | (simp; omega)) _))⟩
set_option maxHeartbeats 2000000 in
set_option maxRecDepth 100000 in
theorem visit_goto (sb B : Nat) (vv iv ov wv ev : Value) (vals ins outs : List Int) (lab goal : ByteArray) (var op test : Int) (a b : Opd) (w : World) (hM : MS w sb B vals ins outs vv iv ov) :
    Calls Tryd.prog 21 #[.pointer (some ⟨sb, 0, none⟩), .agg (snCells lab wv ⟨5, var, op, test, a, b, goal⟩ ev)] w fun e w' => e = .returned (.int .i64 0) ∧ MS w' sb B vals ins outs vv iv ov ∧ VF sb vv.ownBlock ov.ownBlock w w' := by
  have HM : Hid (MS w sb B vals ins outs vv iv ov) := hM
  clear hM
  simp only [snCells]
  go_enter Tryd.func21, Tryd.ntmps21
  go_wp2_with fail
  go_ret
  exact ⟨rfl, HM.out.below (by repeat (first | with_reducible exact Below.refl _ _ | with_reducible refine below_drewN ?_ _ | with_reducible refine Below.drew ?_ | refine Below.alloc ?_ (by first | (simp; done) | (simp; omega)) _)), VF.of_below (by repeat (first | with_reducible exact Below.refl _ _ | with_reducible refine below_drewN ?_ _ | with_reducible refine Below.drew ?_ | refine Below.alloc ?_ (by first | (simp; done) | (simp; omega)) _))⟩
set_option maxHeartbeats 2000000 in
set_option maxRecDepth 100000 in
theorem visit_return (sb B : Nat) (vv iv ov wv ev : Value) (vals ins outs : List Int) (lab goal : ByteArray) (var op test : Int) (a b : Opd) (w : World) (hM : MS w sb B vals ins outs vv iv ov) :
    Calls Tryd.prog 21 #[.pointer (some ⟨sb, 0, none⟩), .agg (snCells lab wv ⟨6, var, op, test, a, b, goal⟩ ev)] w fun e w' => e = .returned (.int .i64 1) ∧ MS w' sb B vals ins outs vv iv ov ∧ VF sb vv.ownBlock ov.ownBlock w w' := by
  have HM : Hid (MS w sb B vals ins outs vv iv ov) := hM
  clear hM
  simp only [snCells]
  go_enter Tryd.func21, Tryd.ntmps21
  go_wp2_with fail
  go_ret
  exact ⟨rfl, HM.out.below (by repeat (first | with_reducible exact Below.refl _ _ | with_reducible refine below_drewN ?_ _ | with_reducible refine Below.drew ?_ | refine Below.alloc ?_ (by first | (simp; done) | (simp; omega)) _)), VF.of_below (by repeat (first | with_reducible exact Below.refl _ _ | with_reducible refine below_drewN ?_ _ | with_reducible refine Below.drew ?_ | refine Below.alloc ?_ (by first | (simp; done) | (simp; omega)) _))⟩
set_option maxHeartbeats 2000000 in
set_option maxRecDepth 100000 in
theorem visit_compute (sb B : Nat) (vv iv ov wv ev : Value) (vals ins outs : List Int) (lab goal : ByteArray) (var op test : Int) (a b : Opd) (w : World) (hM : MS w sb B vals ins outs vv iv ov) (ha : opdIn vals.length a) (hb : opdIn vals.length b) (hv : 0 ≤ var ∧ var < vals.length) :
    Calls Tryd.prog 21 #[.pointer (some ⟨sb, 0, none⟩), .agg (snCells lab wv ⟨1, var, op, test, a, b, goal⟩ ev)] w fun e w' => e = .returned (.int .i64 (if opOk op (opW vals b) then 0 else 2)) ∧ MS w' sb B (if opOk op (opW vals b) then vals.set var.toNat (opVal op (opW vals a) (opW vals b)) else vals) ins outs vv iv ov ∧ VF sb vv.ownBlock ov.ownBlock w w' := by
  obtain ⟨k, rfl⟩ : ∃ k : Nat, var = k := ⟨var.toNat, by omega⟩
  obtain ⟨g, cap, rfl, hgB, hcap, hcell⟩ := own_slice hM.vals (by omega)
  obtain ⟨x0, hx0⟩ : ∃ x, vals[k]? = some x := ⟨_, List.getElem?_eq_getElem (by omega)⟩
  have hfz := row_fz hM.vals
  have hc := hcell k (.int .i64 x0) (by simp [hx0]) (by omega)
  have hgw : g < w.heap.size := (hM.vals.lt g rfl).2
  have f3 := far3 hgw
  have f4 := far3_fz hgw
  have n5 : g ≠ sb := own_ne_box hM.vals hM.box (by decide)
  have n6 : sb ≠ g := n5.symm
  have n1 : g ≠ w.heap.size := by omega
  have n2 : w.heap.size ≠ g := by omega
  have m5 : g ≠ w.heap.size + 1 := by omega
  have m6 : w.heap.size + 1 ≠ g := by omega
  have m7 : g ≠ w.heap.size + 1 + 1 := by omega
  have m8 : w.heap.size + 1 + 1 ≠ g := by omega
  have m11 : g ≠ w.heap.size + 2 := by omega
  have m12 : w.heap.size + 2 ≠ g := by omega
  have hki : (k : Int) < (vals.length : Int) := hv.2
  clear hcell hx0
  obtain ⟨hx1, hx2⟩ := box_cells hM.box
  have hsw : sb < w.heap.size := hM.lt
  have n3 : sb ≠ w.heap.size := by omega
  have n4 : w.heap.size ≠ sb := by omega
  have m1 : sb ≠ w.heap.size + 1 := by omega
  have m2 : w.heap.size + 1 ≠ sb := by omega
  have m3 : sb ≠ w.heap.size + 1 + 1 := by omega
  have m4 : w.heap.size + 1 + 1 ≠ sb := by omega
  have m9 : sb ≠ w.heap.size + 2 := by omega
  have m10 : w.heap.size + 2 ≠ sb := by omega
  have f1 := far3 hsw
  have f2 := far3_fz hsw
  have HM : Hid (MS w sb B vals ins outs (.slice (some ⟨g, 0, none⟩) vals.length cap) iv ov) := hM
  clear hM
  cases hok : opOk op (opW vals b) with
  | false =>
    simp only [snCells]
    go_enter Tryd.func21, Tryd.ntmps21
    go_wp2_with fail
    go_region_held3 (fun w' => w'.cell? ⟨w.heap.size, 6, none⟩ = some (.bool a.isVar) ∧ w'.cell? ⟨w.heap.size, 7, none⟩ = some (.int .i64 a.var) ∧ w'.cell? ⟨w.heap.size, 8, none⟩ = some (.int .i64 a.const) ∧ w'.cell? ⟨w.heap.size, 9, none⟩ = some (.bool b.isVar) ∧ w'.cell? ⟨w.heap.size, 10, none⟩ = some (.int .i64 b.var) ∧ w'.cell? ⟨w.heap.size, 11, none⟩ = some (.int .i64 b.const) ∧ w'.cell? ⟨w.heap.size, 4, none⟩ = some (.int .i64 op)) (go_keep) (first | (go_at_call_of 34 (Value.agg #[Value.bool a.isVar, Value.int IntKind.i64 a.var, Value.int IntKind.i64 a.const]); refine (value_any sb B (.slice (some ⟨g, 0, none⟩) vals.length cap) iv ov vals a _ (by exact (HM.out.below (by repeat (first | with_reducible exact Below.refl _ _ | with_reducible refine below_drewN ?_ _ | with_reducible refine Below.drew ?_ | refine Below.alloc ?_ (by first | (simp; done) | (simp; omega)) _))).box) (by exact (HM.out.below (by repeat (first | with_reducible exact Below.refl _ _ | with_reducible refine below_drewN ?_ _ | with_reducible refine Below.drew ?_ | refine Below.alloc ?_ (by first | (simp; done) | (simp; omega)) _))).vals) ha).mono ?_; rintro e W' ⟨rfl, nq, rfl⟩) | (go_at_call_of 34 (Value.agg #[Value.bool b.isVar, Value.int IntKind.i64 b.var, Value.int IntKind.i64 b.const]); refine (value_any sb B (.slice (some ⟨g, 0, none⟩) vals.length cap) iv ov vals b _ (by exact (HM.out.below (by repeat (first | with_reducible exact Below.refl _ _ | with_reducible refine below_drewN ?_ _ | with_reducible refine Below.drew ?_ | refine Below.alloc ?_ (by first | (simp; done) | (simp; omega)) _))).box) (by exact (HM.out.below (by repeat (first | with_reducible exact Below.refl _ _ | with_reducible refine below_drewN ?_ _ | with_reducible refine Below.drew ?_ | refine Below.alloc ?_ (by first | (simp; done) | (simp; omega)) _))).vals) hb).mono ?_; rintro e W' ⟨rfl, nq, rfl⟩) | (go_at_call 35; refine (apply_any _ _ _ _).mono ?_; rintro e W' ⟨rfl, rfl⟩))
    go_wp2_with fail
    go_ret
    exact ⟨rfl, HM.out.below (by repeat (first | with_reducible exact Below.refl _ _ | with_reducible refine below_drewN ?_ _ | with_reducible refine Below.drew ?_ | refine Below.alloc ?_ (by first | (simp; done) | (simp; omega)) _)), VF.of_below (by repeat (first | with_reducible exact Below.refl _ _ | with_reducible refine below_drewN ?_ _ | with_reducible refine Below.drew ?_ | refine Below.alloc ?_ (by first | (simp; done) | (simp; omega)) _))⟩
  | true =>
    simp only [snCells]
    go_enter Tryd.func21, Tryd.ntmps21
    go_wp2_with fail
    go_region_held3 (fun w' => w'.cell? ⟨w.heap.size, 6, none⟩ = some (.bool a.isVar) ∧ w'.cell? ⟨w.heap.size, 7, none⟩ = some (.int .i64 a.var) ∧ w'.cell? ⟨w.heap.size, 8, none⟩ = some (.int .i64 a.const) ∧ w'.cell? ⟨w.heap.size, 9, none⟩ = some (.bool b.isVar) ∧ w'.cell? ⟨w.heap.size, 10, none⟩ = some (.int .i64 b.var) ∧ w'.cell? ⟨w.heap.size, 11, none⟩ = some (.int .i64 b.const) ∧ w'.cell? ⟨w.heap.size, 4, none⟩ = some (.int .i64 op)) (go_keep) (first | (go_at_call_of 34 (Value.agg #[Value.bool a.isVar, Value.int IntKind.i64 a.var, Value.int IntKind.i64 a.const]); refine (value_any sb B (.slice (some ⟨g, 0, none⟩) vals.length cap) iv ov vals a _ (by exact (HM.out.below (by repeat (first | with_reducible exact Below.refl _ _ | with_reducible refine below_drewN ?_ _ | with_reducible refine Below.drew ?_ | refine Below.alloc ?_ (by first | (simp; done) | (simp; omega)) _))).box) (by exact (HM.out.below (by repeat (first | with_reducible exact Below.refl _ _ | with_reducible refine below_drewN ?_ _ | with_reducible refine Below.drew ?_ | refine Below.alloc ?_ (by first | (simp; done) | (simp; omega)) _))).vals) ha).mono ?_; rintro e W' ⟨rfl, nq, rfl⟩) | (go_at_call_of 34 (Value.agg #[Value.bool b.isVar, Value.int IntKind.i64 b.var, Value.int IntKind.i64 b.const]); refine (value_any sb B (.slice (some ⟨g, 0, none⟩) vals.length cap) iv ov vals b _ (by exact (HM.out.below (by repeat (first | with_reducible exact Below.refl _ _ | with_reducible refine below_drewN ?_ _ | with_reducible refine Below.drew ?_ | refine Below.alloc ?_ (by first | (simp; done) | (simp; omega)) _))).box) (by exact (HM.out.below (by repeat (first | with_reducible exact Below.refl _ _ | with_reducible refine below_drewN ?_ _ | with_reducible refine Below.drew ?_ | refine Below.alloc ?_ (by first | (simp; done) | (simp; omega)) _))).vals) hb).mono ?_; rintro e W' ⟨rfl, nq, rfl⟩) | (go_at_call 35; refine (apply_any _ _ _ _).mono ?_; rintro e W' ⟨rfl, rfl⟩))
    go_wp2_with fail
    go_region_held3 (fun w' => w'.cell? ⟨sb, 0, none⟩ = some (.slice (some ⟨g, 0, none⟩) vals.length cap) ∧ w'.cell? ⟨w.heap.size, 3, none⟩ = some (.int .i64 k)) (go_keep) (fail)
    go_wp2_with fail
    go_ret
    exact ⟨rfl, HM.out.put (k := k) (by repeat (first | with_reducible exact Below.refl _ _ | with_reducible refine below_drewN ?_ _ | with_reducible refine Below.drew ?_ | refine Below.alloc ?_ (by first | (simp; done) | (simp; omega)) _)) _⟩
set_option maxHeartbeats 2000000 in
set_option maxRecDepth 100000 in
theorem visit_starved (sb B : Nat) (vv iv ov wv ev : Value) (vals ins outs : List Int) (lab goal : ByteArray) (var op test : Int) (a b : Opd) (w : World) (hM : MS w sb B vals ins outs vv iv ov) (hi : ins = []) :
    Calls Tryd.prog 21 #[.pointer (some ⟨sb, 0, none⟩), .agg (snCells lab wv ⟨2, var, op, test, a, b, goal⟩ ev)] w fun e w' => e = .returned (.int .i64 3) ∧ MS w' sb B vals ins outs vv iv ov ∧ VF sb vv.ownBlock ov.ownBlock w w' := by
  obtain ⟨hx1, hx2⟩ := box_cells hM.box
  have hsw : sb < w.heap.size := hM.lt
  have n3 : sb ≠ w.heap.size := by omega
  have n4 : w.heap.size ≠ sb := by omega
  have m1 : sb ≠ w.heap.size + 1 := by omega
  have m2 : w.heap.size + 1 ≠ sb := by omega
  have m3 : sb ≠ w.heap.size + 1 + 1 := by omega
  have m4 : w.heap.size + 1 + 1 ≠ sb := by omega
  have m9 : sb ≠ w.heap.size + 2 := by omega
  have m10 : w.heap.size + 2 ≠ sb := by omega
  have f1 := far3 hsw
  have f2 := far3_fz hsw
  obtain ⟨ao, cp, rfl, h1, h2, h3⟩ := hM.ins
  subst hi
  have HM : Hid (MS w sb B vals [] outs vv (.slice ao 0 cp) ov) := hM
  clear hM h3
  simp only [List.length_nil] at hx1
  simp only [snCells]
  go_enter Tryd.func21, Tryd.ntmps21
  go_wp2_with fail
  go_ret
  exact ⟨rfl, HM.out.below (by repeat (first | with_reducible exact Below.refl _ _ | with_reducible refine below_drewN ?_ _ | with_reducible refine Below.drew ?_ | refine Below.alloc ?_ (by first | (simp; done) | (simp; omega)) _)), VF.of_below (by repeat (first | with_reducible exact Below.refl _ _ | with_reducible refine below_drewN ?_ _ | with_reducible refine Below.drew ?_ | refine Below.alloc ?_ (by first | (simp; done) | (simp; omega)) _))⟩
set_option maxHeartbeats 2000000 in
set_option maxRecDepth 100000 in
theorem visit_input (sb B : Nat) (vv iv ov wv ev : Value) (vals ins outs : List Int) (lab goal : ByteArray) (var op test : Int) (a b : Opd) (w : World) (hM : MS w sb B vals ins outs vv iv ov) (x : Int) (r : List Int) (hi : ins = x :: r) (hv : 0 ≤ var ∧ var < vals.length) :
    Calls Tryd.prog 21 #[.pointer (some ⟨sb, 0, none⟩), .agg (snCells lab wv ⟨2, var, op, test, a, b, goal⟩ ev)] w fun e w' => e = .returned (.int .i64 0) ∧ VF sb vv.ownBlock ov.ownBlock w w' ∧ ∃ iv', MS w' sb B (vals.set var.toNat x) r outs vv iv' ov := by
  subst hi
  obtain ⟨k, rfl⟩ : ∃ k : Nat, var = k := ⟨var.toNat, by omega⟩
  obtain ⟨g, cap, rfl, hgB, hcap, hcell⟩ := own_slice hM.vals (by omega)
  obtain ⟨x0, hx0⟩ : ∃ x, vals[k]? = some x := ⟨_, List.getElem?_eq_getElem (by omega)⟩
  have hfz := row_fz hM.vals
  have hc := hcell k (.int .i64 x0) (by simp [hx0]) (by omega)
  have hgw : g < w.heap.size := (hM.vals.lt g rfl).2
  have f3 := far3 hgw
  have f4 := far3_fz hgw
  have n5 : g ≠ sb := own_ne_box hM.vals hM.box (by decide)
  have n6 : sb ≠ g := n5.symm
  have n1 : g ≠ w.heap.size := by omega
  have n2 : w.heap.size ≠ g := by omega
  have m5 : g ≠ w.heap.size + 1 := by omega
  have m6 : w.heap.size + 1 ≠ g := by omega
  have m7 : g ≠ w.heap.size + 1 + 1 := by omega
  have m8 : w.heap.size + 1 + 1 ≠ g := by omega
  have m11 : g ≠ w.heap.size + 2 := by omega
  have m12 : w.heap.size + 2 ≠ g := by omega
  have hki : (k : Int) < (vals.length : Int) := hv.2
  clear hcell hx0
  obtain ⟨hx1, hx2⟩ := box_cells hM.box
  have hsw : sb < w.heap.size := hM.lt
  have n3 : sb ≠ w.heap.size := by omega
  have n4 : w.heap.size ≠ sb := by omega
  have m1 : sb ≠ w.heap.size + 1 := by omega
  have m2 : w.heap.size + 1 ≠ sb := by omega
  have m3 : sb ≠ w.heap.size + 1 + 1 := by omega
  have m4 : w.heap.size + 1 + 1 ≠ sb := by omega
  have m9 : sb ≠ w.heap.size + 2 := by omega
  have m10 : w.heap.size + 2 ≠ sb := by omega
  have f1 := far3 hsw
  have f2 := far3_fz hsw
  obtain ⟨ao, cp, rfl, h1, h2, h3⟩ := hM.ins
  obtain ⟨ib, io, rfl, hib, hic⟩ := h3 0 x rfl
  rw [Nat.add_zero] at hic
  unfold maxLen at h2
  simp only [List.length_cons] at h1 h2 hx1
  have HM : Hid (MS w sb B vals (x :: r) outs (.slice (some ⟨g, 0, none⟩) vals.length cap) (.slice (some ⟨ib, io, none⟩) (r.length + 1) cp) ov) := hM
  have hBs := hM.low
  have n7 : ib ≠ g := by omega
  have n8 : g ≠ ib := by omega
  have n9 : ib ≠ sb := by omega
  have n10 : sb ≠ ib := by omega
  have n11 : ib ≠ w.heap.size := by omega
  have n12 : w.heap.size ≠ ib := by omega
  have l0 : (((r.length : Int) + 1) == 0) = false := by rw [beq_eq_false_iff_ne]; omega
  have l1 : (0 : Int) < (r.length : Int) + 1 := by omega
  have hnew : ∀ (v : Value) (cs : Array Value) (t : TypeId) (j : Nat), ((w.setCell ⟨g, k, none⟩ v).alloc (.cells cs t)).cell? ⟨w.heap.size, j, none⟩ = cs[j]? := by
    intro v cs t j
    have := (box_cells (heap_alloc_new (w.setCell ⟨g, k, none⟩ v) (.cells cs t))).1 j
    simpa [World.setCell] using this
  clear hM h3
  simp only [snCells]
  go_enter Tryd.func21, Tryd.ntmps21
  go_wp2_with fail
  go_region_held3 (fun w' => w'.cell? ⟨sb, 0, none⟩ = some (.slice (some ⟨g, 0, none⟩) vals.length cap) ∧ w'.cell? ⟨sb, 1, none⟩ = some (.slice (some ⟨ib, io, none⟩) (r.length + 1) cp) ∧ w'.cell? ⟨w.heap.size, 3, none⟩ = some (.int .i64 k) ∧ w'.cell? ⟨ib, io, none⟩ = some (.int .i64 x)) (go_keep) (fail)
  go_wp2_with fail
  all_goals
    go_ret
    have hi := HM.out.ins
    first
    | (have ht := HM.out.take (k := k) x (inl_take hi); exact ⟨rfl, ht.1.then (((Below.refl _ _).alloc (Nat.le_refl _) _).drew), _, ht.2.below (((Below.refl _ _).alloc (Nat.le_refl _) _).drew)⟩)
    | (have ht := HM.out.take (k := k) x (inl_last (ao := some ⟨ib, io, none⟩) (r := r) (by omega)); exact ⟨rfl, ht.1.then (((Below.refl _ _).alloc (Nat.le_refl _) _).drew), _, ht.2.below (((Below.refl _ _).alloc (Nat.le_refl _) _).drew)⟩)
set_option maxHeartbeats 2000000 in
set_option maxRecDepth 100000 in
theorem visit_output (sb B : Nat) (vv iv ov wv ev : Value) (vals ins outs : List Int) (lab goal : ByteArray) (var op test : Int) (a b : Opd) (w : World) (hM : MS w sb B vals ins outs vv iv ov) (ha : opdIn vals.length a) (ho : outs.length < 20000) :
    Calls Tryd.prog 21 #[.pointer (some ⟨sb, 0, none⟩), .agg (snCells lab wv ⟨3, var, op, test, a, b, goal⟩ ev)] w fun e w' => e = .returned (.int .i64 0) ∧ VF sb vv.ownBlock ov.ownBlock w w' ∧ ∃ ov', MS w' sb B vals ins (outs ++ [opW vals a]) vv iv ov' ∧ (ov'.ownBlock = ov.ownBlock ∨ ∃ q, ov'.ownBlock = some q ∧ w.heap.size ≤ q) := by
  obtain ⟨hx1, hx2⟩ := box_cells hM.box
  have hsw : sb < w.heap.size := hM.lt
  have n3 : sb ≠ w.heap.size := by omega
  have n4 : w.heap.size ≠ sb := by omega
  have m1 : sb ≠ w.heap.size + 1 := by omega
  have m2 : w.heap.size + 1 ≠ sb := by omega
  have m3 : sb ≠ w.heap.size + 1 + 1 := by omega
  have m4 : w.heap.size + 1 + 1 ≠ sb := by omega
  have m9 : sb ≠ w.heap.size + 2 := by omega
  have m10 : w.heap.size + 2 ≠ sb := by omega
  have f1 := far3 hsw
  have f2 := far3_fz hsw
  obtain ⟨i1, hi, hz0, hz1, hz2⟩ := info_parts info64
  have HI : Hid (Tryd.prog.info? 2 = some i1 ∧ i1.zero = some (.int .i64 0) ∧ i1.size = 1 ∧ i1.bytes = 8) := ⟨hi, hz0, hz1, hz2⟩
  clear hi hz0 hz1 hz2
  obtain ⟨oa, oc, rfl⟩ := sl_of_own hM.outs
  have HM : Hid (MS w sb B vals ins outs vv iv (.slice oa outs.length oc)) := hM
  have hl1 : outs.length + 1 ≤ maxLen := by unfold maxLen; omega
  have hl2 : (outs.length + 1) * 8 ≤ 140737488355328 := by omega
  clear hM
  simp only [snCells]
  go_enter Tryd.func21, Tryd.ntmps21
  go_wp2_with fail
  go_region_law (first | (go_simp; refine (value_any sb B vv iv (.slice oa outs.length oc) vals a _ (by exact (HM.out.below (by repeat (first | with_reducible exact Below.refl _ _ | with_reducible refine below_drewN ?_ _ | with_reducible refine Below.drew ?_ | refine Below.alloc ?_ (by first | (simp; done) | (simp; omega)) _))).box) (by exact (HM.out.below (by repeat (first | with_reducible exact Below.refl _ _ | with_reducible refine below_drewN ?_ _ | with_reducible refine Below.drew ?_ | refine Below.alloc ?_ (by first | (simp; done) | (simp; omega)) _))).vals) ha).mono ?_; rintro e W' ⟨rfl, nq, rfl⟩) | (refine step_own2 rfl (.tmp 83) (.tmp 88) 22 rfl B 2 i1 (.int .i64 0) 1 8 Tryd.underlying22 HI.out.1 HI.out.2.1 HI.out.2.2.1 HI.out.2.2.2 rfl (by decide) (.slice oa outs.length oc) outs.length (outs.map (Value.int .i64)) (by simp [Act.eval, Act.put]) (by exact own_of_below HM.out.outs (by repeat (first | with_reducible exact Below.refl _ _ | with_reducible refine below_drewN ?_ _ | with_reducible refine Below.drew ?_ | refine Below.alloc ?_ (by first | (simp; done) | (simp; omega)) _))) ⟨w.heap.size + 1 + 1, 0, none⟩ 1 1 [.int .i64 (opW vals a)] (by simp [Act.eval, Act.put]) rfl (by exact cell_one_at _ _ _ _ (by simp)) (by intro u hu; simp at hu; subst hu; rfl) hl1 hl2 (by have := HM.out.lt; have := HM.out.low; simp; omega) ?_; intro v4 W4 hown4 hgrow4 hnew4; obtain ⟨a4, c4, rfl⟩ := sl_of_own hown4; obtain ⟨⟨y1, y2⟩, z1, z2⟩ := outs_kept HM.out (by repeat (first | with_reducible exact Below.refl _ _ | with_reducible refine below_drewN ?_ _ | with_reducible refine Below.drew ?_ | refine Below.alloc ?_ (by first | (simp; done) | (simp; omega)) _)) (heap_alloc_new w _) hgrow4))
  all_goals
    go_wp2_with fail
    go_ret
    exact ⟨rfl, HM.out.out (by repeat (first | with_reducible exact Below.refl _ _ | with_reducible refine below_drewN ?_ _ | with_reducible refine Below.drew ?_ | refine Below.alloc ?_ (by first | (simp; done) | (simp; omega)) _)) hgrow4 hown4 hnew4⟩
end Go.Proofs.YtmipbiligijcpaaDoor
