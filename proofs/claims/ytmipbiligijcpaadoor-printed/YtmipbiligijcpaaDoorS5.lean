/- A run's state: whatever node is visited; the edge that is taken; a copy of the values. -/
import Derived.Test.YtmipbiligijcpaaDoorS4
namespace Go.Proofs.YtmipbiligijcpaaDoor
set_option linter.unusedVariables false
set_option linter.unusedSimpArgs false
open Go.RowKit Go.Proofs Go.Maps

/-- what a visit makes: how the run ends there (0: it goes on), values, inputs, outputs -/
def vis (n : SN) (vals ins outs : List Int) : Int × List Int × List Int × List Int :=
  if n.kind = 0 then (0, vals.set n.var.toNat (opW vals n.a), ins, outs)
  else if n.kind = 1 then (if opOk n.op (opW vals n.b) then (0, vals.set n.var.toNat (opVal n.op (opW vals n.a) (opW vals n.b)), ins, outs) else (2, vals, ins, outs))
  else if n.kind = 2 then (match ins with | [] => (3, vals, ins, outs) | x :: r => (0, vals.set n.var.toNat x, r, outs))
  else if n.kind = 3 then (0, vals, ins, outs ++ [opW vals n.a])
  else if n.kind = 6 then (1, vals, ins, outs)
  else (0, vals, ins, outs)
/-- the node's variables are there -/
structure NIn (nv : Nat) (n : SN) : Prop where
  kind : 0 ≤ n.kind ∧ n.kind ≤ 6
  var : n.kind ≤ 2 → 0 ≤ n.var ∧ n.var < nv
  a : n.kind = 0 ∨ n.kind = 1 ∨ n.kind = 3 ∨ n.kind = 4 → opdIn nv n.a
  b : n.kind = 1 ∨ n.kind = 4 → opdIn nv n.b
def VAns (w : World) (sb B : Nat) (vv ov : Value) (r : Int × List Int × List Int × List Int) (e : Ending) (w' : World) : Prop :=
  e = .returned (.int .i64 r.1) ∧ VF sb vv.ownBlock ov.ownBlock w w' ∧ ∃ iv' ov', MS w' sb B r.2.1 r.2.2.1 r.2.2.2 vv iv' ov' ∧ (ov'.ownBlock = ov.ownBlock ∨ ∃ q, ov'.ownBlock = some q ∧ w.heap.size ≤ q)
theorem visit_any (sb B : Nat) (vv iv ov wv ev : Value) (vals ins outs : List Int) (lab : ByteArray) (n : SN) (w : World) (hM : MS w sb B vals ins outs vv iv ov) (hn : NIn vals.length n) (ho : outs.length < 20000) :
    Calls Tryd.prog 21 #[.pointer (some ⟨sb, 0, none⟩), .agg (snCells lab wv n ev)] w (VAns w sb B vv ov (vis n vals ins outs)) := by
  obtain ⟨kind, var, op, test, a, b, goal⟩ := n
  obtain ⟨hk, hv, ha, hb⟩ := hn
  simp only at hk hv ha hb
  have hcase : kind = 0 ∨ kind = 1 ∨ kind = 2 ∨ kind = 3 ∨ kind = 4 ∨ kind = 5 ∨ kind = 6 := by omega
  rcases hcase with rfl | rfl | rfl | rfl | rfl | rfl | rfl
  · exact (visit_copy sb B vv iv ov wv ev vals ins outs lab goal var op test a b w hM (ha (by simp)) (hv (by simp))).mono fun e w' h => ⟨h.1, h.2.2, iv, ov, h.2.1, Or.inl rfl⟩
  · refine (visit_compute sb B vv iv ov wv ev vals ins outs lab goal var op test a b w hM (ha (by simp)) (hb (by simp)) (hv (by simp))).mono fun e w' h => ?_
    unfold vis
    simp only [show ¬ ((1 : Int) = 0) by decide, if_false, if_true]
    cases hok : opOk op (opW vals b) with
    | true => rw [hok] at h; exact ⟨h.1, h.2.2, iv, ov, h.2.1, Or.inl rfl⟩
    | false => rw [hok] at h; exact ⟨h.1, h.2.2, iv, ov, h.2.1, Or.inl rfl⟩
  · match ins, hM with
    | [], hM => exact (visit_starved sb B vv iv ov wv ev vals [] outs lab goal var op test a b w hM rfl).mono fun e w' h => ⟨h.1, h.2.2, iv, ov, h.2.1, Or.inl rfl⟩
    | x :: r, hM =>
      refine (visit_input sb B vv iv ov wv ev vals (x :: r) outs lab goal var op test a b w hM x r rfl (hv (by simp))).mono fun e w' h => ?_
      obtain ⟨h1, h2, iv', h3⟩ := h
      exact ⟨h1, h2, iv', ov, h3, Or.inl rfl⟩
  · refine (visit_output sb B vv iv ov wv ev vals ins outs lab goal var op test a b w hM (ha (by simp)) ho).mono fun e w' h => ?_
    obtain ⟨h1, h2, ov', h3, h4⟩ := h
    exact ⟨h1, h2, iv, ov', h3, h4⟩
  · exact (visit_if sb B vv iv ov wv ev vals ins outs lab goal var op test a b w hM).mono fun e w' h => ⟨h.1, h.2.2, iv, ov, h.2.1, Or.inl rfl⟩
  · exact (visit_goto sb B vv iv ov wv ev vals ins outs lab goal var op test a b w hM).mono fun e w' h => ⟨h.1, h.2.2, iv, ov, h.2.1, Or.inl rfl⟩
  · exact (visit_return sb B vv iv ov wv ev vals ins outs lab goal var op test a b w hM).mono fun e w' h => ⟨h.1, h.2.2, iv, ov, h.2.1, Or.inl rfl⟩
/-- which edge: 1 where the test of an 'if' is not so -/
def edgN (n : SN) (vals : List Int) : Int := if n.kind = 4 ∧ tsSo n.test (opW vals n.a) (opW vals n.b) = false then 1 else 0
set_option maxHeartbeats 1000000 in
set_option maxRecDepth 100000 in
theorem edge_any (sb B : Nat) (vv iv ov wv ev : Value) (vals ins outs : List Int) (lab : ByteArray) (n : SN) (w : World) (hM : MS w sb B vals ins outs vv iv ov) (hn : NIn vals.length n) :
    Calls Tryd.prog 22 #[.pointer (some ⟨sb, 0, none⟩), .agg (snCells lab wv n ev)] w fun e w' => e = .returned (.int .i64 (edgN n vals)) ∧ Below w.heap.size w w' := by
  obtain ⟨kind, var, op, test, a, b, goal⟩ := n
  obtain ⟨hk, hv, ha, hb⟩ := hn
  simp only at hk hv ha hb
  have HM : Hid (MS w sb B vals ins outs vv iv ov) := hM
  have hsw : sb < w.heap.size := hM.lt
  clear hM
  simp only [snCells]
  by_cases h4 : kind = 4
  · subst h4
    have ha' := ha (by simp)
    have hb' := hb (by simp)
    clear ha hb hv hk
    cases hs : tsSo test (opW vals a) (opW vals b) with
    | true =>
      have HE : Hid (edgN ⟨4, var, op, test, a, b, goal⟩ vals = 0) := by show _ = _; simp [edgN, hs]
      go_enter Tryd.func22, Tryd.ntmps22
      go_wp2_with fail
      go_region_held3 (fun w' => w'.cell? ⟨w.heap.size, 2, none⟩ = some (.int .i64 4) ∧ w'.cell? ⟨w.heap.size, 5, none⟩ = some (.int .i64 test) ∧ w'.cell? ⟨w.heap.size, 6, none⟩ = some (.bool a.isVar) ∧ w'.cell? ⟨w.heap.size, 7, none⟩ = some (.int .i64 a.var) ∧ w'.cell? ⟨w.heap.size, 8, none⟩ = some (.int .i64 a.const) ∧ w'.cell? ⟨w.heap.size, 9, none⟩ = some (.bool b.isVar) ∧ w'.cell? ⟨w.heap.size, 10, none⟩ = some (.int .i64 b.var) ∧ w'.cell? ⟨w.heap.size, 11, none⟩ = some (.int .i64 b.const)) (go_keep) (first | (go_at_call_of 34 (Value.agg #[Value.bool a.isVar, Value.int IntKind.i64 a.var, Value.int IntKind.i64 a.const]); refine (value_any sb B vv iv ov vals a _ (by exact (HM.out.below (by repeat (first | with_reducible exact Below.refl _ _ | with_reducible refine below_drewN ?_ _ | with_reducible refine Below.drew ?_ | refine Below.alloc ?_ (by first | (simp; done) | (simp; omega)) _))).box) (by exact (HM.out.below (by repeat (first | with_reducible exact Below.refl _ _ | with_reducible refine below_drewN ?_ _ | with_reducible refine Below.drew ?_ | refine Below.alloc ?_ (by first | (simp; done) | (simp; omega)) _))).vals) ha').mono ?_; rintro e W' ⟨rfl, nq, rfl⟩) | (go_at_call_of 34 (Value.agg #[Value.bool b.isVar, Value.int IntKind.i64 b.var, Value.int IntKind.i64 b.const]); refine (value_any sb B vv iv ov vals b _ (by exact (HM.out.below (by repeat (first | with_reducible exact Below.refl _ _ | with_reducible refine below_drewN ?_ _ | with_reducible refine Below.drew ?_ | refine Below.alloc ?_ (by first | (simp; done) | (simp; omega)) _))).box) (by exact (HM.out.below (by repeat (first | with_reducible exact Below.refl _ _ | with_reducible refine below_drewN ?_ _ | with_reducible refine Below.drew ?_ | refine Below.alloc ?_ (by first | (simp; done) | (simp; omega)) _))).vals) hb').mono ?_; rintro e W' ⟨rfl, nq, rfl⟩) | (go_at_call 36; refine (holds_any _ _ _ _).mono ?_; rintro e W' ⟨rfl, rfl⟩))
      go_wp2_with fail
      go_ret
      rw [HE.out]
      exact ⟨rfl, (by repeat (first | with_reducible exact Below.refl _ _ | with_reducible refine below_drewN ?_ _ | with_reducible refine Below.drew ?_ | refine Below.alloc ?_ (by first | (simp; done) | (simp; omega)) _))⟩
    | false =>
      have HE : Hid (edgN ⟨4, var, op, test, a, b, goal⟩ vals = 1) := by show _ = _; simp [edgN, hs]
      go_enter Tryd.func22, Tryd.ntmps22
      go_wp2_with fail
      go_region_held3 (fun w' => w'.cell? ⟨w.heap.size, 2, none⟩ = some (.int .i64 4) ∧ w'.cell? ⟨w.heap.size, 5, none⟩ = some (.int .i64 test) ∧ w'.cell? ⟨w.heap.size, 6, none⟩ = some (.bool a.isVar) ∧ w'.cell? ⟨w.heap.size, 7, none⟩ = some (.int .i64 a.var) ∧ w'.cell? ⟨w.heap.size, 8, none⟩ = some (.int .i64 a.const) ∧ w'.cell? ⟨w.heap.size, 9, none⟩ = some (.bool b.isVar) ∧ w'.cell? ⟨w.heap.size, 10, none⟩ = some (.int .i64 b.var) ∧ w'.cell? ⟨w.heap.size, 11, none⟩ = some (.int .i64 b.const)) (go_keep) (first | (go_at_call_of 34 (Value.agg #[Value.bool a.isVar, Value.int IntKind.i64 a.var, Value.int IntKind.i64 a.const]); refine (value_any sb B vv iv ov vals a _ (by exact (HM.out.below (by repeat (first | with_reducible exact Below.refl _ _ | with_reducible refine below_drewN ?_ _ | with_reducible refine Below.drew ?_ | refine Below.alloc ?_ (by first | (simp; done) | (simp; omega)) _))).box) (by exact (HM.out.below (by repeat (first | with_reducible exact Below.refl _ _ | with_reducible refine below_drewN ?_ _ | with_reducible refine Below.drew ?_ | refine Below.alloc ?_ (by first | (simp; done) | (simp; omega)) _))).vals) ha').mono ?_; rintro e W' ⟨rfl, nq, rfl⟩) | (go_at_call_of 34 (Value.agg #[Value.bool b.isVar, Value.int IntKind.i64 b.var, Value.int IntKind.i64 b.const]); refine (value_any sb B vv iv ov vals b _ (by exact (HM.out.below (by repeat (first | with_reducible exact Below.refl _ _ | with_reducible refine below_drewN ?_ _ | with_reducible refine Below.drew ?_ | refine Below.alloc ?_ (by first | (simp; done) | (simp; omega)) _))).box) (by exact (HM.out.below (by repeat (first | with_reducible exact Below.refl _ _ | with_reducible refine below_drewN ?_ _ | with_reducible refine Below.drew ?_ | refine Below.alloc ?_ (by first | (simp; done) | (simp; omega)) _))).vals) hb').mono ?_; rintro e W' ⟨rfl, nq, rfl⟩) | (go_at_call 36; refine (holds_any _ _ _ _).mono ?_; rintro e W' ⟨rfl, rfl⟩))
      go_wp2_with fail
      go_ret
      rw [HE.out]
      exact ⟨rfl, (by repeat (first | with_reducible exact Below.refl _ _ | with_reducible refine below_drewN ?_ _ | with_reducible refine Below.drew ?_ | refine Below.alloc ?_ (by first | (simp; done) | (simp; omega)) _))⟩
  · have h40 : (kind == 4) = false := by simp [h4]
    have HE : Hid (edgN ⟨kind, var, op, test, a, b, goal⟩ vals = 0) := by show _ = _; simp [edgN, h4]
    clear h4
    go_enter Tryd.func22, Tryd.ntmps22
    go_wp2_with fail
    go_region
    all_goals
      go_wp2_with fail
      go_ret
      rw [HE.out]
      exact ⟨rfl, (by repeat (first | with_reducible exact Below.refl _ _ | with_reducible refine below_drewN ?_ _ | with_reducible refine Below.drew ?_ | refine Below.alloc ?_ (by first | (simp; done) | (simp; omega)) _))⟩
end Go.Proofs.YtmipbiligijcpaaDoor
