/- A run's state: a node is visited. -/
import Derived.Test.YtmipbiligijcpaaDoorS2
import Derived.Laws.OwnMore
namespace Go.Proofs.YtmipbiligijcpaaDoor
set_option linter.unusedVariables false
set_option linter.unusedSimpArgs false
open Go.RowKit Go.Proofs Go.Maps

/-- what may have turned -/
structure VF (sb : Nat) (a b : Option Nat) (w w' : World) : Prop where
  os : w'.os = w.os
  tape : w'.tape = w.tape
  output : w'.output = w.output
  size : w.heap.size ≤ w'.heap.size
  block : ∀ k, k < w.heap.size → k ≠ sb → some k ≠ a → some k ≠ b → w'.heap[k]? = w.heap[k]?
theorem VF.refl (sb : Nat) (a b : Option Nat) (w : World) : VF sb a b w w := ⟨rfl, rfl, rfl, Nat.le_refl _, fun _ _ _ _ _ => rfl⟩
theorem VF.of_below {sb : Nat} {a b : Option Nat} {w w' : World} (h : Below w.heap.size w w') : VF sb a b w w' := ⟨h.os, h.tape, h.output, h.size, fun k hk _ _ _ => h.block k hk⟩
theorem VF.then {sb : Nat} {a b : Option Nat} {u v w : World} (h : VF sb a b u v) (k : Below v.heap.size v w) : VF sb a b u w :=
  ⟨k.os.trans h.os, k.tape.trans h.tape, k.output.trans h.output, Nat.le_trans h.size k.size, fun j hj h1 h2 h3 => (k.block j (Nat.lt_of_lt_of_le hj h.size)).trans (h.block j hj h1 h2 h3)⟩
theorem VF.set {sb : Nat} {a b : Option Nat} {u w : World} (h : VF sb a b u w) {ad : Addr} (ha : u.heap.size ≤ ad.block ∨ ad.block = sb ∨ some ad.block = a ∨ some ad.block = b) (v : Value) : VF sb a b u (w.setCell ad v) :=
  ⟨h.os, h.tape, h.output, by simpa [World.setCell] using h.size, fun k hk h1 h2 h3 => (Below.heap_setCell _ _ _ _ (by
    rcases ha with e | e | e | e
    · omega
    · intro e2; exact h1 (e2.trans e)
    · intro e2; exact h2 (by rw [e2, e])
    · intro e2; exact h3 (by rw [e2, e]))).trans (h.block k hk h1 h2 h3)⟩
/-- the inputs that are left: a slice of whoever's, below B -/
def InL (w : World) (B : Nat) (v : Value) (ins : List Int) : Prop := ∃ ao cap, v = .slice ao ins.length cap ∧ ins.length ≤ cap ∧ cap ≤ maxLen ∧ ∀ j x, ins[j]? = some x → ∃ b o, ao = some ⟨b, o, none⟩ ∧ b < B ∧ w.cell? ⟨b, o + j, none⟩ = some (.int .i64 x)
theorem InL.mono {w w' : World} {B : Nat} {v : Value} {ins : List Int} (h : InL w B v ins) (hb : ∀ k, k < B → w'.heap[k]? = w.heap[k]?) : InL w' B v ins := by
  obtain ⟨ao, cap, h1, h2, h3, h4⟩ := h
  refine ⟨ao, cap, h1, h2, h3, fun j x hj => ?_⟩
  obtain ⟨b, o, e, hlt, hc⟩ := h4 j x hj
  exact ⟨b, o, e, hlt, (cell_block (hb b hlt)).trans hc⟩
/-- the state of a run -/
structure MS (w : World) (sb B : Nat) (vals ins outs : List Int) (vv iv ov : Value) : Prop where
  box : w.heap[sb]? = some (.cells #[vv, iv, ov] 72 (0, 0))
  low : B ≤ sb
  vals : w.ownsRow B 2 1 vv vals.length (vals.map (Value.int .i64))
  ins : InL w B iv ins
  outs : w.ownsRow B 2 1 ov outs.length (outs.map (Value.int .i64))
  ne : vv.ownBlock = none ∨ vv.ownBlock ≠ ov.ownBlock
theorem MS.lt {w : World} {sb B : Nat} {vals ins outs : List Int} {vv iv ov : Value} (h : MS w sb B vals ins outs vv iv ov) : sb < w.heap.size := (Array.getElem?_eq_some_iff.1 h.box).1
theorem MS.below {w W : World} {sb B : Nat} {vals ins outs : List Int} {vv iv ov : Value} (h : MS w sb B vals ins outs vv iv ov) (hb : Below w.heap.size w W) : MS W sb B vals ins outs vv iv ov :=
  ⟨(hb.block _ h.lt).trans h.box, h.low, own_of_below h.vals hb, h.ins.mono (fun k hk => hb.block k (by have := h.lt; have := h.low; omega)), own_of_below h.outs hb, h.ne⟩
theorem own_ne_box {w : World} {B e size n g cap sb t : Nat} {xs : List Value} {cs : Array Value} (h : w.ownsRow B e size (.slice (some ⟨g, 0, none⟩) n cap) n xs) (hb : w.heap[sb]? = some (.cells cs t (0, 0))) (ht : e ≠ t) : g ≠ sb := by
  rintro rfl
  obtain ⟨c1, f1, h1⟩ := own_cells h g rfl
  rw [h1] at hb
  simp at hb
  exact ht hb.2.1
theorem row_fz {w : World} {B e size n g cap : Nat} {xs : List Value} (h : w.ownsRow B e size (.slice (some ⟨g, 0, none⟩) n cap) n xs) : ∀ o, w.frozen? ⟨g, o, none⟩ = false := by
  rcases h.2 with ⟨e0, _⟩ | ⟨g', cap', cur, hv, hb, hg, _⟩
  · cases e0
  · cases hv
    exact (box_cells hg).2
/-- a value is put -/
theorem MS.put {w W : World} {sb B g cap k : Nat} {vals ins outs : List Int} {iv ov : Value} (h : MS w sb B vals ins outs (.slice (some ⟨g, 0, none⟩) vals.length cap) iv ov) (hb : Below w.heap.size w W) (x : Int) : MS (W.setCell ⟨g, k, none⟩ (.int .i64 x)) sb B (vals.set k x) ins outs (.slice (some ⟨g, 0, none⟩) vals.length cap) iv ov ∧ VF sb (some g) ov.ownBlock w (W.setCell ⟨g, k, none⟩ (.int .i64 x)) := by
  have h2 := h.below hb
  have hne : g ≠ sb := own_ne_box h.vals h.box (by decide)
  have hgB := (h.vals.lt g rfl).1
  obtain ⟨s1, s2⟩ := h2.vals.stored k (.int .i64 x)
  refine ⟨⟨(Below.heap_setCell _ _ _ _ (fun e => hne e.symm)).trans h2.box, h.low, ?_, ?_, ?_, h.ne⟩, (VF.of_below hb).set (ad := ⟨g, k, none⟩) (Or.inr (Or.inr (Or.inl rfl))) _⟩
  · rw [List.length_set, List.map_set]; exact s1
  · exact h2.ins.mono (fun q hq => Below.heap_setCell _ _ _ _ (by show q ≠ g; omega))
  · refine h2.outs.kept s2 ?_
    rcases h.ne with e | e
    · cases e
    · exact Or.inr (fun e2 => e (by rw [e2]; rfl))
set_option maxHeartbeats 1000000 in
set_option maxRecDepth 100000 in
theorem visit_copy (sb B : Nat) (vv iv ov wv ev : Value) (vals ins outs : List Int) (lab goal : ByteArray) (var op test : Int) (a b : Opd) (w : World) (hM : MS w sb B vals ins outs vv iv ov) (ha : opdIn vals.length a) (hv : 0 ≤ var ∧ var < vals.length) :
    Calls Tryd.prog 21 #[.pointer (some ⟨sb, 0, none⟩), .agg (snCells lab wv ⟨0, var, op, test, a, b, goal⟩ ev)] w fun e w' => e = .returned (.int .i64 0) ∧ MS w' sb B (vals.set var.toNat (opW vals a)) ins outs vv iv ov ∧ VF sb vv.ownBlock ov.ownBlock w w' := by
  obtain ⟨k, rfl⟩ : ∃ k : Nat, var = k := ⟨var.toNat, by omega⟩
  obtain ⟨hx1, hx2⟩ := box_cells hM.box
  obtain ⟨g, cap, rfl, hgB, hcap, hcell⟩ := own_slice hM.vals (by omega)
  obtain ⟨x0, hx0⟩ : ∃ x, vals[k]? = some x := ⟨_, List.getElem?_eq_getElem (by omega)⟩
  have hfz := row_fz hM.vals
  have hc := hcell k (.int .i64 x0) (by simp [hx0]) (by omega)
  have hgw : g < w.heap.size := (hM.vals.lt g rfl).2
  have hsw : sb < w.heap.size := (Array.getElem?_eq_some_iff.1 hM.box).1
  have n5 : g ≠ sb := own_ne_box hM.vals hM.box (by decide)
  have n6 : sb ≠ g := n5.symm
  have n1 : g ≠ w.heap.size := by omega
  have n2 : w.heap.size ≠ g := by omega
  have n3 : sb ≠ w.heap.size := by omega
  have n4 : w.heap.size ≠ sb := by omega
  have hki : (k : Int) < (vals.length : Int) := hv.2
  have HM : Hid (MS w sb B vals ins outs (.slice (some ⟨g, 0, none⟩) vals.length cap) iv ov) := hM
  clear hcell hM
  simp only [snCells]
  go_enter Tryd.func21, Tryd.ntmps21
  go_wp2_with fail
  go_region_held3 (fun w' => w'.cell? ⟨sb, 0, none⟩ = some (.slice (some ⟨g, 0, none⟩) vals.length cap) ∧ w'.cell? ⟨w.heap.size, 3, none⟩ = some (.int .i64 k) ∧ w'.cell? ⟨w.heap.size, 6, none⟩ = some (.bool a.isVar) ∧ w'.cell? ⟨w.heap.size, 7, none⟩ = some (.int .i64 a.var) ∧ w'.cell? ⟨w.heap.size, 8, none⟩ = some (.int .i64 a.const)) (go_keep) ((go_at_call 34; refine (value_any sb B (.slice (some ⟨g, 0, none⟩) vals.length cap) iv ov vals a _ (by exact (Below.heap_alloc _ _ _ hsw).trans HM.out.box) (by exact HM.out.vals.alloc _) ha).mono ?_; rintro e W' ⟨rfl, nq, rfl⟩))
  go_wp2_with fail
  go_ret
  exact ⟨rfl, HM.out.put (k := k) (below_drewN (((Below.refl _ _).alloc (Nat.le_refl _) _).alloc (by simp) _) _) (opW vals a)⟩
end Go.Proofs.YtmipbiligijcpaaDoor
