/- A run's state: its values. -/
import Derived.Test.YtmipbiligijcpaaDoorS1
import Derived.Test.YtmipbiligijcpaaDoorG
namespace Go.Proofs.YtmipbiligijcpaaDoor
set_option linter.unusedVariables false
set_option linter.unusedSimpArgs false
open Go.RowKit Go.Proofs Go.Maps

def opW (vals : List Int) (o : Opd) : Int := if o.isVar then vals.getD o.var.toNat 0 else o.const
/-- the operand's variable is there -/
def opdIn (n : Nat) (o : Opd) : Prop := o.isVar = true → 0 ≤ o.var ∧ o.var < n
theorem own_slice {w : World} {B e n : Nat} {v : Value} {xs : List Value} (h : w.ownsRow B e 1 v n xs) (h0 : 0 < n) : ∃ g cap, v = .slice (some ⟨g, 0, none⟩) n cap ∧ B ≤ g ∧ n ≤ cap ∧ ∀ j x, xs[j]? = some x → j < n → w.cell? ⟨g, j, none⟩ = some x := by
  rcases h.2 with ⟨_, e⟩ | ⟨g, cap, cur, hv, hb, hg, hc, hm, hs, ht⟩
  · omega
  · refine ⟨g, cap, hv, hb, hc, fun j x hx hj => ?_⟩
    rw [← ht, List.getElem?_take, if_pos (by omega)] at hx
    simp only [World.cell?, hg]
    simpa using hx
set_option maxHeartbeats 400000 in
theorem value_any (sb B : Nat) (vv iv ov : Value) (vals : List Int) (o : Opd) (w : World) (hb : w.heap[sb]? = some (.cells #[vv, iv, ov] 72 (0, 0))) (hv : w.ownsRow B 2 1 vv vals.length (vals.map (Value.int .i64))) (ho : opdIn vals.length o) :
    Calls Tryd.prog 34 #[.pointer (some ⟨sb, 0, none⟩), .agg #[.bool o.isVar, .int .i64 o.var, .int .i64 o.const]] w fun e w' => e = .returned (.int .i64 (opW vals o)) ∧ ∃ n, w' = (w.alloc (.cells #[.bool o.isVar, .int .i64 o.var, .int .i64 o.const] 55)).drewN n := by
  obtain ⟨hx1, hx2⟩ := box_cells hb
  obtain ⟨b, v, c⟩ := o
  cases b with
  | false =>
    have HV : Hid (opW vals ⟨false, v, c⟩ = c) := rfl
    go_enter Tryd.func34, Tryd.ntmps34
    go_wp2
    go_ret
    rw [HV.out]
    exact ⟨rfl, 0, rfl⟩
  | true =>
    obtain ⟨h0, h1⟩ := ho rfl
    simp only at h0 h1
    obtain ⟨k, rfl⟩ : ∃ k : Nat, v = k := ⟨v.toNat, by omega⟩
    obtain ⟨x, hx⟩ : ∃ x, vals[k]? = some x := ⟨_, List.getElem?_eq_getElem (by omega)⟩
    have HV : Hid (opW vals ⟨true, k, c⟩ = x) := by show _ = _; simp [opW, List.getD, hx]
    obtain ⟨g, cap, rfl, hgB, hcap, hcell⟩ := own_slice hv (by omega)
    have hgw : g < w.heap.size := (hv.lt g rfl).2
    have hsw : sb < w.heap.size := (Array.getElem?_eq_some_iff.1 hb).1
    have n1 : g ≠ w.heap.size := by omega
    have n2 : w.heap.size ≠ g := by omega
    have n3 : sb ≠ w.heap.size := by omega
    have n4 : w.heap.size ≠ sb := by omega
    have hc := hcell k (.int .i64 x) (by simp [hx]) (by omega)
    clear hcell hx
    go_enter Tryd.func34, Tryd.ntmps34
    go_wp2
    go_quiet (fail)
    go_wp2
    go_ret
    rw [HV.out]
    exact ⟨rfl, _, rfl⟩
end Go.Proofs.YtmipbiligijcpaaDoor
