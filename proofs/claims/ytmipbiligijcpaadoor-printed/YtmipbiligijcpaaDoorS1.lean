/- A run's small parts: what a sign makes, what a test says. -/
import Derived.Test.YtmipbiligijcpaaDoorV
namespace Go.Proofs.YtmipbiligijcpaaDoor
set_option linter.unusedVariables false
set_option linter.unusedSimpArgs false
open Go.RowKit Go.Proofs Go.Maps

/-- what a op b is (0, where there is none); is there one? -/
def opVal (o a b : Int) : Int := if o = 0 then wrap64 (a + b) else if o = 1 then wrap64 (a - b) else if o = 2 then wrap64 (a * b) else if b = 0 then 0 else wrap64 (a.tdiv b)
def opOk (o b : Int) : Bool := o == 0 || o == 1 || o == 2 || !(b == 0)
def tsSo (t a b : Int) : Bool := if t = 0 then decide (a < b) else if t = 1 then decide (a ≤ b) else if t = 2 then a == b else a != b
theorem wrap0 : wrap64 0 = 0 := by unfold wrap64; omega
theorem le_split (a b : Int) : (decide (a < b) || a == b) = decide (a ≤ b) := by
  rw [Bool.eq_iff_iff]; simp; omega
set_option maxHeartbeats 400000 in
theorem apply_any (o a b : Int) (w : World) :
    Calls Tryd.prog 35 #[.int .i64 o, .int .i64 a, .int .i64 b] w fun e w' => e = .returned (.tuple #[.int .i64 (opVal o a b), .bool (opOk o b)]) ∧ w' = w := by
  by_cases hb : b = 0
  · subst hb
    go_enter Tryd.func35, Tryd.ntmps35
    go_wp2
    all_goals
      go_ret2
      refine ⟨ret_ib ?_ ?_, rfl⟩ <;> simp_all [opVal, opOk, wrap0]
  · have h0 : (b == 0) = false := by simp [hb]
    go_enter Tryd.func35, Tryd.ntmps35
    go_wp2
    all_goals
      go_ret2
      refine ⟨ret_ib ?_ ?_, rfl⟩ <;> simp_all [opVal, opOk, wrap0]
set_option maxHeartbeats 400000 in
theorem holds_any (t a b : Int) (w : World) :
    Calls Tryd.prog 36 #[.int .i64 t, .int .i64 a, .int .i64 b] w fun e w' => e = .returned (.bool (tsSo t a b)) ∧ w' = w := by
  go_enter Tryd.func36, Tryd.ntmps36
  go_wp2
  all_goals
    go_ret
    refine ⟨ret_bool ?_, rfl⟩ <;> simp_all [tsSo]
end Go.Proofs.YtmipbiligijcpaaDoor
