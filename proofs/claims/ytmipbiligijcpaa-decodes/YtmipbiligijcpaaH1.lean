/- The program's shapes: what a certificate's problem and grade ask of a value. -/
import Derived.Test.YtmipbiligijcpaaProg
import Derived.Test.YtmipbiligijcpaaD1
namespace Go.Proofs.Ytmipbiligijcpaa
set_option linter.unusedVariables false
set_option linter.unusedSimpArgs false
open Go.RowKit Go.Proofs Go.Maps

def shpV (p g : Int) : Value := .agg #[.int .i64 p, .int .i64 g]
def vlV (v : Vl) : Value := .agg #[.int .i64 v.kind, .int .i64 v.lo, .int .i64 v.hi, .bool v.early, .int .i64 v.first, .int .i64 v.rank]
set_option maxHeartbeats 400000 in
theorem isLeast_any (p g : Int) (w : World) : Calls Try.prog 67 #[.agg #[.int .i64 p, .int .i64 g]] w fun e w' => e = .returned (.bool (decide (g = 1))) ∧ w' = w.alloc (.cells #[.int .i64 p, .int .i64 g] 80) := by
  go_enter Try.func67, Try.ntmps67
  go_wp2
  go_ret
  exact ⟨ret_bool (by rw [Bool.eq_iff_iff]; simp), rfl⟩
set_option maxHeartbeats 400000 in
theorem hasSets_any (p g : Int) (w : World) : Calls Try.prog 50 #[.agg #[.int .i64 p, .int .i64 g]] w fun e w' => e = .returned (.bool (decide (p ≤ 4))) ∧ w' = w.alloc (.cells #[.int .i64 p, .int .i64 g] 80) := by
  go_enter Try.func50, Try.ntmps50
  go_wp2
  go_ret
  exact ⟨rfl, rfl⟩
set_option maxHeartbeats 400000 in
theorem isKnown_any (p g : Int) (w : World) : Calls Try.prog 47 #[.agg #[.int .i64 p, .int .i64 g]] w fun e w' => e = .returned (.bool (known p g)) ∧ w' = w.alloc (.cells #[.int .i64 p, .int .i64 g] 80) := by
  go_enter Try.func47, Try.ntmps47
  go_wp2
  all_goals
    go_ret
    refine ⟨ret_bool ?_, by first | rfl | simp_all⟩
    unfold known
    rw [Bool.eq_iff_iff]; simp; omega
theorem decide_congr {a b : Prop} [Decidable a] [Decidable b] (h : a ↔ b) : decide a = decide b := by simp [h]
set_option maxHeartbeats 1000000 in
theorem isEarly_any (p g r : Int) (v : Vl) (he : v.early = true) (w : World) : Calls Try.prog 86 #[.agg #[.int .i64 p, .int .i64 g], .agg #[.int .i64 v.kind, .int .i64 v.lo, .int .i64 v.hi, .bool v.early, .int .i64 v.first, .int .i64 v.rank], .int .i64 r] w fun e w' => e = .returned (.bool (okEarly g r v)) ∧ Below w.heap.size w w' := by
  go_enter Try.func86, Try.ntmps86
  go_wp2_with (go_at_call 67; refine (isLeast_any _ _ _).mono ?_; rintro e w1 ⟨rfl, rfl⟩)
  all_goals
    go_ret
    refine ⟨ret_bool ?_, by first | exact below3 _ _ _ _ | exact below2 _ _ _⟩
    unfold okEarly
    simp [*]
    try omega
set_option maxHeartbeats 1000000 in
theorem isVal_any (p g r : Int) (v : Vl) (w : World) : Calls Try.prog 77 #[.agg #[.int .i64 p, .int .i64 g], .agg #[.int .i64 v.kind, .int .i64 v.lo, .int .i64 v.hi, .bool v.early, .int .i64 v.first, .int .i64 v.rank], .int .i64 r] w fun e w' => e = .returned (.bool (okVal p g r v)) ∧ Below w.heap.size w w' := by
  by_cases h6 : p = 6
  · go_enter Try.func77, Try.ntmps77
    go_wp2_with fail
    all_goals
      go_ret
      refine ⟨ret_bool ?_, by first | exact below3 _ _ _ _ | exact below2 _ _ _⟩
      unfold okVal
      simp [*]
  · cases he : v.early with
    | true =>
      have hc := fun W => isEarly_any p g r v he W
      rw [he] at hc
      go_enter Try.func77, Try.ntmps77
      go_wp2_with (go_at_call 86; refine (hc _).mono ?_; rintro e w1 ⟨rfl, hb⟩)
      go_ret
      refine ⟨ret_bool (by unfold okVal; simp [h6, he]), below_trans (below2 _ _ _) hb⟩
    | false =>
      go_enter Try.func77, Try.ntmps77
      go_wp2_with fail
      all_goals
        go_ret
        refine ⟨ret_bool ?_, by first | exact below3 _ _ _ _ | exact below2 _ _ _⟩
        unfold okVal
        simp [*]
end Go.Proofs.Ytmipbiligijcpaa
