/- More fuel: a run goes on as it began. -/
import Derived.Test.YtmipbiligijcpaaDoorS9
namespace Go.Proofs.YtmipbiligijcpaaDoor
set_option linter.unusedVariables false
set_option linter.unusedSimpArgs false
open Go.RowKit Go.Proofs Go.Maps

theorem vis_pre (n : SN) (vals ins outs : List Int) : outs <+: (vis n vals ins outs).2.2.2 := by
  unfold vis
  repeat' split
  all_goals simp
theorem vis_end (n : SN) (vals ins outs : List Int) : (vis n vals ins outs).1 ≠ 4 := by
  unfold vis
  repeat' split
  all_goals simp
theorem run_pre (pl : List PN) (ps : List (Nam × Nat)) : ∀ (f k : Nat) (vals ins outs : List Int) (st : List (Nat × List Int)), outs <+: (runF pl ps f k vals ins outs st).2.1 ∧ st <+: (runF pl ps f k vals ins outs st).2.2 := by
  intro f
  induction f with
  | zero => intro k vals ins outs st; exact ⟨List.prefix_refl _, List.prefix_refl _⟩
  | succ f ih =>
    intro k vals ins outs st
    rw [runF]
    split
    · exact ⟨List.prefix_refl _, List.prefix_append _ _⟩
    · rename_i p _
      split
      · obtain ⟨h1, h2⟩ := ih ((edgK ps p.nc k).getD (edgN p.n (vis p.n vals ins outs).2.1).toNat 0).toNat (vis p.n vals ins outs).2.1 (vis p.n vals ins outs).2.2.1 (vis p.n vals ins outs).2.2.2 (st ++ [(k, vals)])
        exact ⟨(vis_pre _ _ _ _).trans h1, (List.prefix_append _ _).trans h2⟩
      · exact ⟨vis_pre _ _ _ _, List.prefix_append _ _⟩
/-- the run with more fuel is the same, as far as the first one went -/
theorem run_more (pl : List PN) (ps : List (Nam × Nat)) : ∀ (f g k : Nat) (vals ins outs : List Int) (st : List (Nat × List Int)), f ≤ g → (runF pl ps f k vals ins outs st).2.1 <+: (runF pl ps g k vals ins outs st).2.1 ∧ (runF pl ps f k vals ins outs st).2.2 <+: (runF pl ps g k vals ins outs st).2.2 ∧ ((runF pl ps f k vals ins outs st).1 = 4 ∨ (runF pl ps f k vals ins outs st).1 = (runF pl ps g k vals ins outs st).1) := by
  intro f
  induction f with
  | zero => intro g k vals ins outs st _; exact ⟨(run_pre pl ps g k vals ins outs st).1, (run_pre pl ps g k vals ins outs st).2, Or.inl rfl⟩
  | succ f ih =>
    intro g k vals ins outs st hg
    obtain ⟨g', rfl⟩ : ∃ g', g = g' + 1 := ⟨g - 1, by omega⟩
    rw [runF, runF]
    split
    · exact ⟨List.prefix_refl _, List.prefix_refl _, Or.inr rfl⟩
    · split
      · exact ih g' _ _ _ _ _ (by omega)
      · exact ⟨List.prefix_refl _, List.prefix_refl _, Or.inr rfl⟩
theorem run_steps (pl : List PN) (ps : List (Nam × Nat)) : ∀ (f k : Nat) (vals ins outs : List Int) (st : List (Nat × List Int)), (runF pl ps f k vals ins outs st).2.2.length ≤ st.length + f ∧ (0 < f → st.length + 1 ≤ (runF pl ps f k vals ins outs st).2.2.length) := by
  intro f
  induction f with
  | zero => intro k vals ins outs st; exact ⟨by simp [runF], by simp⟩
  | succ f ih =>
    intro k vals ins outs st
    rw [runF]
    split
    · simp
    · rename_i p _
      split
      · obtain ⟨h1, _⟩ := ih ((edgK ps p.nc k).getD (edgN p.n (vis p.n vals ins outs).2.1).toNat 0).toNat (vis p.n vals ins outs).2.1 (vis p.n vals ins outs).2.2.1 (vis p.n vals ins outs).2.2.2 (st ++ [(k, vals)])
        have h2 := (run_pre pl ps f ((edgK ps p.nc k).getD (edgN p.n (vis p.n vals ins outs).2.1).toNat 0).toNat (vis p.n vals ins outs).2.1 (vis p.n vals ins outs).2.2.1 (vis p.n vals ins outs).2.2.2 (st ++ [(k, vals)])).2.length_le
        simp only [List.length_append, List.length_singleton] at h1 h2
        exact ⟨by omega, fun _ => h2⟩
      · simp
end Go.Proofs.YtmipbiligijcpaaDoor
