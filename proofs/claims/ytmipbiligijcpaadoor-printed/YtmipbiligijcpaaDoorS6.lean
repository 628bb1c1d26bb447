/- A copy of the values. -/
import Derived.Test.YtmipbiligijcpaaDoorS5
import Derived.Lib.SliceRun
namespace Go.Proofs.YtmipbiligijcpaaDoor
set_option linter.unusedVariables false
set_option linter.unusedSimpArgs false
open Go.RowKit Go.Proofs Go.Maps

set_option maxHeartbeats 2000000 in
set_option maxRecDepth 100000 in
theorem clone_any (B g cap : Nat) (vals : List Int) (w : World) (hv : w.ownsRow B 2 1 (.slice (some ⟨g, 0, none⟩) vals.length cap) vals.length (vals.map (Value.int .i64))) (h8 : vals.length ≤ 8) :
    Calls Tryd.prog 20 #[.slice (some ⟨g, 0, none⟩) vals.length cap] w fun e w' => Below w.heap.size w w' ∧ ∃ v', e = .returned v' ∧ w'.ownsRow w.heap.size 2 1 v' vals.length (vals.map (Value.int .i64)) ∧ v' ≠ .slice none 0 0 := by
  have q22 : ∀ (w : World) (a : Option Addr) (n c n' c' : Nat), (binOp .eql 22 (.slice a n c) (.slice none n' c')).run Tryd.prog w = .ok (.bool a.isNone) w := fun w a n c n' c' => Lib.run_eql_slice_nil w _ _ a n c n' c' Tryd.underlying22
  obtain ⟨i1, hi, hz0, hz1, hz2⟩ := info_parts info64
  have HI : Hid (Tryd.prog.info? 2 = some i1 ∧ i1.zero = some (.int .i64 0) ∧ i1.size = 1 ∧ i1.bytes = 8) := ⟨hi, hz0, hz1, hz2⟩
  clear hi hz0 hz1 hz2
  have HC := (show Hid _ from hv.cells (g := g) rfl)
  have HO : Hid (∀ u ∈ vals.map (Value.int .i64), u.oneCell' = true) := by
    show ∀ _ ∈ _, _
    intro u hu
    obtain ⟨x, _, rfl⟩ := List.mem_map.1 hu
    rfl
  clear hv
  go_enter Tryd.func20, Tryd.ntmps20
  go_wp2_with (at_builtin; refine wpList_append_own _ rfl _ _ 22 rfl w.heap.size 2 i1 (.int .i64 0) 1 8 Tryd.underlying22 HI.out.1 HI.out.2.1 HI.out.2.2.1 HI.out.2.2.2 rfl (by decide) _ _ _ rfl (World.ownsRow_made w #[] 0 (Nat.le_refl _) (Nat.zero_le _) (by simp)) ⟨g, 0, none⟩ vals.length cap (vals.map (Value.int .i64)) rfl ?qc1 ?qc2 ?qc3 ?qc4 ?qc5 ?qc6 ?_)
  case qc1 => simp
  case qc2 =>
    intro j u hj
    have := HC.out j u hj
    rw [Addr.add_lit] at this ⊢
    exact Lib.cell?_alloc_some _ this
  case qc3 => exact HO.out
  case qc4 => unfold maxLen; omega
  case qc5 => omega
  case qc6 => simp
  intro v' w1 hown hgrow hnil
  go_wp2
  go_ret
  refine ⟨((Below.refl _ w).alloc (Nat.le_refl _) _).grown hgrow (by simp) (by intro k hk; simp [Value.ownBlock] at hk; omega), v', rfl, by simpa using hown, hnil⟩
end Go.Proofs.YtmipbiligijcpaaDoor
