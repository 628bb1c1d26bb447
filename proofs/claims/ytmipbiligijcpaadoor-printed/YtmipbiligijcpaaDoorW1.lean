/- A part of the proof: contracts of functions of the program. -/
import Derived.Test.YtmipbiligijcpaaDoorProg
import Derived.Test.YtmipbiligijcpaaDoorM
import Derived.Test.YtmipbiligijcpaaDoorB
import Derived.WalkKit
import Derived.WalkSpells
import Derived.WalkLawsBesides
namespace Go.Proofs.YtmipbiligijcpaaDoor
set_option linter.unusedVariables false
set_option linter.unusedSimpArgs false
open Go.RowKit Go.Proofs


set_option maxHeartbeats 400000 in
theorem isLetter_any (c : UInt8) (w : World) :
    Calls Tryd.prog 41 #[.int .u8 c.toNat] w fun e w' => e = .returned (.bool (Wm.letB c)) ∧ w' = w := by
  go_enter Tryd.func41, Tryd.ntmps41
  go_wp2
  all_goals
    go_ret
    refine ⟨ret_bool ?_, rfl⟩
    unfold Wm.letB
    first | (rw [Bool.eq_iff_iff]; simp; omega) | skip
set_option maxHeartbeats 400000 in
theorem isDigit_any (c : UInt8) (w : World) :
    Calls Tryd.prog 42 #[.int .u8 c.toNat] w fun e w' => e = .returned (.bool (Wm.digB c)) ∧ w' = w := by
  go_enter Tryd.func42, Tryd.ntmps42
  go_wp2
  all_goals
    go_ret
    refine ⟨ret_bool ?_, rfl⟩
    unfold Wm.digB
    first | (rw [Bool.eq_iff_iff]; simp; omega) | skip
set_option maxHeartbeats 400000 in
theorem isReserved_any (s : ByteArray) (w : World) :
    Calls Tryd.prog 43 #[.string s] w fun e w' => e = .returned (.bool (Wm.resv s.data.toList)) ∧ w' = w := by
  rw [← ByteArray.toList_eq]
  go_enter Tryd.func43, Tryd.ntmps43
  go_wp2
  all_goals
    go_ret
    refine ⟨ret_bool ?_, rfl⟩
    unfold Wm.resv
    simp_all
set_option maxHeartbeats 400000 in
theorem isName_any (s : ByteArray) (w : World) (hs : s.size ≤ maxLen) :
    Calls Tryd.prog 27 #[.string s] w fun e w' => e = .returned (.bool (Wm.nm s)) ∧ w' = w := by
  unfold maxLen at hs
  by_cases h0 : s.size = 0
  · go_enter Tryd.func27, Tryd.ntmps27
    go_wp2
    go_ret
    exact ⟨ret_bool (Wm.nm_none s h0).symm, rfl⟩
  by_cases h6 : 6 < s.size
  · go_enter Tryd.func27, Tryd.ntmps27
    go_wp2
    go_ret
    exact ⟨ret_bool (Wm.nm_long s h6).symm, rfl⟩
  have hp : 0 < s.size := by omega
  have e0 : ((s.size : Int) == 0) = false := by rw [beq_eq_false_iff_ne]; omega
  have e6 : decide (6 < (s.size : Int)) = false := by rw [decide_eq_false_iff_not]; omega
  cases hh : Wm.letB s[0] with
  | false =>
    go_enter Tryd.func27, Tryd.ntmps27
    go_wp2_with (go_at_call 41; refine (isLetter_any _ _).mono ?_; rintro e w' ⟨rfl, rfl⟩)
    go_ret
    exact ⟨ret_bool (Wm.nm_head s hp hh).symm, rfl⟩
  | true =>
    go_enter Tryd.func27, Tryd.ntmps27
    go_wp2_with (go_at_call 41; refine (isLetter_any _ _).mono ?_; rintro e w' ⟨rfl, rfl⟩)
    go_loop [20] (fun i => ∃ k : Nat, k ≤ s.size ∧ i = .int .i64 k ∧ (s.data.toList.take k).all Wm.wrdB = true) (fun i => s.size - (intOf i).toNat)
    case atStart => exact ⟨0, Nat.zero_le _, rfl, by simp⟩
    case round =>
      obtain ⟨k, hk, rfl, ha⟩ := hrel
      have HA : Hid ((s.data.toList.take k).all Wm.wrdB = true) := ha
      clear ha
      by_cases hlt : k < s.size
      · cases hl : Wm.letB s[k] with
        | true =>
          go_wp2_with (go_at_call 41; refine (isLetter_any _ _).mono ?_; rintro e w' ⟨rfl, rfl⟩)
          go_round
          case rel => exact ⟨k + 1, by omega, by go_num, by rw [Wm.all_take s k _ hlt, HA.out]; simp [Wm.wrdB, hl]⟩
          case measure => simp [intOf]; omega
        | false =>
          cases hd : Wm.digB s[k] with
          | true =>
            go_wp2_with (first | (go_at_call 41; refine (isLetter_any _ _).mono ?_; rintro e w' ⟨rfl, rfl⟩) | (go_at_call 42; refine (isDigit_any _ _).mono ?_; rintro e w' ⟨rfl, rfl⟩))
            go_round
            case rel => exact ⟨k + 1, by omega, by go_num, by rw [Wm.all_take s k _ hlt, HA.out]; simp [Wm.wrdB, hd]⟩
            case measure => simp [intOf]; omega
          | false =>
            go_wp2_with (first | (go_at_call 41; refine (isLetter_any _ _).mono ?_; rintro e w' ⟨rfl, rfl⟩) | (go_at_call 42; refine (isDigit_any _ _).mono ?_; rintro e w' ⟨rfl, rfl⟩))
            go_ret
            exact ⟨ret_bool (Wm.nm_bad s k hlt (by simp [Wm.wrdB, hl, hd])).symm, rfl⟩
      · go_wp2_with (go_at_call 43; refine (isReserved_any _ _).mono ?_; rintro e w' ⟨rfl, rfl⟩)
        go_ret
        exact ⟨ret_bool (Wm.nm_end s hp (by omega) hh (by rw [show s.size = k by omega]; exact HA.out)).symm, rfl⟩

theorem ret_ib {a b : Int} {c d : Bool} (h : a = b) (h' : c = d) : Ending.returned (.tuple #[.int .i64 a, .bool c]) = .returned (.tuple #[.int .i64 b, .bool d]) := by rw [h, h']
set_option maxHeartbeats 400000 in
theorem parseOp_any (s : ByteArray) (w : World) :
    Calls Tryd.prog 58 #[.string s] w fun e w' => e = .returned (.tuple #[.int .i64 (Wm.opN s.data.toList), .bool (Wm.opB s.data.toList)]) ∧ w' = w := by
  rw [← ByteArray.toList_eq]
  go_enter Tryd.func58, Tryd.ntmps58
  go_wp2
  all_goals
    go_ret2
    refine ⟨ret_ib ?_ ?_, rfl⟩ <;> simp_all [Wm.opN, Wm.opB]
set_option maxHeartbeats 400000 in
theorem parseTest_any (s : ByteArray) (w : World) :
    Calls Tryd.prog 56 #[.string s] w fun e w' => e = .returned (.tuple #[.int .i64 (Wm.tsN s.data.toList), .bool (Wm.tsB s.data.toList)]) ∧ w' = w := by
  rw [← ByteArray.toList_eq]
  go_enter Tryd.func56, Tryd.ntmps56
  go_wp2
  all_goals
    go_ret2
    refine ⟨ret_ib ?_ ?_, rfl⟩ <;> simp_all [Wm.tsN, Wm.tsB]
set_option maxHeartbeats 400000 in
theorem isBlank_any (c : Int) (w : World) :
    Calls Tryd.prog 25 #[.int .i32 c] w fun e w' => e = .returned (.bool (c == 32 || c == 9 || c == 13)) ∧ w' = w := by
  go_enter Tryd.func25, Tryd.ntmps25
  go_wp2
  all_goals
    go_ret
    refine ⟨ret_bool ?_, rfl⟩
    simp_all
end Go.Proofs.YtmipbiligijcpaaDoor
