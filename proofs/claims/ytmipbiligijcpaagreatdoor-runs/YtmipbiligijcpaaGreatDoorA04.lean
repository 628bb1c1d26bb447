/- A part of the proof: contracts of functions of the program. -/
import Derived.Test.YtmipbiligijcpaaGreatDoorA03
namespace Go.Proofs.YtmipbiligijcpaaGreatDoor
set_option linter.unusedVariables false
set_option linter.unusedSimpArgs false
open Go.RowKit Go.Proofs

set_option maxHeartbeats 4000000 in
set_option maxRecDepth 100000 in
theorem rconst_pos (s : ByteArray) (w : World) (hs : s.size ≤ 3000) (h0 : 0 < s.size) (hm : ((s[0].toNat : Int) == 45) = false) :
    Calls Tryz.prog 246 #[.string s] w fun e w' => e = .returned (.tuple #[.int .i64 (cstV s.data.toList), .bool (cstB s.data.toList)]) ∧ w' = w := by
  have l0 : (0 : Int) < (s.size : Int) := by omega
  have e0 : ((s.size : Int) == 0) = false := by rw [beq_eq_false_iff_ne]; omega
  have hc45 : s[0] ≠ 45 := by rw [beq_eq_false_iff_ne] at hm; intro e; rw [e] at hm; exact hm rfl
  have hcd := Wm.cons_data s h0
  have HC : Hid (Wm.cstL s.data.toList = _) := cst_of s.data.toList s.data.toList false (by rw [hcd]; exact Wm.dg_pos _ _ hc45) (by rw [hcd]; exact Wm.ng_pos _ _ hc45)
  have hDz : s.size ≤ 3000 := hs
  clear hcd hc45
  by_cases hd0 : s.size = 0
  · exact absurd hd0 (by omega)
  have hd1 : 0 < s.size := by omega
  have x1 : ((s.size : Int) == 0) = false := by rw [beq_eq_false_iff_ne]; omega
  have xl : (0 : Int) < (s.size : Int) := by omega
  by_cases hd19 : 19 < s.size
  · have HN : Hid (Wm.cstL s.data.toList = none) := by
      show _ = _
      rw [HC.out]
      split
      · rename_i hnd
        have := long_none s false hd19 hnd
        simp; omega
      · rfl
    have x2 : decide (19 < (s.size : Int)) = true := by rw [decide_eq_true_eq]; omega
    clear HC hd0 hd19
    go_enter Tryz.func246, Tryz.ntmps246
    go_wp2
    go_ret2
    exact ⟨ret_ib (by simp [cstV, HN.out]) (by simp [cstB, HN.out]), rfl⟩
  have x2 : decide (19 < (s.size : Int)) = false := by rw [decide_eq_false_iff_not]; omega
  by_cases hz : s[0].toNat = 48 ∧ s.size ≠ 1
  · obtain ⟨hz, hz1⟩ := hz
    have HN : Hid (Wm.cstL s.data.toList = none) := by
      show _ = _
      have hcd := Wm.cons_data s h0
      have hl := Wm.len_data s
      rw [HC.out]
      have : Wm.numD false s.data.toList = false := by
        rw [hcd] at hl ⊢
        simp only [List.length_cons] at hl
        simp only [Wm.numD, hz]
        simp
        intros
        omega
      rw [this]; rfl
    have hs0 : (s.toList == [48]) = false := by
      rw [beq_eq_false_iff_ne, ByteArray.toList_eq]
      intro e
      have := congrArg List.length e
      rw [Wm.len_data] at this
      exact hz1 this
    have x3 : ((s[0].toNat : Int) == 48) = true := by rw [beq_iff_eq]; omega
    clear HC hd0 hd19
    go_enter Tryz.func246, Tryz.ntmps246
    go_wp2
    go_ret2
    exact ⟨ret_ib (by simp [cstV, HN.out]) (by simp [cstB, HN.out]), rfl⟩
  have HZ : Hid ((if s[0].toNat == 48 then decide (s.size = 1) && !false else true) = true) := by
    show _ = _
    by_cases h : s[0].toNat = 48
    · have : s.size = 1 := by
        rcases Nat.eq_or_lt_of_le (show 1 ≤ s.size by omega) with h1 | h1
        · exact h1.symm
        · exact absurd ⟨h, by omega⟩ hz
      simp [h, this]
    · simp [h]
  have h48 : ((s[0].toNat : Int) == 48) = false ∨ ((s[0].toNat : Int) == 48) = true ∧ (s.toList == [48]) = true := by
    by_cases h : s[0].toNat = 48
    · right
      refine ⟨by rw [beq_iff_eq]; omega, ?_⟩
      have h1 : s.size = 1 := by
        rcases Nat.eq_or_lt_of_le (show 1 ≤ s.size by omega) with h1 | h1
        · exact h1.symm
        · exact absurd ⟨h, by omega⟩ hz
      rw [beq_iff_eq, ByteArray.toList_eq, Wm.cons_data s h0]
      have : s.data.toList.drop 1 = [] := List.drop_eq_nil_of_le (by rw [Wm.len_data]; omega)
      rw [this]
      have e : s[0] = 48 := UInt8.toNat_inj.1 (by simpa using h)
      rw [e]
    · left; rw [beq_eq_false_iff_ne]; omega
  clear hz
  rcases h48 with x3 | ⟨x3, x4⟩
  all_goals
    clear hd0 hd19
    go_enter Tryz.func246, Tryz.ntmps246
    go_wp2
    go_loop [6, 7] (fun n i => ∃ (k m : Nat), k ≤ s.size ∧ i = .int .i64 k ∧ n = .int .i64 (-(m : Int)) ∧ m ≤ 9223372036854775808 ∧ Hid (m = Wm.decV (s.data.toList.take k) ∧ (s.data.toList.take k).all Wm.digB = true)) (fun _ i => s.size - (intOf i).toNat)
    case atStart => exact ⟨0, 0, Nat.zero_le _, rfl, rfl, by omega, by show _ ∧ _; simp [Wm.decV, Wm.decF]⟩
    case round =>
      obtain ⟨k, m, hk, rfl, rfl, hm9, HM⟩ := hrel
      by_cases hlt : k < s.size
      · have hlti : (k : Int) < (s.size : Int) := by omega
        by_cases hdg : 48 ≤ (s[k].toNat : Int) ∧ (s[k].toNat : Int) ≤ 57
        · have HD : Hid (Wm.digB s[k] = true) := (Wm.digB_iff _).2 (by omega)
          have HT := (show Hid _ from dec_take s k hlt)
          obtain ⟨c1, c2⟩ := hdg
          by_cases hov : 9223372036854775808 < 10 * (m : Int) + ((s[k].toNat : Int) - 48)
          · have t1 := over_lt m ((s[k].toNat : Int) - 48) (by omega) (by omega) hov
            have HN : Hid (Wm.cstL s.data.toList = none) := by
              show _ = _
              rw [HC.out]
              have h1 := dec_ge s (k + 1)
              have h2 := HT.out
              have h3 := HM.out.1
              have h4 : 9223372036854775808 < Wm.decV s.data.toList := by omega
              split
              · simp; omega
              · rfl
            clear HC hov HM HT
            go_wp2
            go_ret2
            exact ⟨ret_ib (by simp [cstV, HN.out]) (by simp [cstB, HN.out]), rfl⟩
          · have hfit : 10 * (m : Int) + ((s[k].toNat : Int) - 48) ≤ 9223372036854775808 := by omega
            have t1 := fit_le m ((s[k].toNat : Int) - 48) (by omega) (by omega) hfit
            have HF : Hid (wrap64 (wrap64 (10 * -(m : Int)) - ((s[k].toNat : Int) - 48)) = -((10 * m + ((s[k].toNat : Int) - 48).toNat : Nat) : Int)) := next_eq m s[k].toNat c1 c2 hfit
            have HX : Hid (10 * m + ((s[k].toNat : Int) - 48).toNat = Wm.decV (s.data.toList.take (k + 1)) ∧ (s.data.toList.take (k + 1)).all Wm.digB = true ∧ 10 * m + ((s[k].toNat : Int) - 48).toNat ≤ 9223372036854775808) := by
              show _ ∧ _ ∧ _
              have h2 := HT.out
              have h3 := HM.out
              refine ⟨by omega, ?_, by omega⟩
              rw [Wm.all_take s k _ hlt, h3.2, HD.out]; rfl
            clear hov HM HT hfit
            go_wp2
            all_goals first
              | (exfalso; exact no_lt m ((s[k].toNat : Int) - 48) (by omega) (by omega) (by assumption) (by assumption))
              | skip
            all_goals
              refine ⟨⟨k + 1, 10 * m + ((s[k].toNat : Int) - 48).toNat, by omega, by go_num, ?_, HX.out.2.2, ⟨HX.out.1, HX.out.2.1⟩⟩, by simp [intOf]; omega⟩
              first
                | exact congrArg (Value.int IntKind.i64) HF.out
                | (have hq : -(m : Int) = (-9223372036854775808 + ((s[k].toNat : Int) - 48)).tdiv 10 := by assumption
                   have h8 := HF.out
                   rw [hq] at h8
                   exact congrArg (Value.int IntKind.i64) h8)
        · have HN : Hid (Wm.cstL s.data.toList = none) := by
            show _ = _
            rw [HC.out, numD_bad s false k hlt (by cases e : Wm.digB s[k] with | false => rfl | true => exfalso; have := (Wm.digB_iff _).1 e; omega)]
            rfl
          clear HC HM
          have h2 : (s[k].toNat : Int) < 48 ∨ 57 < (s[k].toNat : Int) := by omega
          clear hdg
          rcases h2 with c1 | c1
          · go_wp2
            go_ret2
            exact ⟨ret_ib (by simp [cstV, HN.out]) (by simp [cstB, HN.out]), rfl⟩
          · have c2 : 48 ≤ (s[k].toNat : Int) := by omega
            go_wp2
            go_ret2
            exact ⟨ret_ib (by simp [cstV, HN.out]) (by simp [cstB, HN.out]), rfl⟩
      · obtain rfl : k = s.size := by omega
        have hall := HM.out.2
        have hval := HM.out.1
        have hN2 := numD_end s false hd1 hall
        rw [HZ.out] at hN2
        rw [List.take_of_length_le (by rw [Wm.len_data]; exact Nat.le_refl _)] at hval
        have hcc := HC.out
        rw [hN2, ← hval] at hcc
        by_cases hl : m = 9223372036854775808
        · have HN : Hid (Wm.cstL s.data.toList = none) := by show _ = _; rw [hcc]; simp [hl]
          have HL : Hid (m = 9223372036854775808) := hl
          have y1 : ((-(m : Int)) == -9223372036854775808) = true := by rw [beq_iff_eq]; omega
          clear HC HM hall hval hN2 hcc HZ hl
          go_wp2
          go_ret2
          exact ⟨ret_ib (by simp [cstV, HN.out]) (by simp [cstB, HN.out]), rfl⟩
        · have hlt2 : m < 9223372036854775808 := by omega
          have HN : Hid (Wm.cstL s.data.toList = some (m : Int)) := by show _ = _; rw [hcc]; simp [hlt2]
          have y1 : ((-(m : Int)) == -9223372036854775808) = false := by rw [beq_eq_false_iff_ne]; omega
          clear HC HM hall hval hN2 hcc HZ hl
          go_wp2
          go_ret2
          refine ⟨ret_ib ?_ (by simp [cstB, HN.out]), rfl⟩
          simp [cstV, HN.out]
end Go.Proofs.YtmipbiligijcpaaGreatDoor
