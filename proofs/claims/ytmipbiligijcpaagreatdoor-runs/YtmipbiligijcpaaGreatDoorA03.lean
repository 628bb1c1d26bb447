/- A part of the proof: contracts of functions of the program. -/
import Derived.Test.YtmipbiligijcpaaGreatDoorA02
import Derived.Lib.IndexBytes
namespace Go.Proofs.YtmipbiligijcpaaGreatDoor
set_option linter.unusedVariables false
set_option linter.unusedSimpArgs false
open Go.RowKit Go.Proofs

theorem extract_tail (s : ByteArray) : (s.extract 1 s.size).data.toList = s.data.toList.drop 1 := Lib.extract_to_end s 1

set_option maxHeartbeats 4000000 in
set_option maxRecDepth 100000 in
theorem rconst_neg (s : ByteArray) (w : World) (hs : s.size ≤ 3000) (h0 : 0 < s.size) (hm : ((s[0].toNat : Int) == 45) = true) :
    Calls Tryz.prog 246 #[.string s] w fun e w' => e = .returned (.tuple #[.int .i64 (cstV s.data.toList), .bool (cstB s.data.toList)]) ∧ w' = w := by
  have l0 : (0 : Int) < (s.size : Int) := by omega
  have e0 : ((s.size : Int) == 0) = false := by rw [beq_eq_false_iff_ne]; omega
  obtain ⟨D, hDe⟩ : ∃ D, s.extract 1 s.size = D := ⟨_, rfl⟩
  have hc45 : s[0] = 45 := by rw [beq_iff_eq] at hm; exact UInt8.toNat_inj.1 (by simpa using (by omega : s[0].toNat = 45))
  have hcd := Wm.cons_data s h0
  have hDl : D.data.toList = s.data.toList.drop 1 := by rw [← hDe, extract_tail]
  have HC : Hid (Wm.cstL s.data.toList = _) := cst_of s.data.toList D.data.toList true (by rw [hcd, hc45, Wm.dg_neg, hDl]) (by rw [hcd, hc45]; exact Wm.ng_neg _)
  have hDz : D.size ≤ 3000 := by have h1 := congrArg List.length hDl; rw [List.length_drop] at h1; have h2 := Wm.len_data D; have h3 := Wm.len_data s; omega
  have hs0 : (s.toList == [48]) = false := by
    rw [beq_eq_false_iff_ne, ByteArray.toList_eq, hcd, hc45]; simp
  clear hcd hc45 hDl
  by_cases hd0 : D.size = 0
  · have HN : Hid (Wm.cstL s.data.toList = none) := by show _ = _; rw [HC.out, numD_empty D true hd0]; rfl
    have x1 : ((D.size : Int) == 0) = true := by rw [beq_iff_eq]; omega
    clear HC hd0
    go_enter Tryz.func246, Tryz.ntmps246
    go_wp2
    go_ret2
    exact ⟨ret_ib (by simp [cstV, HN.out]) (by simp [cstB, HN.out]), rfl⟩
  have hd1 : 0 < D.size := by omega
  have x1 : ((D.size : Int) == 0) = false := by rw [beq_eq_false_iff_ne]; omega
  have xl : (0 : Int) < (D.size : Int) := by omega
  by_cases hd19 : 19 < D.size
  · have HN : Hid (Wm.cstL s.data.toList = none) := by
      show _ = _
      rw [HC.out]
      split
      · rename_i hnd
        have := long_none D true hd19 hnd
        simp; omega
      · rfl
    have x2 : decide (19 < (D.size : Int)) = true := by rw [decide_eq_true_eq]; omega
    clear HC hd0 hd19
    go_enter Tryz.func246, Tryz.ntmps246
    go_wp2
    go_ret2
    exact ⟨ret_ib (by simp [cstV, HN.out]) (by simp [cstB, HN.out]), rfl⟩
  have x2 : decide (19 < (D.size : Int)) = false := by rw [decide_eq_false_iff_not]; omega
  by_cases hz : D[0].toNat = 48
  · have HN : Hid (Wm.cstL s.data.toList = none) := by
      show _ = _
      have h7 : Wm.numD true D.data.toList = false := by rw [Wm.cons_data D hd1]; simp [Wm.numD, hz]
      rw [HC.out, h7]; rfl
    have x3 : ((D[0].toNat : Int) == 48) = true := by rw [beq_iff_eq]; omega
    clear HC hd0 hd19
    go_enter Tryz.func246, Tryz.ntmps246
    go_wp2
    go_ret2
    exact ⟨ret_ib (by simp [cstV, HN.out]) (by simp [cstB, HN.out]), rfl⟩
  have x3 : ((D[0].toNat : Int) == 48) = false := by rw [beq_eq_false_iff_ne]; omega
  have HZ : Hid ((if D[0].toNat == 48 then decide (D.size = 1) && !true else true) = true) := by show _ = _; simp [hz]
  clear hd0 hd19
  go_enter Tryz.func246, Tryz.ntmps246
  go_wp2
  go_loop [6, 7] (fun n i => ∃ (k m : Nat), k ≤ D.size ∧ i = .int .i64 k ∧ n = .int .i64 (-(m : Int)) ∧ m ≤ 9223372036854775808 ∧ Hid (m = Wm.decV (D.data.toList.take k) ∧ (D.data.toList.take k).all Wm.digB = true)) (fun _ i => D.size - (intOf i).toNat)
  case atStart => exact ⟨0, 0, Nat.zero_le _, rfl, rfl, by omega, by show _ ∧ _; simp [Wm.decV, Wm.decF]⟩
  case round =>
    obtain ⟨k, m, hk, rfl, rfl, hm9, HM⟩ := hrel
    by_cases hlt : k < D.size
    · have hlti : (k : Int) < (D.size : Int) := by omega
      by_cases hdg : 48 ≤ (D[k].toNat : Int) ∧ (D[k].toNat : Int) ≤ 57
      · have HD : Hid (Wm.digB D[k] = true) := (Wm.digB_iff _).2 (by omega)
        have HT := (show Hid _ from dec_take D k hlt)
        obtain ⟨c1, c2⟩ := hdg
        by_cases hov : 9223372036854775808 < 10 * (m : Int) + ((D[k].toNat : Int) - 48)
        · have t1 := over_lt m ((D[k].toNat : Int) - 48) (by omega) (by omega) hov
          have HN : Hid (Wm.cstL s.data.toList = none) := by
            show _ = _
            rw [HC.out]
            have h1 := dec_ge D (k + 1)
            have h2 := HT.out
            have h3 := HM.out.1
            have h4 : 9223372036854775808 < Wm.decV D.data.toList := by omega
            split
            · simp; omega
            · rfl
          clear HC hov HM HT
          go_wp2
          go_ret2
          exact ⟨ret_ib (by simp [cstV, HN.out]) (by simp [cstB, HN.out]), rfl⟩
        · have hfit : 10 * (m : Int) + ((D[k].toNat : Int) - 48) ≤ 9223372036854775808 := by omega
          have t1 := fit_le m ((D[k].toNat : Int) - 48) (by omega) (by omega) hfit
          have HF : Hid (wrap64 (wrap64 (10 * -(m : Int)) - ((D[k].toNat : Int) - 48)) = -((10 * m + ((D[k].toNat : Int) - 48).toNat : Nat) : Int)) := next_eq m D[k].toNat c1 c2 hfit
          have HX : Hid (10 * m + ((D[k].toNat : Int) - 48).toNat = Wm.decV (D.data.toList.take (k + 1)) ∧ (D.data.toList.take (k + 1)).all Wm.digB = true ∧ 10 * m + ((D[k].toNat : Int) - 48).toNat ≤ 9223372036854775808) := by
            show _ ∧ _ ∧ _
            have h2 := HT.out
            have h3 := HM.out
            refine ⟨by omega, ?_, by omega⟩
            rw [Wm.all_take D k _ hlt, h3.2, HD.out]; rfl
          clear hov HM HT hfit
          go_wp2
          all_goals first
            | (exfalso; exact no_lt m ((D[k].toNat : Int) - 48) (by omega) (by omega) (by assumption) (by assumption))
            | skip
          all_goals
            refine ⟨⟨k + 1, 10 * m + ((D[k].toNat : Int) - 48).toNat, by omega, by go_num, ?_, HX.out.2.2, ⟨HX.out.1, HX.out.2.1⟩⟩, by simp [intOf]; omega⟩
            first
              | exact congrArg (Value.int IntKind.i64) HF.out
              | (have hq : -(m : Int) = (-9223372036854775808 + ((D[k].toNat : Int) - 48)).tdiv 10 := by assumption
                 have h8 := HF.out
                 rw [hq] at h8
                 exact congrArg (Value.int IntKind.i64) h8)
      · have HN : Hid (Wm.cstL s.data.toList = none) := by
          show _ = _
          rw [HC.out, numD_bad D true k hlt (by cases e : Wm.digB D[k] with | false => rfl | true => exfalso; have := (Wm.digB_iff _).1 e; omega)]
          rfl
        clear HC HM
        have h2 : (D[k].toNat : Int) < 48 ∨ 57 < (D[k].toNat : Int) := by omega
        clear hdg
        rcases h2 with c1 | c1
        · go_wp2
          go_ret2
          exact ⟨ret_ib (by simp [cstV, HN.out]) (by simp [cstB, HN.out]), rfl⟩
        · have c2 : 48 ≤ (D[k].toNat : Int) := by omega
          go_wp2
          go_ret2
          exact ⟨ret_ib (by simp [cstV, HN.out]) (by simp [cstB, HN.out]), rfl⟩
    · obtain rfl : k = D.size := by omega
      have hall := HM.out.2
      have hval := HM.out.1
      have hN2 := numD_end D true hd1 hall
      rw [HZ.out] at hN2
      rw [List.take_of_length_le (by rw [Wm.len_data]; exact Nat.le_refl _)] at hval
      have hcc := HC.out
      rw [hN2, ← hval] at hcc
      have HN : Hid (Wm.cstL s.data.toList = some (-(m : Int))) := by show _ = _; rw [hcc]; simp [hm9]
      clear HC HM hall hval hN2 hcc HZ
      go_wp2
      go_ret2
      exact ⟨ret_ib (by simp [cstV, HN.out]) (by simp [cstB, HN.out]), rfl⟩
end Go.Proofs.YtmipbiligijcpaaGreatDoor
