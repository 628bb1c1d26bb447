/- The document's answer: names and constants. -/
import Derived.Test.YtmipbiligijcpaaGreatDoorW2
import Derived.Lib.IndexBytes
namespace Go.Proofs.YtmipbiligijcpaaGreatDoor
set_option linter.unusedVariables false
set_option linter.unusedSimpArgs false
open Go.RowKit Go.Proofs

theorem letInt (c : UInt8) : Wm.letB c = (decide (97 ≤ (c.toNat : Int)) && decide ((c.toNat : Int) ≤ 122)) := by
  unfold Wm.letB; rw [Bool.eq_iff_iff]; simp; omega
theorem digInt (c : UInt8) : Wm.digB c = (decide (48 ≤ (c.toNat : Int)) && decide ((c.toNat : Int) ≤ 57)) := by
  unfold Wm.digB; rw [Bool.eq_iff_iff]; simp; omega
/-- what name asks of the byte at i -/
def okAt (s : ByteArray) (k : Nat) (h : k < s.size) : Bool := Wm.letB s[k] || (Wm.digB s[k] && decide (k ≠ 0))
theorem rname_fin (s : ByteArray) (h0 : 0 < s.size) (ha : ∀ j (h : j < s.size), okAt s j h = true) : Wm.nm s = (decide (s.size ≤ 6) && !Wm.resv s.data.toList) := by
  have hh : Wm.letB s[0] = true := by have := ha 0 h0; simpa [okAt] using this
  have hall : s.data.toList.all Wm.wrdB = true := by
    rw [List.all_eq_true]
    intro x hx
    obtain ⟨j, hj, rfl⟩ := List.getElem_of_mem hx
    have hj' : j < s.size := by rw [← Wm.len_data s]; exact hj
    have := ha j hj'
    have e : s.data.toList[j] = s[j] := rfl
    rw [e]
    unfold okAt at this
    unfold Wm.wrdB
    cases h1 : Wm.letB s[j] with
    | true => simp
    | false => rw [h1] at this; simp at this; simp [this.1]
  rw [Wm.nm_eq s h0, hh, hall]; simp
theorem rname_bad (s : ByteArray) (k : Nat) (h : k < s.size) (hb : okAt s k h = false) : Wm.nm s = false := by
  unfold okAt at hb
  simp only [Bool.or_eq_false_iff, Bool.and_eq_false_iff] at hb
  rcases hb.2 with hd | hk
  · exact Wm.nm_bad s k h (by simp [Wm.wrdB, hb.1, hd])
  · have : k = 0 := by simpa using hk
    subst this
    exact Wm.nm_head s h hb.1
theorem resv_eq (s : ByteArray) : Wm.resv s.data.toList = (s.toList == [105, 110, 112, 117, 116] || s.toList == [111, 117, 116, 112, 117, 116] || s.toList == [105, 102] || s.toList == [103, 111, 116, 111] || s.toList == [114, 101, 116, 117, 114, 110]) := by
  rw [ByteArray.toList_eq]; rfl

set_option maxHeartbeats 4000000 in
set_option maxRecDepth 100000 in
theorem rname_any (s : ByteArray) (w : World) (hs : s.size ≤ 3000) :
    Calls Tryz.prog 68 #[.string s] w fun e w' => e = .returned (.bool (Wm.nm s)) ∧ w' = w := by
  go_enter Tryz.func68, Tryz.ntmps68
  go_wp2
  go_loop [3] (fun i => ∃ k : Nat, k ≤ s.size ∧ i = .int .i64 k ∧ Hid (∀ j (h : j < s.size), j < k → okAt s j h = true)) (fun i => s.size - (intOf i).toNat)
  case atStart => exact ⟨0, Nat.zero_le _, rfl, by show ∀ j h, _; intro j h hj; omega⟩
  case round =>
    obtain ⟨k, hk, rfl, HA⟩ := hrel
    by_cases hlt : k < s.size
    · have hlti : (k : Int) < (s.size : Int) := by omega
      have step : okAt s k hlt = true → ∀ j (h : j < s.size), j < k + 1 → okAt s j h = true := by
        intro hok j h hj
        by_cases e : j = k
        · subst e; exact hok
        · exact HA.out j h (by omega)
      have HST : Hid (okAt s k hlt = true → ∀ j (h : j < s.size), j < k + 1 → okAt s j h = true) := step
      clear step
      by_cases hL : 97 ≤ (s[k].toNat : Int) ∧ (s[k].toNat : Int) ≤ 122
      · have HO : Hid (okAt s k hlt = true) := by show _ = _; unfold okAt; rw [letInt]; simp [hL]
        obtain ⟨l1, l2⟩ := hL
        go_wp2
        go_round
        case rel => exact ⟨k + 1, by omega, by go_num, HST.out HO.out⟩
        case measure => simp [intOf]; omega
      by_cases hD : 48 ≤ (s[k].toNat : Int) ∧ (s[k].toNat : Int) ≤ 57
      · by_cases hk0 : k = 0
        · have HO : Hid (Wm.nm s = false) := rname_bad s k hlt (by unfold okAt; rw [letInt]; simp; omega)
          have hki : ((k : Int) == 0) = true := by rw [beq_iff_eq]; omega
          obtain ⟨l1, l2⟩ := hD
          have l3 : (s[k].toNat : Int) < 97 := by omega
          clear hL hk0
          go_wp2
          go_ret
          exact ⟨ret_bool HO.out.symm, rfl⟩
        · have HO : Hid (okAt s k hlt = true) := by show _ = _; unfold okAt; rw [digInt]; simp [hD, hk0]
          have hki : ((k : Int) == 0) = false := by rw [beq_eq_false_iff_ne]; omega
          obtain ⟨l1, l2⟩ := hD
          have l3 : (s[k].toNat : Int) < 97 := by omega
          clear hL hk0
          go_wp2
          go_round
          case rel => exact ⟨k + 1, by omega, by go_num, HST.out HO.out⟩
          case measure => simp [intOf]; omega
      · have HO : Hid (Wm.nm s = false) := rname_bad s k hlt (by unfold okAt; rw [letInt, digInt]; simp; omega)
        have h3 : (s[k].toNat : Int) < 48 ∨ (57 < (s[k].toNat : Int) ∧ (s[k].toNat : Int) < 97) ∨ 122 < (s[k].toNat : Int) := by omega
        clear hL hD
        rcases h3 with l1 | ⟨l1, l2⟩ | l1
        · have d1 : decide (97 ≤ (s[k].toNat : Int)) = false := by rw [decide_eq_false_iff_not]; omega
          have d2 : decide (48 ≤ (s[k].toNat : Int)) = false := by rw [decide_eq_false_iff_not]; omega
          have l2 : (s[k].toNat : Int) < 97 := by omega
          go_wp2
          go_ret
          exact ⟨ret_bool HO.out.symm, rfl⟩
        · have d1 : decide (97 ≤ (s[k].toNat : Int)) = false := by rw [decide_eq_false_iff_not]; omega
          have d2 : decide (48 ≤ (s[k].toNat : Int)) = true := by rw [decide_eq_true_eq]; omega
          have d3 : decide ((s[k].toNat : Int) ≤ 57) = false := by rw [decide_eq_false_iff_not]; omega
          have l4 : 48 ≤ (s[k].toNat : Int) := by omega
          go_wp2
          go_ret
          exact ⟨ret_bool HO.out.symm, rfl⟩
        · have d1 : decide (97 ≤ (s[k].toNat : Int)) = true := by rw [decide_eq_true_eq]; omega
          have d2 : decide (48 ≤ (s[k].toNat : Int)) = true := by rw [decide_eq_true_eq]; omega
          have d3 : decide ((s[k].toNat : Int) ≤ 57) = false := by rw [decide_eq_false_iff_not]; omega
          have d4 : decide ((s[k].toNat : Int) ≤ 122) = false := by rw [decide_eq_false_iff_not]; omega
          have l2 : 97 ≤ (s[k].toNat : Int) := by omega
          have l3 : 57 < (s[k].toNat : Int) := by omega
          have l4 : 48 ≤ (s[k].toNat : Int) := by omega
          go_wp2
          go_ret
          exact ⟨ret_bool HO.out.symm, rfl⟩
    · obtain rfl : k = s.size := by omega
      by_cases h0 : s.size = 0
      · have HO : Hid (Wm.nm s = false) := Wm.nm_none s h0
        have l1 : (s.size : Int) < 1 := by omega
        clear HA h0
        go_wp2
        go_ret
        exact ⟨ret_bool HO.out.symm, rfl⟩
      · have HO : Hid (Wm.nm s = (decide (s.size ≤ 6) && !Wm.resv s.data.toList)) := rname_fin s (by omega) (fun j h => HA.out j h h)
        have l1 : 1 ≤ (s.size : Int) := by omega
        clear HA h0
        by_cases h6 : s.size ≤ 6
        · have l2 : (s.size : Int) ≤ 6 := by omega
          have HR : Hid (Wm.nm s = !Wm.resv s.data.toList) := by show _ = _; rw [HO.out]; simp [h6]
          have hre := resv_eq s
          have HRE : Hid _ := hre
          clear hre HO
          cases b1 : (s.toList == [105, 110, 112, 117, 116]) <;> cases b2 : (s.toList == [111, 117, 116, 112, 117, 116]) <;> cases b3 : (s.toList == [105, 102]) <;> cases b4 : (s.toList == [103, 111, 116, 111]) <;> cases b5 : (s.toList == [114, 101, 116, 117, 114, 110])
          all_goals
            have hv := HRE.out
            rw [b1, b2, b3, b4, b5] at hv
            have HV : Hid _ := hv
            clear hv HRE
            go_wp2
            go_ret
            refine ⟨ret_bool ?_, rfl⟩
            rw [HR.out, HV.out]
            try simp
        · have l2 : 6 < (s.size : Int) := by omega
          have HR : Hid (Wm.nm s = false) := by show _ = _; rw [HO.out]; simp [h6]
          clear HO
          go_wp2
          go_ret
          exact ⟨ret_bool HR.out.symm, rfl⟩
end Go.Proofs.YtmipbiligijcpaaGreatDoor
namespace Go.Proofs.YtmipbiligijcpaaGreatDoor
set_option linter.unusedVariables false
set_option linter.unusedSimpArgs false
open Go.RowKit Go.Proofs

theorem tdq (d : Int) (h0 : 0 ≤ d) (h9 : d ≤ 9) : (-9223372036854775808 + d).tdiv 10 = -((9223372036854775808 - d) / 10) := by
  rw [show (-9223372036854775808 + d) = -(9223372036854775808 - d) by omega, Int.neg_tdiv, Int.tdiv_eq_ediv_of_nonneg (by omega)]
theorem over_lt (m : Nat) (d : Int) (h0 : 0 ≤ d) (h9 : d ≤ 9) (h : 9223372036854775808 < 10 * (m : Int) + d) : -(m : Int) < (-9223372036854775808 + d).tdiv 10 := by
  rw [tdq d h0 h9]; omega
theorem fit_le (m : Nat) (d : Int) (h0 : 0 ≤ d) (h9 : d ≤ 9) (h : 10 * (m : Int) + d ≤ 9223372036854775808) : (-9223372036854775808 + d).tdiv 10 ≤ -(m : Int) := by
  rw [tdq d h0 h9]; omega
theorem wrapIn (n : Int) (h : -9223372036854775808 ≤ n ∧ n ≤ 9223372036854775807) : wrap64 n = n := by unfold wrap64; omega
theorem next_eq (m : Nat) (c : Int) (h0 : 48 ≤ c) (h9 : c ≤ 57) (h : 10 * (m : Int) + (c - 48) ≤ 9223372036854775808) : wrap64 (wrap64 (10 * -(m : Int)) - (c - 48)) = -((10 * m + (c - 48).toNat : Nat) : Int) := by
  have e1 : wrap64 (10 * -(m : Int)) = 10 * -(m : Int) := wrapIn _ (by omega)
  rw [e1, wrapIn _ (by omega)]
  omega
theorem no_lt (m : Nat) (d : Int) (h0 : 0 ≤ d) (h9 : d ≤ 9) (hq : -(m : Int) = (-9223372036854775808 + d).tdiv 10) (hl : wrap64 ((-9223372036854775808 + d).tdiv 10 * 10) < -9223372036854775808 + d) : False := by
  have e := tdq d h0 h9
  rw [e] at hl
  rw [wrapIn _ (by omega)] at hl
  omega
open Wm in
theorem cst_of (l D : List UInt8) (b : Bool) (hD : dg l = D) (hb : ng l = b) : cstL l = if numD b D then (if b then (if decV D ≤ 9223372036854775808 then some (-(decV D : Int)) else none) else if decV D < 9223372036854775808 then some (decV D : Int) else none) else none := by
  unfold cstL numL; rw [hD, hb]
open Wm in
theorem decF_snoc (a : Nat) (l : List UInt8) (c : UInt8) : decF a (l ++ [c]) = decF a l * 10 + (c.toNat - 48) := by unfold decF; rw [List.foldl_append]; rfl
open Wm in
theorem decF_app (a : Nat) (l r : List UInt8) : decF a (l ++ r) = decF (decF a l) r := by unfold decF; rw [List.foldl_append]
open Wm in
theorem dec_take (D : ByteArray) (k : Nat) (h : k < D.size) : decV (D.data.toList.take (k + 1)) = 10 * decV (D.data.toList.take k) + (D[k].toNat - 48) := by
  rw [take_snoc D k h]; unfold decV; rw [decF_snoc]; omega
open Wm in
theorem dec_ge (D : ByteArray) (k : Nat) : decV (D.data.toList.take k) ≤ decV D.data.toList := by
  have : D.data.toList = D.data.toList.take k ++ D.data.toList.drop k := (List.take_append_drop k _).symm
  rw [this]
  simp only [List.take_append_drop]
  unfold decV
  conv => rhs; rw [this, decF_app]
  exact decF_ge _ _
open Wm in
theorem pow_le : ∀ (r : List UInt8) (a : Nat), a * 10 ^ r.length ≤ decF a r := by
  intro r
  induction r with
  | nil => intro a; simp [decF]
  | cons c r ih =>
    intro a
    rw [decF_cons]
    have h := ih (a * 10 + (c.toNat - 48))
    rw [List.length_cons, Nat.pow_succ]
    refine Nat.le_trans ?_ h
    rw [show a * (10 ^ r.length * 10) = (a * 10) * 10 ^ r.length by rw [Nat.mul_comm (10 ^ r.length) 10, Nat.mul_assoc]]
    exact Nat.mul_le_mul_right _ (by omega)
open Wm in
theorem long_none (D : ByteArray) (b : Bool) (h : 19 < D.size) (hn : numD b D.data.toList = true) : 9223372036854775808 < decV D.data.toList := by
  have hc := cons_data D (by omega)
  have hl := len_data D
  rw [hc] at hn hl ⊢
  simp only [List.length_cons] at hl
  simp only [numD, Bool.and_eq_true] at hn
  have hd : digB D[0] = true := by have := hn.1; simp only [List.all_cons, Bool.and_eq_true] at this; exact this.1
  have h48 : D[0].toNat ≠ 48 := by
    intro e
    have := hn.2
    rw [e] at this
    simp at this
    omega
  have hdi := (digB_iff _).1 hd
  unfold decV
  rw [decF_cons]
  have hp := pow_le (D.data.toList.drop 1) (0 * 10 + (D[0].toNat - 48))
  have h1 : 1 ≤ D[0].toNat - 48 := by omega
  have h2 : 10 ^ 19 ≤ 10 ^ (D.data.toList.drop 1).length := Nat.pow_le_pow_right (by omega) (by omega)
  have h3 : 10 ^ (D.data.toList.drop 1).length ≤ (0 * 10 + (D[0].toNat - 48)) * 10 ^ (D.data.toList.drop 1).length := by
    have := Nat.mul_le_mul_right (10 ^ (D.data.toList.drop 1).length) (show 1 ≤ 0 * 10 + (D[0].toNat - 48) by omega)
    simpa using this
  have h4 : (10 : Nat) ^ 19 = 10000000000000000000 := by decide
  omega
end Go.Proofs.YtmipbiligijcpaaGreatDoor
namespace Go.Proofs.YtmipbiligijcpaaGreatDoor
set_option linter.unusedVariables false
set_option linter.unusedSimpArgs false
open Go.RowKit Go.Proofs

theorem extract_tail (s : ByteArray) : (s.extract 1 s.size).data.toList = s.data.toList.drop 1 := Lib.extract_to_end s 1

set_option maxHeartbeats 4000000 in
set_option maxRecDepth 100000 in
theorem rconst_neg (s : ByteArray) (w : World) (hs : s.size ≤ 3000) (h0 : 0 < s.size) (hm : ((s[0].toNat : Int) == 45) = true) :
    Calls Tryz.prog 246 #[.string s] w fun e w' => e = .returned (.tuple #[.int .i64 (cstV s.data.toList), .bool (cstB s.data.toList)]) ∧ w' = w := by
  have l0 : (0 : Int) < (s.size : Int) := by omega
  have e0 : ((s.size : Int) == 0) = false := by rw [beq_eq_false_iff_ne]; omega
  obtain ⟨D, hDe⟩ : ∃ D, s.extract 1 s.size = D := ⟨_, rfl⟩
  have hc45 : s[0] = 45 := by rw [beq_iff_eq] at hm; exact UInt8.toNat_inj.1 (by simpa using (by omega : s[0].toNat = 45))
  have hcd := Wm.cons_data s h0
  have hDl : D.data.toList = s.data.toList.drop 1 := by rw [← hDe, extract_tail]
  have HC : Hid (Wm.cstL s.data.toList = _) := cst_of s.data.toList D.data.toList true (by rw [hcd, hc45, Wm.dg_neg, hDl]) (by rw [hcd, hc45]; exact Wm.ng_neg _)
  have hDz : D.size ≤ 3000 := by have h1 := congrArg List.length hDl; rw [List.length_drop] at h1; have h2 := Wm.len_data D; have h3 := Wm.len_data s; omega
  have hs0 : (s.toList == [48]) = false := by
    rw [beq_eq_false_iff_ne, ByteArray.toList_eq, hcd, hc45]; simp
  clear hcd hc45 hDl
  by_cases hd0 : D.size = 0
  · have HN : Hid (Wm.cstL s.data.toList = none) := by show _ = _; rw [HC.out, numD_empty D true hd0]; rfl
    have x1 : ((D.size : Int) == 0) = true := by rw [beq_iff_eq]; omega
    clear HC hd0
    go_enter Tryz.func246, Tryz.ntmps246
    go_wp2
    go_ret2
    exact ⟨ret_ib (by simp [cstV, HN.out]) (by simp [cstB, HN.out]), rfl⟩
  have hd1 : 0 < D.size := by omega
  have x1 : ((D.size : Int) == 0) = false := by rw [beq_eq_false_iff_ne]; omega
  have xl : (0 : Int) < (D.size : Int) := by omega
  by_cases hd19 : 19 < D.size
  · have HN : Hid (Wm.cstL s.data.toList = none) := by
      show _ = _
      rw [HC.out]
      split
      · rename_i hnd
        have := long_none D true hd19 hnd
        simp; omega
      · rfl
    have x2 : decide (19 < (D.size : Int)) = true := by rw [decide_eq_true_eq]; omega
    clear HC hd0 hd19
    go_enter Tryz.func246, Tryz.ntmps246
    go_wp2
    go_ret2
    exact ⟨ret_ib (by simp [cstV, HN.out]) (by simp [cstB, HN.out]), rfl⟩
  have x2 : decide (19 < (D.size : Int)) = false := by rw [decide_eq_false_iff_not]; omega
  by_cases hz : D[0].toNat = 48
  · have HN : Hid (Wm.cstL s.data.toList = none) := by
      show _ = _
      have h7 : Wm.numD true D.data.toList = false := by rw [Wm.cons_data D hd1]; simp [Wm.numD, hz]
      rw [HC.out, h7]; rfl
    have x3 : ((D[0].toNat : Int) == 48) = true := by rw [beq_iff_eq]; omega
    clear HC hd0 hd19
    go_enter Tryz.func246, Tryz.ntmps246
    go_wp2
    go_ret2
    exact ⟨ret_ib (by simp [cstV, HN.out]) (by simp [cstB, HN.out]), rfl⟩
  have x3 : ((D[0].toNat : Int) == 48) = false := by rw [beq_eq_false_iff_ne]; omega
  have HZ : Hid ((if D[0].toNat == 48 then decide (D.size = 1) && !true else true) = true) := by show _ = _; simp [hz]
  clear hd0 hd19
  go_enter Tryz.func246, Tryz.ntmps246
  go_wp2
  go_loop [6, 7] (fun n i => ∃ (k m : Nat), k ≤ D.size ∧ i = .int .i64 k ∧ n = .int .i64 (-(m : Int)) ∧ m ≤ 9223372036854775808 ∧ Hid (m = Wm.decV (D.data.toList.take k) ∧ (D.data.toList.take k).all Wm.digB = true)) (fun _ i => D.size - (intOf i).toNat)
  case atStart => exact ⟨0, 0, Nat.zero_le _, rfl, rfl, by omega, by show _ ∧ _; simp [Wm.decV, Wm.decF]⟩
  case round =>
    obtain ⟨k, m, hk, rfl, rfl, hm9, HM⟩ := hrel
    by_cases hlt : k < D.size
    · have hlti : (k : Int) < (D.size : Int) := by omega
      by_cases hdg : 48 ≤ (D[k].toNat : Int) ∧ (D[k].toNat : Int) ≤ 57
      · have HD : Hid (Wm.digB D[k] = true) := (Wm.digB_iff _).2 (by omega)
        have HT := (show Hid _ from dec_take D k hlt)
        obtain ⟨c1, c2⟩ := hdg
        by_cases hov : 9223372036854775808 < 10 * (m : Int) + ((D[k].toNat : Int) - 48)
        · have t1 := over_lt m ((D[k].toNat : Int) - 48) (by omega) (by omega) hov
          have HN : Hid (Wm.cstL s.data.toList = none) := by
            show _ = _
            rw [HC.out]
            have h1 := dec_ge D (k + 1)
            have h2 := HT.out
            have h3 := HM.out.1
            have h4 : 9223372036854775808 < Wm.decV D.data.toList := by omega
            split
            · simp; omega
            · rfl
          clear HC hov HM HT
          go_wp2
          go_ret2
          exact ⟨ret_ib (by simp [cstV, HN.out]) (by simp [cstB, HN.out]), rfl⟩
        · have hfit : 10 * (m : Int) + ((D[k].toNat : Int) - 48) ≤ 9223372036854775808 := by omega
          have t1 := fit_le m ((D[k].toNat : Int) - 48) (by omega) (by omega) hfit
          have HF : Hid (wrap64 (wrap64 (10 * -(m : Int)) - ((D[k].toNat : Int) - 48)) = -((10 * m + ((D[k].toNat : Int) - 48).toNat : Nat) : Int)) := next_eq m D[k].toNat c1 c2 hfit
          have HX : Hid (10 * m + ((D[k].toNat : Int) - 48).toNat = Wm.decV (D.data.toList.take (k + 1)) ∧ (D.data.toList.take (k + 1)).all Wm.digB = true ∧ 10 * m + ((D[k].toNat : Int) - 48).toNat ≤ 9223372036854775808) := by
            show _ ∧ _ ∧ _
            have h2 := HT.out
            have h3 := HM.out
            refine ⟨by omega, ?_, by omega⟩
            rw [Wm.all_take D k _ hlt, h3.2, HD.out]; rfl
          clear hov HM HT hfit
          go_wp2
          all_goals first
            | (exfalso; exact no_lt m ((D[k].toNat : Int) - 48) (by omega) (by omega) (by assumption) (by assumption))
            | skip
          all_goals
            refine ⟨⟨k + 1, 10 * m + ((D[k].toNat : Int) - 48).toNat, by omega, by go_num, ?_, HX.out.2.2, ⟨HX.out.1, HX.out.2.1⟩⟩, by simp [intOf]; omega⟩
            first
              | exact congrArg (Value.int IntKind.i64) HF.out
              | (have hq : -(m : Int) = (-9223372036854775808 + ((D[k].toNat : Int) - 48)).tdiv 10 := by assumption
                 have h8 := HF.out
                 rw [hq] at h8
                 exact congrArg (Value.int IntKind.i64) h8)
      · have HN : Hid (Wm.cstL s.data.toList = none) := by
          show _ = _
          rw [HC.out, numD_bad D true k hlt (by cases e : Wm.digB D[k] with | false => rfl | true => exfalso; have := (Wm.digB_iff _).1 e; omega)]
          rfl
        clear HC HM
        have h2 : (D[k].toNat : Int) < 48 ∨ 57 < (D[k].toNat : Int) := by omega
        clear hdg
        rcases h2 with c1 | c1
        · go_wp2
          go_ret2
          exact ⟨ret_ib (by simp [cstV, HN.out]) (by simp [cstB, HN.out]), rfl⟩
        · have c2 : 48 ≤ (D[k].toNat : Int) := by omega
          go_wp2
          go_ret2
          exact ⟨ret_ib (by simp [cstV, HN.out]) (by simp [cstB, HN.out]), rfl⟩
    · obtain rfl : k = D.size := by omega
      have hall := HM.out.2
      have hval := HM.out.1
      have hN2 := numD_end D true hd1 hall
      rw [HZ.out] at hN2
      rw [List.take_of_length_le (by rw [Wm.len_data]; exact Nat.le_refl _)] at hval
      have hcc := HC.out
      rw [hN2, ← hval] at hcc
      have HN : Hid (Wm.cstL s.data.toList = some (-(m : Int))) := by show _ = _; rw [hcc]; simp [hm9]
      clear HC HM hall hval hN2 hcc HZ
      go_wp2
      go_ret2
      exact ⟨ret_ib (by simp [cstV, HN.out]) (by simp [cstB, HN.out]), rfl⟩
end Go.Proofs.YtmipbiligijcpaaGreatDoor
namespace Go.Proofs.YtmipbiligijcpaaGreatDoor
set_option linter.unusedVariables false
set_option linter.unusedSimpArgs false
open Go.RowKit Go.Proofs

set_option maxHeartbeats 4000000 in
set_option maxRecDepth 100000 in
theorem rconst_pos (s : ByteArray) (w : World) (hs : s.size ≤ 3000) (h0 : 0 < s.size) (hm : ((s[0].toNat : Int) == 45) = false) :
    Calls Tryz.prog 246 #[.string s] w fun e w' => e = .returned (.tuple #[.int .i64 (cstV s.data.toList), .bool (cstB s.data.toList)]) ∧ w' = w := by
  have l0 : (0 : Int) < (s.size : Int) := by omega
  have e0 : ((s.size : Int) == 0) = false := by rw [beq_eq_false_iff_ne]; omega
  have hc45 : s[0] ≠ 45 := by rw [beq_eq_false_iff_ne] at hm; intro e; rw [e] at hm; exact hm rfl
  have hcd := Wm.cons_data s h0
  have HC : Hid (Wm.cstL s.data.toList = _) := cst_of s.data.toList s.data.toList false (by rw [hcd]; exact Wm.dg_pos _ _ hc45) (by rw [hcd]; exact Wm.ng_pos _ _ hc45)
  have hDz : s.size ≤ 3000 := hs
  clear hcd hc45
  by_cases hd0 : s.size = 0
  · exact absurd hd0 (by omega)
  have hd1 : 0 < s.size := by omega
  have x1 : ((s.size : Int) == 0) = false := by rw [beq_eq_false_iff_ne]; omega
  have xl : (0 : Int) < (s.size : Int) := by omega
  by_cases hd19 : 19 < s.size
  · have HN : Hid (Wm.cstL s.data.toList = none) := by
      show _ = _
      rw [HC.out]
      split
      · rename_i hnd
        have := long_none s false hd19 hnd
        simp; omega
      · rfl
    have x2 : decide (19 < (s.size : Int)) = true := by rw [decide_eq_true_eq]; omega
    clear HC hd0 hd19
    go_enter Tryz.func246, Tryz.ntmps246
    go_wp2
    go_ret2
    exact ⟨ret_ib (by simp [cstV, HN.out]) (by simp [cstB, HN.out]), rfl⟩
  have x2 : decide (19 < (s.size : Int)) = false := by rw [decide_eq_false_iff_not]; omega
  by_cases hz : s[0].toNat = 48 ∧ s.size ≠ 1
  · obtain ⟨hz, hz1⟩ := hz
    have HN : Hid (Wm.cstL s.data.toList = none) := by
      show _ = _
      have hcd := Wm.cons_data s h0
      have hl := Wm.len_data s
      rw [HC.out]
      have : Wm.numD false s.data.toList = false := by
        rw [hcd] at hl ⊢
        simp only [List.length_cons] at hl
        simp only [Wm.numD, hz]
        simp
        intros
        omega
      rw [this]; rfl
    have hs0 : (s.toList == [48]) = false := by
      rw [beq_eq_false_iff_ne, ByteArray.toList_eq]
      intro e
      have := congrArg List.length e
      rw [Wm.len_data] at this
      exact hz1 this
    have x3 : ((s[0].toNat : Int) == 48) = true := by rw [beq_iff_eq]; omega
    clear HC hd0 hd19
    go_enter Tryz.func246, Tryz.ntmps246
    go_wp2
    go_ret2
    exact ⟨ret_ib (by simp [cstV, HN.out]) (by simp [cstB, HN.out]), rfl⟩
  have HZ : Hid ((if s[0].toNat == 48 then decide (s.size = 1) && !false else true) = true) := by
    show _ = _
    by_cases h : s[0].toNat = 48
    · have : s.size = 1 := by
        rcases Nat.eq_or_lt_of_le (show 1 ≤ s.size by omega) with h1 | h1
        · exact h1.symm
        · exact absurd ⟨h, by omega⟩ hz
      simp [h, this]
    · simp [h]
  have h48 : ((s[0].toNat : Int) == 48) = false ∨ ((s[0].toNat : Int) == 48) = true ∧ (s.toList == [48]) = true := by
    by_cases h : s[0].toNat = 48
    · right
      refine ⟨by rw [beq_iff_eq]; omega, ?_⟩
      have h1 : s.size = 1 := by
        rcases Nat.eq_or_lt_of_le (show 1 ≤ s.size by omega) with h1 | h1
        · exact h1.symm
        · exact absurd ⟨h, by omega⟩ hz
      rw [beq_iff_eq, ByteArray.toList_eq, Wm.cons_data s h0]
      have : s.data.toList.drop 1 = [] := List.drop_eq_nil_of_le (by rw [Wm.len_data]; omega)
      rw [this]
      have e : s[0] = 48 := UInt8.toNat_inj.1 (by simpa using h)
      rw [e]
    · left; rw [beq_eq_false_iff_ne]; omega
  clear hz
  rcases h48 with x3 | ⟨x3, x4⟩
  all_goals
    clear hd0 hd19
    go_enter Tryz.func246, Tryz.ntmps246
    go_wp2
    go_loop [6, 7] (fun n i => ∃ (k m : Nat), k ≤ s.size ∧ i = .int .i64 k ∧ n = .int .i64 (-(m : Int)) ∧ m ≤ 9223372036854775808 ∧ Hid (m = Wm.decV (s.data.toList.take k) ∧ (s.data.toList.take k).all Wm.digB = true)) (fun _ i => s.size - (intOf i).toNat)
    case atStart => exact ⟨0, 0, Nat.zero_le _, rfl, rfl, by omega, by show _ ∧ _; simp [Wm.decV, Wm.decF]⟩
    case round =>
      obtain ⟨k, m, hk, rfl, rfl, hm9, HM⟩ := hrel
      by_cases hlt : k < s.size
      · have hlti : (k : Int) < (s.size : Int) := by omega
        by_cases hdg : 48 ≤ (s[k].toNat : Int) ∧ (s[k].toNat : Int) ≤ 57
        · have HD : Hid (Wm.digB s[k] = true) := (Wm.digB_iff _).2 (by omega)
          have HT := (show Hid _ from dec_take s k hlt)
          obtain ⟨c1, c2⟩ := hdg
          by_cases hov : 9223372036854775808 < 10 * (m : Int) + ((s[k].toNat : Int) - 48)
          · have t1 := over_lt m ((s[k].toNat : Int) - 48) (by omega) (by omega) hov
            have HN : Hid (Wm.cstL s.data.toList = none) := by
              show _ = _
              rw [HC.out]
              have h1 := dec_ge s (k + 1)
              have h2 := HT.out
              have h3 := HM.out.1
              have h4 : 9223372036854775808 < Wm.decV s.data.toList := by omega
              split
              · simp; omega
              · rfl
            clear HC hov HM HT
            go_wp2
            go_ret2
            exact ⟨ret_ib (by simp [cstV, HN.out]) (by simp [cstB, HN.out]), rfl⟩
          · have hfit : 10 * (m : Int) + ((s[k].toNat : Int) - 48) ≤ 9223372036854775808 := by omega
            have t1 := fit_le m ((s[k].toNat : Int) - 48) (by omega) (by omega) hfit
            have HF : Hid (wrap64 (wrap64 (10 * -(m : Int)) - ((s[k].toNat : Int) - 48)) = -((10 * m + ((s[k].toNat : Int) - 48).toNat : Nat) : Int)) := next_eq m s[k].toNat c1 c2 hfit
            have HX : Hid (10 * m + ((s[k].toNat : Int) - 48).toNat = Wm.decV (s.data.toList.take (k + 1)) ∧ (s.data.toList.take (k + 1)).all Wm.digB = true ∧ 10 * m + ((s[k].toNat : Int) - 48).toNat ≤ 9223372036854775808) := by
              show _ ∧ _ ∧ _
              have h2 := HT.out
              have h3 := HM.out
              refine ⟨by omega, ?_, by omega⟩
              rw [Wm.all_take s k _ hlt, h3.2, HD.out]; rfl
            clear hov HM HT hfit
            go_wp2
            all_goals first
              | (exfalso; exact no_lt m ((s[k].toNat : Int) - 48) (by omega) (by omega) (by assumption) (by assumption))
              | skip
            all_goals
              refine ⟨⟨k + 1, 10 * m + ((s[k].toNat : Int) - 48).toNat, by omega, by go_num, ?_, HX.out.2.2, ⟨HX.out.1, HX.out.2.1⟩⟩, by simp [intOf]; omega⟩
              first
                | exact congrArg (Value.int IntKind.i64) HF.out
                | (have hq : -(m : Int) = (-9223372036854775808 + ((s[k].toNat : Int) - 48)).tdiv 10 := by assumption
                   have h8 := HF.out
                   rw [hq] at h8
                   exact congrArg (Value.int IntKind.i64) h8)
        · have HN : Hid (Wm.cstL s.data.toList = none) := by
            show _ = _
            rw [HC.out, numD_bad s false k hlt (by cases e : Wm.digB s[k] with | false => rfl | true => exfalso; have := (Wm.digB_iff _).1 e; omega)]
            rfl
          clear HC HM
          have h2 : (s[k].toNat : Int) < 48 ∨ 57 < (s[k].toNat : Int) := by omega
          clear hdg
          rcases h2 with c1 | c1
          · go_wp2
            go_ret2
            exact ⟨ret_ib (by simp [cstV, HN.out]) (by simp [cstB, HN.out]), rfl⟩
          · have c2 : 48 ≤ (s[k].toNat : Int) := by omega
            go_wp2
            go_ret2
            exact ⟨ret_ib (by simp [cstV, HN.out]) (by simp [cstB, HN.out]), rfl⟩
      · obtain rfl : k = s.size := by omega
        have hall := HM.out.2
        have hval := HM.out.1
        have hN2 := numD_end s false hd1 hall
        rw [HZ.out] at hN2
        rw [List.take_of_length_le (by rw [Wm.len_data]; exact Nat.le_refl _)] at hval
        have hcc := HC.out
        rw [hN2, ← hval] at hcc
        by_cases hl : m = 9223372036854775808
        · have HN : Hid (Wm.cstL s.data.toList = none) := by show _ = _; rw [hcc]; simp [hl]
          have HL : Hid (m = 9223372036854775808) := hl
          have y1 : ((-(m : Int)) == -9223372036854775808) = true := by rw [beq_iff_eq]; omega
          clear HC HM hall hval hN2 hcc HZ hl
          go_wp2
          go_ret2
          exact ⟨ret_ib (by simp [cstV, HN.out]) (by simp [cstB, HN.out]), rfl⟩
        · have hlt2 : m < 9223372036854775808 := by omega
          have HN : Hid (Wm.cstL s.data.toList = some (m : Int)) := by show _ = _; rw [hcc]; simp [hlt2]
          have y1 : ((-(m : Int)) == -9223372036854775808) = false := by rw [beq_eq_false_iff_ne]; omega
          clear HC HM hall hval hN2 hcc HZ hl
          go_wp2
          go_ret2
          refine ⟨ret_ib ?_ (by simp [cstB, HN.out]), rfl⟩
          simp [cstV, HN.out]
end Go.Proofs.YtmipbiligijcpaaGreatDoor
