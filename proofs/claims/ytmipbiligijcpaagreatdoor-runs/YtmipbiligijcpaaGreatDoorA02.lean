/- A part of the proof: contracts of functions of the program. -/
import Derived.Test.YtmipbiligijcpaaGreatDoorA01
namespace Go.Proofs.YtmipbiligijcpaaGreatDoor
set_option linter.unusedVariables false
set_option linter.unusedSimpArgs false
open Go.RowKit Go.Proofs

theorem letInt (c : UInt8) : Wm.letB c = (decide (97 ≤ (c.toNat : Int)) && decide ((c.toNat : Int) ≤ 122)) := by
  unfold Wm.letB; rw [Bool.eq_iff_iff]; simp; omega
theorem digInt (c : UInt8) : Wm.digB c = (decide (48 ≤ (c.toNat : Int)) && decide ((c.toNat : Int) ≤ 57)) := by
  unfold Wm.digB; rw [Bool.eq_iff_iff]; simp; omega
/-- what name asks of the byte at i -/
def okAt (s : ByteArray) (k : Nat) (h : k < s.size) : Bool := Wm.letB s[k] || (Wm.digB s[k] && decide (k ≠ 0))
theorem rname_fin (s : ByteArray) (h0 : 0 < s.size) (ha : ∀ j (h : j < s.size), okAt s j h = true) : Wm.nm s = (decide (s.size ≤ 6) && !Wm.resv s.data.toList) := by
  have hh : Wm.letB s[0] = true := by have := ha 0 h0; simpa [okAt] using this
  have hall : s.data.toList.all Wm.wrdB = true := by
    rw [List.all_eq_true]
    intro x hx
    obtain ⟨j, hj, rfl⟩ := List.getElem_of_mem hx
    have hj' : j < s.size := by rw [← Wm.len_data s]; exact hj
    have := ha j hj'
    have e : s.data.toList[j] = s[j] := rfl
    rw [e]
    unfold okAt at this
    unfold Wm.wrdB
    cases h1 : Wm.letB s[j] with
    | true => simp
    | false => rw [h1] at this; simp at this; simp [this.1]
  rw [Wm.nm_eq s h0, hh, hall]; simp
theorem rname_bad (s : ByteArray) (k : Nat) (h : k < s.size) (hb : okAt s k h = false) : Wm.nm s = false := by
  unfold okAt at hb
  simp only [Bool.or_eq_false_iff, Bool.and_eq_false_iff] at hb
  rcases hb.2 with hd | hk
  · exact Wm.nm_bad s k h (by simp [Wm.wrdB, hb.1, hd])
  · have : k = 0 := by simpa using hk
    subst this
    exact Wm.nm_head s h hb.1
theorem resv_eq (s : ByteArray) : Wm.resv s.data.toList = (s.toList == [105, 110, 112, 117, 116] || s.toList == [111, 117, 116, 112, 117, 116] || s.toList == [105, 102] || s.toList == [103, 111, 116, 111] || s.toList == [114, 101, 116, 117, 114, 110]) := by
  rw [ByteArray.toList_eq]; rfl

set_option maxHeartbeats 4000000 in
set_option maxRecDepth 100000 in
theorem rname_any (s : ByteArray) (w : World) (hs : s.size ≤ 3000) :
    Calls Tryz.prog 68 #[.string s] w fun e w' => e = .returned (.bool (Wm.nm s)) ∧ w' = w := by
  go_enter Tryz.func68, Tryz.ntmps68
  go_wp2
  go_loop [3] (fun i => ∃ k : Nat, k ≤ s.size ∧ i = .int .i64 k ∧ Hid (∀ j (h : j < s.size), j < k → okAt s j h = true)) (fun i => s.size - (intOf i).toNat)
  case atStart => exact ⟨0, Nat.zero_le _, rfl, by show ∀ j h, _; intro j h hj; omega⟩
  case round =>
    obtain ⟨k, hk, rfl, HA⟩ := hrel
    by_cases hlt : k < s.size
    · have hlti : (k : Int) < (s.size : Int) := by omega
      have step : okAt s k hlt = true → ∀ j (h : j < s.size), j < k + 1 → okAt s j h = true := by
        intro hok j h hj
        by_cases e : j = k
        · subst e; exact hok
        · exact HA.out j h (by omega)
      have HST : Hid (okAt s k hlt = true → ∀ j (h : j < s.size), j < k + 1 → okAt s j h = true) := step
      clear step
      by_cases hL : 97 ≤ (s[k].toNat : Int) ∧ (s[k].toNat : Int) ≤ 122
      · have HO : Hid (okAt s k hlt = true) := by show _ = _; unfold okAt; rw [letInt]; simp [hL]
        obtain ⟨l1, l2⟩ := hL
        go_wp2
        go_round
        case rel => exact ⟨k + 1, by omega, by go_num, HST.out HO.out⟩
        case measure => simp [intOf]; omega
      by_cases hD : 48 ≤ (s[k].toNat : Int) ∧ (s[k].toNat : Int) ≤ 57
      · by_cases hk0 : k = 0
        · have HO : Hid (Wm.nm s = false) := rname_bad s k hlt (by unfold okAt; rw [letInt]; simp; omega)
          have hki : ((k : Int) == 0) = true := by rw [beq_iff_eq]; omega
          obtain ⟨l1, l2⟩ := hD
          have l3 : (s[k].toNat : Int) < 97 := by omega
          clear hL hk0
          go_wp2
          go_ret
          exact ⟨ret_bool HO.out.symm, rfl⟩
        · have HO : Hid (okAt s k hlt = true) := by show _ = _; unfold okAt; rw [digInt]; simp [hD, hk0]
          have hki : ((k : Int) == 0) = false := by rw [beq_eq_false_iff_ne]; omega
          obtain ⟨l1, l2⟩ := hD
          have l3 : (s[k].toNat : Int) < 97 := by omega
          clear hL hk0
          go_wp2
          go_round
          case rel => exact ⟨k + 1, by omega, by go_num, HST.out HO.out⟩
          case measure => simp [intOf]; omega
      · have HO : Hid (Wm.nm s = false) := rname_bad s k hlt (by unfold okAt; rw [letInt, digInt]; simp; omega)
        have h3 : (s[k].toNat : Int) < 48 ∨ (57 < (s[k].toNat : Int) ∧ (s[k].toNat : Int) < 97) ∨ 122 < (s[k].toNat : Int) := by omega
        clear hL hD
        rcases h3 with l1 | ⟨l1, l2⟩ | l1
        · have d1 : decide (97 ≤ (s[k].toNat : Int)) = false := by rw [decide_eq_false_iff_not]; omega
          have d2 : decide (48 ≤ (s[k].toNat : Int)) = false := by rw [decide_eq_false_iff_not]; omega
          have l2 : (s[k].toNat : Int) < 97 := by omega
          go_wp2
          go_ret
          exact ⟨ret_bool HO.out.symm, rfl⟩
        · have d1 : decide (97 ≤ (s[k].toNat : Int)) = false := by rw [decide_eq_false_iff_not]; omega
          have d2 : decide (48 ≤ (s[k].toNat : Int)) = true := by rw [decide_eq_true_eq]; omega
          have d3 : decide ((s[k].toNat : Int) ≤ 57) = false := by rw [decide_eq_false_iff_not]; omega
          have l4 : 48 ≤ (s[k].toNat : Int) := by omega
          go_wp2
          go_ret
          exact ⟨ret_bool HO.out.symm, rfl⟩
        · have d1 : decide (97 ≤ (s[k].toNat : Int)) = true := by rw [decide_eq_true_eq]; omega
          have d2 : decide (48 ≤ (s[k].toNat : Int)) = true := by rw [decide_eq_true_eq]; omega
          have d3 : decide ((s[k].toNat : Int) ≤ 57) = false := by rw [decide_eq_false_iff_not]; omega
          have d4 : decide ((s[k].toNat : Int) ≤ 122) = false := by rw [decide_eq_false_iff_not]; omega
          have l2 : 97 ≤ (s[k].toNat : Int) := by omega
          have l3 : 57 < (s[k].toNat : Int) := by omega
          have l4 : 48 ≤ (s[k].toNat : Int) := by omega
          go_wp2
          go_ret
          exact ⟨ret_bool HO.out.symm, rfl⟩
    · obtain rfl : k = s.size := by omega
      by_cases h0 : s.size = 0
      · have HO : Hid (Wm.nm s = false) := Wm.nm_none s h0
        have l1 : (s.size : Int) < 1 := by omega
        clear HA h0
        go_wp2
        go_ret
        exact ⟨ret_bool HO.out.symm, rfl⟩
      · have HO : Hid (Wm.nm s = (decide (s.size ≤ 6) && !Wm.resv s.data.toList)) := rname_fin s (by omega) (fun j h => HA.out j h h)
        have l1 : 1 ≤ (s.size : Int) := by omega
        clear HA h0
        by_cases h6 : s.size ≤ 6
        · have l2 : (s.size : Int) ≤ 6 := by omega
          have HR : Hid (Wm.nm s = !Wm.resv s.data.toList) := by show _ = _; rw [HO.out]; simp [h6]
          have hre := resv_eq s
          have HRE : Hid _ := hre
          clear hre HO
          cases b1 : (s.toList == [105, 110, 112, 117, 116]) <;> cases b2 : (s.toList == [111, 117, 116, 112, 117, 116]) <;> cases b3 : (s.toList == [105, 102]) <;> cases b4 : (s.toList == [103, 111, 116, 111]) <;> cases b5 : (s.toList == [114, 101, 116, 117, 114, 110])
          all_goals
            have hv := HRE.out
            rw [b1, b2, b3, b4, b5] at hv
            have HV : Hid _ := hv
            clear hv HRE
            go_wp2
            go_ret
            refine ⟨ret_bool ?_, rfl⟩
            rw [HR.out, HV.out]
            try simp
        · have l2 : 6 < (s.size : Int) := by omega
          have HR : Hid (Wm.nm s = false) := by show _ = _; rw [HO.out]; simp [h6]
          clear HO
          go_wp2
          go_ret
          exact ⟨ret_bool HR.out.symm, rfl⟩
end Go.Proofs.YtmipbiligijcpaaGreatDoor
namespace Go.Proofs.YtmipbiligijcpaaGreatDoor
set_option linter.unusedVariables false
set_option linter.unusedSimpArgs false
open Go.RowKit Go.Proofs

theorem tdq (d : Int) (h0 : 0 ≤ d) (h9 : d ≤ 9) : (-9223372036854775808 + d).tdiv 10 = -((9223372036854775808 - d) / 10) := by
  rw [show (-9223372036854775808 + d) = -(9223372036854775808 - d) by omega, Int.neg_tdiv, Int.tdiv_eq_ediv_of_nonneg (by omega)]
theorem over_lt (m : Nat) (d : Int) (h0 : 0 ≤ d) (h9 : d ≤ 9) (h : 9223372036854775808 < 10 * (m : Int) + d) : -(m : Int) < (-9223372036854775808 + d).tdiv 10 := by
  rw [tdq d h0 h9]; omega
theorem fit_le (m : Nat) (d : Int) (h0 : 0 ≤ d) (h9 : d ≤ 9) (h : 10 * (m : Int) + d ≤ 9223372036854775808) : (-9223372036854775808 + d).tdiv 10 ≤ -(m : Int) := by
  rw [tdq d h0 h9]; omega
theorem wrapIn (n : Int) (h : -9223372036854775808 ≤ n ∧ n ≤ 9223372036854775807) : wrap64 n = n := by unfold wrap64; omega
theorem next_eq (m : Nat) (c : Int) (h0 : 48 ≤ c) (h9 : c ≤ 57) (h : 10 * (m : Int) + (c - 48) ≤ 9223372036854775808) : wrap64 (wrap64 (10 * -(m : Int)) - (c - 48)) = -((10 * m + (c - 48).toNat : Nat) : Int) := by
  have e1 : wrap64 (10 * -(m : Int)) = 10 * -(m : Int) := wrapIn _ (by omega)
  rw [e1, wrapIn _ (by omega)]
  omega
theorem no_lt (m : Nat) (d : Int) (h0 : 0 ≤ d) (h9 : d ≤ 9) (hq : -(m : Int) = (-9223372036854775808 + d).tdiv 10) (hl : wrap64 ((-9223372036854775808 + d).tdiv 10 * 10) < -9223372036854775808 + d) : False := by
  have e := tdq d h0 h9
  rw [e] at hl
  rw [wrapIn _ (by omega)] at hl
  omega
open Wm in
theorem cst_of (l D : List UInt8) (b : Bool) (hD : dg l = D) (hb : ng l = b) : cstL l = if numD b D then (if b then (if decV D ≤ 9223372036854775808 then some (-(decV D : Int)) else none) else if decV D < 9223372036854775808 then some (decV D : Int) else none) else none := by
  unfold cstL numL; rw [hD, hb]
open Wm in
theorem decF_snoc (a : Nat) (l : List UInt8) (c : UInt8) : decF a (l ++ [c]) = decF a l * 10 + (c.toNat - 48) := by unfold decF; rw [List.foldl_append]; rfl
open Wm in
theorem decF_app (a : Nat) (l r : List UInt8) : decF a (l ++ r) = decF (decF a l) r := by unfold decF; rw [List.foldl_append]
open Wm in
theorem dec_take (D : ByteArray) (k : Nat) (h : k < D.size) : decV (D.data.toList.take (k + 1)) = 10 * decV (D.data.toList.take k) + (D[k].toNat - 48) := by
  rw [take_snoc D k h]; unfold decV; rw [decF_snoc]; omega
open Wm in
theorem dec_ge (D : ByteArray) (k : Nat) : decV (D.data.toList.take k) ≤ decV D.data.toList := by
  have : D.data.toList = D.data.toList.take k ++ D.data.toList.drop k := (List.take_append_drop k _).symm
  rw [this]
  simp only [List.take_append_drop]
  unfold decV
  conv => rhs; rw [this, decF_app]
  exact decF_ge _ _
open Wm in
theorem pow_le : ∀ (r : List UInt8) (a : Nat), a * 10 ^ r.length ≤ decF a r := by
  intro r
  induction r with
  | nil => intro a; simp [decF]
  | cons c r ih =>
    intro a
    rw [decF_cons]
    have h := ih (a * 10 + (c.toNat - 48))
    rw [List.length_cons, Nat.pow_succ]
    refine Nat.le_trans ?_ h
    rw [show a * (10 ^ r.length * 10) = (a * 10) * 10 ^ r.length by rw [Nat.mul_comm (10 ^ r.length) 10, Nat.mul_assoc]]
    exact Nat.mul_le_mul_right _ (by omega)
open Wm in
theorem long_none (D : ByteArray) (b : Bool) (h : 19 < D.size) (hn : numD b D.data.toList = true) : 9223372036854775808 < decV D.data.toList := by
  have hc := cons_data D (by omega)
  have hl := len_data D
  rw [hc] at hn hl ⊢
  simp only [List.length_cons] at hl
  simp only [numD, Bool.and_eq_true] at hn
  have hd : digB D[0] = true := by have := hn.1; simp only [List.all_cons, Bool.and_eq_true] at this; exact this.1
  have h48 : D[0].toNat ≠ 48 := by
    intro e
    have := hn.2
    rw [e] at this
    simp at this
    omega
  have hdi := (digB_iff _).1 hd
  unfold decV
  rw [decF_cons]
  have hp := pow_le (D.data.toList.drop 1) (0 * 10 + (D[0].toNat - 48))
  have h1 : 1 ≤ D[0].toNat - 48 := by omega
  have h2 : 10 ^ 19 ≤ 10 ^ (D.data.toList.drop 1).length := Nat.pow_le_pow_right (by omega) (by omega)
  have h3 : 10 ^ (D.data.toList.drop 1).length ≤ (0 * 10 + (D[0].toNat - 48)) * 10 ^ (D.data.toList.drop 1).length := by
    have := Nat.mul_le_mul_right (10 ^ (D.data.toList.drop 1).length) (show 1 ≤ 0 * 10 + (D[0].toNat - 48) by omega)
    simpa using this
  have h4 : (10 : Nat) ^ 19 = 10000000000000000000 := by decide
  omega
end Go.Proofs.YtmipbiligijcpaaGreatDoor
