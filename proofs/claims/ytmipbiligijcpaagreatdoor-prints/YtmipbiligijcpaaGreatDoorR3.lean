/- The document's answer: constants. -/
import Derived.Test.YtmipbiligijcpaaGreatDoorR2
namespace Go.Proofs.YtmipbiligijcpaaGreatDoor
set_option linter.unusedVariables false
set_option linter.unusedSimpArgs false
open Go.RowKit Go.Proofs

theorem tdq (d : Int) (h0 : 0 ≤ d) (h9 : d ≤ 9) : (-9223372036854775808 + d).tdiv 10 = -((9223372036854775808 - d) / 10) := by
  rw [show (-9223372036854775808 + d) = -(9223372036854775808 - d) by omega, Int.neg_tdiv, Int.tdiv_eq_ediv_of_nonneg (by omega)]
theorem over_lt (m : Nat) (d : Int) (h0 : 0 ≤ d) (h9 : d ≤ 9) (h : 9223372036854775808 < 10 * (m : Int) + d) : -(m : Int) < (-9223372036854775808 + d).tdiv 10 := by
  rw [tdq d h0 h9]; omega
theorem fit_le (m : Nat) (d : Int) (h0 : 0 ≤ d) (h9 : d ≤ 9) (h : 10 * (m : Int) + d ≤ 9223372036854775808) : (-9223372036854775808 + d).tdiv 10 ≤ -(m : Int) := by
  rw [tdq d h0 h9]; omega
theorem wrapIn (n : Int) (h : -9223372036854775808 ≤ n ∧ n ≤ 9223372036854775807) : wrap64 n = n := by unfold wrap64; omega
theorem next_eq (m : Nat) (c : Int) (h0 : 48 ≤ c) (h9 : c ≤ 57) (h : 10 * (m : Int) + (c - 48) ≤ 9223372036854775808) : wrap64 (wrap64 (10 * -(m : Int)) - (c - 48)) = -((10 * m + (c - 48).toNat : Nat) : Int) := by
  have e1 : wrap64 (10 * -(m : Int)) = 10 * -(m : Int) := wrapIn _ (by omega)
  rw [e1, wrapIn _ (by omega)]
  omega
theorem no_lt (m : Nat) (d : Int) (h0 : 0 ≤ d) (h9 : d ≤ 9) (hq : -(m : Int) = (-9223372036854775808 + d).tdiv 10) (hl : wrap64 ((-9223372036854775808 + d).tdiv 10 * 10) < -9223372036854775808 + d) : False := by
  have e := tdq d h0 h9
  rw [e] at hl
  rw [wrapIn _ (by omega)] at hl
  omega
open Wm in
theorem cst_of (l D : List UInt8) (b : Bool) (hD : dg l = D) (hb : ng l = b) : cstL l = if numD b D then (if b then (if decV D ≤ 9223372036854775808 then some (-(decV D : Int)) else none) else if decV D < 9223372036854775808 then some (decV D : Int) else none) else none := by
  unfold cstL numL; rw [hD, hb]
open Wm in
theorem decF_snoc (a : Nat) (l : List UInt8) (c : UInt8) : decF a (l ++ [c]) = decF a l * 10 + (c.toNat - 48) := by unfold decF; rw [List.foldl_append]; rfl
open Wm in
theorem decF_app (a : Nat) (l r : List UInt8) : decF a (l ++ r) = decF (decF a l) r := by unfold decF; rw [List.foldl_append]
open Wm in
theorem dec_take (D : ByteArray) (k : Nat) (h : k < D.size) : decV (D.data.toList.take (k + 1)) = 10 * decV (D.data.toList.take k) + (D[k].toNat - 48) := by
  rw [take_snoc D k h]; unfold decV; rw [decF_snoc]; omega
open Wm in
theorem dec_ge (D : ByteArray) (k : Nat) : decV (D.data.toList.take k) ≤ decV D.data.toList := by
  have : D.data.toList = D.data.toList.take k ++ D.data.toList.drop k := (List.take_append_drop k _).symm
  rw [this]
  simp only [List.take_append_drop]
  unfold decV
  conv => rhs; rw [this, decF_app]
  exact decF_ge _ _
open Wm in
theorem pow_le : ∀ (r : List UInt8) (a : Nat), a * 10 ^ r.length ≤ decF a r := by
  intro r
  induction r with
  | nil => intro a; simp [decF]
  | cons c r ih =>
    intro a
    rw [decF_cons]
    have h := ih (a * 10 + (c.toNat - 48))
    rw [List.length_cons, Nat.pow_succ]
    refine Nat.le_trans ?_ h
    rw [show a * (10 ^ r.length * 10) = (a * 10) * 10 ^ r.length by rw [Nat.mul_comm (10 ^ r.length) 10, Nat.mul_assoc]]
    exact Nat.mul_le_mul_right _ (by omega)
open Wm in
theorem long_none (D : ByteArray) (b : Bool) (h : 19 < D.size) (hn : numD b D.data.toList = true) : 9223372036854775808 < decV D.data.toList := by
  have hc := cons_data D (by omega)
  have hl := len_data D
  rw [hc] at hn hl ⊢
  simp only [List.length_cons] at hl
  simp only [numD, Bool.and_eq_true] at hn
  have hd : digB D[0] = true := by have := hn.1; simp only [List.all_cons, Bool.and_eq_true] at this; exact this.1
  have h48 : D[0].toNat ≠ 48 := by
    intro e
    have := hn.2
    rw [e] at this
    simp at this
    omega
  have hdi := (digB_iff _).1 hd
  unfold decV
  rw [decF_cons]
  have hp := pow_le (D.data.toList.drop 1) (0 * 10 + (D[0].toNat - 48))
  have h1 : 1 ≤ D[0].toNat - 48 := by omega
  have h2 : 10 ^ 19 ≤ 10 ^ (D.data.toList.drop 1).length := Nat.pow_le_pow_right (by omega) (by omega)
  have h3 : 10 ^ (D.data.toList.drop 1).length ≤ (0 * 10 + (D[0].toNat - 48)) * 10 ^ (D.data.toList.drop 1).length := by
    have := Nat.mul_le_mul_right (10 ^ (D.data.toList.drop 1).length) (show 1 ≤ 0 * 10 + (D[0].toNat - 48) by omega)
    simpa using this
  have h4 : (10 : Nat) ^ 19 = 10000000000000000000 := by decide
  omega
end Go.Proofs.YtmipbiligijcpaaGreatDoor
