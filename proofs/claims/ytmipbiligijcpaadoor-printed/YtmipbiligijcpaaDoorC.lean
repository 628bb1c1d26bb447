/- Constants, plainly: what a numeral is, its number, and Go's ParseInt at it. -/
import Derived.Test.YtmipbiligijcpaaDoorM
import Derived.Lib.Strings
namespace Go.Proofs.YtmipbiligijcpaaDoor
set_option linter.unusedVariables false
set_option linter.unusedSimpArgs false
namespace Wm
open Go.Lib

def decF (a : Nat) (l : List UInt8) : Nat := l.foldl (fun a c => a * 10 + (c.toNat - 48)) a
def decV (l : List UInt8) : Nat := decF 0 l
def dg (l : List UInt8) : List UInt8 := trimPrefix l [45]
def ng (l : List UInt8) : Bool := hasPrefix l [45]
def numD (neg : Bool) (d : List UInt8) : Bool :=
  match d with
  | [] => false
  | c :: r => (c :: r).all digB && (if c.toNat == 48 then decide (r.length = 0) && !neg else true)
def numL (l : List UInt8) : Bool := numD (ng l) (dg l)
def cstL (l : List UInt8) : Option Int :=
  if numL l then (if ng l then (if decV (dg l) ≤ 9223372036854775808 then some (-(decV (dg l) : Int)) else none) else if decV (dg l) < 9223372036854775808 then some (decV (dg l) : Int) else none) else none

theorem decF_ge (l : List UInt8) : ∀ a, a ≤ decF a l := by
  induction l with
  | nil => intro a; exact Nat.le_refl _
  | cons c r ih => intro a; have := ih (a * 10 + (c.toNat - 48)); simp only [decF, List.foldl_cons] at this ⊢; omega
theorem decF_cons (a : Nat) (c : UInt8) (r : List UInt8) : decF a (c :: r) = decF (a * 10 + (c.toNat - 48)) r := by unfold decF; rw [List.foldl_cons]
theorem digB_iff (c : UInt8) : digB c = true ↔ 48 ≤ c.toNat ∧ c.toNat ≤ 57 := by simp [digB]
theorem pu_cons (M a : Nat) (c : UInt8) (r : List UInt8) (hc : 48 ≤ c.toNat ∧ c.toNat ≤ 57) : parseUintM M a (c :: r) = if 1844674407370955162 ≤ a then .range else if M < a * 10 + (c.toNat - 48) then .range else parseUintM M (a * 10 + (c.toNat - 48)) r := by
  rw [parseUintM, if_pos hc]
theorem ar1 (M a x f : Nat) (hM : M < 18446744073709551620) (h1 : 1844674407370955162 ≤ a) (hge : a * 10 + x ≤ f) : ¬ f ≤ M := by omega
theorem uintM (M : Nat) (hM : M < 18446744073709551620) : ∀ (l : List UInt8) (a : Nat), l.all digB = true → a ≤ M → parseUintM M a l = if decF a l ≤ M then .ok (decF a l) else .range
  | [], a, _, ha => by rw [if_pos (show decF a [] ≤ M from ha)]; rfl
  | c :: r, a, hd, ha => by
    have hd1 : digB c = true := by simp only [List.all_cons, Bool.and_eq_true] at hd; exact hd.1
    have hd2 : r.all digB = true := by simp only [List.all_cons, Bool.and_eq_true] at hd; exact hd.2
    have hc := (digB_iff c).1 hd1
    have hge := decF_ge r (a * 10 + (c.toNat - 48))
    rw [pu_cons M a c r hc, decF_cons]
    by_cases h1 : 1844674407370955162 ≤ a
    · rw [if_pos h1, if_neg (ar1 M a _ _ hM h1 hge)]
    · rw [if_neg h1]
      by_cases h2 : M < a * 10 + (c.toNat - 48)
      · rw [if_pos h2, if_neg (by omega)]
      · rw [if_neg h2]
        exact uintM M hM r _ hd2 (by omega)
theorem numD_all {neg : Bool} {d : List UInt8} (h : numD neg d = true) : d.all digB = true ∧ d ≠ [] := by
  cases d with
  | nil => simp [numD] at h
  | cons c r => simp only [numD, Bool.and_eq_true] at h; exact ⟨h.1, by simp⟩
theorem dg_neg (r : List UInt8) : dg (45 :: r) = r := by simp [dg, trimPrefix, hasPrefix, List.isPrefixOf]
theorem ng_neg (r : List UInt8) : ng (45 :: r) = true := by simp [ng, hasPrefix, List.isPrefixOf]
theorem ng_pos (c : UInt8) (r : List UInt8) (h : c ≠ 45) : ng (c :: r) = false := by
  simp [ng, hasPrefix, List.isPrefixOf]; exact fun e => h e.symm
theorem dg_pos (c : UInt8) (r : List UInt8) (h : c ≠ 45) : dg (c :: r) = c :: r := by
  have := ng_pos c r h
  unfold ng at this
  simp [dg, trimPrefix, this]
theorem pow63 : (2 : Nat) ^ (64 - 1) = 9223372036854775808 := by decide
theorem pow64 : (2 : Nat) ^ 64 - 1 = 18446744073709551615 := by decide
theorem cst_neg (r : List UInt8) (h : numL (45 :: r) = true) : cstL (45 :: r) = if decV r ≤ 9223372036854775808 then some (-(decV r : Int)) else none := by
  unfold cstL; rw [if_pos h, ng_neg, dg_neg]; rfl
theorem cst_pos (c : UInt8) (r : List UInt8) (hc : c ≠ 45) (h : numL (c :: r) = true) : cstL (c :: r) = if decV (c :: r) < 9223372036854775808 then some (decV (c :: r) : Int) else none := by
  unfold cstL; rw [if_pos h, ng_pos c r hc, dg_pos c r hc]; rfl
theorem parse_num (l : List UInt8) (h : numL l = true) : parseIntB 64 l = match cstL l with | some v => .ok v | none => .range := by
  cases l with
  | nil => simp [numL, dg, trimPrefix, hasPrefix, numD] at h
  | cons c r =>
    by_cases hc : c = 45
    · subst hc
      rw [cst_neg r h]
      unfold numL at h
      rw [dg_neg, ng_neg] at h
      obtain ⟨ha, hn⟩ := numD_all h
      have hU := uintM 18446744073709551615 (by omega) r 0 ha (by omega)
      unfold parseIntB parseUintB
      simp only [show (45 : UInt8).toNat = 45 from rfl, or_true, if_true, hn, if_false]
      rw [pow64, pow63, hU]
      have e : decF 0 r = decV r := rfl
      rw [e]
      by_cases h1 : decV r ≤ 18446744073709551615
      · rw [if_pos h1]
        by_cases h2 : decV r ≤ 9223372036854775808
        · rw [if_pos h2]
          simp only [not_true, false_and, if_false, true_and]
          rw [if_neg (by omega)]
        · rw [if_neg h2]
          simp only [not_true, false_and, if_false, true_and]
          rw [if_pos (by omega)]
      · rw [if_neg h1, if_neg (by omega)]
    · rw [cst_pos c r hc h]
      unfold numL at h
      rw [dg_pos c r hc, ng_pos c r hc] at h
      obtain ⟨ha, hn⟩ := numD_all h
      have hU := uintM 18446744073709551615 (by omega) (c :: r) 0 ha (by omega)
      have hcd : 48 ≤ c.toNat ∧ c.toNat ≤ 57 := by
        simp only [List.all_cons, Bool.and_eq_true] at ha; exact (digB_iff c).1 ha.1
      unfold parseIntB parseUintB
      have n43 : ¬ (c.toNat = 43 ∨ c.toNat = 45) := by omega
      have n45 : ¬ c.toNat = 45 := by omega
      simp only [n43, if_false, hn]
      rw [pow64, pow63, hU]
      simp only [n45]
      have e : decF 0 (c :: r) = decV (c :: r) := rfl
      rw [e]
      by_cases h1 : decV (c :: r) ≤ 18446744073709551615
      · rw [if_pos h1]
        by_cases h2 : decV (c :: r) < 9223372036854775808
        · rw [if_pos h2]
          simp only [not_false_eq_true, true_and, false_and, if_false]
          rw [if_neg (by omega)]
        · rw [if_neg h2]
          simp only [not_false_eq_true, true_and]
          rw [if_pos (by omega)]
      · rw [if_neg h1, if_neg (by omega)]
end Wm
end Go.Proofs.YtmipbiligijcpaaDoor
