/- Counts and numbers read back: no Go in it. -/
import Derived.Test.YtmipbiligijcpaaD0
namespace Go.Proofs.Ytmipbiligijcpaa
set_option linter.unusedVariables false
set_option linter.unusedSimpArgs false

/-- a count read from the front: the number, and what is behind it; of at most k bytes more, s bits stand already -/
def rcnt : Nat → List UInt8 → Option (Nat × List UInt8)
  | 0, _ => none
  | _ + 1, [] => none
  | k + 1, b :: r => if b.toNat < 128 then some (b.toNat, r) else match rcnt k r with
    | some (n, q) => if n = 0 then none else some (b.toNat % 128 + 128 * n, q)
    | none => none
theorem rcnt_cnt : ∀ (k n : Nat) (r : List UInt8), n < 128 ^ k → rcnt k (cnt n ++ r) = some (n, r) ∨ k = 0
  | 0, n, r, h => Or.inr rfl
  | k + 1, n, r, h => by
    left
    by_cases hn : n < 128
    · rw [cnt_small hn]
      have : (UInt8.ofNat n).toNat = n := by simp only [UInt8.toNat_ofNat']; omega
      simp [rcnt, this, hn]
    · rw [cnt_big hn]
      have hb : (UInt8.ofNat (n % 128 + 128)).toNat = n % 128 + 128 := by simp only [UInt8.toNat_ofNat']; omega
      have h1 : n / 128 < 128 ^ k := by rw [Nat.pow_succ] at h; omega
      have hk : k ≠ 0 := by rintro rfl; simp at h1; omega
      rcases rcnt_cnt k (n / 128) r h1 with h2 | h2
      · have h3 : n / 128 ≠ 0 := by omega
        simp only [List.cons_append, rcnt, hb, h2]
        rw [if_neg (by omega), if_neg h3]
        congr 2
        omega
      · exact absurd h2 hk
theorem rcnt_inv : ∀ (k : Nat) (l : List UInt8) (n : Nat) (r : List UInt8), rcnt k l = some (n, r) → l = cnt n ++ r ∧ n < 128 ^ k
  | 0, l, n, r, h => by simp [rcnt] at h
  | k + 1, [], n, r, h => by simp [rcnt] at h
  | k + 1, b :: q, n, r, h => by
    have hb := UInt8.toNat_lt b
    rw [rcnt] at h
    by_cases h1 : b.toNat < 128
    · rw [if_pos h1] at h
      simp at h
      obtain ⟨rfl, rfl⟩ := h
      rw [cnt_small h1]
      refine ⟨by simp, ?_⟩
      have : 128 ^ (k + 1) = 128 ^ k * 128 := Nat.pow_succ ..
      have : 0 < 128 ^ k := Nat.pow_pos (by omega)
      omega
    · rw [if_neg h1] at h
      cases hq : rcnt k q with
      | none => rw [hq] at h; simp at h
      | some p =>
        obtain ⟨m, s⟩ := p
        rw [hq] at h
        simp only at h
        by_cases hm : m = 0
        · rw [if_pos hm] at h; simp at h
        · rw [if_neg hm] at h
          simp at h
          obtain ⟨rfl, rfl⟩ := h
          obtain ⟨rfl, hlt⟩ := rcnt_inv k q m s hq
          have h2 : ¬ b.toNat % 128 + 128 * m < 128 := by omega
          have h3 : (b.toNat % 128 + 128 * m) / 128 = m := by omega
          have h4 : (b.toNat % 128 + 128 * m) % 128 + 128 = b.toNat := by omega
          rw [cnt_big h2, h3, h4]
          refine ⟨by simp, ?_⟩
          have : 128 ^ (k + 1) = 128 ^ k * 128 := Nat.pow_succ ..
          omega
/-- a count of at most 64 bits -/
def rc (l : List UInt8) : Option (Nat × List UInt8) := match rcnt 10 l with
  | some (n, r) => if n < 18446744073709551616 then some (n, r) else none
  | none => none
theorem rc_iff (l : List UInt8) (n : Nat) (r : List UInt8) : rc l = some (n, r) ↔ l = cnt n ++ r ∧ n < 18446744073709551616 := by
  constructor
  · intro h
    unfold rc at h
    cases hq : rcnt 10 l with
    | none => rw [hq] at h; simp at h
    | some p =>
      obtain ⟨m, s⟩ := p
      rw [hq] at h
      simp only at h
      split at h
      · rename_i hm
        simp at h
        obtain ⟨rfl, rfl⟩ := h
        exact ⟨(rcnt_inv 10 l m s hq).1, hm⟩
      · cases h
  · rintro ⟨rfl, h⟩
    unfold rc
    rcases rcnt_cnt 10 n r (by omega) with h2 | h2
    · rw [h2]
      simp only
      rw [if_pos h]
    · omega
/-- what is read in all, where i bytes are read already, which make n -/
def fin10 (i n : Nat) : Option (Nat × List UInt8) → Option (Nat × List UInt8)
  | some (m, r) => if 0 < i ∧ m = 0 then none else if n + 128 ^ i * m < 18446744073709551616 then some (n + 128 ^ i * m, r) else none
  | none => none
theorem rc_fin (l : List UInt8) : rc l = fin10 0 0 (rcnt 10 l) := by
  unfold rc fin10
  cases rcnt 10 l with
  | none => rfl
  | some p => obtain ⟨n, r⟩ := p; simp
theorem fin_nil (i n k : Nat) : fin10 i n (rcnt k []) = none := by
  cases k <;> simp [rcnt, fin10]
theorem fin_last (i n k : Nat) (b : UInt8) (r : List UInt8) (h : b.toNat < 128) : fin10 i n (rcnt (k + 1) (b :: r)) = if 0 < i ∧ b.toNat = 0 then none else if n + 128 ^ i * b.toNat < 18446744073709551616 then some (n + 128 ^ i * b.toNat, r) else none := by
  simp [rcnt, h, fin10]
theorem fin_more (i n k : Nat) (b : UInt8) (r : List UInt8) (h : ¬ b.toNat < 128) : fin10 i n (rcnt (k + 1) (b :: r)) = fin10 (i + 1) (n + 128 ^ i * (b.toNat % 128)) (rcnt k r) := by
  rw [rcnt, if_neg h]
  cases rcnt k r with
  | none => rfl
  | some p =>
    obtain ⟨m, q⟩ := p
    by_cases hm : m = 0
    · simp [fin10, hm]
    · have e : n + 128 ^ i * (b.toNat % 128 + 128 * m) = n + 128 ^ i * (b.toNat % 128) + 128 ^ (i + 1) * m := by
        rw [Nat.mul_add, Nat.pow_succ, Nat.mul_assoc, Nat.add_assoc]
      have hz : ¬ (0 < i ∧ b.toNat % 128 + 128 * m = 0) := by omega
      have hz2 : ¬ (0 < i + 1 ∧ m = 0) := by omega
      simp only [fin10, if_neg hm, if_neg hz, if_neg hz2, e]
end Go.Proofs.Ytmipbiligijcpaa
