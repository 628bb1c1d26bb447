/- Sizes of lines and words. -/
import Derived.Test.YtmipbiligijcpaaDoorL
namespace Go.Proofs.YtmipbiligijcpaaDoor
set_option linter.unusedVariables false
set_option linter.unusedSimpArgs false
namespace Wm
open Go.Lib

theorem lns_le : ∀ (l cur x : List UInt8), x ∈ lns cur l → x.length ≤ cur.length + l.length := by
  intro l
  induction l with
  | nil => intro cur x hx; simp [lns] at hx; subst hx; simp
  | cons c r ih =>
    intro cur x hx
    rw [lns] at hx
    split at hx
    · rcases List.mem_cons.1 hx with rfl | h
      · simp
      · have := ih [] x h; simp at this ⊢; omega
    · have := ih _ x hx; simp at this ⊢; omega
theorem cutW_le : ∀ (l cur x : List UInt8), x ∈ cutW cur l → x.length ≤ cur.length + l.length ∧ x ≠ [] := by
  intro l
  induction l with
  | nil =>
    intro cur x hx
    rw [cutW] at hx
    split at hx
    · simp at hx
    · rename_i h; simp at hx; subst hx; exact ⟨by simp, h⟩
  | cons c r ih =>
    intro cur x hx
    rw [cutW] at hx
    split at hx
    · split at hx
      · have := ih [] x hx; simp only [List.length_nil, List.length_cons] at this ⊢; exact ⟨by omega, this.2⟩
      · rename_i h
        rcases List.mem_cons.1 hx with rfl | hx
        · exact ⟨by simp, h⟩
        · have := ih [] x hx; simp only [List.length_nil, List.length_cons] at this ⊢; exact ⟨by omega, this.2⟩
    · have := ih _ x hx; simp only [List.length_append, List.length_cons, List.length_nil] at this ⊢; exact ⟨by omega, this.2⟩
theorem cutW_len : ∀ (l cur : List UInt8), (cutW cur l).length ≤ l.length + 1 := by
  intro l
  induction l with
  | nil => intro cur; rw [cutW]; split <;> simp
  | cons c r ih =>
    intro cur
    rw [cutW]
    split
    · split
      · have := ih []; simp; omega
      · have := ih []; simp; omega
    · have := ih (cur ++ [c]); simp; omega
theorem lns_len : ∀ (l cur : List UInt8), (lns cur l).length = count l [10] + 1 := by
  intro l
  suffices h : ∀ n (l cur : List UInt8), l.length ≤ n → (lns cur l).length = count l [10] + 1 from fun cur => h _ l cur (Nat.le_refl _)
  intro n
  induction n with
  | zero =>
    intro l cur h
    obtain rfl : l = [] := List.length_eq_zero_iff.1 (by omega)
    rw [count_miss (by simp [index])]; simp [lns]
  | succ n ih =>
    intro l cur h
    rcases lns_find l cur with ⟨h1, h2⟩ | ⟨a, b, h0, h1, h2⟩
    · rw [count_miss h1, h2]; rfl
    · have e3 : l.drop (a.length + ([10] : List UInt8).length) = b := by rw [h0]; simp
      rw [count_hit (by simp) h1, h2, e3, List.length_cons, ih b [] (by rw [h0] at h; simp at h; omega)]
      omega
theorem count_le10 (l : List UInt8) : count l [10] ≤ l.length + 1 := count_le l [10]
end Wm
end Go.Proofs.YtmipbiligijcpaaDoor
