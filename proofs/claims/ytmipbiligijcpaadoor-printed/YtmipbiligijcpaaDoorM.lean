/- The plain model: bytes, words, names, constants, lines, nodes; no Go in it. -/
import Derived.Lib.ParseIntB
import Derived.Lib.Split
import Derived.Lib.FieldsP
namespace Go.Proofs.YtmipbiligijcpaaDoor
set_option linter.unusedVariables false
set_option linter.unusedSimpArgs false
namespace Wm

def letB (c : UInt8) : Bool := decide (97 ≤ c.toNat) && decide (c.toNat ≤ 122)
def digB (c : UInt8) : Bool := decide (48 ≤ c.toNat) && decide (c.toNat ≤ 57)
def wrdB (c : UInt8) : Bool := letB c || digB c
def resv (l : List UInt8) : Bool := l == [105, 110, 112, 117, 116] || l == [111, 117, 116, 112, 117, 116] || l == [105, 102] || l == [103, 111, 116, 111] || l == [114, 101, 116, 117, 114, 110]
def nameL (l : List UInt8) : Bool :=
  match l with
  | [] => false
  | c :: r => letB c && (c :: r).all wrdB && decide (r.length + 1 ≤ 6) && !resv (c :: r)
def nm (s : ByteArray) : Bool := nameL s.data.toList

theorem get_data (s : ByteArray) (k : Nat) (h : k < s.size) : s.data.toList[k]? = some s[k] := by
  rw [List.getElem?_eq_getElem (by simpa using h)]; rfl
theorem take_snoc (s : ByteArray) (k : Nat) (h : k < s.size) : s.data.toList.take (k + 1) = s.data.toList.take k ++ [s[k]] := by
  rw [List.take_succ_eq_append_getElem (by simpa using h)]; rfl
theorem len_data (s : ByteArray) : s.data.toList.length = s.size := rfl
theorem cons_data (s : ByteArray) (h : 0 < s.size) : s.data.toList = s[0] :: s.data.toList.drop 1 := by
  have := get_data s 0 h
  cases hl : s.data.toList with
  | nil => rw [hl] at this; simp at this
  | cons a t => rw [hl] at this; simp at this; simp [this]
theorem all_take (s : ByteArray) (k : Nat) (p : UInt8 → Bool) (h : k < s.size) : (s.data.toList.take (k + 1)).all p = ((s.data.toList.take k).all p && p s[k]) := by
  rw [take_snoc s k h]; simp [List.all_append]
theorem all_of_take (l : List UInt8) (k : Nat) (p : UInt8 → Bool) (h : l.all p = true) : (l.take k).all p = true := by
  rw [List.all_eq_true] at h ⊢
  exact fun x hx => h x (List.mem_of_mem_take hx)

theorem nm_eq (s : ByteArray) (h0 : 0 < s.size) : nm s = (letB s[0] && s.data.toList.all wrdB && decide (s.size ≤ 6) && !resv s.data.toList) := by
  have hl := len_data s
  have hc := cons_data s h0
  unfold nm nameL
  rw [hc] at hl ⊢
  simp only [List.length_cons] at hl
  show (letB s[0] && _ && decide ((List.drop 1 s.data.toList).length + 1 ≤ 6) && _) = _
  rw [hl]
theorem nm_none (s : ByteArray) (h : s.size = 0) : nm s = false := by
  have hl := len_data s
  have : s.data.toList = [] := List.length_eq_zero_iff.1 (by omega)
  unfold nm; rw [this]; rfl
theorem nm_long (s : ByteArray) (h : 6 < s.size) : nm s = false := by
  rw [nm_eq s (by omega)]; simp; intros; omega
theorem nm_head (s : ByteArray) (h0 : 0 < s.size) (h : letB s[0] = false) : nm s = false := by rw [nm_eq s h0, h]; rfl
theorem nm_bad (s : ByteArray) (k : Nat) (h : k < s.size) (hb : wrdB s[k] = false) : nm s = false := by
  rw [nm_eq s (by omega)]
  have : s.data.toList.all wrdB = false := by
    cases e : s.data.toList.all wrdB with
    | false => rfl
    | true =>
      have := all_of_take _ (k + 1) _ e
      rw [all_take s k _ h, hb] at this; simp at this
  rw [this]; simp
theorem nm_end (s : ByteArray) (h0 : 0 < s.size) (h6 : s.size ≤ 6) (hh : letB s[0] = true) (ha : (s.data.toList.take s.size).all wrdB = true) : nm s = !resv s.data.toList := by
  rw [nm_eq s h0, hh]
  rw [List.take_of_length_le (by rw [len_data]; exact Nat.le_refl _)] at ha
  rw [ha]; simp [h6]
def opN (l : List UInt8) : Int := if l == [43] then 0 else if l == [45] then 1 else if l == [42] then 2 else if l == [47] then 3 else 0
def opB (l : List UInt8) : Bool := l == [43] || l == [45] || l == [42] || l == [47]
def tsN (l : List UInt8) : Int := if l == [60] then 0 else if l == [60, 61] then 1 else if l == [61, 61] then 2 else if l == [33, 61] then 3 else 0
def tsB (l : List UInt8) : Bool := l == [60] || l == [60, 61] || l == [61, 61] || l == [33, 61]
end Wm
end Go.Proofs.YtmipbiligijcpaaDoor
