/- Lines and words, plainly; Go's FieldsFunc and Split are these. -/
import Derived.Test.YtmipbiligijcpaaDoorM
import Derived.Lib.FieldsP
import Derived.Lib.TrimU
import Derived.Lib.Split
namespace Go.Proofs.YtmipbiligijcpaaDoor
set_option linter.unusedVariables false
set_option linter.unusedSimpArgs false
namespace Wm
open Go.Lib

def blk (c : UInt8) : Bool := c.toNat == 32 || c.toNat == 9 || c.toNat == 13
def cutW (cur : List UInt8) : List UInt8 → List (List UInt8)
  | [] => if cur = [] then [] else [cur]
  | c :: r => if blk c then (if cur = [] then cutW [] r else cur :: cutW [] r) else cutW (cur ++ [c]) r
def pblk (x : Nat) : Bool := x == 32 || x == 9 || x == 13

set_option maxHeartbeats 1000000 in
theorem decN_hi (n b0 b1 b2 b3 : Nat) (h : 128 ≤ b0) : 128 ≤ (decodeN n b0 b1 b2 b3).1 ∧ (2 ≤ (decodeN n b0 b1 b2 b3).2 → 128 ≤ b1) ∧ (3 ≤ (decodeN n b0 b1 b2 b3).2 → 128 ≤ b2) ∧ (4 ≤ (decodeN n b0 b1 b2 b3).2 → 128 ≤ b3) ∧ (decodeN n b0 b1 b2 b3).2 ≤ 4 := by
  unfold decodeN
  repeat' split
  all_goals (simp only; omega)
theorem decN_lo (n b0 b1 b2 b3 : Nat) (h : b0 < 128) : decodeN n b0 b1 b2 b3 = (b0, 1) := by unfold decodeN; rw [if_pos h]
theorem blk_hi (c : UInt8) (h : 128 ≤ c.toNat) : blk c = false := by simp [blk]; omega
theorem get_bang (s : ByteArray) (k : Nat) (h : k < s.size) : s.get! k = s[k] := by
  simp [ByteArray.get!, ByteArray.getElem_eq_getElem_data]
  rw [getElem!_pos]
theorem cutW_skip (cur : List UInt8) : ∀ (a b : List UInt8), (∀ x ∈ a, blk x = false) → cutW cur (a ++ b) = cutW (cur ++ a) b := by
  intro a
  induction a generalizing cur with
  | nil => intro b _; simp
  | cons c a ih =>
    intro b h
    have hc := h c (by simp)
    rw [List.cons_append, cutW, hc]
    simp only [Bool.false_eq_true, if_false]
    rw [ih _ b (fun x hx => h x (by simp [hx]))]
    simp
/-- the piece of l from a to b -/
def sub (l : List UInt8) (a b : Nat) : List UInt8 := (l.drop a).take (b - a)
theorem sub_self (l : List UInt8) (a : Nat) : sub l a a = [] := by simp [sub]
theorem sub_grow (l : List UInt8) (a b c : Nat) (h1 : a ≤ b) (h2 : b ≤ c) : sub l a c = sub l a b ++ sub l b c := by
  unfold sub
  have e1 : l.drop b = (l.drop a).drop (b - a) := by rw [List.drop_drop]; congr 1; omega
  rw [e1, show c - a = (b - a) + (c - b) by omega, List.take_add]
theorem drop_sub (l : List UInt8) (a b : Nat) (h : a ≤ b) : l.drop a = sub l a b ++ l.drop b := by
  unfold sub
  have e1 : l.drop b = (l.drop a).drop (b - a) := by rw [List.drop_drop]; congr 1; omega
  rw [e1, List.take_append_drop]
def curOf (l : List UInt8) (st : Option Nat) (pos : Nat) : List UInt8 := match st with | none => [] | some a => sub l a pos
theorem sub_ne (l : List UInt8) (a b : Nat) (h : a < b) (hb : b ≤ l.length) : sub l a b ≠ [] := by
  intro e
  have := congrArg List.length e
  simp [sub] at this
  omega
theorem bytes_hi (s : ByteArray) (pos : Nat) (hp : pos < s.size) (h : 128 ≤ s[pos].toNat) : ∀ x ∈ sub s.data.toList pos (pos + (Utf8.decode s pos).2), blk x = false := by
  have hd := decN_hi (s.size - pos) (s.get! pos).toNat (s.get! (pos + 1)).toNat (s.get! (pos + 2)).toNat (s.get! (pos + 3)).toNat (by rw [get_bang s pos hp]; exact h)
  rw [← decode_at] at hd
  obtain ⟨_, h1, h2, h3, h4⟩ := hd
  intro x hx
  obtain ⟨j, hj, rfl⟩ := List.getElem_of_mem hx
  have hjl : j < (Utf8.decode s pos).2 ∧ pos + j < s.size := by
    simp [sub] at hj
    have := len_data s
    have hh : s.data.toList.length = s.data.size := by simp
    omega
  have e : (sub s.data.toList pos (pos + (Utf8.decode s pos).2))[j] = s[pos + j] := by
    simp [sub]
    rfl
  rw [e]
  apply blk_hi
  rcases j with _ | _ | _ | _ | j
  · simpa using h
  · rw [← get_bang s (pos + 1) hjl.2]; exact h1 (by omega)
  · rw [← get_bang s (pos + 2) hjl.2]; exact h2 (by omega)
  · rw [← get_bang s (pos + 3) hjl.2]; exact h3 (by omega)
  · omega
theorem spans_eq (s : ByteArray) : ∀ (f pos : Nat) (st : Option Nat) (acc : List (Nat × Nat)), s.size ≤ pos + f → pos ≤ s.size → (∀ a, st = some a → a < pos) →
    (closeSpans s (spansFromP pblk s f pos st acc)).map (fun x => sub s.data.toList x.1 x.2) = acc.map (fun x => sub s.data.toList x.1 x.2) ++ cutW (curOf s.data.toList st pos) (s.data.toList.drop pos) := by
  have hlen := len_data s
  intro f
  induction f with
  | zero =>
    intro pos st acc h1 h2 h3
    obtain rfl : pos = s.size := by omega
    rw [show s.data.toList.drop s.size = [] from List.drop_eq_nil_of_le (by omega)]
    unfold spansFromP closeSpans
    cases st with
    | none => simp [curOf, cutW]
    | some a =>
      have := sub_ne s.data.toList a s.size (h3 a rfl) (by omega)
      simp [curOf, cutW, this]
  | succ f ih =>
    intro pos st acc h1 h2 h3
    by_cases hlt : pos < s.size
    · have hw := width_pos s pos
      have hwn : pos + (Utf8.decode s pos).2 ≤ s.size := by
        have := decodeN_le_n' (s.size - pos) (s.get! pos).toNat (s.get! (pos + 1)).toNat (s.get! (pos + 2)).toNat (s.get! (pos + 3)).toNat (by omega)
        rw [← decode_at] at this
        omega
      unfold spansFromP
      rw [if_pos hlt]
      by_cases hb : s[pos].toNat < 128
      · have hdec : Utf8.decode s pos = (s[pos].toNat, 1) := by rw [decode_at, get_bang s pos hlt]; exact decN_lo _ _ _ _ _ hb
        have hdrop : s.data.toList.drop pos = s[pos] :: s.data.toList.drop (pos + 1) := by
          rw [List.drop_eq_getElem_cons (by omega)]; rfl
        have hsub : sub s.data.toList pos (pos + 1) = [s[pos]] := by
          unfold sub; rw [hdrop]; simp
        rw [hdec]
        simp only
        have hpb : pblk s[pos].toNat = blk s[pos] := rfl
        cases hbk : blk s[pos] with
        | true =>
          rw [hpb, hbk, if_pos rfl, hdrop, cutW, hbk]
          cases st with
          | none =>
            simp only
            rw [ih (pos + 1) none acc (by omega) (by omega) (fun a h => by cases h)]
            simp [curOf]
          | some a =>
            simp only
            rw [ih (pos + 1) none _ (by omega) (by omega) (fun a h => by cases h)]
            have := sub_ne s.data.toList a pos (h3 a rfl) (by omega)
            simp [curOf, this]
        | false =>
          rw [hpb, hbk, hdrop, cutW, hbk]
          simp only [Bool.false_eq_true, if_false]
          cases st with
          | none =>
            simp only
            rw [ih (pos + 1) (some pos) acc (by omega) (by omega) (fun a h => by cases h; omega)]
            simp [curOf, hsub]
          | some a =>
            simp only
            rw [ih (pos + 1) (some a) acc (by omega) (by omega) (fun b h => by cases h; have := h3 a rfl; omega)]
            simp only [curOf]
            rw [sub_grow s.data.toList a pos (pos + 1) (by have := h3 a rfl; omega) (by omega), hsub]
      · have hall := bytes_hi s pos hlt (by omega)
        have hd := decN_hi (s.size - pos) (s.get! pos).toNat (s.get! (pos + 1)).toNat (s.get! (pos + 2)).toNat (s.get! (pos + 3)).toNat (by rw [get_bang s pos hlt]; omega)
        rw [← decode_at] at hd
        have hp : pblk (Utf8.decode s pos).1 = false := by simp [pblk]; omega
        rw [hp]
        simp only [Bool.false_eq_true, if_false]
        rw [drop_sub s.data.toList pos (pos + (Utf8.decode s pos).2) (by omega), cutW_skip _ _ _ hall]
        cases st with
        | none =>
          simp only
          rw [ih _ (some pos) acc (by omega) hwn (fun a h => by cases h; omega)]
          simp [curOf]
        | some a =>
          simp only
          rw [ih _ (some a) acc (by omega) hwn (fun b h => by cases h; have := h3 a rfl; omega)]
          simp only [curOf]
          rw [sub_grow s.data.toList a pos _ (by have := h3 a rfl; omega) (by omega)]
    · rw [spansFromP_end _ _ _ _ _ _ hlt]
      obtain rfl : pos = s.size := by omega
      rw [show s.data.toList.drop s.size = [] from List.drop_eq_nil_of_le (by omega)]
      unfold closeSpans
      cases st with
      | none => simp [curOf, cutW]
      | some a =>
        have := sub_ne s.data.toList a s.size (h3 a rfl) (by omega)
        simp [curOf, cutW, this]
theorem fields_eq (s : ByteArray) : (goFieldsP pblk s).map (·.data.toList) = cutW [] s.data.toList := by
  have h := spans_eq s s.size 0 none [] (by omega) (by omega) (fun a h => by cases h)
  simp only [curOf, List.drop_zero, List.map_nil, List.nil_append] at h
  rw [← h]
  unfold goFieldsP spansOfP
  rw [List.map_map]
  apply List.map_congr_left
  intro x _
  simp only [Function.comp]
  rw [extract_data]
  simp [sub, List.take_drop]
def lns (cur : List UInt8) : List UInt8 → List (List UInt8)
  | [] => [cur]
  | c :: r => if c = 10 then cur :: lns [] r else lns (cur ++ [c]) r
theorem pre_one (c d : UInt8) (r : List UInt8) : ([c].isPrefixOf (d :: r)) = (c == d) := by simp [List.isPrefixOf]
theorem lns_find : ∀ (l cur : List UInt8), (index l [10] = -1 ∧ lns cur l = [cur ++ l]) ∨ ∃ a b, l = a ++ 10 :: b ∧ index l [10] = (a.length : Int) ∧ lns cur l = (cur ++ a) :: lns [] b := by
  intro l
  induction l with
  | nil => intro cur; exact Or.inl ⟨by simp [index], by simp [lns]⟩
  | cons c r ih =>
    intro cur
    by_cases hc : c = 10
    · subst hc
      exact Or.inr ⟨[], r, rfl, by simp [index, pre_one], by simp [lns]⟩
    · have hp : ([10].isPrefixOf (c :: r)) = false := by rw [pre_one]; simp; exact fun e => hc e.symm
      rcases ih (cur ++ [c]) with ⟨h1, h2⟩ | ⟨a, b, h0, h1, h2⟩
      · refine Or.inl ⟨?_, ?_⟩
        · simp [index, hp, h1]
        · rw [lns, if_neg hc, h2]; simp
      · refine Or.inr ⟨c :: a, b, by rw [h0]; rfl, ?_, ?_⟩
        · have hne : ¬ (index r [10] == -1) = true := by rw [h1]; simp
          rw [index, hp]
          simp only [Bool.false_eq_true, if_false]
          rw [if_neg hne, h1]; simp
        · rw [lns, if_neg hc, h2]; simp
theorem split_lns : ∀ (n : Nat) (l : List UInt8), l.length ≤ n → splitK [10] 0 (count l [10]) l = lns [] l := by
  intro n
  induction n with
  | zero =>
    intro l h
    obtain rfl : l = [] := List.length_eq_zero_iff.1 (by omega)
    rw [count_miss (by simp [index])]; rfl
  | succ n ih =>
    intro l h
    rcases lns_find l [] with ⟨h1, h2⟩ | ⟨a, b, h0, h1, h2⟩
    · rw [count_miss h1, h2]; rfl
    · rw [count_hit (by simp) h1, Nat.add_comm 1, splitK, h2]
      have hne : ¬ (index l [10] == -1) = true := by rw [h1]; simp
      rw [if_neg hne, h1]
      have e1 : l.take ((a.length : Int).toNat + 0) = a := by rw [h0]; simp
      have e2 : l.drop ((a.length : Int).toNat + ([10] : List UInt8).length) = b := by rw [h0]; simp
      have e3 : l.drop (a.length + ([10] : List UInt8).length) = b := by rw [h0]; simp
      rw [e1, e2, e3, ih b (by rw [h0] at h; simp at h; omega)]
      simp
theorem lines_eq (s : ByteArray) : (splitB ⟨#[10]⟩ 0 (countB s ⟨#[10]⟩) s).map (·.data.toList) = lns [] s.data.toList := by
  rw [splitB_data]
  exact split_lns _ _ (Nat.le_refl _)
end Wm
end Go.Proofs.YtmipbiligijcpaaDoor
