/- A part of the proof: contracts of functions of the program. -/
import Derived.Test.YtmipbiligijcpaaGreatDoorA01
import Derived.Lib.FieldsP
import Derived.Lib.TrimU
import Derived.Lib.Split
import Derived.Test.YtmipbiligijcpaaGreatDoorA05
import Derived.Test.YtmipbiligijcpaaGreatDoorA06
import Derived.Deep.LoopGhost
namespace Go.Proofs.YtmipbiligijcpaaGreatDoor
set_option linter.unusedVariables false
set_option linter.unusedSimpArgs false
namespace Wm
open Go.Lib

def blk (c : UInt8) : Bool := c.toNat == 32 || c.toNat == 9 || c.toNat == 13
def cutW (cur : List UInt8) : List UInt8 → List (List UInt8)
  | [] => if cur = [] then [] else [cur]
  | c :: r => if blk c then (if cur = [] then cutW [] r else cur :: cutW [] r) else cutW (cur ++ [c]) r
def pblk (x : Nat) : Bool := x == 32 || x == 9 || x == 13

set_option maxHeartbeats 1000000 in
theorem decN_hi (n b0 b1 b2 b3 : Nat) (h : 128 ≤ b0) : 128 ≤ (decodeN n b0 b1 b2 b3).1 ∧ (2 ≤ (decodeN n b0 b1 b2 b3).2 → 128 ≤ b1) ∧ (3 ≤ (decodeN n b0 b1 b2 b3).2 → 128 ≤ b2) ∧ (4 ≤ (decodeN n b0 b1 b2 b3).2 → 128 ≤ b3) ∧ (decodeN n b0 b1 b2 b3).2 ≤ 4 := by
  unfold decodeN
  repeat' split
  all_goals (simp only; omega)
theorem decN_lo (n b0 b1 b2 b3 : Nat) (h : b0 < 128) : decodeN n b0 b1 b2 b3 = (b0, 1) := by unfold decodeN; rw [if_pos h]
theorem blk_hi (c : UInt8) (h : 128 ≤ c.toNat) : blk c = false := by simp [blk]; omega
theorem get_bang (s : ByteArray) (k : Nat) (h : k < s.size) : s.get! k = s[k] := by
  simp [ByteArray.get!, ByteArray.getElem_eq_getElem_data]
  rw [getElem!_pos]
theorem cutW_skip (cur : List UInt8) : ∀ (a b : List UInt8), (∀ x ∈ a, blk x = false) → cutW cur (a ++ b) = cutW (cur ++ a) b := by
  intro a
  induction a generalizing cur with
  | nil => intro b _; simp
  | cons c a ih =>
    intro b h
    have hc := h c (by simp)
    rw [List.cons_append, cutW, hc]
    simp only [Bool.false_eq_true, if_false]
    rw [ih _ b (fun x hx => h x (by simp [hx]))]
    simp
/-- the piece of l from a to b -/
def sub (l : List UInt8) (a b : Nat) : List UInt8 := (l.drop a).take (b - a)
theorem sub_self (l : List UInt8) (a : Nat) : sub l a a = [] := by simp [sub]
theorem sub_grow (l : List UInt8) (a b c : Nat) (h1 : a ≤ b) (h2 : b ≤ c) : sub l a c = sub l a b ++ sub l b c := by
  unfold sub
  have e1 : l.drop b = (l.drop a).drop (b - a) := by rw [List.drop_drop]; congr 1; omega
  rw [e1, show c - a = (b - a) + (c - b) by omega, List.take_add]
theorem drop_sub (l : List UInt8) (a b : Nat) (h : a ≤ b) : l.drop a = sub l a b ++ l.drop b := by
  unfold sub
  have e1 : l.drop b = (l.drop a).drop (b - a) := by rw [List.drop_drop]; congr 1; omega
  rw [e1, List.take_append_drop]
def curOf (l : List UInt8) (st : Option Nat) (pos : Nat) : List UInt8 := match st with | none => [] | some a => sub l a pos
theorem sub_ne (l : List UInt8) (a b : Nat) (h : a < b) (hb : b ≤ l.length) : sub l a b ≠ [] := by
  intro e
  have := congrArg List.length e
  simp [sub] at this
  omega
theorem bytes_hi (s : ByteArray) (pos : Nat) (hp : pos < s.size) (h : 128 ≤ s[pos].toNat) : ∀ x ∈ sub s.data.toList pos (pos + (Utf8.decode s pos).2), blk x = false := by
  have hd := decN_hi (s.size - pos) (s.get! pos).toNat (s.get! (pos + 1)).toNat (s.get! (pos + 2)).toNat (s.get! (pos + 3)).toNat (by rw [get_bang s pos hp]; exact h)
  rw [← decode_at] at hd
  obtain ⟨_, h1, h2, h3, h4⟩ := hd
  intro x hx
  obtain ⟨j, hj, rfl⟩ := List.getElem_of_mem hx
  have hjl : j < (Utf8.decode s pos).2 ∧ pos + j < s.size := by
    simp [sub] at hj
    have := len_data s
    have hh : s.data.toList.length = s.data.size := by simp
    omega
  have e : (sub s.data.toList pos (pos + (Utf8.decode s pos).2))[j] = s[pos + j] := by
    simp [sub]
    rfl
  rw [e]
  apply blk_hi
  rcases j with _ | _ | _ | _ | j
  · simpa using h
  · rw [← get_bang s (pos + 1) hjl.2]; exact h1 (by omega)
  · rw [← get_bang s (pos + 2) hjl.2]; exact h2 (by omega)
  · rw [← get_bang s (pos + 3) hjl.2]; exact h3 (by omega)
  · omega
theorem spans_eq (s : ByteArray) : ∀ (f pos : Nat) (st : Option Nat) (acc : List (Nat × Nat)), s.size ≤ pos + f → pos ≤ s.size → (∀ a, st = some a → a < pos) →
    (closeSpans s (spansFromP pblk s f pos st acc)).map (fun x => sub s.data.toList x.1 x.2) = acc.map (fun x => sub s.data.toList x.1 x.2) ++ cutW (curOf s.data.toList st pos) (s.data.toList.drop pos) := by
  have hlen := len_data s
  intro f
  induction f with
  | zero =>
    intro pos st acc h1 h2 h3
    obtain rfl : pos = s.size := by omega
    rw [show s.data.toList.drop s.size = [] from List.drop_eq_nil_of_le (by omega)]
    unfold spansFromP closeSpans
    cases st with
    | none => simp [curOf, cutW]
    | some a =>
      have := sub_ne s.data.toList a s.size (h3 a rfl) (by omega)
      simp [curOf, cutW, this]
  | succ f ih =>
    intro pos st acc h1 h2 h3
    by_cases hlt : pos < s.size
    · have hw := width_pos s pos
      have hwn : pos + (Utf8.decode s pos).2 ≤ s.size := by
        have := decodeN_le_n' (s.size - pos) (s.get! pos).toNat (s.get! (pos + 1)).toNat (s.get! (pos + 2)).toNat (s.get! (pos + 3)).toNat (by omega)
        rw [← decode_at] at this
        omega
      unfold spansFromP
      rw [if_pos hlt]
      by_cases hb : s[pos].toNat < 128
      · have hdec : Utf8.decode s pos = (s[pos].toNat, 1) := by rw [decode_at, get_bang s pos hlt]; exact decN_lo _ _ _ _ _ hb
        have hdrop : s.data.toList.drop pos = s[pos] :: s.data.toList.drop (pos + 1) := by
          rw [List.drop_eq_getElem_cons (by omega)]; rfl
        have hsub : sub s.data.toList pos (pos + 1) = [s[pos]] := by
          unfold sub; rw [hdrop]; simp
        rw [hdec]
        simp only
        have hpb : pblk s[pos].toNat = blk s[pos] := rfl
        cases hbk : blk s[pos] with
        | true =>
          rw [hpb, hbk, if_pos rfl, hdrop, cutW, hbk]
          cases st with
          | none =>
            simp only
            rw [ih (pos + 1) none acc (by omega) (by omega) (fun a h => by cases h)]
            simp [curOf]
          | some a =>
            simp only
            rw [ih (pos + 1) none _ (by omega) (by omega) (fun a h => by cases h)]
            have := sub_ne s.data.toList a pos (h3 a rfl) (by omega)
            simp [curOf, this]
        | false =>
          rw [hpb, hbk, hdrop, cutW, hbk]
          simp only [Bool.false_eq_true, if_false]
          cases st with
          | none =>
            simp only
            rw [ih (pos + 1) (some pos) acc (by omega) (by omega) (fun a h => by cases h; omega)]
            simp [curOf, hsub]
          | some a =>
            simp only
            rw [ih (pos + 1) (some a) acc (by omega) (by omega) (fun b h => by cases h; have := h3 a rfl; omega)]
            simp only [curOf]
            rw [sub_grow s.data.toList a pos (pos + 1) (by have := h3 a rfl; omega) (by omega), hsub]
      · have hall := bytes_hi s pos hlt (by omega)
        have hd := decN_hi (s.size - pos) (s.get! pos).toNat (s.get! (pos + 1)).toNat (s.get! (pos + 2)).toNat (s.get! (pos + 3)).toNat (by rw [get_bang s pos hlt]; omega)
        rw [← decode_at] at hd
        have hp : pblk (Utf8.decode s pos).1 = false := by simp [pblk]; omega
        rw [hp]
        simp only [Bool.false_eq_true, if_false]
        rw [drop_sub s.data.toList pos (pos + (Utf8.decode s pos).2) (by omega), cutW_skip _ _ _ hall]
        cases st with
        | none =>
          simp only
          rw [ih _ (some pos) acc (by omega) hwn (fun a h => by cases h; omega)]
          simp [curOf]
        | some a =>
          simp only
          rw [ih _ (some a) acc (by omega) hwn (fun b h => by cases h; have := h3 a rfl; omega)]
          simp only [curOf]
          rw [sub_grow s.data.toList a pos _ (by have := h3 a rfl; omega) (by omega)]
    · rw [spansFromP_end _ _ _ _ _ _ hlt]
      obtain rfl : pos = s.size := by omega
      rw [show s.data.toList.drop s.size = [] from List.drop_eq_nil_of_le (by omega)]
      unfold closeSpans
      cases st with
      | none => simp [curOf, cutW]
      | some a =>
        have := sub_ne s.data.toList a s.size (h3 a rfl) (by omega)
        simp [curOf, cutW, this]
theorem fields_eq (s : ByteArray) : (goFieldsP pblk s).map (·.data.toList) = cutW [] s.data.toList := by
  have h := spans_eq s s.size 0 none [] (by omega) (by omega) (fun a h => by cases h)
  simp only [curOf, List.drop_zero, List.map_nil, List.nil_append] at h
  rw [← h]
  unfold goFieldsP spansOfP
  rw [List.map_map]
  apply List.map_congr_left
  intro x _
  simp only [Function.comp]
  rw [extract_data]
  simp [sub, List.take_drop]
def lns (cur : List UInt8) : List UInt8 → List (List UInt8)
  | [] => [cur]
  | c :: r => if c = 10 then cur :: lns [] r else lns (cur ++ [c]) r
theorem pre_one (c d : UInt8) (r : List UInt8) : ([c].isPrefixOf (d :: r)) = (c == d) := by simp [List.isPrefixOf]
theorem lns_find : ∀ (l cur : List UInt8), (index l [10] = -1 ∧ lns cur l = [cur ++ l]) ∨ ∃ a b, l = a ++ 10 :: b ∧ index l [10] = (a.length : Int) ∧ lns cur l = (cur ++ a) :: lns [] b := by
  intro l
  induction l with
  | nil => intro cur; exact Or.inl ⟨by simp [index], by simp [lns]⟩
  | cons c r ih =>
    intro cur
    by_cases hc : c = 10
    · subst hc
      exact Or.inr ⟨[], r, rfl, by simp [index, pre_one], by simp [lns]⟩
    · have hp : ([10].isPrefixOf (c :: r)) = false := by rw [pre_one]; simp; exact fun e => hc e.symm
      rcases ih (cur ++ [c]) with ⟨h1, h2⟩ | ⟨a, b, h0, h1, h2⟩
      · refine Or.inl ⟨?_, ?_⟩
        · simp [index, hp, h1]
        · rw [lns, if_neg hc, h2]; simp
      · refine Or.inr ⟨c :: a, b, by rw [h0]; rfl, ?_, ?_⟩
        · have hne : ¬ (index r [10] == -1) = true := by rw [h1]; simp
          rw [index, hp]
          simp only [Bool.false_eq_true, if_false]
          rw [if_neg hne, h1]; simp
        · rw [lns, if_neg hc, h2]; simp
theorem split_lns : ∀ (n : Nat) (l : List UInt8), l.length ≤ n → splitK [10] 0 (count l [10]) l = lns [] l := by
  intro n
  induction n with
  | zero =>
    intro l h
    obtain rfl : l = [] := List.length_eq_zero_iff.1 (by omega)
    rw [count_miss (by simp [index])]; rfl
  | succ n ih =>
    intro l h
    rcases lns_find l [] with ⟨h1, h2⟩ | ⟨a, b, h0, h1, h2⟩
    · rw [count_miss h1, h2]; rfl
    · rw [count_hit (by simp) h1, Nat.add_comm 1, splitK, h2]
      have hne : ¬ (index l [10] == -1) = true := by rw [h1]; simp
      rw [if_neg hne, h1]
      have e1 : l.take ((a.length : Int).toNat + 0) = a := by rw [h0]; simp
      have e2 : l.drop ((a.length : Int).toNat + ([10] : List UInt8).length) = b := by rw [h0]; simp
      have e3 : l.drop (a.length + ([10] : List UInt8).length) = b := by rw [h0]; simp
      rw [e1, e2, e3, ih b (by rw [h0] at h; simp at h; omega)]
      simp
theorem lines_eq (s : ByteArray) : (splitB ⟨#[10]⟩ 0 (countB s ⟨#[10]⟩) s).map (·.data.toList) = lns [] s.data.toList := by
  rw [splitB_data]
  exact split_lns _ _ (Nat.le_refl _)
end Wm
end Go.Proofs.YtmipbiligijcpaaGreatDoor
namespace Go.Proofs.YtmipbiligijcpaaGreatDoor
set_option linter.unusedVariables false
set_option linter.unusedSimpArgs false
open Go.RowKit Go.Proofs Go.Maps

/-- the words of a line -/
def wds (s : ByteArray) : List ByteArray := Lib.goFieldsP Wm.pblk s
theorem wds_eq (s : ByteArray) : (wds s).map (·.data.toList) = Wm.cutW [] s.data.toList := Wm.fields_eq s
theorem blank_pays (w : World) : PredAtRunes Tryz.prog 122 #[] Wm.pblk w := by
  intro W x hx hb
  refine (isBlank_any x W).mono fun e w' h => ?_
  refine ⟨h.1.trans (ret_bool ?_), 0, h.2⟩
  unfold Wm.pblk
  rw [Bool.eq_iff_iff]; simp; omega
theorem cutWords_any (s : ByteArray) (w : World) (hs : s.size ≤ 3000) :
    Calls Tryz.prog 77 #[.string s] w fun e w' => ∃ (g cap : Nat), e = .returned (.slice (some ⟨g, 0, none⟩) (wds s).length cap) ∧ w.heap.size ≤ g ∧ Ws w' g 0 (wds s) ∧ Below w.heap.size w w' := by
  have cF := Tryz.strings_FieldsFunc_runes 122 #[] (enters_of Tryz.func122 (by kernel_rfl) rfl) Wm.pblk s w (by omega) (blank_pays w)
  go_enter Tryz.func77, Tryz.ntmps77
  go_wp2_with fail
  refine cF.mono ?_
  rintro e w1 ⟨A, rfl, hA, hown, hb⟩
  go_wp2
  go_ret
  refine ⟨A, _, rfl, hA, ?_, hb⟩
  rcases hown.2 with ⟨h0, _⟩ | ⟨g, cap, cur, hv, _, hg, _, _, _, ht⟩
  · cases h0
  · cases hv
    exact ⟨cur, hg, by simpa [wds] using ht⟩
def saysNo (ws : List ByteArray) : Bool := match ws with | [] => true | x :: _ => match x.data.toList with | c :: _ => c == 35 | [] => false
theorem saysNothing_none (a : Option Addr) (cap : Nat) (w : World) :
    Calls Tryz.prog 78 #[.slice a 0 cap] w fun e w' => e = .returned (.bool true) ∧ w' = w := by
  go_enter Tryz.func78, Tryz.ntmps78
  go_wp2
  go_ret
  exact ⟨rfl, rfl⟩
theorem saysNothing_any (g off len cap : Nat) (x : ByteArray) (ws : List ByteArray) (w : World) (hl : ((len : Int) == 0) = false) (hx : 0 < x.size) (hm : x.size ≤ 3000) (hW : Ws w g off (x :: ws)) :
    Calls Tryz.prog 78 #[.slice (some ⟨g, off, none⟩) len cap] w fun e w' => e = .returned (.bool (saysNo (x :: ws))) ∧ w' = w := by
  have hc : w.cell? ⟨g, off, none⟩ = some (.string x) := hW.cell 0 x rfl
  have hl0 : (0 : Int) < (len : Int) := by rw [beq_eq_false_iff_ne] at hl; omega
  have e : saysNo (x :: ws) = ((x[0].toNat : Int) == 35) := by
    have := Wm.cons_data x hx
    simp only [saysNo]
    rw [this]
    simp only
    rw [Bool.eq_iff_iff]
    simp
    constructor
    · intro h; rw [h]; rfl
    · intro h; exact UInt8.toNat_inj.1 (by simpa using (by omega : x[0].toNat = 35))
  rw [e]
  go_enter Tryz.func78, Tryz.ntmps78
  go_wp2
  go_ret
  exact ⟨rfl, rfl⟩
end Go.Proofs.YtmipbiligijcpaaGreatDoor
namespace Go.Proofs.YtmipbiligijcpaaGreatDoor
set_option linter.unusedVariables false
set_option linter.unusedSimpArgs false
open Go.RowKit Go.Proofs Go.Maps

/-- a node as it lies in the row -/
structure NC where
  lab : ByteArray
  wa : Option Addr
  wl : Nat
  wc : Nat
  n : SN
  ea : Option Addr
  el : Nat
  ec : Nat
abbrev NC.wv (c : NC) : Value := .slice c.wa c.wl c.wc
abbrev NC.ev (c : NC) : Value := .slice c.ea c.el c.ec
/-- the node with other edges -/
def NC.on (c : NC) (a : Option Addr) (l k : Nat) : NC := { c with ea := a, el := l, ec := k }
def ncCells (c : NC) : List Value := (snCells c.lab c.wv c.n c.ev).toList
def rowCells (l : List NC) : List Value := l.flatMap ncCells
theorem ncCells_len (c : NC) : (ncCells c).length = 14 := rfl
theorem rowCells_len (l : List NC) : (rowCells l).length = l.length * 14 := by
  induction l with
  | nil => rfl
  | cons c r ih => simp only [rowCells, List.flatMap_cons, List.length_append, List.length_cons, ncCells_len] at ih ⊢; omega
theorem rowCells_snoc (l : List NC) (c : NC) : rowCells (l ++ [c]) = rowCells l ++ ncCells c := by simp [rowCells]
theorem rowCells_cons (c : NC) (l : List NC) : rowCells (c :: l) = ncCells c ++ rowCells l := by simp [rowCells]
theorem rowCells_at : ∀ (l : List NC) (k : Nat) (c : NC) (j : Nat), l[k]? = some c → j < 14 → (rowCells l)[k * 14 + j]? = (ncCells c)[j]?
  | [], k, c, j, h, _ => by simp at h
  | d :: l, 0, c, j, h, hj => by
    simp at h; subst h
    rw [rowCells_cons, Nat.zero_mul, Nat.zero_add, List.getElem?_append_left (by rw [ncCells_len]; exact hj)]
  | d :: l, k + 1, c, j, h, hj => by
    rw [rowCells_cons, List.getElem?_append_right (by rw [ncCells_len]; omega), ncCells_len, show (k + 1) * 14 + j - 14 = k * 14 + j by omega]
    exact rowCells_at l k c j (by simpa using h) hj
theorem rowCells_set (a : Option Addr) (el ec : Nat) : ∀ (l : List NC) (k : Nat) (c : NC), l[k]? = some c → (rowCells l).set (k * 14 + 12) (.slice a el ec) = rowCells (l.set k (c.on a el ec))
  | [], k, c, h => by simp at h
  | d :: l, 0, c, h => by
    simp at h; subst h
    rw [List.set_cons_zero, rowCells_cons, rowCells_cons, List.set_append_left _ _ (by rw [ncCells_len]; omega)]
    rfl
  | d :: l, k + 1, c, h => by
    rw [List.set_cons_succ, rowCells_cons, rowCells_cons, List.set_append_right _ _ (by rw [ncCells_len]; omega), ncCells_len, show (k + 1) * 14 + 12 - 14 = k * 14 + 12 by omega, rowCells_set a el ec l k c (by simpa using h)]

/-- the nodes nl lie in block g, from its first cell on -/
def Nrow (w : World) (g cap : Nat) (nl : List NC) : Prop := ∃ cur, w.heap[g]? = some (.cells cur 152 (0, 0)) ∧ cur.size = cap * 14 ∧ cur.toList.take (nl.length * 14) = rowCells nl ∧ nl.length ≤ cap
theorem Nrow.cells {w : World} {g cap : Nat} {nl : List NC} (h : Nrow w g cap nl) (k : Nat) (c : NC) (hk : nl[k]? = some c) (j : Nat) (hj : j < 14) : w.cell? ⟨g, k * 14 + j, none⟩ = (snCells c.lab c.wv c.n c.ev)[j]? := by
  obtain ⟨cur, hb, _, ht, _⟩ := h
  have hl : k < nl.length := (List.getElem?_eq_some_iff.1 hk).1
  have h1 := rowCells_at nl k c j hk hj
  rw [← ht, List.getElem?_take, if_pos (by omega)] at h1
  simp only [World.cell?, hb]
  simpa [ncCells] using h1
theorem Nrow.all {w : World} {g cap : Nat} {nl : List NC} (h : Nrow w g cap nl) (k : Nat) (c : NC) (hk : nl[k]? = some c) : w.cell? ⟨g, k * 14, none⟩ = some (.string c.lab) ∧ w.cell? ⟨g, k * 14 + 1, none⟩ = some (.slice c.wa c.wl c.wc) ∧ w.cell? ⟨g, k * 14 + 2, none⟩ = some (.int .i64 c.n.kind) ∧ w.cell? ⟨g, k * 14 + 3, none⟩ = some (.int .i64 c.n.var) ∧ w.cell? ⟨g, k * 14 + 4, none⟩ = some (.int .i64 c.n.op) ∧ w.cell? ⟨g, k * 14 + 5, none⟩ = some (.int .i64 c.n.test) ∧ w.cell? ⟨g, k * 14 + 6, none⟩ = some (.bool c.n.a.isVar) ∧ w.cell? ⟨g, k * 14 + 7, none⟩ = some (.int .i64 c.n.a.var) ∧ w.cell? ⟨g, k * 14 + 8, none⟩ = some (.int .i64 c.n.a.const) ∧ w.cell? ⟨g, k * 14 + 9, none⟩ = some (.bool c.n.b.isVar) ∧ w.cell? ⟨g, k * 14 + 10, none⟩ = some (.int .i64 c.n.b.var) ∧ w.cell? ⟨g, k * 14 + 11, none⟩ = some (.int .i64 c.n.b.const) ∧ w.cell? ⟨g, k * 14 + 12, none⟩ = some (.slice c.ea c.el c.ec) ∧ w.cell? ⟨g, k * 14 + 13, none⟩ = some (.string c.n.goal) :=
  ⟨h.cells k c hk 0 (by omega), h.cells k c hk 1 (by omega), h.cells k c hk 2 (by omega), h.cells k c hk 3 (by omega), h.cells k c hk 4 (by omega), h.cells k c hk 5 (by omega), h.cells k c hk 6 (by omega), h.cells k c hk 7 (by omega), h.cells k c hk 8 (by omega), h.cells k c hk 9 (by omega), h.cells k c hk 10 (by omega), h.cells k c hk 11 (by omega), h.cells k c hk 12 (by omega), h.cells k c hk 13 (by omega)⟩
theorem Nrow.frozen {w : World} {g cap : Nat} {nl : List NC} (h : Nrow w g cap nl) (o : Nat) : w.frozen? ⟨g, o, none⟩ = false := by
  obtain ⟨cur, hb, _⟩ := h
  simp [World.frozen?, hb]
theorem Nrow.lt {w : World} {g cap : Nat} {nl : List NC} (h : Nrow w g cap nl) : g < w.heap.size := by
  obtain ⟨cur, hb, _⟩ := h; exact (Array.getElem?_eq_some_iff.1 hb).1
theorem Nrow.of_block {w w' : World} {g cap : Nat} {nl : List NC} (h : Nrow w g cap nl) (hb : w'.heap[g]? = w.heap[g]?) : Nrow w' g cap nl := by
  obtain ⟨cur, h1, h2⟩ := h; exact ⟨cur, hb.trans h1, h2⟩
theorem Nrow.alloc {w : World} {g cap : Nat} {nl : List NC} (h : Nrow w g cap nl) (o : Obj) : Nrow (w.alloc o) g cap nl := h.of_block (Below.heap_alloc w o g h.lt)
theorem Nrow.set_edges {w : World} {g cap : Nat} {nl : List NC} (h : Nrow w g cap nl) (k : Nat) (c : NC) (hk : nl[k]? = some c) (a : Option Addr) (el ec : Nat) : Nrow (w.setCell ⟨g, k * 14 + 12, none⟩ (.slice a el ec)) g cap (nl.set k (c.on a el ec)) := by
  obtain ⟨cur, hb, hs, ht, hc⟩ := h
  have hl : k < nl.length := (List.getElem?_eq_some_iff.1 hk).1
  refine ⟨cur.setIfInBounds (k * 14 + 12) (.slice a el ec), ?_, by simpa using hs, ?_, by simpa using hc⟩
  · have hlt := (Array.getElem?_eq_some_iff.1 hb)
    simp only [World.setCell, Array.getElem?_modify]
    simp [hb]
  · rw [List.length_set, ← rowCells_set a el ec nl k c hk, ← ht]
    rw [Array.toList_setIfInBounds, List.take_set]

/-- edges -/
def Er (w : World) (ev : Value) (es : List Int) : Prop := (es = [] ∧ ev = .slice none 0 0) ∨ ∃ b, ev = .slice (some ⟨b, 0, none⟩) es.length es.length ∧ w.heap[b]? = some (.cells (es.map (Value.int .i64)).toArray 3 (0, 0))
def edg (kind goal next : Int) : List Int := if kind == 4 then [goal, next] else if kind == 5 then [goal] else if kind == 6 then [] else [next]
set_option maxHeartbeats 400000 in
theorem edges_any (k g n : Int) (w : World) :
    Calls Tryz.prog 128 #[.int .i64 k, .int .i64 g, .int .i64 n] w fun e w' => ∃ a el ec, e = .returned (.slice a el ec) ∧ Hid (Er w' (.slice a el ec) (edg k g n)) ∧ Below w.heap.size w w' := by
  go_enter Tryz.func128, Tryz.ntmps128
  go_wp2
  all_goals
    go_ret
    refine ⟨_, _, _, rfl, ?_, ?_⟩
  · exact Or.inr ⟨w.heap.size, by simp [edg, *], by rw [heap_alloc_new]; simp [edg, *]⟩
  · exact (Below.refl _ _).alloc (Nat.le_refl _) _
  · exact Or.inr ⟨w.heap.size, by simp [edg, *], by rw [heap_alloc_new]; simp [edg, *]⟩
  · exact (Below.refl _ _).alloc (Nat.le_refl _) _
  · exact Or.inl ⟨by simp [edg, *], rfl⟩
  · exact Below.refl _ _
  · exact Or.inr ⟨w.heap.size, by simp [edg, *], by rw [heap_alloc_new]; simp [edg, *]⟩
  · exact (Below.refl _ _).alloc (Nat.le_refl _) _
end Go.Proofs.YtmipbiligijcpaaGreatDoor
namespace Go.Proofs.YtmipbiligijcpaaGreatDoor
set_option linter.unusedVariables false
set_option linter.unusedSimpArgs false
open Go.RowKit Go.Proofs Go.Maps Go.WideMaps

/-- the table of a list of names with numbers -/
def tabA (ps : List (Nam × Nat)) : DataW Unit := ps.foldl (fun D p => D.put (keyL p.1) (.lit (.int .i64 (p.2 : Int)))) (.map [])
theorem tabA_snoc (ps : List (Nam × Nat)) (p : Nam × Nat) : tabA (ps ++ [p]) = (tabA ps).put (keyL p.1) (.lit (.int .i64 (p.2 : Int))) := by simp [tabA]
theorem snoc_ind {α : Type} {P : List α → Prop} (h0 : P []) (h1 : ∀ l a, P l → P (l ++ [a])) (l : List α) : P l := by
  suffices h : ∀ n (l : List α), l.length = n → P l from h _ l rfl
  intro n
  induction n with
  | zero => intro l h; rw [List.length_eq_zero_iff.1 h]; exact h0
  | succ n ih =>
    intro l h
    obtain ⟨r, a, rfl⟩ : ∃ r a, l = r ++ [a] := ⟨l.dropLast, l.getLast (by intro e; simp [e] at h), (List.dropLast_concat_getLast _).symm⟩
    exact h1 r a (ih r (by simpa using h))
theorem tidyA (ps : List (Nam × Nat)) : Tidy (tabA ps) := by
  induction ps using snoc_ind with
  | h0 => exact tidy_empty
  | h1 l a ih => rw [tabA_snoc]; exact ih.put (key_lit a.1) _
def keysA (ps : List (Nam × Nat)) : List Nam := ps.map Prod.fst
def valA (ps : List (Nam × Nat)) (v : Nam) : Int := match ps.reverse.find? (fun p => p.1 == v) with | some p => (p.2 : Int) | none => 0
theorem hasA (ps : List (Nam × Nat)) (v : Nam) : Maps.has (tabA ps) (keyL v) = decide (v ∈ keysA ps) := by
  induction ps using snoc_ind with
  | h0 => rfl
  | h1 l a ih =>
    rw [tabA_snoc]
    by_cases e : v = a.1
    · subst e
      rw [Maps.has_put_same (tidyA l).isMap (key_lit _)]; simp [keysA]
    · rw [Maps.has_put_other (fun e' => e (keyL_inj e')), ih, decide_eq_decide]; simp [keysA, e]
theorem atA (ps : List (Nam × Nat)) (v : Nam) : (tabA ps).atKey (keyL v) (.lit (.int .i64 0)) = .lit (.int .i64 (valA ps v)) := by
  induction ps using snoc_ind with
  | h0 => rfl
  | h1 l a ih =>
    rw [tabA_snoc]
    by_cases e : v = a.1
    · subst e
      rw [Maps.atKey_put_same (tidyA l).isMap (key_lit _)]; simp [valA]
    · rw [Maps.atKey_put_other (fun e' => e (keyL_inj e')), ih]
      have : (a.1 == v) = false := by simpa using fun e' => e e'.symm
      simp [valA, this]

/-- labels to places, from node i on: none: one stands twice -/
def plc (i : Nat) (ps : List (Nam × Nat)) : List ByteArray → Option (List (Nam × Nat))
  | [] => some ps
  | b :: r => if b.toList.isEmpty then plc (i + 1) ps r else if b.data.toList ∈ keysA ps then none else plc (i + 1) (ps ++ [(b.data.toList, i)]) r
theorem plc_mono (i : Nat) (ps : List (Nam × Nat)) (l : List ByteArray) (k : Nat) : plc i ps l = (plc i ps (l.take k)).bind (fun q => plc (i + (l.take k).length) q (l.drop k)) := by
  induction l generalizing i ps k with
  | nil => simp [plc]
  | cons b r ih =>
    cases k with
    | zero => simp [plc]
    | succ k =>
      rw [List.take_succ_cons, List.drop_succ_cons]
      simp only [plc]
      split
      · rw [ih]; simp only [List.length_cons]; congr 1; funext q; congr 1; omega
      · split
        · rfl
        · rw [ih]; simp only [List.length_cons]; congr 1; funext q; congr 1; omega

theorem plc_step {labs : List ByteArray} {k : Nat} {ps : List (Nam × Nat)} {b : ByteArray} (h : plc 0 [] (labs.take k) = some ps) (hb : labs[k]? = some b) :
    plc 0 [] (labs.take (k + 1)) = if b.toList.isEmpty then some ps else if b.data.toList ∈ keysA ps then none else some (ps ++ [(b.data.toList, k)]) := by
  have hl : k < labs.length := (List.getElem?_eq_some_iff.1 hb).1
  rw [plc_mono 0 [] (labs.take (k + 1)) k, List.take_take, Nat.min_eq_left (by omega), h]
  have e : (labs.take (k + 1)).drop k = [b] := by
    rw [List.drop_take, show k + 1 - k = 1 by omega, List.take_one, List.head?_drop, hb]; rfl
  have e2 : (labs.take k).length = k := by simp; omega
  simp only [Option.bind_some, e, e2, Nat.zero_add, plc]
theorem plc_fall {labs : List ByteArray} {k : Nat} (h : plc 0 [] (labs.take k) = none) : plc 0 [] labs = none := by
  rw [plc_mono 0 [] labs k, h]; rfl
theorem lab_at {nl : List NC} {k : Nat} {c : NC} (h : nl[k]? = some c) : (nl.map NC.lab)[k]? = some c.lab := by simp [h]

set_option maxHeartbeats 1000000 in
set_option maxRecDepth 100000 in
theorem placeLabels_any (g cap : Nat) (nl : List NC) (w : World) (hN : Nrow w g cap nl) (hlen : nl.length ≤ 60) (hz : ∀ c ∈ nl, c.lab.size ≤ 3000) :
    Calls Tryz.prog 126 #[.slice (some ⟨g, 0, none⟩) nl.length cap] w fun e w' =>
      ((∃ ps b, plc 0 [] (nl.map NC.lab) = some ps ∧ e = .returned (.tuple #[.map (some b), .bool true]) ∧ w.heap.size ≤ b ∧ w'.ownsMap Tryz.prog 9 (plainElem Tryz.prog 3) b 60 (tabA ps)) ∨
       (plc 0 [] (nl.map NC.lab) = none ∧ e = .returned (.tuple #[.map none, .bool false]))) ∧ Below w.heap.size w w' := by
  have hmm := @run_makeMap Tryz.prog
  have hg := hN.lt
  go_enter Tryz.func126, Tryz.ntmps126
  go_wp2
  go_loopw [12] (fun i wr => ∃ (k : Nat) (ps : List (Nam × Nat)), k ≤ nl.length ∧ i = .int .i64 k ∧ Hid (plc 0 [] ((nl.map NC.lab).take k) = some ps) ∧ wr.ownsMap Tryz.prog 9 (plainElem Tryz.prog 3) w.heap.size k (tabA ps) ∧ Below w.heap.size w wr) (fun i _ => nl.length - (intOf i).toNat)
  case atStart => exact ⟨0, [], Nat.zero_le _, rfl, rfl, World.ownsMap_made _ _ _ _, (Below.refl _ _).alloc (Nat.le_refl _) _⟩
  case round =>
    obtain ⟨k, ps, hk, rfl, HP, hown, hb⟩ := hrel
    by_cases hlt : k < nl.length
    · obtain ⟨c, hc⟩ : ∃ c, nl[k]? = some c := ⟨_, List.getElem?_eq_getElem hlt⟩
      have hN' := hN.of_block (hb.block g hg)
      obtain ⟨q0, q1, q2, q3, q4, q5, q6, q7, q8, q9, q10, q11, q12, q13⟩ := hN'.all k c hc
      have hzc : c.lab.size ≤ maxLen := by have := hz c (List.mem_of_getElem? hc); unfold maxLen; omega
      have hst := plc_step HP.out (lab_at hc)
      have HST : Hid (plc 0 [] ((nl.map NC.lab).take (k + 1)) = if c.lab.toList.isEmpty then some ps else if c.lab.data.toList ∈ keysA ps then none else some (ps ++ [(c.lab.data.toList, k)])) := hst
      clear hN' hst
      have hlti : (k : Int) < (nl.length : Int) := by omega
      have hbz := hb.size
      have hkey : keyOf Tryz.prog 9 (.string c.lab) = some (keyL c.lab.data.toList) := keyOf_string_mk Tryz.underlying9 hzc
      cases hem : c.lab.toList.isEmpty with
      | true =>
        go_wp2_with fail
        have e : plc 0 [] ((nl.map NC.lab).take (k + 1)) = some ps := by rw [HST.out, hem]; rfl
        exact ⟨⟨k + 1, ps, by omega, by go_num, e, (hown.alloc _).mono (by omega), hb.alloc hbz _⟩, by simp [intOf]; omega⟩
      | false =>
        by_cases hin : c.lab.data.toList ∈ keysA ps
        · have hh : Maps.has (tabA ps) (keyL c.lab.data.toList) = true := by rw [hasA]; simpa using hin
          go_wp2_with (first
            | (at_lookup; refine wpList_lookup_own_ok_int _ rfl _ _ 141 rfl 9 3 .i64 lawS Tryz.underlying141 Tryz.underlying3 (zeroI _) w.heap.size k (tabA ps) rfl (hown.alloc _) _ _ rfl hkey ?_; intro z hat hwc))
          go_ret2
          refine ⟨Or.inr ⟨plc_fall (k := k + 1) ?_, rfl⟩, hb.alloc hbz _⟩
          rw [HST.out, hem]; simp [hin]
        · have hh : Maps.has (tabA ps) (keyL c.lab.data.toList) = false := by rw [hasA]; simpa using hin
          go_wp2_with (first
            | (at_lookup; refine wpList_lookup_own_ok_int _ rfl _ _ 141 rfl 9 3 .i64 lawS Tryz.underlying141 Tryz.underlying3 (zeroI _) w.heap.size k (tabA ps) rfl (hown.alloc _) _ _ rfl hkey ?_; intro z hat hwc)
            | (at_mapUpdate; refine wpList_mapUpdate_own _ rfl _ _ _ 141 rfl 9 3 lawS Tryz.underlying141 _ w.heap.size k (tabA ps) rfl (hown.alloc _) (by unfold maxLen; omega) _ _ _ rfl rfl hkey _ [] (plainElem_int Tryz.underlying3 (WalkArith.wf_i64 (by omega))) ?_; intro w1 hown1 hgrow1))
          go_roundw
          case rel =>
            have e : plc 0 [] ((nl.map NC.lab).take (k + 1)) = some (ps ++ [(c.lab.data.toList, k)]) := by rw [HST.out, hem]; simp [hin]
            refine ⟨k + 1, _, by omega, by go_num, e, ?_, ?_⟩
            · rw [tabA_snoc]; exact hown1
            · exact (hb.alloc hbz _).grown hgrow1 (by simp; omega) (fun j hj => by cases hj; exact Nat.le_refl _)
          case measure => simp [intOf]; omega
    · obtain rfl : k = nl.length := by omega
      go_wp2
      go_ret2
      have e := HP.out
      rw [List.take_of_length_le (by simp)] at e
      exact ⟨Or.inl ⟨ps, w.heap.size, e, rfl, Nat.le_refl _, hown.mono (by omega)⟩, hb⟩
end Go.Proofs.YtmipbiligijcpaaGreatDoor
namespace Go.Proofs.YtmipbiligijcpaaGreatDoor
set_option linter.unusedVariables false
set_option linter.unusedSimpArgs false
open Go.RowKit Go.Proofs Go.Maps Go.WideMaps

def jumps (k : Int) : Bool := k == 4 || k == 5
set_option maxHeartbeats 1000000 in
set_option maxRecDepth 100000 in
theorem namesLabel_any (c : NC) (w : World) :
    Calls Tryz.prog 127 #[.agg #[.string c.lab, .slice c.wa c.wl c.wc, .int .i64 c.n.kind, .int .i64 c.n.var, .int .i64 c.n.op, .int .i64 c.n.test, .bool c.n.a.isVar, .int .i64 c.n.a.var, .int .i64 c.n.a.const, .bool c.n.b.isVar, .int .i64 c.n.b.var, .int .i64 c.n.b.const, .slice c.ea c.el c.ec, .string c.n.goal]] w fun e w' =>
      e = .returned (.bool (jumps c.n.kind)) ∧ Below w.heap.size w w' := by
  go_enter Tryz.func127, Tryz.ntmps127
  go_wp2
  all_goals
    go_ret
    refine ⟨ret_bool ?_, (Below.refl _ _).alloc (Nat.le_refl _) _⟩
    simp_all [jumps]

def goalsOk (ps : List (Nam × Nat)) (nl : List NC) : Bool := nl.all (fun c => !jumps c.n.kind || decide (c.n.goal.data.toList ∈ keysA ps))
def edgK (ps : List (Nam × Nat)) (c : NC) (j : Nat) : List Int := edg c.n.kind (valA ps c.n.goal.data.toList) ((j : Int) + 1)
def lastOk (ps : List (Nam × Nat)) (nl : List NC) : Bool := match nl.getLast? with | some c => !(edgK ps c (nl.length - 1)).contains (nl.length : Int) | none => false
def linkOk (nl : List NC) : Bool := match plc 0 [] (nl.map NC.lab) with | some ps => goalsOk ps nl && lastOk ps nl | none => false
/-- the same node but for its edges -/
structure Like (c c' : NC) : Prop where
  lab : c'.lab = c.lab
  wa : c'.wa = c.wa
  wl : c'.wl = c.wl
  wc : c'.wc = c.wc
  n : c'.n = c.n
theorem Like.refl (c : NC) : Like c c := ⟨rfl, rfl, rfl, rfl, rfl⟩
theorem Like.on (c : NC) (a : Option Addr) (l k : Nat) : Like c (c.on a l k) := ⟨rfl, rfl, rfl, rfl, rfl⟩
/-- nl' is nl, with edges at the first k -/
structure Lk (w : World) (ps : List (Nam × Nat)) (nl nl' : List NC) (k : Nat) : Prop where
  len : nl'.length = nl.length
  done : ∀ j c, j < k → nl[j]? = some c → ∃ c', nl'[j]? = some c' ∧ Like c c' ∧ Er w c'.ev (edgK ps c j) ∧ (!jumps c.n.kind || decide (c.n.goal.data.toList ∈ keysA ps)) = true
  rest : ∀ j, k ≤ j → nl'[j]? = nl[j]?
theorem Er.of_below {w w' : World} {ev : Value} {es : List Int} (h : Er w ev es) (hb : Below w.heap.size w w') : Er w' ev es := by
  rcases h with h | ⟨b, h1, h2⟩
  · exact Or.inl h
  · exact Or.inr ⟨b, h1, (hb.block b (Array.getElem?_eq_some_iff.1 h2).1).trans h2⟩
theorem Er.of_set {w : World} {ev : Value} {es : List Int} {g cap : Nat} {nl : List NC} (h : Er w ev es) (hN : Nrow w g cap nl) (o : Nat) (v : Value) : Er (w.setCell ⟨g, o, none⟩ v) ev es := by
  rcases h with h | ⟨b, h1, h2⟩
  · exact Or.inl h
  · refine Or.inr ⟨b, h1, (Below.heap_setCell _ _ _ _ ?_).trans h2⟩
    rintro rfl
    obtain ⟨cur, hc, _⟩ := hN
    rw [hc] at h2
    simp at h2
theorem Lk.of_below {w w' : World} {ps : List (Nam × Nat)} {nl nl' : List NC} {k : Nat} (h : Lk w ps nl nl' k) (hb : Below w.heap.size w w') : Lk w' ps nl nl' k :=
  ⟨h.len, fun j c hj hc => let ⟨c', a, b, d, e⟩ := h.done j c hj hc; ⟨c', a, b, d.of_below hb, e⟩, h.rest⟩
theorem Lk.step {w : World} {ps : List (Nam × Nat)} {nl nl' : List NC} {k g cap : Nat} {c : NC} (h : Lk w ps nl nl' k) (hN : Nrow w g cap nl') (hc : nl[k]? = some c) (hc' : nl'[k]? = some c) (a : Option Addr) (el ec : Nat) (hE : Er w (.slice a el ec) (edgK ps c k)) (hg : (!jumps c.n.kind || decide (c.n.goal.data.toList ∈ keysA ps)) = true) :
    Lk (w.setCell ⟨g, k * 14 + 12, none⟩ (.slice a el ec)) ps nl (nl'.set k (c.on a el ec)) (k + 1) := by
  have hl : k < nl'.length := (List.getElem?_eq_some_iff.1 hc').1
  refine ⟨by simpa using h.len, fun j d hj hd => ?_, fun j hj => ?_⟩
  · by_cases e : j = k
    · subst e
      rw [hc] at hd; cases hd
      exact ⟨c.on a el ec, by simp [hl], Like.on c a el ec, hE.of_set hN _ _, hg⟩
    · obtain ⟨c', x, y, z, u⟩ := h.done j d (by omega) hd
      exact ⟨c', by rw [List.getElem?_set_ne (by omega)]; exact x, y, z.of_set hN _ _, u⟩
  · rw [List.getElem?_set_ne (by omega)]; exact h.rest j (by omega)
theorem link_none (a : Option Addr) (cap : Nat) (w : World) :
    Calls Tryz.prog 80 #[.slice a 0 cap] w fun e w' => e = .returned (.bool false) ∧ w' = w := by
  go_enter Tryz.func80, Tryz.ntmps80
  go_wp2
  go_ret
  exact ⟨rfl, rfl⟩
theorem link_many (a : Option Addr) (len cap : Nat) (w : World) (h0 : ((len : Int) == 0) = false) (h : decide (60 < (len : Int)) = true) :
    Calls Tryz.prog 80 #[.slice a len cap] w fun e w' => e = .returned (.bool false) ∧ w' = w := by
  go_enter Tryz.func80, Tryz.ntmps80
  go_wp2
  go_ret
  exact ⟨rfl, rfl⟩
end Go.Proofs.YtmipbiligijcpaaGreatDoor
