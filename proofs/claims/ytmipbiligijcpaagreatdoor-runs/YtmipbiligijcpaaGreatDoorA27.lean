/- A part of the proof: contracts of functions of the program. -/
import Derived.Test.YtmipbiligijcpaaGreatDoorA01
import Derived.Test.YtmipbiligijcpaaGreatDoorA26
namespace Go.Proofs.YtmipbiligijcpaaGreatDoor
set_option linter.unusedVariables false
set_option linter.unusedSimpArgs false
open Go.RowKit Go.Proofs Go.Maps

/-- a node as it lies in the row -/
structure RC where
  n : RN
  wa : Option Addr
  wl : Nat
  wc : Nat
abbrev RC.wv (c : RC) : Value := .slice c.wa c.wl c.wc
def rcCells (c : RC) : List Value := (rnCells c.wv c.n).toList
def rrow (l : List RC) : List Value := l.flatMap rcCells
theorem rcCells_len (c : RC) : (rcCells c).length = 13 := rfl
theorem rrow_snoc (l : List RC) (c : RC) : rrow (l ++ [c]) = rrow l ++ rcCells c := by simp [rrow]
theorem rrow_cons (c : RC) (l : List RC) : rrow (c :: l) = rcCells c ++ rrow l := by simp [rrow]
theorem rrow_at : ∀ (l : List RC) (k : Nat) (c : RC) (j : Nat), l[k]? = some c → j < 13 → (rrow l)[k * 13 + j]? = (rcCells c)[j]?
  | [], k, c, j, h, _ => by simp at h
  | d :: l, 0, c, j, h, hj => by
    simp at h; subst h
    rw [rrow_cons, Nat.zero_mul, Nat.zero_add, List.getElem?_append_left (by rw [rcCells_len]; exact hj)]
  | d :: l, k + 1, c, j, h, hj => by
    rw [rrow_cons, List.getElem?_append_right (by rw [rcCells_len]; omega), rcCells_len, show (k + 1) * 13 + j - 13 = k * 13 + j by omega]
    exact rrow_at l k c j (by simpa using h) hj
/-- the nodes cl lie in block g, from its first cell on -/
def Rrow (w : World) (g cap : Nat) (cl : List RC) : Prop := ∃ cur, w.heap[g]? = some (.cells cur 111 (0, 0)) ∧ cur.size = cap * 13 ∧ cur.toList.take (cl.length * 13) = rrow cl ∧ cl.length ≤ cap
theorem Rrow.cells {w : World} {g cap : Nat} {cl : List RC} (h : Rrow w g cap cl) (k : Nat) (c : RC) (hk : cl[k]? = some c) (j : Nat) (hj : j < 13) : w.cell? ⟨g, k * 13 + j, none⟩ = (rnCells c.wv c.n)[j]? := by
  obtain ⟨cur, hb, _, ht, _⟩ := h
  have hl : k < cl.length := (List.getElem?_eq_some_iff.1 hk).1
  have h1 := rrow_at cl k c j hk hj
  rw [← ht, List.getElem?_take, if_pos (by omega)] at h1
  simp only [World.cell?, hb]
  simpa [rcCells] using h1
theorem Rrow.all {w : World} {g cap : Nat} {cl : List RC} (h : Rrow w g cap cl) (k : Nat) (c : RC) (hk : cl[k]? = some c) : w.cell? ⟨g, k * 13, none⟩ = some (.slice c.wa c.wl c.wc) ∧ w.cell? ⟨g, k * 13 + 1, none⟩ = some (.string c.n.lab) ∧ w.cell? ⟨g, k * 13 + 2, none⟩ = some (.string c.n.does) ∧ w.cell? ⟨g, k * 13 + 3, none⟩ = some (.int .i64 c.n.target) ∧ w.cell? ⟨g, k * 13 + 4, none⟩ = some (.int .i64 c.n.a.var) ∧ w.cell? ⟨g, k * 13 + 5, none⟩ = some (.int .i64 c.n.a.c) ∧ w.cell? ⟨g, k * 13 + 6, none⟩ = some (.string c.n.a.word) ∧ w.cell? ⟨g, k * 13 + 7, none⟩ = some (.int .i64 c.n.b.var) ∧ w.cell? ⟨g, k * 13 + 8, none⟩ = some (.int .i64 c.n.b.c) ∧ w.cell? ⟨g, k * 13 + 9, none⟩ = some (.string c.n.b.word) ∧ w.cell? ⟨g, k * 13 + 10, none⟩ = some (.int .i64 c.n.ops) ∧ w.cell? ⟨g, k * 13 + 11, none⟩ = some (.string c.n.sign) ∧ w.cell? ⟨g, k * 13 + 12, none⟩ = some (.string c.n.goal) :=
  ⟨h.cells k c hk 0 (by omega), h.cells k c hk 1 (by omega), h.cells k c hk 2 (by omega), h.cells k c hk 3 (by omega), h.cells k c hk 4 (by omega), h.cells k c hk 5 (by omega), h.cells k c hk 6 (by omega), h.cells k c hk 7 (by omega), h.cells k c hk 8 (by omega), h.cells k c hk 9 (by omega), h.cells k c hk 10 (by omega), h.cells k c hk 11 (by omega), h.cells k c hk 12 (by omega)⟩
theorem Rrow.lt {w : World} {g cap : Nat} {cl : List RC} (h : Rrow w g cap cl) : g < w.heap.size := by
  obtain ⟨cur, hb, _⟩ := h; exact (Array.getElem?_eq_some_iff.1 hb).1
theorem Rrow.of_block {w w' : World} {g cap : Nat} {cl : List RC} (h : Rrow w g cap cl) (hb : w'.heap[g]? = w.heap[g]?) : Rrow w' g cap cl := by
  obtain ⟨cur, h1, h2⟩ := h; exact ⟨cur, hb.trans h1, h2⟩

/-! ### the edges, plainly -/
def labAt (cl : List RC) (j : Nat) : ByteArray := match cl[j]? with | some c => c.n.lab | none => emp
def hitsTo (cl : List RC) (g : ByteArray) : Nat → List Int
  | 0 => []
  | k + 1 => hitsTo cl g k ++ (if (labAt cl k).toList == g.toList then [(k : Int)] else [])
def dupTo (cl : List RC) (i : Nat) (l : ByteArray) : Nat → Bool
  | 0 => false
  | k + 1 => dupTo cl i l k || (decide (k ≠ i) && (labAt cl k).toList == l.toList)
def falls (m : RN) : Bool := !(m.does.toList == [103, 111, 116, 111]) && !(m.does.toList == [114, 101, 116, 117, 114, 110])
def hitsN (cl : List RC) (m : RN) (k : Nat) : List Int := if m.goal.toList.isEmpty then [] else hitsTo cl m.goal k
def redg (cl : List RC) (i : Nat) (m : RN) : List Int := hitsN cl m cl.length ++ (if falls m then [(i : Int) + 1] else [])
def rbad (cl : List RC) (i : Nat) (m : RN) : Bool := (!m.lab.toList.isEmpty && dupTo cl i m.lab cl.length) || (!m.goal.toList.isEmpty && (hitsN cl m cl.length).isEmpty) || (falls m && decide (i + 1 = cl.length))
def rlkTo (cl : List RC) : Nat → Bool
  | 0 => true
  | k + 1 => rlkTo cl k && (match cl[k]? with | some c => !rbad cl k c.n | none => true)
def rlk (cl : List RC) : Bool := rlkTo cl cl.length
theorem hitsTo_le (cl : List RC) (g : ByteArray) (k : Nat) : (hitsTo cl g k).length ≤ k := by
  induction k with
  | zero => simp [hitsTo]
  | succ k ih => simp only [hitsTo, List.length_append]; split <;> simp <;> omega
theorem hitsN_le (cl : List RC) (m : RN) (k : Nat) : (hitsN cl m k).length ≤ k := by
  unfold hitsN; split
  · simp
  · exact hitsTo_le _ _ _
theorem labAt_eq {cl : List RC} {k : Nat} {c : RC} (h : cl[k]? = some c) : labAt cl k = c.n.lab := by unfold labAt; rw [h]
theorem rlk_bad {cl : List RC} {i : Nat} {c : RC} (h : cl[i]? = some c) (hb : rbad cl i c.n = true) : rlk cl = false := by
  have key : ∀ k, i < k → rlkTo cl k = false := by
    intro k
    induction k with
    | zero => intro h; omega
    | succ k ih =>
      intro hk
      rw [rlkTo]
      by_cases e : i = k
      · subst e; rw [h]; simp [hb]
      · rw [ih (by omega)]; rfl
  exact key _ (List.getElem?_eq_some_iff.1 h).1
theorem dup_mono {cl : List RC} {i k : Nat} {l : ByteArray} (h : dupTo cl i l k = true) : ∀ n, k ≤ n → dupTo cl i l n = true := by
  intro n hn
  induction n with
  | zero => obtain rfl : k = 0 := by omega
            exact h
  | succ n ih =>
    by_cases e : k = n + 1
    · subst e; exact h
    · rw [dupTo, ih (by omega)]; rfl
theorem hitsN_succ (cl : List RC) (m : RN) (k : Nat) (d : RC) (h : cl[k]? = some d) : hitsN cl m (k + 1) = if !m.goal.toList.isEmpty && (d.n.lab.toList == m.goal.toList) then hitsN cl m k ++ [(k : Int)] else hitsN cl m k := by
  unfold hitsN
  cases he : m.goal.toList.isEmpty with
  | true => simp
  | false =>
    simp only [Bool.not_false, Bool.true_and, Bool.false_eq_true, if_false]
    rw [hitsTo, labAt_eq h]
    split <;> simp
theorem dup_succ (cl : List RC) (i : Nat) (l : ByteArray) (k : Nat) (d : RC) (h : cl[k]? = some d) : dupTo cl i l (k + 1) = (dupTo cl i l k || (decide (k ≠ i) && (d.n.lab.toList == l.toList))) := by
  rw [dupTo, labAt_eq h]
theorem infoSl : (Tryz.prog.info? 36).map (fun i => (i.zero, i.size, i.bytes)) = some (some (.slice none 0 0), 1, 24) := by kernel_rfl
theorem infoRN : (Tryz.prog.info? 111).map (fun i => (i.zero, i.size, i.bytes)) = some (some (.agg #[.slice none 0 0, .string ⟨#[]⟩, .string ⟨#[]⟩, .int .i64 0, .int .i64 0, .int .i64 0, .string ⟨#[]⟩, .int .i64 0, .int .i64 0, .string ⟨#[]⟩, .int .i64 0, .string ⟨#[]⟩, .string ⟨#[]⟩]), 13, 168) := by kernel_rfl
end Go.Proofs.YtmipbiligijcpaaGreatDoor
