/- Rows of nodes, edges, places of labels. -/
import Derived.Test.YtmipbiligijcpaaDoorW5
namespace Go.Proofs.YtmipbiligijcpaaDoor
set_option linter.unusedVariables false
set_option linter.unusedSimpArgs false
open Go.RowKit Go.Proofs Go.Maps

/-- a node as it lies in the row -/
structure NC where
  lab : ByteArray
  wa : Option Addr
  wl : Nat
  wc : Nat
  n : SN
  ea : Option Addr
  el : Nat
  ec : Nat
abbrev NC.wv (c : NC) : Value := .slice c.wa c.wl c.wc
abbrev NC.ev (c : NC) : Value := .slice c.ea c.el c.ec
/-- the node with other edges -/
def NC.on (c : NC) (a : Option Addr) (l k : Nat) : NC := { c with ea := a, el := l, ec := k }
def ncCells (c : NC) : List Value := (snCells c.lab c.wv c.n c.ev).toList
def rowCells (l : List NC) : List Value := l.flatMap ncCells
theorem ncCells_len (c : NC) : (ncCells c).length = 14 := rfl
theorem rowCells_len (l : List NC) : (rowCells l).length = l.length * 14 := by
  induction l with
  | nil => rfl
  | cons c r ih => simp only [rowCells, List.flatMap_cons, List.length_append, List.length_cons, ncCells_len] at ih ⊢; omega
theorem rowCells_snoc (l : List NC) (c : NC) : rowCells (l ++ [c]) = rowCells l ++ ncCells c := by simp [rowCells]
theorem rowCells_cons (c : NC) (l : List NC) : rowCells (c :: l) = ncCells c ++ rowCells l := by simp [rowCells]
theorem rowCells_at : ∀ (l : List NC) (k : Nat) (c : NC) (j : Nat), l[k]? = some c → j < 14 → (rowCells l)[k * 14 + j]? = (ncCells c)[j]?
  | [], k, c, j, h, _ => by simp at h
  | d :: l, 0, c, j, h, hj => by
    simp at h; subst h
    rw [rowCells_cons, Nat.zero_mul, Nat.zero_add, List.getElem?_append_left (by rw [ncCells_len]; exact hj)]
  | d :: l, k + 1, c, j, h, hj => by
    rw [rowCells_cons, List.getElem?_append_right (by rw [ncCells_len]; omega), ncCells_len, show (k + 1) * 14 + j - 14 = k * 14 + j by omega]
    exact rowCells_at l k c j (by simpa using h) hj
theorem rowCells_set (a : Option Addr) (el ec : Nat) : ∀ (l : List NC) (k : Nat) (c : NC), l[k]? = some c → (rowCells l).set (k * 14 + 12) (.slice a el ec) = rowCells (l.set k (c.on a el ec))
  | [], k, c, h => by simp at h
  | d :: l, 0, c, h => by
    simp at h; subst h
    rw [List.set_cons_zero, rowCells_cons, rowCells_cons, List.set_append_left _ _ (by rw [ncCells_len]; omega)]
    rfl
  | d :: l, k + 1, c, h => by
    rw [List.set_cons_succ, rowCells_cons, rowCells_cons, List.set_append_right _ _ (by rw [ncCells_len]; omega), ncCells_len, show (k + 1) * 14 + 12 - 14 = k * 14 + 12 by omega, rowCells_set a el ec l k c (by simpa using h)]

/-- the nodes nl lie in block g, from its first cell on -/
def Nrow (w : World) (g cap : Nat) (nl : List NC) : Prop := ∃ cur, w.heap[g]? = some (.cells cur 58 (0, 0)) ∧ cur.size = cap * 14 ∧ cur.toList.take (nl.length * 14) = rowCells nl ∧ nl.length ≤ cap
theorem Nrow.cells {w : World} {g cap : Nat} {nl : List NC} (h : Nrow w g cap nl) (k : Nat) (c : NC) (hk : nl[k]? = some c) (j : Nat) (hj : j < 14) : w.cell? ⟨g, k * 14 + j, none⟩ = (snCells c.lab c.wv c.n c.ev)[j]? := by
  obtain ⟨cur, hb, _, ht, _⟩ := h
  have hl : k < nl.length := (List.getElem?_eq_some_iff.1 hk).1
  have h1 := rowCells_at nl k c j hk hj
  rw [← ht, List.getElem?_take, if_pos (by omega)] at h1
  simp only [World.cell?, hb]
  simpa [ncCells] using h1
theorem Nrow.all {w : World} {g cap : Nat} {nl : List NC} (h : Nrow w g cap nl) (k : Nat) (c : NC) (hk : nl[k]? = some c) : w.cell? ⟨g, k * 14, none⟩ = some (.string c.lab) ∧ w.cell? ⟨g, k * 14 + 1, none⟩ = some (.slice c.wa c.wl c.wc) ∧ w.cell? ⟨g, k * 14 + 2, none⟩ = some (.int .i64 c.n.kind) ∧ w.cell? ⟨g, k * 14 + 3, none⟩ = some (.int .i64 c.n.var) ∧ w.cell? ⟨g, k * 14 + 4, none⟩ = some (.int .i64 c.n.op) ∧ w.cell? ⟨g, k * 14 + 5, none⟩ = some (.int .i64 c.n.test) ∧ w.cell? ⟨g, k * 14 + 6, none⟩ = some (.bool c.n.a.isVar) ∧ w.cell? ⟨g, k * 14 + 7, none⟩ = some (.int .i64 c.n.a.var) ∧ w.cell? ⟨g, k * 14 + 8, none⟩ = some (.int .i64 c.n.a.const) ∧ w.cell? ⟨g, k * 14 + 9, none⟩ = some (.bool c.n.b.isVar) ∧ w.cell? ⟨g, k * 14 + 10, none⟩ = some (.int .i64 c.n.b.var) ∧ w.cell? ⟨g, k * 14 + 11, none⟩ = some (.int .i64 c.n.b.const) ∧ w.cell? ⟨g, k * 14 + 12, none⟩ = some (.slice c.ea c.el c.ec) ∧ w.cell? ⟨g, k * 14 + 13, none⟩ = some (.string c.n.goal) :=
  ⟨h.cells k c hk 0 (by omega), h.cells k c hk 1 (by omega), h.cells k c hk 2 (by omega), h.cells k c hk 3 (by omega), h.cells k c hk 4 (by omega), h.cells k c hk 5 (by omega), h.cells k c hk 6 (by omega), h.cells k c hk 7 (by omega), h.cells k c hk 8 (by omega), h.cells k c hk 9 (by omega), h.cells k c hk 10 (by omega), h.cells k c hk 11 (by omega), h.cells k c hk 12 (by omega), h.cells k c hk 13 (by omega)⟩
theorem Nrow.frozen {w : World} {g cap : Nat} {nl : List NC} (h : Nrow w g cap nl) (o : Nat) : w.frozen? ⟨g, o, none⟩ = false := by
  obtain ⟨cur, hb, _⟩ := h
  simp [World.frozen?, hb]
theorem Nrow.lt {w : World} {g cap : Nat} {nl : List NC} (h : Nrow w g cap nl) : g < w.heap.size := by
  obtain ⟨cur, hb, _⟩ := h; exact (Array.getElem?_eq_some_iff.1 hb).1
theorem Nrow.of_block {w w' : World} {g cap : Nat} {nl : List NC} (h : Nrow w g cap nl) (hb : w'.heap[g]? = w.heap[g]?) : Nrow w' g cap nl := by
  obtain ⟨cur, h1, h2⟩ := h; exact ⟨cur, hb.trans h1, h2⟩
theorem Nrow.alloc {w : World} {g cap : Nat} {nl : List NC} (h : Nrow w g cap nl) (o : Obj) : Nrow (w.alloc o) g cap nl := h.of_block (Below.heap_alloc w o g h.lt)
theorem Nrow.set_edges {w : World} {g cap : Nat} {nl : List NC} (h : Nrow w g cap nl) (k : Nat) (c : NC) (hk : nl[k]? = some c) (a : Option Addr) (el ec : Nat) : Nrow (w.setCell ⟨g, k * 14 + 12, none⟩ (.slice a el ec)) g cap (nl.set k (c.on a el ec)) := by
  obtain ⟨cur, hb, hs, ht, hc⟩ := h
  have hl : k < nl.length := (List.getElem?_eq_some_iff.1 hk).1
  refine ⟨cur.setIfInBounds (k * 14 + 12) (.slice a el ec), ?_, by simpa using hs, ?_, by simpa using hc⟩
  · have hlt := (Array.getElem?_eq_some_iff.1 hb)
    simp only [World.setCell, Array.getElem?_modify]
    simp [hb]
  · rw [List.length_set, ← rowCells_set a el ec nl k c hk, ← ht]
    rw [Array.toList_setIfInBounds, List.take_set]

/-- edges -/
def Er (w : World) (ev : Value) (es : List Int) : Prop := (es = [] ∧ ev = .slice none 0 0) ∨ ∃ b, ev = .slice (some ⟨b, 0, none⟩) es.length es.length ∧ w.heap[b]? = some (.cells (es.map (Value.int .i64)).toArray 3 (0, 0))
def edg (kind goal next : Int) : List Int := if kind == 4 then [goal, next] else if kind == 5 then [goal] else if kind == 6 then [] else [next]
set_option maxHeartbeats 400000 in
theorem edges_any (k g n : Int) (w : World) :
    Calls Tryd.prog 31 #[.int .i64 k, .int .i64 g, .int .i64 n] w fun e w' => ∃ a el ec, e = .returned (.slice a el ec) ∧ Hid (Er w' (.slice a el ec) (edg k g n)) ∧ Below w.heap.size w w' := by
  go_enter Tryd.func31, Tryd.ntmps31
  go_wp2
  all_goals
    go_ret
    refine ⟨_, _, _, rfl, ?_, ?_⟩
  · exact Or.inr ⟨w.heap.size, by simp [edg, *], by rw [heap_alloc_new]; simp [edg, *]⟩
  · exact (Below.refl _ _).alloc (Nat.le_refl _) _
  · exact Or.inr ⟨w.heap.size, by simp [edg, *], by rw [heap_alloc_new]; simp [edg, *]⟩
  · exact (Below.refl _ _).alloc (Nat.le_refl _) _
  · exact Or.inl ⟨by simp [edg, *], rfl⟩
  · exact Below.refl _ _
  · exact Or.inr ⟨w.heap.size, by simp [edg, *], by rw [heap_alloc_new]; simp [edg, *]⟩
  · exact (Below.refl _ _).alloc (Nat.le_refl _) _
end Go.Proofs.YtmipbiligijcpaaDoor
