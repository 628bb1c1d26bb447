/- What a text is as a program, plainly; nodes in memory and in the model. -/
import Derived.Test.YtmipbiligijcpaaDoorW12
import Derived.Test.YtmipbiligijcpaaDoorW11
import Derived.Test.YtmipbiligijcpaaDoorW15
namespace Go.Proofs.YtmipbiligijcpaaDoor
set_option linter.unusedVariables false
set_option linter.unusedSimpArgs false
open Go.RowKit Go.Proofs Go.Maps

structure PN where
  lab : ByteArray
  ws : List ByteArray
  n : SN
def PN.nc (p : PN) : NC := ⟨p.lab, none, 0, 0, p.n, none, 0, 0⟩
def rdl (vs : List Nam) (acc : List PN) : List (List ByteArray) → Option (List PN × List Nam)
  | [] => some (acc, vs)
  | ws :: r => if saysNo ws then rdl vs acc r else if (lin vs ws).2.2.2.1 then rdl (lin vs ws).2.2.2.2 (acc ++ [⟨(lin vs ws).1, ws.drop (lin vs ws).2.1, (lin vs ws).2.2.1⟩]) r else none
def lnB (s : ByteArray) : List ByteArray := Lib.splitB ⟨#[10]⟩ 0 (Lib.countB s ⟨#[10]⟩) s
def lnW (s : ByteArray) : List (List ByteArray) := (lnB s).map wds
abbrev Pr := Bool ⊕ (List PN × List Nam)
abbrev Pr.syn : Pr := .inl false
abbrev Pr.prg : Pr := .inl true
abbrev Pr.ok (pl : List PN) (vs : List Nam) : Pr := .inr (pl, vs)
def progOk (pl : List PN) (vs : List Nam) : Bool := decide (vs.length ≤ 8) && decide (0 < pl.length) && decide (pl.length ≤ 60) && linkOk (pl.map PN.nc)
def prs (s : ByteArray) : Pr :=
  if 3000 < s.size then Pr.syn else
  match rdl [] [] (lnW s) with
  | none => Pr.syn
  | some (pl, vs) => if progOk pl vs then Pr.ok pl vs else Pr.prg

/-! ### sizes -/
theorem opdA_le (vs : List Nam) (s : ByteArray) : (opdA vs s).length ≤ vs.length + 1 := opdA_len vs s
theorem stm_len (vs : List Nam) (ws : List ByteArray) : (stm vs ws).2.2.length ≤ vs.length + 3 := by
  have ho : ∀ ws, (outS vs ws).2.2.length ≤ vs.length + 3 := by
    intro ws; unfold outS; split
    · rename_i w1; have := opdA_len vs w1; simp only; omega
    · simp [noSt]
  have hg : ∀ ws, (gotoS vs ws).2.2.length ≤ vs.length + 3 := by
    intro ws; unfold gotoS; split <;> simp [noSt]
  have hi : ∀ ws, (ifS vs ws).2.2.length ≤ vs.length + 3 := by
    intro ws; unfold ifS; split
    · rename_i _ w1 w2 w3 w4 w5
      split
      · have := opdA_len vs w1; have := opdA_len (opdA vs w1) w3; simp only; omega
      · simp [noSt]
    · simp [noSt]
  have ha : ∀ ws, (asgS vs ws).2.2.length ≤ vs.length + 3 := by
    intro ws; unfold asgS; split
    · rename_i w0 w1 w2 q
      have h1 := vadd_len vs w0.data.toList
      have h2 := opdA_len (vadd vs w0.data.toList) w2
      split
      · split
        · split <;> (simp only; omega)
        · rename_i w3 w4
          have h3 := opdA_len (opdA (vadd vs w0.data.toList) w2) w4
          simp only; omega
        · simp only; omega
      · simp [noSt]
    · simp [noSt]
  unfold stm
  split
  · simp [noSt]
  · split
    · exact ho _
    · split
      · exact hi _
      · split
        · exact hg _
        · split
          · simp
          · exact ha _
theorem lin_len (vs : List Nam) (ws : List ByteArray) : (lin vs ws).2.2.2.2.length ≤ vs.length + 3 := by
  unfold lin
  split
  · simp [noSt]
  · split
    · split
      · split
        · simp [noSt]
        · exact stm_len _ _
      · simp [noSt]
    · exact stm_len _ _

/-! ### nodes in memory -/
structure Rep (w : World) (c : NC) (p : PN) : Prop where
  lab : c.lab = p.lab
  n : c.n = p.n
  ws : ∃ g off, c.wa = some ⟨g, off, none⟩ ∧ Ws w g off p.ws
  wl : c.wl = p.ws.length
structure Reps (w : World) (nl : List NC) (pl : List PN) : Prop where
  len : nl.length = pl.length
  each : ∀ (j : Nat) (c : NC) (p : PN), nl[j]? = some c → pl[j]? = some p → Rep w c p
theorem Rep.mono {w w' : World} {c : NC} {p : PN} (h : Rep w c p) (hw : ∀ g off ws, Ws w g off ws → Ws w' g off ws) : Rep w' c p := by
  obtain ⟨g, off, h1, h2⟩ := h.ws
  exact ⟨h.lab, h.n, ⟨g, off, h1, hw _ _ _ h2⟩, h.wl⟩
theorem Reps.mono {w w' : World} {nl : List NC} {pl : List PN} (h : Reps w nl pl) (hw : ∀ g off ws, Ws w g off ws → Ws w' g off ws) : Reps w' nl pl :=
  ⟨h.len, fun j c p a b => (h.each j c p a b).mono hw⟩
theorem Reps.snoc {w : World} {nl : List NC} {pl : List PN} {c : NC} {p : PN} (h : Reps w nl pl) (hc : Rep w c p) : Reps w (nl ++ [c]) (pl ++ [p]) := by
  refine ⟨by simp [h.len], fun j a b ha hb => ?_⟩
  by_cases hj : j < nl.length
  · rw [List.getElem?_append_left hj] at ha
    rw [List.getElem?_append_left (by have := h.len; omega)] at hb
    exact h.each j a b ha hb
  · have hl := h.len
    rw [List.getElem?_append_right (by omega)] at ha
    rw [List.getElem?_append_right (by omega)] at hb
    have h0 : j - nl.length = 0 := by
      have := (List.getElem?_eq_some_iff.1 ha).1; simp at this; omega
    rw [h0] at ha
    rw [← hl, h0] at hb
    simp at ha hb
    subst ha; subst hb
    exact hc
theorem ws_below {w w' : World} (hb : Below w.heap.size w w') : ∀ g off ws, Ws w g off ws → Ws w' g off ws := fun g _ _ h => h.of_block (hb.block g h.lt)
theorem ws_map {w w' : World} {mb : Nat} (hm : ∃ es c, w.heap[mb]? = some (.map es c)) (hg : w.grownBy w' (some mb)) : ∀ g off ws, Ws w g off ws → Ws w' g off ws := fun _ _ _ h => h.grown hm hg
theorem ws_row {w w' : World} {row : Option Nat} (hrow : ∀ k, row = some k → ∃ cur f, w.heap[k]? = some (.cells cur 58 f)) (hg : w.grownBy w' row) : ∀ g off ws, Ws w g off ws → Ws w' g off ws := by
  intro g off ws h
  refine h.of_block (hg.block g h.lt ?_)
  intro e
  obtain ⟨cur, f, hc⟩ := hrow g e.symm
  obtain ⟨cur', hc', _⟩ := h
  rw [hc] at hc'
  simp at hc'
theorem ws_set {w : World} {g : Nat} {cur : Array Value} {t : TypeId} {f : Nat × Nat} (hc : w.heap[g]? = some (.cells cur t f)) (ht : t ≠ 9) (o : Nat) (v : Value) : ∀ a off ws, Ws w a off ws → Ws (w.setCell ⟨g, o, none⟩ v) a off ws := by
  intro a off ws h
  refine h.set ?_ v
  rintro rfl
  obtain ⟨cur', hc', _⟩ := h
  rw [hc] at hc'
  simp at hc'
  exact ht hc'.2.1
theorem linkOk_nc (nl : List NC) (pl : List PN) (hl : nl.length = pl.length) (h : ∀ (j : Nat) (c : NC) (p : PN), nl[j]? = some c → pl[j]? = some p → c.lab = p.lab ∧ c.n = p.n) : linkOk nl = linkOk (pl.map PN.nc) := by
  have e1 : nl.map NC.lab = (pl.map PN.nc).map NC.lab := by
    apply List.ext_getElem? ; intro j
    simp only [List.getElem?_map]
    by_cases hj : j < nl.length
    · have a := List.getElem?_eq_getElem hj
      have b := List.getElem?_eq_getElem (l := pl) (i := j) (by omega)
      rw [a, b]; simp [(h j _ _ a b).1, PN.nc]
    · rw [List.getElem?_eq_none (by omega), List.getElem?_eq_none (l := pl) (by omega)]; rfl
  have e2 : nl.map NC.n = (pl.map PN.nc).map NC.n := by
    apply List.ext_getElem? ; intro j
    simp only [List.getElem?_map]
    by_cases hj : j < nl.length
    · have a := List.getElem?_eq_getElem hj
      have b := List.getElem?_eq_getElem (l := pl) (i := j) (by omega)
      rw [a, b]; simp [(h j _ _ a b).2, PN.nc]
    · rw [List.getElem?_eq_none (by omega), List.getElem?_eq_none (l := pl) (by omega)]; rfl
  unfold linkOk
  rw [e1]
  split
  · rename_i ps _
    have g1 : ∀ l : List NC, goalsOk ps l = (l.map NC.n).all (fun n => !jumps n.kind || decide (n.goal.data.toList ∈ keysA ps)) := by
      intro l; simp [goalsOk, List.all_map]; rfl
    have g2 : ∀ l : List NC, lastOk ps l = match (l.map NC.n).getLast? with | some n => !(edg n.kind (valA ps n.goal.data.toList) (((l.map NC.n).length - 1 : Nat) + 1)).contains ((l.map NC.n).length : Int) | none => false := by
      intro l; unfold lastOk edgK; rw [List.getLast?_map]; simp only [List.length_map]
      cases l.getLast? <;> rfl
    rw [g1, g2, g1, g2, e2]
  · rfl
end Go.Proofs.YtmipbiligijcpaaDoor
