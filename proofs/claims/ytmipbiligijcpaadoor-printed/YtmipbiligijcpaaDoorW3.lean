/- The reader's methods over one line's words. -/
import Derived.Test.YtmipbiligijcpaaDoorW2
import Derived.Test.YtmipbiligijcpaaDoorT
namespace Go.Proofs.YtmipbiligijcpaaDoor
set_option linter.unusedVariables false
set_option linter.unusedSimpArgs false
open Go.RowKit Go.Proofs Go.Maps

structure Opd where
  isVar : Bool
  var : Int
  const : Int
def opd (vs : List Nam) (s : ByteArray) : Opd := if Wm.nm s then ⟨true, vnum vs s.data.toList, 0⟩ else ⟨false, 0, cstV s.data.toList⟩
def opdB (s : ByteArray) : Bool := Wm.nm s || cstB s.data.toList
def opdA (vs : List Nam) (s : ByteArray) : List Nam := if Wm.nm s then vadd vs s.data.toList else vs
theorem opdA_len (vs : List Nam) (s : ByteArray) : (opdA vs s).length ≤ vs.length + 1 := by unfold opdA; split; exact vadd_len _ _; omega

/-- strconv.ErrRange holds an error -/
def Glob (w : World) : Prop := ∃ te pe, w.cell? ⟨4, 0, none⟩ = some (.iface te pe)
theorem Glob.kept {w w' : World} {mb : Nat} {row : Option Nat} (h : Glob w) (hm : ∃ es c, w.heap[mb]? = some (.map es c)) (hg : w.grownBy w' row) (hr : row = none ∨ row = some mb) : Glob w' := by
  obtain ⟨te, pe, hc⟩ := h
  obtain ⟨c, t, f, hb⟩ := not_map_of_cell hc
  refine ⟨te, pe, hg.cell hc ?_⟩
  rcases hr with rfl | rfl
  · simp
  · intro e
    simp only [Option.some.injEq] at e
    subst e
    obtain ⟨es, c', hm⟩ := hm
    rw [hb] at hm; cases hm

theorem Rd.grown {w w' : World} {rb mb : Nat} {vs : List Nam} (h : Rd w rb mb vs) (hb : Below w.heap.size w w') : Rd w' rb mb vs := h.kept (grown_of_below hb)
theorem grown_to {a c : World} (h : a.grownBy c none) (row : Option Nat) : a.grownBy c row := ⟨h.os, h.tape, h.output, h.size, fun i hi _ => h.block i hi (by simp)⟩

def opdV (o : Opd) : Value := .agg #[.bool o.isVar, .int .i64 o.var, .int .i64 o.const]

theorem Rd.alloc {w : World} {rb mb : Nat} {vs : List Nam} (h : Rd w rb mb vs) (o : Obj) : Rd (w.alloc o) rb mb vs := h.kept (World.grownBy_alloc _ _ _)
theorem Glob.alloc {w : World} (h : Glob w) (o : Obj) : Glob (w.alloc o) := by
  obtain ⟨te, pe, hc⟩ := h
  exact ⟨te, pe, (World.grownBy_alloc w o none).cell hc (by simp)⟩

theorem Rd.lt {w : World} {rb mb : Nat} {vs : List Nam} (h : Rd w rb mb vs) : mb < w.heap.size := h.own.lt
theorem box_grown {w w1 : World} {cs : Array Value} {t : TypeId} {row : Option Nat} (hg : (w.alloc (.cells cs t)).grownBy w1 row) (hm : ∀ k, row = some k → k < w.heap.size) : w1.heap[w.heap.size]? = some (.cells cs t (0, 0)) := by
  rw [hg.block w.heap.size (by simp) (fun e => by have := hm _ e.symm; omega)]
  exact heap_alloc_new w _

theorem grown_set {w w' : World} {row : Option Nat} (h : w.grownBy w' row) {a : Addr} (ha : w.heap.size ≤ a.block) (v : Value) : w.grownBy (w'.setCell a v) row :=
  ⟨h.os, h.tape, h.output, by simpa [World.setCell] using h.size, fun k hk hr => (Below.heap_setCell _ _ _ _ (by omega)).trans (h.block k hk hr)⟩
theorem Rd.set {w : World} {rb mb : Nat} {vs : List Nam} (h : Rd w rb mb vs) {a : Addr} (h1 : a.block ≠ rb) (h2 : a.block ≠ mb) (v : Value) : Rd (w.setCell a v) rb mb vs :=
  ⟨(Below.heap_setCell _ _ _ _ (Ne.symm h1)).trans h.box, h.own.setCell (Ne.symm h2) v, h.nodup⟩
theorem Rd.ltr {w : World} {rb mb : Nat} {vs : List Nam} (h : Rd w rb mb vs) : rb < w.heap.size := (Array.getElem?_eq_some_iff.1 h.box).1
theorem grown_of_alloc {w w' : World} {o : Obj} {row : Option Nat} (h : (w.alloc o).grownBy w' row) : w.grownBy w' row := (World.grownBy_alloc w o row).trans h

set_option maxHeartbeats 400000 in
theorem operand_any (s : ByteArray) (rb mb : Nat) (vs : List Nam) (w : World) (hs : s.size ≤ 3000) (hn : vs.length < maxLen) (hR : Rd w rb mb vs) (hG : Glob w) :
    Calls Tryd.prog 55 #[.pointer (some ⟨rb, 0, none⟩), .string s] w fun e w' =>
      e = .returned (.tuple #[opdV (opd vs s), .bool (opdB s)]) ∧ Rd w' rb mb (opdA vs s) ∧ w.grownBy w' (some mb) := by
  have hm : s.size ≤ maxLen := by unfold maxLen; omega
  have h1 := hR.lt
  have h2 := hR.ltr
  cases hnm : Wm.nm s with
  | true =>
    go_enter Tryd.func55, Tryd.ntmps55
    go_wp2_with (first | (go_at_call 27; refine (isName_any _ _ hm).mono ?_; rintro e w' ⟨rfl, rfl⟩) | (go_at_call 57; refine (variable_any s rb mb vs _ hm hn (hR.alloc _)).mono ?_; rintro e w1 ⟨rfl, hR1, hg1⟩; have hbx := box_grown hg1 (fun k e => by cases e; exact hR.lt); obtain ⟨hx1, hx2⟩ := box_cells hbx))
    refine bodyPost_ret (v := .tuple #[.agg #[.bool true, .int .i64 (vnum vs s.data.toList), .int .i64 0], .bool true]) (by simp [results, Tryd.results55, go_sem, hx1]) rfl ⟨by simp [opd, opdV, opdB, hnm], ?_, ?_⟩
    · rw [show opdA vs s = vadd vs s.data.toList by simp [opdA, hnm]]
      exact ((hR1.set (by simp; omega) (by simp; omega) _).set (by simp; omega) (by simp; omega) _).set (by simp; omega) (by simp; omega) _
    · exact grown_set (grown_set (grown_set (grown_of_alloc hg1) (Nat.le_refl _) _) (Nat.le_refl _) _) (Nat.le_refl _) _
  | false =>
    obtain ⟨te, pe, hc⟩ := hG.alloc (Obj.cells #[Value.bool false, Value.int IntKind.i64 0, Value.int IntKind.i64 0] 55)
    go_enter Tryd.func55, Tryd.ntmps55
    go_wp2_with (first | (go_at_call 27; refine (isName_any _ _ hm).mono ?_; rintro e w' ⟨rfl, rfl⟩) | (go_at_call 64; refine (parseConstant_any s (.iface te pe) _ hs hc ⟨te, pe, rfl⟩).mono ?_; rintro e w1 ⟨rfl, hb1⟩; have hbx := box_grown (grown_of_below hb1) (fun k e => by cases e); obtain ⟨hx1, hx2⟩ := box_cells hbx))
    have hg1 := grown_to (grown_of_below hb1) (some mb)
    have hR1 := (hR.alloc _).kept (grown_of_below hb1)
    refine bodyPost_ret (v := .tuple #[.agg #[.bool false, .int .i64 0, .int .i64 (cstV s.data.toList)], .bool (cstB s.data.toList)]) (by simp [results, Tryd.results55, go_sem, hx1]) rfl ⟨by simp [opd, opdV, opdB, hnm], ?_, ?_⟩
    · rw [show opdA vs s = vs by simp [opdA, hnm]]
      exact ((hR1.set (by simp; omega) (by simp; omega) _).set (by simp; omega) (by simp; omega) _).set (by simp; omega) (by simp; omega) _
    · exact grown_set (grown_set (grown_set (grown_of_alloc hg1) (Nat.le_refl _) _) (Nat.le_refl _) _) (Nat.le_refl _) _
theorem operand_D (s : ByteArray) (rb mb : Nat) (vs : List Nam) (w : World) (hs : s.size ≤ 3000) (hn : vs.length < maxLen) (hR : Rd w rb mb vs) (hG : Glob w) :
    Calls Tryd.prog 55 #[.pointer (some ⟨rb, 0, none⟩), .string s] w fun e w' => ∃ (iv : Bool) (va co : Int),
      e = .returned (.tuple #[.agg #[.bool iv, .int .i64 va, .int .i64 co], .bool (opdB s)]) ∧ Hid (opd vs s = ⟨iv, va, co⟩) ∧ Rd w' rb mb (opdA vs s) ∧ w.grownBy w' (some mb) :=
  (operand_any s rb mb vs w hs hn hR hG).mono fun _ _ h => ⟨_, _, _, h.1, rfl, h.2.1, h.2.2⟩
theorem Glob.grown {w w' : World} {rb mb : Nat} {vs : List Nam} (h : Glob w) (hR : Rd w rb mb vs) (hg : w.grownBy w' (some mb)) : Glob w' := h.kept hR.isMap hg (Or.inr rfl)
theorem Glob.set {w : World} (h : Glob w) {a : Addr} (ha : a.block ≠ 4) (v : Value) : Glob (w.setCell a v) := by
  obtain ⟨te, pe, hc⟩ := h
  refine ⟨te, pe, ?_⟩
  rw [World.cell?_of_block (w := w) (Below.heap_setCell _ _ _ _ (Ne.symm ha))]
  exact hc
theorem Glob.lt {w : World} (h : Glob w) : 4 < w.heap.size := by
  obtain ⟨te, pe, hc⟩ := h
  exact World.block_lt_of_cell? w _ hc
end Go.Proofs.YtmipbiligijcpaaDoor
