/- The reader's lines: output, goto, if, assignment. -/
import Derived.Test.YtmipbiligijcpaaDoorW3
namespace Go.Proofs.YtmipbiligijcpaaDoor
set_option linter.unusedVariables false
set_option linter.unusedSimpArgs false
open Go.RowKit Go.Proofs Go.Maps

/-- words ws lie in block g from cell off on -/
def Ws (w : World) (g off : Nat) (ws : List ByteArray) : Prop := ∃ cur, w.heap[g]? = some (.cells cur 9 (0, 0)) ∧ (cur.toList.drop off).take ws.length = ws.map Value.string
theorem Ws.cell {w : World} {g off : Nat} {ws : List ByteArray} (h : Ws w g off ws) (j : Nat) (x : ByteArray) (hj : ws[j]? = some x) : w.cell? ⟨g, off + j, none⟩ = some (.string x) := by
  obtain ⟨cur, hb, ht⟩ := h
  have hl : j < ws.length := (List.getElem?_eq_some_iff.1 hj).1
  have h1 : ((cur.toList.drop off).take ws.length)[j]? = some (.string x) := by rw [ht]; simp [hj]
  rw [List.getElem?_take, if_pos hl, List.getElem?_drop] at h1
  simp [World.cell?, hb]
  simpa using h1
theorem Ws.lt {w : World} {g off : Nat} {ws : List ByteArray} (h : Ws w g off ws) : g < w.heap.size := by
  obtain ⟨cur, hb, _⟩ := h; exact (Array.getElem?_eq_some_iff.1 hb).1
theorem Ws.of_block {w w' : World} {g off : Nat} {ws : List ByteArray} (h : Ws w g off ws) (hb : w'.heap[g]? = w.heap[g]?) : Ws w' g off ws := by
  obtain ⟨cur, h1, h2⟩ := h; exact ⟨cur, hb.trans h1, h2⟩
theorem Ws.ne_map {w : World} {g off mb : Nat} {ws : List ByteArray} (h : Ws w g off ws) (hm : ∃ es c, w.heap[mb]? = some (.map es c)) : g ≠ mb := by
  rintro rfl
  obtain ⟨cur, h1, _⟩ := h
  obtain ⟨es, c, h2⟩ := hm
  rw [h1] at h2; cases h2
theorem Ws.grown {w w' : World} {g off mb : Nat} {ws : List ByteArray} (h : Ws w g off ws) (hm : ∃ es c, w.heap[mb]? = some (.map es c)) (hg : w.grownBy w' (some mb)) : Ws w' g off ws :=
  h.of_block (hg.block g h.lt (by simp; exact h.ne_map hm))
theorem Ws.alloc {w : World} {g off : Nat} {ws : List ByteArray} (h : Ws w g off ws) (o : Obj) : Ws (w.alloc o) g off ws := h.of_block (Below.heap_alloc w o g h.lt)
theorem Ws.set {w : World} {g off : Nat} {ws : List ByteArray} (h : Ws w g off ws) {a : Addr} (ha : g ≠ a.block) (v : Value) : Ws (w.setCell a v) g off ws := h.of_block (Below.heap_setCell _ _ _ _ ha)
theorem Ws.tail {w : World} {g off : Nat} {x : ByteArray} {ws : List ByteArray} (h : Ws w g off (x :: ws)) : Ws w g (off + 1) ws := by
  obtain ⟨cur, h1, h2⟩ := h
  refine ⟨cur, h1, ?_⟩
  have := congrArg (List.drop 1) h2
  simpa [List.drop_take, List.drop_drop, Nat.add_comm] using this

/-- a node's cells -/
structure SN where
  kind : Int
  var : Int
  op : Int
  test : Int
  a : Opd
  b : Opd
  goal : ByteArray
def o0 : Opd := ⟨false, 0, 0⟩
def emp : ByteArray := ⟨#[]⟩
def snCells (lab : ByteArray) (wv : Value) (n : SN) (ev : Value) : Array Value :=
  #[.string lab, wv, .int .i64 n.kind, .int .i64 n.var, .int .i64 n.op, .int .i64 n.test, .bool n.a.isVar, .int .i64 n.a.var, .int .i64 n.a.const, .bool n.b.isVar, .int .i64 n.b.var, .int .i64 n.b.const, ev, .string n.goal]
def nilS : Value := .slice none 0 0
def snV (n : SN) : Value := .agg (snCells emp nilS n nilS)
def sn0 : SN := ⟨0, 0, 0, 0, o0, o0, emp⟩

set_option maxHeartbeats 400000 in
theorem readOutput_no (rb : Nat) (a : Option Addr) (len cap : Nat) (w : World) (h : ((len : Int) != 2) = true) (hl : len ≤ 3001) :
    Calls Tryd.prog 44 #[.pointer (some ⟨rb, 0, none⟩), .slice a len cap] w fun e w' =>
      e = .returned (.tuple #[snV sn0, .bool false]) ∧ Below w.heap.size w w' := by
  go_enter Tryd.func44, Tryd.ntmps44
  go_wp2
  exact bodyPost_ret (v := .tuple #[snV sn0, .bool false]) (by simp [results, Tryd.results44, go_sem, snV, snCells, sn0, o0, emp, nilS]) rfl ⟨rfl, (Below.refl _ _).alloc (Nat.le_refl _) _⟩
set_option maxHeartbeats 400000 in
theorem readOutput_yes (rb mb g off cap : Nat) (w0 w1 : ByteArray) (vs : List Nam) (w : World) (hs : w1.size ≤ 3000) (hn : vs.length < maxLen) (hR : Rd w rb mb vs) (hG : Glob w) (hW : Ws w g off [w0, w1]) :
    Calls Tryd.prog 44 #[.pointer (some ⟨rb, 0, none⟩), .slice (some ⟨g, off, none⟩) 2 cap] w fun e w' =>
      e = .returned (.tuple #[snV ⟨3, 0, 0, 0, opd vs w1, o0, emp⟩, .bool (opdB w1)]) ∧ Rd w' rb mb (opdA vs w1) ∧ w.grownBy w' (some mb) := by
  have hc := hW.cell 1 w1 rfl
  have hg := hW.lt
  have hm := hR.lt
  have hr := hR.ltr
  go_enter Tryd.func44, Tryd.ntmps44
  go_wp2_with (first | (go_at_call 55; refine (operand_D w1 rb mb vs _ hs hn (hR.alloc _) (hG.alloc _)).mono ?_; rintro e w2 ⟨iv, va, co, rfl, HO, hR1, hg1⟩; have hbx := box_grown hg1 (fun k e => by cases e; exact hR.lt); obtain ⟨hx1, hx2⟩ := box_cells hbx; have hz : w.heap.size < w2.heap.size := (Array.getElem?_eq_some_iff.1 hbx).1))
  refine bodyPost_ret (v := .tuple #[snV ⟨3, 0, 0, 0, ⟨iv, va, co⟩, o0, emp⟩, .bool (opdB w1)]) (by simp [results, Tryd.results44, go_sem, snV, snCells, o0, emp, nilS, hx1, hz]) rfl ⟨by rw [HO.out], ?_, ?_⟩
  · refine Rd.alloc ?_ _
    repeat (refine Rd.set ?_ (by simp; omega) (by simp; omega) _)
    exact hR1
  · refine World.grownBy.trans ?_ (World.grownBy_alloc _ _ _)
    repeat (refine grown_set ?_ (Nat.le_refl _) _)
    exact grown_of_alloc hg1
end Go.Proofs.YtmipbiligijcpaaDoor
