/- A part of the proof: contracts of functions of the program. -/
import Derived.Test.YtmipbiligijcpaaGreatDoorA17
namespace Go.Proofs.YtmipbiligijcpaaGreatDoor
set_option linter.unusedVariables false
set_option linter.unusedSimpArgs false
open Go.RowKit Go.Proofs Go.Maps

/-- a node of the document's answer, but for its words -/
structure RN where
  lab : ByteArray
  does : ByteArray
  target : Int
  a : RO
  b : RO
  ops : Int
  sign : ByteArray
  goal : ByteArray
def rnCells (wv : Value) (n : RN) : Array Value :=
  #[wv, .string n.lab, .string n.does, .int .i64 n.target, .int .i64 n.a.var, .int .i64 n.a.c, .string n.a.word, .int .i64 n.b.var, .int .i64 n.b.c, .string n.b.word, .int .i64 n.ops, .string n.sign, .string n.goal]
theorem box_rf {pb : Nat} {vb : Option Nat} {w w' : World} {k : Nat} {o : Obj} (hf : RF pb vb w w') (h : w.heap[k]? = some o) (h1 : k ≠ pb) (h2 : some k ≠ vb) : w'.heap[k]? = some o :=
  (hf.block k (Array.getElem?_eq_some_iff.1 h).1 h1 h2).trans h
set_option maxHeartbeats 4000000 in
set_option maxRecDepth 100000 in
theorem two_one1 (pb B g off len cap : Nat) (nv xv sg : Value) (vs : List Nam) (vb : Option Nat) (ws : List ByteArray) (x : ByteArray) (n : RN) (w : World) (hx : ws[1]? = some x) (hlen : (1 : Int) < (len : Int)) (hs : x.size ≤ 3000) (hn : vs.length < 20000) (hB : B ≤ w.heap.size) (hBp : pb < B) (hP : Rp w pb B nv xv vs vb) (hW : Ws w g off ws) (hgv : some g ≠ vb) :
    Calls Tryz.prog 112 #[.pointer (some ⟨pb, 0, none⟩), .agg #[.slice (some ⟨g, off, none⟩) len cap, .string n.lab, .string n.does, .int .i64 n.target, .int .i64 n.a.var, .int .i64 n.a.c, .string n.a.word, .int .i64 n.b.var, .int .i64 n.b.c, .string n.b.word, .int .i64 n.ops, .string n.sign, .string n.goal], .int .i64 1, .int .i64 2, sg] w fun e w' => ∃ (m : RN) (vb' : Option Nat),
      e = .returned (.tuple #[.agg (rnCells (.slice (some ⟨g, off, none⟩) len cap) m), .bool (opdB x)]) ∧ Hid (opdB x = true → m = { n with a := rop vs x, ops := 1 }) ∧ Rp w' pb B nv xv (opdA vs x) vb' ∧ RF pb vb w w' ∧ newer w vb vb' := by
  have hp := hP.lt
  have hvl := hP.vlt
  have hvne : some w.heap.size ≠ vb := by intro e; have := hvl _ e.symm; omega
  have hvne1 : some (w.heap.size + 1) ≠ vb := by intro e; have := hvl _ e.symm; omega
  have hc := hW.cell 1 x hx
  have hgz := hW.lt
  go_enter Tryz.func112, Tryz.ntmps112
  go_wp2_with fail
  refine (rop_any x pb B nv xv vs vb _ hs hn (by simp; omega) hBp ((hP.alloc _).alloc _)).mono ?_
  rintro e W2 ⟨va, co, wd, vb2, rfl, HO, hP2, hf2, hn2⟩
  have h2 := alloc2 w (.cells #[.slice (some ⟨g, off, none⟩) len cap, .string n.lab, .string n.does, .int .i64 n.target, .int .i64 n.a.var, .int .i64 n.a.c, .string n.a.word, .int .i64 n.b.var, .int .i64 n.b.c, .string n.b.word, .int .i64 n.ops, .string n.sign, .string n.goal] 111) (.cells #[.slice none 0 0, .string ⟨#[]⟩, .string ⟨#[]⟩, .int .i64 0, .int .i64 0, .int .i64 0, .string ⟨#[]⟩, .int .i64 0, .int .i64 0, .string ⟨#[]⟩, .int .i64 0, .string ⟨#[]⟩, .string ⟨#[]⟩] 111)
  have hb1 := box_rf hf2 h2.1 (by omega) hvne
  have hb2 := box_rf hf2 h2.2 (by omega) hvne1
  obtain ⟨hx1, hx2⟩ := box_cells hb1
  obtain ⟨hy1, hy2⟩ := box_cells hb2
  have hz : w.heap.size + 1 < W2.heap.size := (Array.getElem?_eq_some_iff.1 hb2).1
  have hz0 : w.heap.size < W2.heap.size := by omega
  have hq1 : w.heap.size ≠ W2.heap.size := by omega
  have hq2 : w.heap.size + 1 ≠ W2.heap.size := by omega
  have hne0 : some w.heap.size ≠ vb2 := hn2.ne (by simp; omega) hvne
  have hne1 : some (w.heap.size + 1) ≠ vb2 := hn2.ne (by simp) hvne1
  clear h2 hb1 hb2 hc
  have hf2' := hf2.of_alloc.of_alloc
  have hn2' : newer w vb vb2 := by
    rcases hn2 with h | ⟨q, h, hq⟩
    · exact Or.inl h
    · exact Or.inr ⟨q, h, by simp at hq; omega⟩
  cases hok : opdB x with
  | false =>
    go_wp2_with fail
    refine bodyPost_ret (v := .tuple #[.agg (rnCells (.slice (some ⟨g, off, none⟩) len cap) n), .bool false]) (by simp [results, Tryz.results112, go_sem, rnCells, hx1, hy1, hz, hz0]) rfl ⟨n, vb2, by rw [hok], (fun e => by rw [hok] at e; cases e), ?_, ?_, hn2'⟩
    · refine Rp.alloc ?_ _
      repeat (refine Rp.set ?_ (by simp; omega) (by simpa using hne1) _)
      exact hP2
    · refine RF.trans ?_ (Or.inl rfl) (RF.alloc _ _)
      repeat (refine RF.set ?_ (by simp) _)
      exact hf2'
  | true =>
    go_wp2_with fail
    refine bodyPost_ret (v := .tuple #[.agg (rnCells (.slice (some ⟨g, off, none⟩) len cap) { n with a := ⟨va, co, wd⟩, ops := 1 }), .bool true]) (by simp [results, Tryz.results112, go_sem, rnCells, hx1, hy1, hz, hz0]) rfl ⟨_, vb2, by rw [hok], (fun _ => by rw [HO.out]), ?_, ?_, hn2'⟩
    · refine Rp.alloc ?_ _
      repeat (refine Rp.set ?_ (by simp; omega) (by first | simpa using hne1 | simpa using hne0) _)
      exact hP2
    · refine RF.trans ?_ (Or.inl rfl) (RF.alloc _ _)
      repeat (refine RF.set ?_ (by simp) _)
      exact hf2'

set_option maxHeartbeats 4000000 in
set_option maxRecDepth 100000 in
theorem two_one2 (pb B g off len cap : Nat) (nv xv sg : Value) (vs : List Nam) (vb : Option Nat) (ws : List ByteArray) (x : ByteArray) (n : RN) (w : World) (hx : ws[2]? = some x) (hlen : (2 : Int) < (len : Int)) (hs : x.size ≤ 3000) (hn : vs.length < 20000) (hB : B ≤ w.heap.size) (hBp : pb < B) (hP : Rp w pb B nv xv vs vb) (hW : Ws w g off ws) (hgv : some g ≠ vb) :
    Calls Tryz.prog 112 #[.pointer (some ⟨pb, 0, none⟩), .agg #[.slice (some ⟨g, off, none⟩) len cap, .string n.lab, .string n.does, .int .i64 n.target, .int .i64 n.a.var, .int .i64 n.a.c, .string n.a.word, .int .i64 n.b.var, .int .i64 n.b.c, .string n.b.word, .int .i64 n.ops, .string n.sign, .string n.goal], .int .i64 2, .int .i64 3, sg] w fun e w' => ∃ (m : RN) (vb' : Option Nat),
      e = .returned (.tuple #[.agg (rnCells (.slice (some ⟨g, off, none⟩) len cap) m), .bool (opdB x)]) ∧ Hid (opdB x = true → m = { n with a := rop vs x, ops := 1 }) ∧ Rp w' pb B nv xv (opdA vs x) vb' ∧ RF pb vb w w' ∧ newer w vb vb' := by
  have hp := hP.lt
  have hvl := hP.vlt
  have hvne : some w.heap.size ≠ vb := by intro e; have := hvl _ e.symm; omega
  have hvne1 : some (w.heap.size + 1) ≠ vb := by intro e; have := hvl _ e.symm; omega
  have hc := hW.cell 2 x hx
  have hgz := hW.lt
  go_enter Tryz.func112, Tryz.ntmps112
  go_wp2_with fail
  refine (rop_any x pb B nv xv vs vb _ hs hn (by simp; omega) hBp ((hP.alloc _).alloc _)).mono ?_
  rintro e W2 ⟨va, co, wd, vb2, rfl, HO, hP2, hf2, hn2⟩
  have h2 := alloc2 w (.cells #[.slice (some ⟨g, off, none⟩) len cap, .string n.lab, .string n.does, .int .i64 n.target, .int .i64 n.a.var, .int .i64 n.a.c, .string n.a.word, .int .i64 n.b.var, .int .i64 n.b.c, .string n.b.word, .int .i64 n.ops, .string n.sign, .string n.goal] 111) (.cells #[.slice none 0 0, .string ⟨#[]⟩, .string ⟨#[]⟩, .int .i64 0, .int .i64 0, .int .i64 0, .string ⟨#[]⟩, .int .i64 0, .int .i64 0, .string ⟨#[]⟩, .int .i64 0, .string ⟨#[]⟩, .string ⟨#[]⟩] 111)
  have hb1 := box_rf hf2 h2.1 (by omega) hvne
  have hb2 := box_rf hf2 h2.2 (by omega) hvne1
  obtain ⟨hx1, hx2⟩ := box_cells hb1
  obtain ⟨hy1, hy2⟩ := box_cells hb2
  have hz : w.heap.size + 1 < W2.heap.size := (Array.getElem?_eq_some_iff.1 hb2).1
  have hz0 : w.heap.size < W2.heap.size := by omega
  have hq1 : w.heap.size ≠ W2.heap.size := by omega
  have hq2 : w.heap.size + 1 ≠ W2.heap.size := by omega
  have hne0 : some w.heap.size ≠ vb2 := hn2.ne (by simp; omega) hvne
  have hne1 : some (w.heap.size + 1) ≠ vb2 := hn2.ne (by simp) hvne1
  clear h2 hb1 hb2 hc
  have hf2' := hf2.of_alloc.of_alloc
  have hn2' : newer w vb vb2 := by
    rcases hn2 with h | ⟨q, h, hq⟩
    · exact Or.inl h
    · exact Or.inr ⟨q, h, by simp at hq; omega⟩
  cases hok : opdB x with
  | false =>
    go_wp2_with fail
    refine bodyPost_ret (v := .tuple #[.agg (rnCells (.slice (some ⟨g, off, none⟩) len cap) n), .bool false]) (by simp [results, Tryz.results112, go_sem, rnCells, hx1, hy1, hz, hz0]) rfl ⟨n, vb2, by rw [hok], (fun e => by rw [hok] at e; cases e), ?_, ?_, hn2'⟩
    · refine Rp.alloc ?_ _
      repeat (refine Rp.set ?_ (by simp; omega) (by simpa using hne1) _)
      exact hP2
    · refine RF.trans ?_ (Or.inl rfl) (RF.alloc _ _)
      repeat (refine RF.set ?_ (by simp) _)
      exact hf2'
  | true =>
    go_wp2_with fail
    refine bodyPost_ret (v := .tuple #[.agg (rnCells (.slice (some ⟨g, off, none⟩) len cap) { n with a := ⟨va, co, wd⟩, ops := 1 }), .bool true]) (by simp [results, Tryz.results112, go_sem, rnCells, hx1, hy1, hz, hz0]) rfl ⟨_, vb2, by rw [hok], (fun _ => by rw [HO.out]), ?_, ?_, hn2'⟩
    · refine Rp.alloc ?_ _
      repeat (refine Rp.set ?_ (by simp; omega) (by first | simpa using hne1 | simpa using hne0) _)
      exact hP2
    · refine RF.trans ?_ (Or.inl rfl) (RF.alloc _ _)
      repeat (refine RF.set ?_ (by simp) _)
      exact hf2'
end Go.Proofs.YtmipbiligijcpaaGreatDoor
