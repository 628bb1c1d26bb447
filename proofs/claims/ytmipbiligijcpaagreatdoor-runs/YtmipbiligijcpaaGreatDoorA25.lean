/- A part of the proof: contracts of functions of the program. -/
import Derived.Test.YtmipbiligijcpaaGreatDoorA24
namespace Go.Proofs.YtmipbiligijcpaaGreatDoor
set_option linter.unusedVariables false
set_option linter.unusedSimpArgs false
open Go.RowKit Go.Proofs Go.Maps

set_option maxHeartbeats 2000000 in
set_option maxRecDepth 100000 in
theorem rst_copy (pb B g off cap : Nat) (nv xv : Value) (vs : List Nam) (vb : Option Nat) (w0 w1 w2 : ByteArray)  (w : World) (hs0 : w0.size ≤ 3000) (hs1 : w1.size ≤ 3000) (hs2 : w2.size ≤ 3000) (hn : vs.length + 1 < 20000) (hn0 : Wm.nm w0 = true) (h1 : (w1.toList == [61]) = true) (h2 : (w2.toList == [105, 110, 112, 117, 116]) = false) (hB : B ≤ w.heap.size) (hBp : pb < B) (hP : Rp w pb B nv xv vs vb) (hW : Ws w g off [w0, w1, w2]) (hgv : some g ≠ vb) :
    Calls Tryz.prog 69 #[.pointer (some ⟨pb, 0, none⟩), .slice (some ⟨g, off, none⟩) 3 cap] w (RAns w pb B nv xv (.slice (some ⟨g, off, none⟩) 3 cap) vb (rst vs [w0, w1, w2])) := by
  have hp := hP.lt
  have hvl := hP.vlt
  have hgz := hW.lt
  have hg1 : g ≠ w.heap.size := by omega
  have hg2 : g ≠ w.heap.size + 1 := by omega
  have hg1' : w.heap.size ≠ g := by omega
  have hg2' : w.heap.size + 1 ≠ g := by omega
  have hc0 := hW.cell 0 w0 rfl
  rw [Nat.add_zero] at hc0
  have hc1 := hW.cell 1 w1 rfl
  have hc2 := hW.cell 2 w2 rfl
  have HR : Hid (rst vs [w0, w1, w2] = if opdB w2 then some (⟨emp, ⟨#[61]⟩, vnum vs w0.data.toList, rop (vadd vs w0.data.toList) w2, ro0, 1, emp, emp⟩, opdA (vadd vs w0.data.toList) w2) else none) := by
    show _ = _
    simp only [rst, hn0, h1, h2]; rfl
  go_enter Tryz.func69, Tryz.ntmps69
  go_wp2_with (first | (go_at_call_of 68 (Value.string w0); refine (rname_any _ _ hs0).mono ?_; rintro e w' ⟨rfl, rfl⟩))
  refine (rv_any w0 pb B nv xv vs vb _ (by omega) (by simp; omega) hBp ((hP.alloc _).alloc _)).mono ?_
  rintro e W3 ⟨rfl, vb3, hP3, hf3, hn3⟩
  have hb1 : W3.heap[w.heap.size]? = some _ := box_rf hf3 (alloc2 w _ _).1 (by omega) (ne_own hP (Nat.le_refl _))
  have hb2 : W3.heap[w.heap.size + 1]? = some _ := box_rf hf3 (alloc2 w _ _).2 (by omega) (ne_own hP (by omega))
  obtain ⟨p1, p2⟩ := box_cells hb1
  obtain ⟨q1, q2⟩ := box_cells hb2
  have hz1 : w.heap.size + 1 < W3.heap.size := (Array.getElem?_eq_some_iff.1 hb2).1
  have hz0 : w.heap.size < W3.heap.size := by omega
  have i1 : w.heap.size ≠ W3.heap.size := by omega
  have i1' : W3.heap.size ≠ w.heap.size := by omega
  have i2 : w.heap.size + 1 ≠ W3.heap.size := by omega
  have i2' : W3.heap.size ≠ w.heap.size + 1 := by omega
  have hne0 : some w.heap.size ≠ vb3 := hn3.ne (by simp; omega) (ne_own hP (Nat.le_refl _))
  have hne1 : some (w.heap.size + 1) ≠ vb3 := hn3.ne (by simp) (ne_own hP (by omega))
  have hf3' := hf3.of_alloc.of_alloc
  have hn3' := hn3.of_alloc.of_alloc
  go_wp2_with fail
  have hnv : (vadd vs w0.data.toList).length < 20000 := by have := vadd_len vs w0.data.toList; omega
  have hW3 : Ws W3 g off [w0, w1, w2] := ((hW.alloc _).alloc _).rf ((hP.alloc _).alloc _) hgv hf3
  have hgv3 : some g ≠ vb3 := hn3.ne (by simp; omega) hgv
  refine (two_one2 pb B g off 3 cap nv xv _ (vadd vs w0.data.toList) vb3 [w0, w1, w2] w2 ⟨⟨#[]⟩, ⟨#[61]⟩, vnum vs w0.data.toList, ⟨0, 0, ⟨#[]⟩⟩, ⟨0, 0, ⟨#[]⟩⟩, 0, ⟨#[]⟩, ⟨#[]⟩⟩ _ rfl (by decide) hs2 hnv (by simp; omega) hBp ((hP3.set (by simp; omega) (by simpa using hne1) _).alloc _) ((hW3.set (by simpa using hg2) _).alloc _) hgv3).mono ?_
  rintro e W5 ⟨m, vb5, rfl, HM, hP5, hf5, hn5⟩
  have hb5 : W5.heap[w.heap.size]? = some _ := box_rf hf5 (kept_alloc ((Below.heap_setCell _ _ _ _ (by simp)).trans hb1) _) (by omega) hne0
  clear hb1 hb2 p1 p2 q1 q2
  obtain ⟨p1, p2⟩ := box_cells hb5
  have j0 : w.heap.size < W5.heap.size := (Array.getElem?_eq_some_iff.1 hb5).1
  have j1 : w.heap.size ≠ W5.heap.size := by omega
  have j1' : W5.heap.size ≠ w.heap.size := by omega
  have hm : newer w vb vb5 := hn3'.trans (by omega) (v := W3) (by rcases hn5 with h | ⟨q, h, hq⟩; exact Or.inl h; exact Or.inr ⟨q, h, by simp at hq; omega⟩)
  have hne0 : some w.heap.size ≠ vb5 := hn5.ne (by simp; omega) hne0
  have hf5' : RF pb vb w W5 := by
    refine RF.trans ?_ hn3' hf5
    with_reducible refine RF.snoc ?_ _
    with_reducible refine RF.set ?_ (by simp) _
    exact hf3'
  clear hb5 hf5 hn5 hf3 hn3 hn3' hf3'
  simp only [rnCells]
  go_wp2_with fail
  refine bodyPost_ret (v := .tuple #[.agg (rnCells (.slice (some ⟨g, off, none⟩) 3 cap) m), .bool (opdB w2)]) (by simp [results, Tryz.results69, go_sem, rnCells, ro0, emp, p1, j0]) rfl ?_
  unfold RAns
  refine ⟨m, vb5, opdA (vadd vs w0.data.toList) w2, (opdB w2), rfl, (by show _ = _; rw [HR.out]; cases h : opdB w2 with | false => rfl | true => rw [HM.out h]; rfl), ?_, ?_, hm⟩
  · repeat (first | with_reducible refine Rp.drew ?_ | with_reducible refine Rp.alloc ?_ _ | with_reducible refine Rp.set ?_ (by simp; omega) (by first | simpa using hne0 | simpa using hne1) _)
    exact hP5
  · repeat (first | with_reducible refine RF.drew ?_ | with_reducible refine RF.snoc ?_ _ | with_reducible refine RF.set ?_ (by simp) _)
    exact hf5'
end Go.Proofs.YtmipbiligijcpaaGreatDoor
