/- A part of the proof: contracts of functions of the program. -/
import Derived.Test.YtmipbiligijcpaaGreatDoorA20
namespace Go.Proofs.YtmipbiligijcpaaGreatDoor
set_option linter.unusedVariables false
set_option linter.unusedSimpArgs false
open Go.RowKit Go.Proofs Go.Maps

theorem newer.of_alloc {w : World} {o : Obj} {vb vb' : Option Nat} (h : newer (w.alloc o) vb vb') : newer w vb vb' := by
  rcases h with h | ⟨q, h, hq⟩
  · exact Or.inl h
  · exact Or.inr ⟨q, h, by simp at hq; omega⟩
theorem RF.snoc {pb : Nat} {vb : Option Nat} {u w : World} (h : RF pb vb u w) (o : Obj) : RF pb vb u (w.alloc o) := h.trans (Or.inl rfl) (RF.alloc _ _)
theorem ne_own {w : World} {pb B : Nat} {nv xv : Value} {vs : List Nam} {vb : Option Nat} (h : Rp w pb B nv xv vs vb) {k : Nat} (hk : w.heap.size ≤ k) : some k ≠ vb := by
  intro e
  have := h.vlt _ e.symm
  omega
set_option maxHeartbeats 1000000 in
set_option maxRecDepth 100000 in
theorem rst_out (pb B g off cap : Nat) (nv xv : Value) (vs : List Nam) (vb : Option Nat) (w0 w1 : ByteArray)  (w : World) (hs0 : w0.size ≤ 3000) (hs1 : w1.size ≤ 3000) (hn : vs.length < 20000) (h0 : (w0.toList == [103, 111, 116, 111]) = false) (h1 : (w0.toList == [111, 117, 116, 112, 117, 116]) = true) (hB : B ≤ w.heap.size) (hBp : pb < B) (hP : Rp w pb B nv xv vs vb) (hW : Ws w g off [w0, w1]) (hgv : some g ≠ vb) :
    Calls Tryz.prog 69 #[.pointer (some ⟨pb, 0, none⟩), .slice (some ⟨g, off, none⟩) 2 cap] w (RAns w pb B nv xv (.slice (some ⟨g, off, none⟩) 2 cap) vb (rst vs [w0, w1])) := by
  have hp := hP.lt
  have hvl := hP.vlt
  have hgz := hW.lt
  have hg1 : g ≠ w.heap.size := by omega
  have hg2 : g ≠ w.heap.size + 1 := by omega
  have hg1' : w.heap.size ≠ g := by omega
  have hg2' : w.heap.size + 1 ≠ g := by omega
  have hc0 := hW.cell 0 w0 rfl
  rw [Nat.add_zero] at hc0
  have hc1 := hW.cell 1 w1 rfl
  have HR : Hid (rst vs [w0, w1] = if opdB w1 then some (⟨emp, w0, -1, rop vs w1, ro0, 1, emp, emp⟩, opdA vs w1) else none) := by
    show _ = _
    simp only [rst, h0, h1, if_true]; rfl
  cases hn0 : Wm.nm w0
  all_goals
    go_enter Tryz.func69, Tryz.ntmps69
    go_wp2_with (first | (go_at_call_of 68 (Value.string w0); refine (rname_any _ _ hs0).mono ?_; rintro e w' ⟨rfl, rfl⟩))
    refine (two_one1 pb B g off 2 cap nv xv _ vs vb [w0, w1] w1 ⟨⟨#[]⟩, w0, -1, ⟨0, 0, ⟨#[]⟩⟩, ⟨0, 0, ⟨#[]⟩⟩, 0, ⟨#[]⟩, ⟨#[]⟩⟩ _ rfl (by decide) hs1 hn (by simp; omega) hBp ((hP.alloc _).alloc _) ((hW.alloc _).alloc _) hgv).mono ?_
    rintro e W3 ⟨m, vb3, rfl, HM, hP3, hf3, hn3⟩
    have hb1 : W3.heap[w.heap.size]? = some _ := box_rf hf3 (alloc2 w _ _).1 (by omega) (ne_own hP (Nat.le_refl _))
    obtain ⟨p1, p2⟩ := box_cells hb1
    have hz : w.heap.size < W3.heap.size := (Array.getElem?_eq_some_iff.1 hb1).1
    have hq1 : w.heap.size ≠ W3.heap.size := by omega
    have hq1' : W3.heap.size ≠ w.heap.size := by omega
    have hne : some w.heap.size ≠ vb3 := hn3.ne (by simp; omega) (ne_own hP (Nat.le_refl _))
    have hf3' := hf3.of_alloc.of_alloc
    have hn3' := hn3.of_alloc.of_alloc
    clear hb1 hf3 hn3
    simp only [rnCells]
    go_wp2_with fail
    refine bodyPost_ret (v := .tuple #[.agg (rnCells (.slice (some ⟨g, off, none⟩) 2 cap) m), .bool (opdB w1)]) (by simp [results, Tryz.results69, go_sem, rnCells, p1, hz]) rfl ?_
    unfold RAns
    refine ⟨m, vb3, opdA vs w1, (opdB w1), rfl, (by show _ = _; rw [HR.out]; cases h : opdB w1 with | false => rfl | true => rw [HM.out h]; rfl), ?_, ?_, hn3'⟩
    · repeat (first | with_reducible refine Rp.drew ?_ | with_reducible refine Rp.alloc ?_ _ | with_reducible refine Rp.set ?_ (by simp; omega) (by simpa using hne) _)
      exact hP3
    · repeat (first | with_reducible refine RF.drew ?_ | with_reducible refine RF.snoc ?_ _ | with_reducible refine RF.set ?_ (by simp) _)
      exact hf3'
end Go.Proofs.YtmipbiligijcpaaGreatDoor
