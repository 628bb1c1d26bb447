/- A part of the proof: contracts of functions of the program. -/
import Derived.Test.YtmipbiligijcpaaGreatDoorA22
namespace Go.Proofs.YtmipbiligijcpaaGreatDoor
set_option linter.unusedVariables false
set_option linter.unusedSimpArgs false
open Go.RowKit Go.Proofs Go.Maps

theorem ws_new (w : World) (l : List ByteArray) (a : Array Value) (k : Nat) (hk : k = w.heap.size) (ha : a.toList = l.map Value.string) : Ws (w.alloc (.cells a 9)) k 0 l := by
  subst hk
  refine ⟨_, heap_alloc_new _ _, ?_⟩
  rw [List.drop_zero, ha, List.take_of_length_le (by simp)]
set_option maxHeartbeats 2000000 in
set_option maxRecDepth 100000 in
theorem rst_if (pb B g off cap : Nat) (nv xv : Value) (vs : List Nam) (vb : Option Nat) (w0 w1 w2 w3 w4 w5 : ByteArray)  (w : World) (hs0 : w0.size ≤ 3000) (hs1 : w1.size ≤ 3000) (hs2 : w2.size ≤ 3000) (hs3 : w3.size ≤ 3000) (hs4 : w4.size ≤ 3000) (hs5 : w5.size ≤ 3000) (hn : vs.length + 1 < 20000) (h0 : (w0.toList == [105, 102]) = true) (h4 : (w4.toList == [103, 111, 116, 111]) = true) (hB : B ≤ w.heap.size) (hBp : pb < B) (hP : Rp w pb B nv xv vs vb) (hW : Ws w g off [w0, w1, w2, w3, w4, w5]) (hgv : some g ≠ vb) :
    Calls Tryz.prog 69 #[.pointer (some ⟨pb, 0, none⟩), .slice (some ⟨g, off, none⟩) 6 cap] w (RAns w pb B nv xv (.slice (some ⟨g, off, none⟩) 6 cap) vb (rst vs [w0, w1, w2, w3, w4, w5])) := by
  have hp := hP.lt
  have hvl := hP.vlt
  have hgz := hW.lt
  have hg1 : g ≠ w.heap.size := by omega
  have hg2 : g ≠ w.heap.size + 1 := by omega
  have hg1' : w.heap.size ≠ g := by omega
  have hg2' : w.heap.size + 1 ≠ g := by omega
  have hc0 := hW.cell 0 w0 rfl
  rw [Nat.add_zero] at hc0
  have hc1 := hW.cell 1 w1 rfl
  have hc2 := hW.cell 2 w2 rfl
  have hc3 := hW.cell 3 w3 rfl
  have hc4 := hW.cell 4 w4 rfl
  have hc5 := hW.cell 5 w5 rfl
  have HR : Hid (rst vs [w0, w1, w2, w3, w4, w5] = if Wm.nm w5 && (opdB w1 && opdB w3 && tstL.any (fun q => q.toList == w2.toList)) then some (⟨emp, w0, -1, rop vs w1, rop (opdA vs w1) w3, 2, w2, w5⟩, opdA (opdA vs w1) w3) else none) := by
    show _ = _
    simp only [rst, h0, h4, Bool.and_self, if_true]
  cases hn0 : Wm.nm w0
  all_goals
    go_enter Tryz.func69, Tryz.ntmps69
    go_wp2_with (first | (go_at_call_of 68 (Value.string w0); refine (rname_any _ _ hs0).mono ?_; rintro e w' ⟨rfl, rfl⟩) | (go_at_call_of 68 (Value.string w5); refine (rname_any _ _ hs5).mono ?_; rintro e w' ⟨rfl, rfl⟩))
    refine (two_three1 pb B g off 6 cap nv xv vs vb [w0, w1, w2, w3, w4, w5] w1 w2 w3 (w.heap.size + 1 + 1) 4 tstL ⟨⟨#[]⟩, w0, -1, ⟨0, 0, ⟨#[]⟩⟩, ⟨0, 0, ⟨#[]⟩⟩, 0, ⟨#[]⟩, w5⟩ _ rfl rfl rfl (by decide) (by decide) (by decide) hs1 hs3 hn rfl (ws_new _ tstL _ _ (by simp) rfl) (ne_own hP (by omega)) (by simp; omega) hBp (((hP.alloc _).alloc _).alloc _) (((hW.alloc _).alloc _).alloc _) hgv).mono ?_
    rintro e W3 ⟨m, vb3, vs3, ok, rfl, HOK, HM, hP3, hf3, hn3⟩
    have hb1 : W3.heap[w.heap.size]? = some _ := box_rf hf3 (kept_alloc (alloc2 w _ _).1 _) (by omega) (ne_own hP (Nat.le_refl _))
    obtain ⟨p1, p2⟩ := box_cells hb1
    have hz0 : w.heap.size < W3.heap.size := (Array.getElem?_eq_some_iff.1 hb1).1
    have i1 : w.heap.size ≠ W3.heap.size := by omega
    have i1' : W3.heap.size ≠ w.heap.size := by omega
    have hne0 : some w.heap.size ≠ vb3 := hn3.ne (by simp; omega) (ne_own hP (Nat.le_refl _))
    have hne1 : some w.heap.size ≠ vb3 := hne0
    have hf3' := hf3.of_alloc.of_alloc.of_alloc
    have hn3' := hn3.of_alloc.of_alloc.of_alloc
    clear hb1 hf3 hn3
    simp only [rnCells]
    cases hn5 : Wm.nm w5
    case false =>
      go_wp2_with fail
      refine bodyPost_ret (v := .tuple #[.agg (rnCells (.slice (some ⟨g, off, none⟩) 6 cap) m), .bool false]) (by simp [results, Tryz.results69, go_sem, rnCells, ro0, emp, p1, hz0]) rfl ?_
      unfold RAns
      refine ⟨m, vb3, vs3, false, rfl, (by show _ = _; rw [HR.out, hn5]; rfl), ?_, ?_, hn3'⟩
      · repeat (first | with_reducible refine Rp.drew ?_ | with_reducible refine Rp.alloc ?_ _ | with_reducible refine Rp.set ?_ (by simp; omega) (by first | simpa using hne0 | simpa using hne1) _)
        exact hP3
      · repeat (first | with_reducible refine RF.drew ?_ | with_reducible refine RF.snoc ?_ _ | with_reducible refine RF.set ?_ (by simp) _)
        exact hf3'
    case true =>
      go_wp2_with fail
      refine bodyPost_ret (v := .tuple #[.agg (rnCells (.slice (some ⟨g, off, none⟩) 6 cap) m), .bool ok]) (by simp [results, Tryz.results69, go_sem, rnCells, ro0, emp, p1, hz0]) rfl ?_
      unfold RAns
      refine ⟨m, vb3, vs3, ok, rfl, (by show _ = _; rw [HR.out, hn5, ← HOK.out]; cases ok with | false => rfl | true => rw [(HM.out rfl).1, (HM.out rfl).2]; rfl), ?_, ?_, hn3'⟩
      · repeat (first | with_reducible refine Rp.drew ?_ | with_reducible refine Rp.alloc ?_ _ | with_reducible refine Rp.set ?_ (by simp; omega) (by first | simpa using hne0 | simpa using hne1) _)
        exact hP3
      · repeat (first | with_reducible refine RF.drew ?_ | with_reducible refine RF.snoc ?_ _ | with_reducible refine RF.set ?_ (by simp) _)
        exact hf3'
end Go.Proofs.YtmipbiligijcpaaGreatDoor
