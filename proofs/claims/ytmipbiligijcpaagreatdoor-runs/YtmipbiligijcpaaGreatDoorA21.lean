/- A part of the proof: contracts of functions of the program. -/
import Derived.Test.YtmipbiligijcpaaGreatDoorA20
namespace Go.Proofs.YtmipbiligijcpaaGreatDoor
set_option linter.unusedVariables false
set_option linter.unusedSimpArgs false
open Go.RowKit Go.Proofs Go.Maps

set_option maxHeartbeats 1000000 in
set_option maxRecDepth 100000 in
theorem rst_goto (pb B g off cap : Nat) (nv xv : Value) (vs : List Nam) (vb : Option Nat) (w0 w1 : ByteArray)  (w : World) (hs0 : w0.size ≤ 3000) (hs1 : w1.size ≤ 3000) (h0 : (w0.toList == [103, 111, 116, 111]) = true) (hB : B ≤ w.heap.size) (hBp : pb < B) (hP : Rp w pb B nv xv vs vb) (hW : Ws w g off [w0, w1]) :
    Calls Tryz.prog 69 #[.pointer (some ⟨pb, 0, none⟩), .slice (some ⟨g, off, none⟩) 2 cap] w (RAns w pb B nv xv (.slice (some ⟨g, off, none⟩) 2 cap) vb (rst vs [w0, w1])) := by
  have hp := hP.lt
  have hvl := hP.vlt
  have hgz := hW.lt
  have hg1 : g ≠ w.heap.size := by omega
  have hg2 : g ≠ w.heap.size + 1 := by omega
  have hg1' : w.heap.size ≠ g := by omega
  have hg2' : w.heap.size + 1 ≠ g := by omega
  have hc0 := hW.cell 0 w0 rfl
  rw [Nat.add_zero] at hc0
  have hc1 := hW.cell 1 w1 rfl
  have HR : Hid (rst vs [w0, w1] = if Wm.nm w1 then some (⟨emp, w0, -1, ro0, ro0, 0, emp, w1⟩, vs) else none) := by
    show _ = _
    simp only [rst, h0, if_true]
  unfold RAns
  go_enter Tryz.func69, Tryz.ntmps69
  go_wp2_with (first | (go_at_call_of 68 (Value.string w0); refine (rname_any _ _ hs0).mono ?_; rintro e w' ⟨rfl, rfl⟩) | (go_at_call_of 68 (Value.string w1); refine (rname_any _ _ hs1).mono ?_; rintro e w' ⟨rfl, rfl⟩))
  refine bodyPost_ret (v := .tuple #[.agg (rnCells (.slice (some ⟨g, off, none⟩) 2 cap) ⟨emp, w0, -1, ro0, ro0, 0, emp, w1⟩), .bool (Wm.nm w1)]) (by simp [results, Tryz.results69, go_sem, rnCells, ro0, emp]) rfl ⟨⟨emp, w0, -1, ro0, ro0, 0, emp, w1⟩, vb, vs, (Wm.nm w1), rfl, HR.out, ?_, ?_, Or.inl rfl⟩
  · exact (hP.alloc _).alloc _
  · exact (RF.alloc _ _).trans (Or.inl rfl) (RF.alloc _ _)
set_option maxHeartbeats 1000000 in
set_option maxRecDepth 100000 in
theorem rst_2no (pb B g off cap : Nat) (nv xv : Value) (vs : List Nam) (vb : Option Nat) (w0 w1 : ByteArray)  (w : World) (hs0 : w0.size ≤ 3000) (hs1 : w1.size ≤ 3000) (h0 : (w0.toList == [103, 111, 116, 111]) = false) (h1 : (w0.toList == [111, 117, 116, 112, 117, 116]) = false) (hB : B ≤ w.heap.size) (hBp : pb < B) (hP : Rp w pb B nv xv vs vb) (hW : Ws w g off [w0, w1]) :
    Calls Tryz.prog 69 #[.pointer (some ⟨pb, 0, none⟩), .slice (some ⟨g, off, none⟩) 2 cap] w (RAns w pb B nv xv (.slice (some ⟨g, off, none⟩) 2 cap) vb (rst vs [w0, w1])) := by
  have hp := hP.lt
  have hvl := hP.vlt
  have hgz := hW.lt
  have hg1 : g ≠ w.heap.size := by omega
  have hg2 : g ≠ w.heap.size + 1 := by omega
  have hg1' : w.heap.size ≠ g := by omega
  have hg2' : w.heap.size + 1 ≠ g := by omega
  have hc0 := hW.cell 0 w0 rfl
  rw [Nat.add_zero] at hc0
  have hc1 := hW.cell 1 w1 rfl
  have HR : Hid (rst vs [w0, w1] = none) := by
    show _ = _
    simp only [rst, h0, h1]; rfl
  unfold RAns
  cases hn0 : Wm.nm w0
  all_goals
    go_enter Tryz.func69, Tryz.ntmps69
    go_wp2_with (first | (go_at_call_of 68 (Value.string w0); refine (rname_any _ _ hs0).mono ?_; rintro e w' ⟨rfl, rfl⟩))
    refine bodyPost_ret (v := .tuple #[.agg (rnCells (.slice (some ⟨g, off, none⟩) 2 cap) ⟨emp, w0, -1, ro0, ro0, 0, emp, emp⟩), .bool false]) (by simp [results, Tryz.results69, go_sem, rnCells, ro0, emp]) rfl ⟨⟨emp, w0, -1, ro0, ro0, 0, emp, emp⟩, vb, vs, false, rfl, HR.out, ?_, ?_, Or.inl rfl⟩
    · exact (hP.alloc _).alloc _
    · exact (RF.alloc _ _).trans (Or.inl rfl) (RF.alloc _ _)
set_option maxHeartbeats 1000000 in
set_option maxRecDepth 100000 in
theorem rst_3no0 (pb B g off cap : Nat) (nv xv : Value) (vs : List Nam) (vb : Option Nat) (w0 w1 w2 : ByteArray)  (w : World) (hs0 : w0.size ≤ 3000) (hs1 : w1.size ≤ 3000) (hs2 : w2.size ≤ 3000) (hn0 : Wm.nm w0 = false) (hB : B ≤ w.heap.size) (hBp : pb < B) (hP : Rp w pb B nv xv vs vb) (hW : Ws w g off [w0, w1, w2]) :
    Calls Tryz.prog 69 #[.pointer (some ⟨pb, 0, none⟩), .slice (some ⟨g, off, none⟩) 3 cap] w (RAns w pb B nv xv (.slice (some ⟨g, off, none⟩) 3 cap) vb (rst vs [w0, w1, w2])) := by
  have hp := hP.lt
  have hvl := hP.vlt
  have hgz := hW.lt
  have hg1 : g ≠ w.heap.size := by omega
  have hg2 : g ≠ w.heap.size + 1 := by omega
  have hg1' : w.heap.size ≠ g := by omega
  have hg2' : w.heap.size + 1 ≠ g := by omega
  have hc0 := hW.cell 0 w0 rfl
  rw [Nat.add_zero] at hc0
  have hc1 := hW.cell 1 w1 rfl
  have hc2 := hW.cell 2 w2 rfl
  have HR : Hid (rst vs [w0, w1, w2] = none) := by
    show _ = _
    simp only [rst, hn0]; rfl
  unfold RAns
  go_enter Tryz.func69, Tryz.ntmps69
  go_wp2_with (first | (go_at_call_of 68 (Value.string w0); refine (rname_any _ _ hs0).mono ?_; rintro e w' ⟨rfl, rfl⟩))
  refine bodyPost_ret (v := .tuple #[.agg (rnCells (.slice (some ⟨g, off, none⟩) 3 cap) ⟨emp, w0, -1, ro0, ro0, 0, emp, emp⟩), .bool false]) (by simp [results, Tryz.results69, go_sem, rnCells, ro0, emp]) rfl ⟨⟨emp, w0, -1, ro0, ro0, 0, emp, emp⟩, vb, vs, false, rfl, HR.out, ?_, ?_, Or.inl rfl⟩
  · exact (hP.alloc _).alloc _
  · exact (RF.alloc _ _).trans (Or.inl rfl) (RF.alloc _ _)
set_option maxHeartbeats 1000000 in
set_option maxRecDepth 100000 in
theorem rst_3no1 (pb B g off cap : Nat) (nv xv : Value) (vs : List Nam) (vb : Option Nat) (w0 w1 w2 : ByteArray)  (w : World) (hs0 : w0.size ≤ 3000) (hs1 : w1.size ≤ 3000) (hs2 : w2.size ≤ 3000) (hn0 : Wm.nm w0 = true) (h1 : (w1.toList == [61]) = false) (hB : B ≤ w.heap.size) (hBp : pb < B) (hP : Rp w pb B nv xv vs vb) (hW : Ws w g off [w0, w1, w2]) :
    Calls Tryz.prog 69 #[.pointer (some ⟨pb, 0, none⟩), .slice (some ⟨g, off, none⟩) 3 cap] w (RAns w pb B nv xv (.slice (some ⟨g, off, none⟩) 3 cap) vb (rst vs [w0, w1, w2])) := by
  have hp := hP.lt
  have hvl := hP.vlt
  have hgz := hW.lt
  have hg1 : g ≠ w.heap.size := by omega
  have hg2 : g ≠ w.heap.size + 1 := by omega
  have hg1' : w.heap.size ≠ g := by omega
  have hg2' : w.heap.size + 1 ≠ g := by omega
  have hc0 := hW.cell 0 w0 rfl
  rw [Nat.add_zero] at hc0
  have hc1 := hW.cell 1 w1 rfl
  have hc2 := hW.cell 2 w2 rfl
  have HR : Hid (rst vs [w0, w1, w2] = none) := by
    show _ = _
    simp only [rst, hn0, h1]; rfl
  unfold RAns
  go_enter Tryz.func69, Tryz.ntmps69
  go_wp2_with (first | (go_at_call_of 68 (Value.string w0); refine (rname_any _ _ hs0).mono ?_; rintro e w' ⟨rfl, rfl⟩))
  refine bodyPost_ret (v := .tuple #[.agg (rnCells (.slice (some ⟨g, off, none⟩) 3 cap) ⟨emp, w0, -1, ro0, ro0, 0, emp, emp⟩), .bool false]) (by simp [results, Tryz.results69, go_sem, rnCells, ro0, emp]) rfl ⟨⟨emp, w0, -1, ro0, ro0, 0, emp, emp⟩, vb, vs, false, rfl, HR.out, ?_, ?_, Or.inl rfl⟩
  · exact (hP.alloc _).alloc _
  · exact (RF.alloc _ _).trans (Or.inl rfl) (RF.alloc _ _)
set_option maxHeartbeats 1000000 in
set_option maxRecDepth 100000 in
theorem rst_5no0 (pb B g off cap : Nat) (nv xv : Value) (vs : List Nam) (vb : Option Nat) (w0 w1 w2 w3 w4 : ByteArray)  (w : World) (hs0 : w0.size ≤ 3000) (hs1 : w1.size ≤ 3000) (hs2 : w2.size ≤ 3000) (hs3 : w3.size ≤ 3000) (hs4 : w4.size ≤ 3000) (hn0 : Wm.nm w0 = false) (hB : B ≤ w.heap.size) (hBp : pb < B) (hP : Rp w pb B nv xv vs vb) (hW : Ws w g off [w0, w1, w2, w3, w4]) :
    Calls Tryz.prog 69 #[.pointer (some ⟨pb, 0, none⟩), .slice (some ⟨g, off, none⟩) 5 cap] w (RAns w pb B nv xv (.slice (some ⟨g, off, none⟩) 5 cap) vb (rst vs [w0, w1, w2, w3, w4])) := by
  have hp := hP.lt
  have hvl := hP.vlt
  have hgz := hW.lt
  have hg1 : g ≠ w.heap.size := by omega
  have hg2 : g ≠ w.heap.size + 1 := by omega
  have hg1' : w.heap.size ≠ g := by omega
  have hg2' : w.heap.size + 1 ≠ g := by omega
  have hc0 := hW.cell 0 w0 rfl
  rw [Nat.add_zero] at hc0
  have hc1 := hW.cell 1 w1 rfl
  have hc2 := hW.cell 2 w2 rfl
  have hc3 := hW.cell 3 w3 rfl
  have hc4 := hW.cell 4 w4 rfl
  have HR : Hid (rst vs [w0, w1, w2, w3, w4] = none) := by
    show _ = _
    simp only [rst, hn0]; rfl
  unfold RAns
  go_enter Tryz.func69, Tryz.ntmps69
  go_wp2_with (first | (go_at_call_of 68 (Value.string w0); refine (rname_any _ _ hs0).mono ?_; rintro e w' ⟨rfl, rfl⟩))
  refine bodyPost_ret (v := .tuple #[.agg (rnCells (.slice (some ⟨g, off, none⟩) 5 cap) ⟨emp, w0, -1, ro0, ro0, 0, emp, emp⟩), .bool false]) (by simp [results, Tryz.results69, go_sem, rnCells, ro0, emp]) rfl ⟨⟨emp, w0, -1, ro0, ro0, 0, emp, emp⟩, vb, vs, false, rfl, HR.out, ?_, ?_, Or.inl rfl⟩
  · exact (hP.alloc _).alloc _
  · exact (RF.alloc _ _).trans (Or.inl rfl) (RF.alloc _ _)
set_option maxHeartbeats 1000000 in
set_option maxRecDepth 100000 in
theorem rst_5no1 (pb B g off cap : Nat) (nv xv : Value) (vs : List Nam) (vb : Option Nat) (w0 w1 w2 w3 w4 : ByteArray)  (w : World) (hs0 : w0.size ≤ 3000) (hs1 : w1.size ≤ 3000) (hs2 : w2.size ≤ 3000) (hs3 : w3.size ≤ 3000) (hs4 : w4.size ≤ 3000) (hn0 : Wm.nm w0 = true) (h1 : (w1.toList == [61]) = false) (hB : B ≤ w.heap.size) (hBp : pb < B) (hP : Rp w pb B nv xv vs vb) (hW : Ws w g off [w0, w1, w2, w3, w4]) :
    Calls Tryz.prog 69 #[.pointer (some ⟨pb, 0, none⟩), .slice (some ⟨g, off, none⟩) 5 cap] w (RAns w pb B nv xv (.slice (some ⟨g, off, none⟩) 5 cap) vb (rst vs [w0, w1, w2, w3, w4])) := by
  have hp := hP.lt
  have hvl := hP.vlt
  have hgz := hW.lt
  have hg1 : g ≠ w.heap.size := by omega
  have hg2 : g ≠ w.heap.size + 1 := by omega
  have hg1' : w.heap.size ≠ g := by omega
  have hg2' : w.heap.size + 1 ≠ g := by omega
  have hc0 := hW.cell 0 w0 rfl
  rw [Nat.add_zero] at hc0
  have hc1 := hW.cell 1 w1 rfl
  have hc2 := hW.cell 2 w2 rfl
  have hc3 := hW.cell 3 w3 rfl
  have hc4 := hW.cell 4 w4 rfl
  have HR : Hid (rst vs [w0, w1, w2, w3, w4] = none) := by
    show _ = _
    simp only [rst, hn0, h1]; rfl
  unfold RAns
  go_enter Tryz.func69, Tryz.ntmps69
  go_wp2_with (first | (go_at_call_of 68 (Value.string w0); refine (rname_any _ _ hs0).mono ?_; rintro e w' ⟨rfl, rfl⟩))
  refine bodyPost_ret (v := .tuple #[.agg (rnCells (.slice (some ⟨g, off, none⟩) 5 cap) ⟨emp, w0, -1, ro0, ro0, 0, emp, emp⟩), .bool false]) (by simp [results, Tryz.results69, go_sem, rnCells, ro0, emp]) rfl ⟨⟨emp, w0, -1, ro0, ro0, 0, emp, emp⟩, vb, vs, false, rfl, HR.out, ?_, ?_, Or.inl rfl⟩
  · exact (hP.alloc _).alloc _
  · exact (RF.alloc _ _).trans (Or.inl rfl) (RF.alloc _ _)
set_option maxHeartbeats 1000000 in
set_option maxRecDepth 100000 in
theorem rst_6no0 (pb B g off cap : Nat) (nv xv : Value) (vs : List Nam) (vb : Option Nat) (w0 w1 w2 w3 w4 w5 : ByteArray)  (w : World) (hs0 : w0.size ≤ 3000) (hs1 : w1.size ≤ 3000) (hs2 : w2.size ≤ 3000) (hs3 : w3.size ≤ 3000) (hs4 : w4.size ≤ 3000) (hs5 : w5.size ≤ 3000) (h0 : (w0.toList == [105, 102]) = false) (hB : B ≤ w.heap.size) (hBp : pb < B) (hP : Rp w pb B nv xv vs vb) (hW : Ws w g off [w0, w1, w2, w3, w4, w5]) :
    Calls Tryz.prog 69 #[.pointer (some ⟨pb, 0, none⟩), .slice (some ⟨g, off, none⟩) 6 cap] w (RAns w pb B nv xv (.slice (some ⟨g, off, none⟩) 6 cap) vb (rst vs [w0, w1, w2, w3, w4, w5])) := by
  have hp := hP.lt
  have hvl := hP.vlt
  have hgz := hW.lt
  have hg1 : g ≠ w.heap.size := by omega
  have hg2 : g ≠ w.heap.size + 1 := by omega
  have hg1' : w.heap.size ≠ g := by omega
  have hg2' : w.heap.size + 1 ≠ g := by omega
  have hc0 := hW.cell 0 w0 rfl
  rw [Nat.add_zero] at hc0
  have hc1 := hW.cell 1 w1 rfl
  have hc2 := hW.cell 2 w2 rfl
  have hc3 := hW.cell 3 w3 rfl
  have hc4 := hW.cell 4 w4 rfl
  have hc5 := hW.cell 5 w5 rfl
  have HR : Hid (rst vs [w0, w1, w2, w3, w4, w5] = none) := by
    show _ = _
    simp only [rst, h0]; rfl
  unfold RAns
  cases hn0 : Wm.nm w0
  all_goals
    go_enter Tryz.func69, Tryz.ntmps69
    go_wp2_with (first | (go_at_call_of 68 (Value.string w0); refine (rname_any _ _ hs0).mono ?_; rintro e w' ⟨rfl, rfl⟩))
    refine bodyPost_ret (v := .tuple #[.agg (rnCells (.slice (some ⟨g, off, none⟩) 6 cap) ⟨emp, w0, -1, ro0, ro0, 0, emp, emp⟩), .bool false]) (by simp [results, Tryz.results69, go_sem, rnCells, ro0, emp]) rfl ⟨⟨emp, w0, -1, ro0, ro0, 0, emp, emp⟩, vb, vs, false, rfl, HR.out, ?_, ?_, Or.inl rfl⟩
    · exact (hP.alloc _).alloc _
    · exact (RF.alloc _ _).trans (Or.inl rfl) (RF.alloc _ _)
set_option maxHeartbeats 1000000 in
set_option maxRecDepth 100000 in
theorem rst_6no1 (pb B g off cap : Nat) (nv xv : Value) (vs : List Nam) (vb : Option Nat) (w0 w1 w2 w3 w4 w5 : ByteArray)  (w : World) (hs0 : w0.size ≤ 3000) (hs1 : w1.size ≤ 3000) (hs2 : w2.size ≤ 3000) (hs3 : w3.size ≤ 3000) (hs4 : w4.size ≤ 3000) (hs5 : w5.size ≤ 3000) (h0 : (w0.toList == [105, 102]) = true) (h4 : (w4.toList == [103, 111, 116, 111]) = false) (hB : B ≤ w.heap.size) (hBp : pb < B) (hP : Rp w pb B nv xv vs vb) (hW : Ws w g off [w0, w1, w2, w3, w4, w5]) :
    Calls Tryz.prog 69 #[.pointer (some ⟨pb, 0, none⟩), .slice (some ⟨g, off, none⟩) 6 cap] w (RAns w pb B nv xv (.slice (some ⟨g, off, none⟩) 6 cap) vb (rst vs [w0, w1, w2, w3, w4, w5])) := by
  have hp := hP.lt
  have hvl := hP.vlt
  have hgz := hW.lt
  have hg1 : g ≠ w.heap.size := by omega
  have hg2 : g ≠ w.heap.size + 1 := by omega
  have hg1' : w.heap.size ≠ g := by omega
  have hg2' : w.heap.size + 1 ≠ g := by omega
  have hc0 := hW.cell 0 w0 rfl
  rw [Nat.add_zero] at hc0
  have hc1 := hW.cell 1 w1 rfl
  have hc2 := hW.cell 2 w2 rfl
  have hc3 := hW.cell 3 w3 rfl
  have hc4 := hW.cell 4 w4 rfl
  have hc5 := hW.cell 5 w5 rfl
  have HR : Hid (rst vs [w0, w1, w2, w3, w4, w5] = none) := by
    show _ = _
    simp only [rst, h0, h4]; rfl
  unfold RAns
  cases hn0 : Wm.nm w0
  all_goals
    go_enter Tryz.func69, Tryz.ntmps69
    go_wp2_with (first | (go_at_call_of 68 (Value.string w0); refine (rname_any _ _ hs0).mono ?_; rintro e w' ⟨rfl, rfl⟩))
    refine bodyPost_ret (v := .tuple #[.agg (rnCells (.slice (some ⟨g, off, none⟩) 6 cap) ⟨emp, w0, -1, ro0, ro0, 0, emp, emp⟩), .bool false]) (by simp [results, Tryz.results69, go_sem, rnCells, ro0, emp]) rfl ⟨⟨emp, w0, -1, ro0, ro0, 0, emp, emp⟩, vb, vs, false, rfl, HR.out, ?_, ?_, Or.inl rfl⟩
    · exact (hP.alloc _).alloc _
    · exact (RF.alloc _ _).trans (Or.inl rfl) (RF.alloc _ _)
set_option maxHeartbeats 1000000 in
set_option maxRecDepth 100000 in
theorem rst_long (pb B g off cap : Nat) (nv xv : Value) (vs : List Nam) (vb : Option Nat) (w0 : ByteArray) (len : Nat) (ws : List ByteArray) (w : World) (hs0 : w0.size ≤ 3000) (hl : len ≤ 3001) (hx : ws[0]? = some w0) (hr : rst vs ws = none) (k0 : ((len : Int) == 0) = false) (k0' : (0 : Int) < (len : Int)) (k1 : ((len : Int) == 1) = false) (k2 : ((len : Int) == 2) = false) (k3 : ((len : Int) == 3) = false) (k5 : ((len : Int) == 5) = false) (k6 : ((len : Int) == 6) = false) (hB : B ≤ w.heap.size) (hBp : pb < B) (hP : Rp w pb B nv xv vs vb) (hW : Ws w g off ws) :
    Calls Tryz.prog 69 #[.pointer (some ⟨pb, 0, none⟩), .slice (some ⟨g, off, none⟩) len cap] w (RAns w pb B nv xv (.slice (some ⟨g, off, none⟩) len cap) vb (rst vs ws)) := by
  have hp := hP.lt
  have hvl := hP.vlt
  have hgz := hW.lt
  have hg1 : g ≠ w.heap.size := by omega
  have hg2 : g ≠ w.heap.size + 1 := by omega
  have hg1' : w.heap.size ≠ g := by omega
  have hg2' : w.heap.size + 1 ≠ g := by omega
  have hc0 := hW.cell 0 w0 hx
  rw [Nat.add_zero] at hc0
  have HR : Hid (rst vs ws = none) := by
    show _ = _
    exact hr
  unfold RAns
  clear hr
  cases hn0 : Wm.nm w0
  all_goals
    go_enter Tryz.func69, Tryz.ntmps69
    go_wp2_with (first | (go_at_call_of 68 (Value.string w0); refine (rname_any _ _ hs0).mono ?_; rintro e w' ⟨rfl, rfl⟩))
    refine bodyPost_ret (v := .tuple #[.agg (rnCells (.slice (some ⟨g, off, none⟩) len cap) ⟨emp, w0, -1, ro0, ro0, 0, emp, emp⟩), .bool false]) (by simp [results, Tryz.results69, go_sem, rnCells, ro0, emp]) rfl ⟨⟨emp, w0, -1, ro0, ro0, 0, emp, emp⟩, vb, vs, false, rfl, HR.out, ?_, ?_, Or.inl rfl⟩
    · exact (hP.alloc _).alloc _
    · exact (RF.alloc _ _).trans (Or.inl rfl) (RF.alloc _ _)
end Go.Proofs.YtmipbiligijcpaaGreatDoor
