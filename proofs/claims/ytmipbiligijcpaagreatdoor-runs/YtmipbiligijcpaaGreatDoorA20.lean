/- A part of the proof: contracts of functions of the program. -/
import Derived.Test.YtmipbiligijcpaaGreatDoorA19
namespace Go.Proofs.YtmipbiligijcpaaGreatDoor
set_option linter.unusedVariables false
set_option linter.unusedSimpArgs false
open Go.RowKit Go.Proofs Go.Maps

def bs (l : List UInt8) : ByteArray := ⟨l.toArray⟩
def opsL : List ByteArray := [⟨#[43]⟩, ⟨#[45]⟩, ⟨#[42]⟩, ⟨#[47]⟩]
def tstL : List ByteArray := [⟨#[60]⟩, ⟨#[60, 61]⟩, ⟨#[61, 61]⟩, ⟨#[33, 61]⟩]
def rst (vs : List Nam) (ws : List ByteArray) : Option (RN × List Nam) :=
  match ws with
  | [w0] => if w0.toList == [114, 101, 116, 117, 114, 110] then some (⟨emp, w0, -1, ro0, ro0, 0, emp, emp⟩, vs) else none
  | [w0, w1] => if w0.toList == [103, 111, 116, 111] then (if Wm.nm w1 then some (⟨emp, w0, -1, ro0, ro0, 0, emp, w1⟩, vs) else none) else if w0.toList == [111, 117, 116, 112, 117, 116] then (if opdB w1 then some (⟨emp, w0, -1, rop vs w1, ro0, 1, emp, emp⟩, opdA vs w1) else none) else none
  | [w0, w1, w2] => if Wm.nm w0 && w1.toList == [61] then (if w2.toList == [105, 110, 112, 117, 116] then some (⟨emp, ⟨#[105, 110, 112, 117, 116]⟩, vnum vs w0.data.toList, ro0, ro0, 0, emp, emp⟩, vadd vs w0.data.toList) else if opdB w2 then some (⟨emp, ⟨#[61]⟩, vnum vs w0.data.toList, rop (vadd vs w0.data.toList) w2, ro0, 1, emp, emp⟩, opdA (vadd vs w0.data.toList) w2) else none) else none
  | [w0, w1, w2, w3, w4] => if Wm.nm w0 && w1.toList == [61] then (if opdB w2 && opdB w4 && opsL.any (fun q => q.toList == w3.toList) then some (⟨emp, ⟨#[61]⟩, vnum vs w0.data.toList, rop (vadd vs w0.data.toList) w2, rop (opdA (vadd vs w0.data.toList) w2) w4, 2, w3, emp⟩, opdA (opdA (vadd vs w0.data.toList) w2) w4) else none) else none
  | [w0, w1, w2, w3, w4, w5] => if w0.toList == [105, 102] && w4.toList == [103, 111, 116, 111] then (if Wm.nm w5 && (opdB w1 && opdB w3 && tstL.any (fun q => q.toList == w2.toList)) then some (⟨emp, w0, -1, rop vs w1, rop (opdA vs w1) w3, 2, w2, w5⟩, opdA (opdA vs w1) w3) else none) else none
  | _ => none
/-- what the statement's call answers -/
def RAns (w : World) (pb B : Nat) (nv xv wv : Value) (vb : Option Nat) (r : Option (RN × List Nam)) (e : Ending) (w' : World) : Prop :=
  ∃ (m : RN) (vb' : Option Nat) (vs' : List Nam) (ok : Bool), e = .returned (.tuple #[.agg (rnCells wv m), .bool ok]) ∧ Hid (r = if ok then some (m, vs') else none) ∧ Rp w' pb B nv xv vs' vb' ∧ RF pb vb w w' ∧ newer w vb vb'

theorem Rp.drew {w : World} {pb B : Nat} {nv xv : Value} {vs : List Nam} {vb : Option Nat} (h : Rp w pb B nv xv vs vb) : Rp w.drew pb B nv xv vs vb := h.of_blocks rfl (fun _ _ => rfl)
theorem RF.drew {pb : Nat} {vb : Option Nat} {u w : World} (h : RF pb vb u w) : RF pb vb u w.drew := ⟨h.os, h.tape, h.output, h.size, h.block⟩
set_option maxHeartbeats 400000 in
set_option maxRecDepth 100000 in
theorem rst_0 (pb B cap : Nat) (ao : Option Addr) (nv xv : Value) (vs : List Nam) (vb : Option Nat) (w : World) (hP : Rp w pb B nv xv vs vb) :
    Calls Tryz.prog 69 #[.pointer (some ⟨pb, 0, none⟩), .slice ao 0 cap] w (RAns w pb B nv xv (.slice ao 0 cap) vb (rst vs [])) := by
  unfold RAns
  go_enter Tryz.func69, Tryz.ntmps69
  go_wp2_with fail
  refine bodyPost_ret (v := .tuple #[.agg (rnCells (.slice (ao) 0 cap) ⟨emp, emp, -1, ro0, ro0, 0, emp, emp⟩), .bool false]) (by simp [results, Tryz.results69, go_sem, rnCells, ro0, emp]) rfl ⟨⟨emp, emp, -1, ro0, ro0, 0, emp, emp⟩, vb, vs, false, rfl, rfl, ?_, ?_, Or.inl rfl⟩
  · exact (hP.alloc _).alloc _
  · exact (RF.alloc _ _).trans (Or.inl rfl) (RF.alloc _ _)
set_option maxHeartbeats 400000 in
set_option maxRecDepth 100000 in
theorem rst_1 (pb B g off cap : Nat) (nv xv : Value) (vs : List Nam) (vb : Option Nat) (w0 : ByteArray)  (w : World) (hs0 : w0.size ≤ 3000) (hB : B ≤ w.heap.size) (hBp : pb < B) (hP : Rp w pb B nv xv vs vb) (hW : Ws w g off [w0]) :
    Calls Tryz.prog 69 #[.pointer (some ⟨pb, 0, none⟩), .slice (some ⟨g, off, none⟩) 1 cap] w (RAns w pb B nv xv (.slice (some ⟨g, off, none⟩) 1 cap) vb (rst vs [w0])) := by
  have hp := hP.lt
  have hvl := hP.vlt
  have hgz := hW.lt
  have hg1 : g ≠ w.heap.size := by omega
  have hg2 : g ≠ w.heap.size + 1 := by omega
  have hg1' : w.heap.size ≠ g := by omega
  have hg2' : w.heap.size + 1 ≠ g := by omega
  have hc0 := hW.cell 0 w0 rfl
  rw [Nat.add_zero] at hc0
  have HR : Hid (rst vs [w0] = if (w0.toList == [114, 101, 116, 117, 114, 110]) then some (⟨emp, w0, -1, ro0, ro0, 0, emp, emp⟩, vs) else none) := by
    show _ = _
    rfl
  unfold RAns
  go_enter Tryz.func69, Tryz.ntmps69
  go_wp2_with (first | (go_at_call 68; refine (rname_any _ _ hs0).mono ?_; rintro e w' ⟨rfl, rfl⟩))
  go_region_held3 (fun w' => w'.cell? ⟨g, off, none⟩ = some (.string w0) ∧ w'.cell? ⟨w.heap.size + 1, 0, none⟩ = some (.slice (some ⟨g, off, none⟩) 1 cap) ∧ w'.cell? ⟨w.heap.size + 1, 1, none⟩ = some (.string ⟨#[]⟩) ∧ w'.cell? ⟨w.heap.size + 1, 2, none⟩ = some (.string w0) ∧ w'.cell? ⟨w.heap.size + 1, 3, none⟩ = some (.int .i64 (-1)) ∧ w'.cell? ⟨w.heap.size + 1, 4, none⟩ = some (.int .i64 0) ∧ w'.cell? ⟨w.heap.size + 1, 5, none⟩ = some (.int .i64 0) ∧ w'.cell? ⟨w.heap.size + 1, 6, none⟩ = some (.string ⟨#[]⟩) ∧ w'.cell? ⟨w.heap.size + 1, 7, none⟩ = some (.int .i64 0) ∧ w'.cell? ⟨w.heap.size + 1, 8, none⟩ = some (.int .i64 0) ∧ w'.cell? ⟨w.heap.size + 1, 9, none⟩ = some (.string ⟨#[]⟩) ∧ w'.cell? ⟨w.heap.size + 1, 10, none⟩ = some (.int .i64 0) ∧ w'.cell? ⟨w.heap.size + 1, 11, none⟩ = some (.string ⟨#[]⟩) ∧ w'.cell? ⟨w.heap.size + 1, 12, none⟩ = some (.string ⟨#[]⟩)) (go_keep) (fail)
  go_wp2_with fail
  refine bodyPost_ret (v := .tuple #[.agg (rnCells (.slice (some ⟨g, off, none⟩) 1 cap) ⟨emp, w0, -1, ro0, ro0, 0, emp, emp⟩), .bool (w0.toList == [114, 101, 116, 117, 114, 110])]) (by simp [results, Tryz.results69, go_sem, rnCells, ro0, emp]) rfl ⟨⟨emp, w0, -1, ro0, ro0, 0, emp, emp⟩, vb, vs, (w0.toList == [114, 101, 116, 117, 114, 110]), rfl, HR.out, ?_, ?_, Or.inl rfl⟩
  · refine Rp.drew ?_; exact (hP.alloc _).alloc _
  · refine RF.drew ?_; exact (RF.alloc _ _).trans (Or.inl rfl) (RF.alloc _ _)
end Go.Proofs.YtmipbiligijcpaaGreatDoor
