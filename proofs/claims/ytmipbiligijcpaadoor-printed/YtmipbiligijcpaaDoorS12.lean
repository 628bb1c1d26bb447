/- The document's program, read and printed. -/
import Derived.Test.YtmipbiligijcpaaDoorS10
namespace Go.Proofs.YtmipbiligijcpaaDoor
set_option linter.unusedVariables false
set_option linter.unusedSimpArgs false
open Go.RowKit Go.Proofs Go.Maps

def exB : ByteArray := ⟨#[108, 58, 32, 120, 32, 61, 32, 105, 110, 112, 117, 116, 10, 32, 105, 102, 32, 120, 32, 60, 32, 49, 48, 32, 103, 111, 116, 111, 32, 108, 10, 32, 111, 117, 116, 112, 117, 116, 32, 120, 10, 114, 101, 116, 117, 114, 110]⟩
def exO : ByteArray := ⟨#[108, 58, 32, 120, 32, 61, 32, 105, 110, 112, 117, 116, 10, 105, 102, 32, 120, 32, 60, 32, 49, 48, 32, 103, 111, 116, 111, 32, 108, 10, 111, 117, 116, 112, 117, 116, 32, 120, 10, 114, 101, 116, 117, 114, 110, 10]⟩
def exmL : List (List ByteArray) := [[⟨#[108, 58]⟩, ⟨#[120]⟩, ⟨#[61]⟩, ⟨#[105, 110, 112, 117, 116]⟩], [⟨#[105, 102]⟩, ⟨#[120]⟩, ⟨#[60]⟩, ⟨#[49, 48]⟩, ⟨#[103, 111, 116, 111]⟩, ⟨#[108]⟩], [⟨#[111, 117, 116, 112, 117, 116]⟩, ⟨#[120]⟩], [⟨#[114, 101, 116, 117, 114, 110]⟩]]
theorem ex_lines : lnW exB = exmL := by
  apply mapss_inj
  rw [lnW_data]
  rfl
def exP : List PN := [⟨⟨#[108]⟩, [⟨#[120]⟩, ⟨#[61]⟩, ⟨#[105, 110, 112, 117, 116]⟩], ⟨2, 0, 0, 0, o0, o0, emp⟩⟩, ⟨emp, [⟨#[105, 102]⟩, ⟨#[120]⟩, ⟨#[60]⟩, ⟨#[49, 48]⟩, ⟨#[103, 111, 116, 111]⟩, ⟨#[108]⟩], ⟨4, 0, 0, 0, ⟨true, 0, 0⟩, ⟨false, 0, 10⟩, ⟨#[108]⟩⟩⟩, ⟨emp, [⟨#[111, 117, 116, 112, 117, 116]⟩, ⟨#[120]⟩], ⟨3, 0, 0, 0, ⟨true, 0, 0⟩, o0, emp⟩⟩, ⟨emp, [⟨#[114, 101, 116, 117, 114, 110]⟩], ⟨6, 0, 0, 0, o0, o0, emp⟩⟩]
theorem ex_f0 : colB ⟨#[108, 58]⟩ = true := by first | rfl | decide
theorem ex_f1 : colB ⟨#[105, 102]⟩ = false := by first | rfl | decide
theorem ex_f2 : colB ⟨#[111, 117, 116, 112, 117, 116]⟩ = false := by first | rfl | decide
theorem ex_f3 : colB ⟨#[114, 101, 116, 117, 114, 110]⟩ = false := by first | rfl | decide
theorem ex_f4 : Wm.nm ⟨#[108]⟩ = true := by first | rfl | decide
theorem ex_f5 : Wm.nm ⟨#[120]⟩ = true := by first | rfl | decide
theorem ex_f6 : Wm.nm ⟨#[49, 48]⟩ = false := by first | rfl | decide
theorem ex_f7 : Wm.nm ⟨#[111, 117, 116, 112, 117, 116]⟩ = false := by first | rfl | decide
theorem ex_f8 : Wm.nm ⟨#[105, 102]⟩ = false := by first | rfl | decide
theorem ex_f9 : Wm.nm ⟨#[114, 101, 116, 117, 114, 110]⟩ = false := by first | rfl | decide
theorem ex_f10 : Wm.nm ⟨#[105, 110, 112, 117, 116]⟩ = false := by first | rfl | decide
theorem ex_f11 : cstB [49, 48] = true := by first | rfl | decide
theorem ex_f12 : cstV [49, 48] = 10 := by first | rfl | decide
theorem ex_f13 : labD ⟨#[108, 58]⟩ = ⟨#[108]⟩ := by first | rfl | decide
theorem ex_rdl : rdl [] [] exmL = some (exP, [[120]]) := by
  simp [exmL, exP, rdl, saysNo, lin, ex_f0, ex_f1, ex_f2, ex_f3, ex_f4, ex_f5, ex_f6, ex_f7, ex_f8, ex_f9, ex_f10, ex_f11, ex_f12, ex_f13, stm, outS, ifS, gotoS, asgS, ByteArray.toList_eq, opd, opdB, opdA, vnum, vadd, Wm.tsN, Wm.tsB, o0]
theorem ex_prs : prs exB = Pr.ok exP [[120]] := by
  unfold prs
  rw [if_neg (by decide), ex_lines, ex_rdl]
  have : progOk exP [[120]] = true := by simp [progOk, linkOk, plc, exP, PN.nc, ByteArray.toList_eq, goalsOk, lastOk, jumps, keysA, edgK, edg, emp, valA, o0]
  simp only [this]
  rfl
theorem ex_prt : (⟨(prt exP).toArray⟩ : ByteArray) = exO := by
  apply data_inj
  simp [prt, lineOf, lbl, jw, exP, exO, ByteArray.toList_eq, emp]
theorem ex_prn : prn exB = exO ∧ prE exB = 0 := by
  constructor
  · unfold prn; rw [ex_prs]; exact ex_prt
  · unfold prE; rw [ex_prs]
end Go.Proofs.YtmipbiligijcpaaDoor
