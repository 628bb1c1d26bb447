/- the assignment line, at four words or more. -/
import Derived.Test.YtmipbiligijcpaaDoorW5
namespace Go.Proofs.YtmipbiligijcpaaDoor
set_option linter.unusedVariables false
set_option linter.unusedSimpArgs false
open Go.RowKit Go.Proofs Go.Maps

set_option maxHeartbeats 400000 in
theorem readAsg_bad (rb mb g off len cap : Nat) (w0 w1 w2 : ByteArray) (ws : List ByteArray) (vs : List Nam) (w : World) (hW : Ws w g off (w0 :: w1 :: w2 :: ws)) (hs : w0.size ≤ maxLen) (hs2 : w2.size ≤ 3000) (hn : Wm.nm w0 = true) (he : (w1.toList == [61]) = true) (hle : decide ((len : Int) < 3) = false) (h3 : ((len : Int) == 3) = false) (h5 : ((len : Int) == 5) = false) (hl : vs.length + 1 < maxLen) (hR : Rd w rb mb vs) (hG : Glob w) :
    Calls Tryd.prog 47 #[.pointer (some ⟨rb, 0, none⟩), .slice (some ⟨g, off, none⟩) len cap] w fun e w' =>
      e = .returned (.tuple #[snV sn0, .bool false]) ∧ Rd w' rb mb (opdA (vadd vs w0.data.toList) w2) ∧ w.grownBy w' (some mb) := by
  have hc : w.cell? ⟨g, off, none⟩ = some (.string w0) := hW.cell 0 w0 rfl
  have hc1 := hW.cell 1 w1 rfl
  have hg := hW.lt
  have hm := hR.lt
  have hr := hR.ltr
  have hq0 : (0 : Int) < (len : Int) := by have := of_decide_eq_false hle; omega
  have hq1 : (1 : Int) < (len : Int) := by have := of_decide_eq_false hle; omega
  have hq2 : (2 : Int) < (len : Int) := by have := of_decide_eq_false hle; omega
  have hl1 : vs.length < maxLen := by omega
  have hl2 : (vadd vs w0.data.toList).length < maxLen := by have := vadd_len vs w0.data.toList; omega
  go_enter Tryd.func47, Tryd.ntmps47
  go_wp2_with (first
    | (go_at_call 27; refine (isName_any _ _ hs).mono ?_; rintro e w' ⟨rfl, rfl⟩)
    | (go_at_call 57; refine (variable_any w0 rb mb vs _ hs hl1 (hR.alloc _)).mono ?_; rintro e W2 ⟨rfl, hR1, hg1⟩; have hbx := box_grown hg1 (fun k e => by cases e; exact hR.lt); obtain ⟨hx1, hx2⟩ := box_cells hbx; have hz : w.heap.size < W2.heap.size := (Array.getElem?_eq_some_iff.1 hbx).1; have hW1 := (hW.alloc _).grown (hR.alloc _).isMap hg1; have hG1 := (hG.alloc _).grown (hR.alloc _) hg1; have hd2 := hW1.cell 2 w2 rfl; have hgz := hW1.lt)
    | (go_at_call 55; refine (operand_D w2 rb mb (vadd vs w0.data.toList) _ hs2 hl2 hR1 hG1).mono ?_; rintro e W4 ⟨iv, va, co, rfl, HO, hR2, hg2⟩; have hby := kept_cells hbx hR1.isMap hg2; clear hx1 hx2; obtain ⟨hx1, hx2⟩ := box_cells hby; have hz' : w.heap.size < W4.heap.size := (Array.getElem?_eq_some_iff.1 hby).1))
  refine bodyPost_ret (v := .tuple #[snV sn0, .bool false]) (by simp [results, Tryd.results47, go_sem, snV, snCells, sn0, o0, emp, nilS, hx1, hz']) rfl ⟨rfl, ?_, ?_⟩
  · refine Rd.alloc ?_ _
    repeat (refine Rd.set ?_ (by simp; omega) (by simp; omega) _)
    exact hR2
  · refine World.grownBy.trans ?_ (World.grownBy_alloc _ _ _)
    repeat (refine grown_set ?_ (Nat.le_refl _) _)
    exact (grown_of_alloc hg1).trans hg2

set_option maxHeartbeats 4000000 in
theorem readAsg_comp (rb mb g off cap : Nat) (w0 w1 w2 w3 w4 : ByteArray) (vs : List Nam) (w : World) (hW : Ws w g off [w0, w1, w2, w3, w4]) (hs : w0.size ≤ maxLen) (hs2 : w2.size ≤ 3000) (hs4 : w4.size ≤ 3000) (hn : Wm.nm w0 = true) (he : (w1.toList == [61]) = true) (hl : vs.length + 2 < maxLen) (hR : Rd w rb mb vs) (hG : Glob w) :
    Calls Tryd.prog 47 #[.pointer (some ⟨rb, 0, none⟩), .slice (some ⟨g, off, none⟩) 5 cap] w fun e w' =>
      e = .returned (.tuple #[snV ⟨1, vnum vs w0.data.toList, Wm.opN w3.data.toList, 0, opd (vadd vs w0.data.toList) w2, opd (opdA (vadd vs w0.data.toList) w2) w4, emp⟩, .bool (opdB w2 && Wm.opB w3.data.toList && opdB w4)]) ∧ Rd w' rb mb (opdA (opdA (vadd vs w0.data.toList) w2) w4) ∧ w.grownBy w' (some mb) := by
  have hc : w.cell? ⟨g, off, none⟩ = some (.string w0) := hW.cell 0 w0 rfl
  have hc1 := hW.cell 1 w1 rfl
  have hg := hW.lt
  have hm := hR.lt
  have hr := hR.ltr
  have hl1 : vs.length < maxLen := by omega
  have hl2 : (vadd vs w0.data.toList).length < maxLen := by have := vadd_len vs w0.data.toList; omega
  have hl3 : (opdA (vadd vs w0.data.toList) w2).length < maxLen := by have := vadd_len vs w0.data.toList; have := opdA_len (vadd vs w0.data.toList) w2; omega
  go_enter Tryd.func47, Tryd.ntmps47
  go_wp2_with (first
    | (go_at_call 27; refine (isName_any _ _ hs).mono ?_; rintro e w' ⟨rfl, rfl⟩)
    | (go_at_call 58; refine (parseOp_any _ _).mono ?_; rintro e w' ⟨rfl, rfl⟩)
    | (go_at_call 57; refine (variable_any w0 rb mb vs _ hs hl1 (hR.alloc _)).mono ?_; rintro e W2 ⟨rfl, hR1, hg1⟩; have hbx := box_grown hg1 (fun k e => by cases e; exact hR.lt); obtain ⟨hx1, hx2⟩ := box_cells hbx; have hz : w.heap.size < W2.heap.size := (Array.getElem?_eq_some_iff.1 hbx).1; have hW1 := (hW.alloc _).grown (hR.alloc _).isMap hg1; have hG1 := (hG.alloc _).grown (hR.alloc _) hg1; have hd2 := hW1.cell 2 w2 rfl; have hgz := hW1.lt)
    | (go_at_call_of 55 (Value.string w2); refine (operand_D w2 rb mb (vadd vs w0.data.toList) _ hs2 hl2 hR1 hG1).mono ?_; rintro e W4 ⟨iv, va, co, rfl, HO, hR2, hg2⟩; have hby := kept_cells hbx hR1.isMap hg2; clear hx1 hx2; have hz' : w.heap.size < W4.heap.size := (Array.getElem?_eq_some_iff.1 hby).1; have hW2 := hW1.grown hR1.isMap hg2; have hG2 := hG1.grown hR1 hg2; have hd3 := hW2.cell 3 w3 rfl; have hd4 := hW2.cell 4 w4 rfl; have hgz2 := hW2.lt))
  refine (operand_D w4 rb mb (opdA (vadd vs w0.data.toList) w2) _ hs4 hl3 (hR2.alloc _) (hG2.alloc _)).mono ?_
  rintro e W6 ⟨iv', va', co', rfl, HO', hR3, hg3⟩
  have hbz := kept_cells (kept_alloc hby _) (hR2.alloc _).isMap hg3
  have hbw := box_grown hg3 (fun k e => by cases e; exact hR2.lt)
  have hq : W4.heap.size < W6.heap.size := (Array.getElem?_eq_some_iff.1 hbw).1
  have hq' : w.heap.size < W6.heap.size := (Array.getElem?_eq_some_iff.1 hbz).1
  have hne1 : w.heap.size ≠ W4.heap.size := by omega
  have hne2 : W4.heap.size ≠ w.heap.size := by omega
  obtain ⟨hx1, hx2⟩ := box_cells hbz
  obtain ⟨hy1, hy2⟩ := box_cells hbw
  clear hc hc1 hd2 hd3 hd4 hbx hby hW hW1 hW2 hG1 hG2 hG
  cases hB1 : opdB w2 <;> cases hB2 : Wm.opB w3.data.toList <;> cases hB3 : opdB w4
  all_goals
    go_wp2_with fail
    refine bodyPost_ret (v := .tuple #[snV ⟨1, vnum vs w0.data.toList, Wm.opN w3.data.toList, 0, ⟨iv, va, co⟩, ⟨iv', va', co'⟩, emp⟩, .bool (opdB w2 && Wm.opB w3.data.toList && opdB w4)]) (by simp [results, Tryd.results47, go_sem, snV, snCells, o0, emp, nilS, hx1, hq, hq', hB1, hB2, hB3]) rfl ⟨by rw [HO.out, HO'.out], ?_, ?_⟩
    · refine Rd.alloc ?_ _
      repeat (refine Rd.set ?_ (by simp; omega) (by simp; omega) _)
      exact hR3
    · refine World.grownBy.trans ?_ (World.grownBy_alloc _ _ _)
      repeat (refine grown_set ?_ (Nat.le_refl _) _)
      exact (grown_of_alloc hg1).trans (hg2.trans (grown_of_alloc hg3))
end Go.Proofs.YtmipbiligijcpaaDoor
