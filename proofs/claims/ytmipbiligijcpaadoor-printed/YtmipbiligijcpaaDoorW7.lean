/- the assignment line. -/
import Derived.Test.YtmipbiligijcpaaDoorW5
namespace Go.Proofs.YtmipbiligijcpaaDoor
set_option linter.unusedVariables false
set_option linter.unusedSimpArgs false
open Go.RowKit Go.Proofs Go.Maps

set_option maxHeartbeats 400000 in
theorem readAsg_short (rb : Nat) (a : Option Addr) (len cap : Nat) (w : World) (h : decide ((len : Int) < 3) = true) :
    Calls Tryd.prog 47 #[.pointer (some ⟨rb, 0, none⟩), .slice a len cap] w fun e w' =>
      e = .returned (.tuple #[snV sn0, .bool false]) ∧ Below w.heap.size w w' := by
  go_enter Tryd.func47, Tryd.ntmps47
  go_wp2
  exact bodyPost_ret (v := .tuple #[snV sn0, .bool false]) (by simp [results, Tryd.results47, go_sem, snV, snCells, sn0, o0, emp, nilS]) rfl ⟨rfl, (Below.refl _ _).alloc (Nat.le_refl _) _⟩
set_option maxHeartbeats 400000 in
theorem readAsg_name (rb g off len cap : Nat) (w0 : ByteArray) (ws : List ByteArray) (w : World) (hW : Ws w g off (w0 :: ws)) (hs : w0.size ≤ maxLen) (h : decide ((len : Int) < 3) = false) (hn : Wm.nm w0 = false) :
    Calls Tryd.prog 47 #[.pointer (some ⟨rb, 0, none⟩), .slice (some ⟨g, off, none⟩) len cap] w fun e w' =>
      e = .returned (.tuple #[snV sn0, .bool false]) ∧ Below w.heap.size w w' := by
  have hc : w.cell? ⟨g, off, none⟩ = some (.string w0) := hW.cell 0 w0 rfl
  have hg := hW.lt
  have hl : (0 : Int) < (len : Int) := by have := of_decide_eq_false h; omega
  go_enter Tryd.func47, Tryd.ntmps47
  go_wp2_with (first | (go_at_call 27; refine (isName_any _ _ hs).mono ?_; rintro e w' ⟨rfl, rfl⟩))
  exact bodyPost_ret (v := .tuple #[snV sn0, .bool false]) (by simp [results, Tryd.results47, go_sem, snV, snCells, sn0, o0, emp, nilS]) rfl ⟨rfl, (Below.refl _ _).alloc (Nat.le_refl _) _⟩
set_option maxHeartbeats 400000 in
theorem readAsg_eq (rb g off len cap : Nat) (w0 w1 : ByteArray) (ws : List ByteArray) (w : World) (hW : Ws w g off (w0 :: w1 :: ws)) (hs : w0.size ≤ maxLen) (h : decide ((len : Int) < 3) = false) (hn : Wm.nm w0 = true) (he : (w1.toList == [61]) = false) :
    Calls Tryd.prog 47 #[.pointer (some ⟨rb, 0, none⟩), .slice (some ⟨g, off, none⟩) len cap] w fun e w' =>
      e = .returned (.tuple #[snV sn0, .bool false]) ∧ Below w.heap.size w w' := by
  have hc : w.cell? ⟨g, off, none⟩ = some (.string w0) := hW.cell 0 w0 rfl
  have hc1 := hW.cell 1 w1 rfl
  have hg := hW.lt
  have hl : (0 : Int) < (len : Int) := by have := of_decide_eq_false h; omega
  have hl1 : (1 : Int) < (len : Int) := by have := of_decide_eq_false h; omega
  go_enter Tryd.func47, Tryd.ntmps47
  go_wp2_with (first | (go_at_call 27; refine (isName_any _ _ hs).mono ?_; rintro e w' ⟨rfl, rfl⟩))
  exact bodyPost_ret (v := .tuple #[snV sn0, .bool false]) (by simp [results, Tryd.results47, go_sem, snV, snCells, sn0, o0, emp, nilS]) rfl ⟨rfl, (Below.refl _ _).alloc (Nat.le_refl _) _⟩
set_option maxHeartbeats 400000 in
theorem readAsg_input (rb mb g off cap : Nat) (w0 w1 w2 : ByteArray) (vs : List Nam) (w : World) (hW : Ws w g off [w0, w1, w2]) (hs : w0.size ≤ maxLen) (hn : Wm.nm w0 = true) (he : (w1.toList == [61]) = true) (hi : (w2.toList == [105, 110, 112, 117, 116]) = true) (hl : vs.length < maxLen) (hR : Rd w rb mb vs) :
    Calls Tryd.prog 47 #[.pointer (some ⟨rb, 0, none⟩), .slice (some ⟨g, off, none⟩) 3 cap] w fun e w' =>
      e = .returned (.tuple #[snV ⟨2, vnum vs w0.data.toList, 0, 0, o0, o0, emp⟩, .bool true]) ∧ Rd w' rb mb (vadd vs w0.data.toList) ∧ w.grownBy w' (some mb) := by
  have hc : w.cell? ⟨g, off, none⟩ = some (.string w0) := hW.cell 0 w0 rfl
  have hc1 := hW.cell 1 w1 rfl
  have hg := hW.lt
  have hm := hR.lt
  have hr := hR.ltr
  go_enter Tryd.func47, Tryd.ntmps47
  go_wp2_with (first
    | (go_at_call 27; refine (isName_any _ _ hs).mono ?_; rintro e w' ⟨rfl, rfl⟩)
    | (go_at_call 57; refine (variable_any w0 rb mb vs _ hs hl (hR.alloc _)).mono ?_; rintro e W2 ⟨rfl, hR1, hg1⟩; have hbx := box_grown hg1 (fun k e => by cases e; exact hR.lt); obtain ⟨hx1, hx2⟩ := box_cells hbx; have hz : w.heap.size < W2.heap.size := (Array.getElem?_eq_some_iff.1 hbx).1; have hW1 := (hW.alloc _).grown (hR.alloc _).isMap hg1; have hd2 := hW1.cell 2 w2 rfl; have hgz := hW1.lt))
  refine bodyPost_ret (v := .tuple #[snV ⟨2, vnum vs w0.data.toList, 0, 0, o0, o0, emp⟩, .bool true]) (by simp [results, Tryd.results47, go_sem, snV, snCells, o0, emp, nilS, hx1, hz]) rfl ⟨rfl, ?_, ?_⟩
  · repeat (refine Rd.set ?_ (by simp; omega) (by simp; omega) _)
    exact hR1
  · repeat (refine grown_set ?_ (Nat.le_refl _) _)
    exact grown_of_alloc hg1
set_option maxHeartbeats 400000 in
theorem readAsg_copy (rb mb g off cap : Nat) (w0 w1 w2 : ByteArray) (vs : List Nam) (w : World) (hW : Ws w g off [w0, w1, w2]) (hs : w0.size ≤ maxLen) (hs2 : w2.size ≤ 3000) (hn : Wm.nm w0 = true) (he : (w1.toList == [61]) = true) (hi : (w2.toList == [105, 110, 112, 117, 116]) = false) (hl : vs.length + 1 < maxLen) (hR : Rd w rb mb vs) (hG : Glob w) :
    Calls Tryd.prog 47 #[.pointer (some ⟨rb, 0, none⟩), .slice (some ⟨g, off, none⟩) 3 cap] w fun e w' =>
      e = .returned (.tuple #[snV ⟨0, vnum vs w0.data.toList, 0, 0, opd (vadd vs w0.data.toList) w2, o0, emp⟩, .bool (opdB w2)]) ∧ Rd w' rb mb (opdA (vadd vs w0.data.toList) w2) ∧ w.grownBy w' (some mb) := by
  have hc : w.cell? ⟨g, off, none⟩ = some (.string w0) := hW.cell 0 w0 rfl
  have hc1 := hW.cell 1 w1 rfl
  have hg := hW.lt
  have hm := hR.lt
  have hr := hR.ltr
  have hl1 : vs.length < maxLen := by omega
  have hl2 : (vadd vs w0.data.toList).length < maxLen := by have := vadd_len vs w0.data.toList; omega
  go_enter Tryd.func47, Tryd.ntmps47
  go_wp2_with (first
    | (go_at_call 27; refine (isName_any _ _ hs).mono ?_; rintro e w' ⟨rfl, rfl⟩)
    | (go_at_call 57; refine (variable_any w0 rb mb vs _ hs hl1 (hR.alloc _)).mono ?_; rintro e W2 ⟨rfl, hR1, hg1⟩; have hbx := box_grown hg1 (fun k e => by cases e; exact hR.lt); obtain ⟨hx1, hx2⟩ := box_cells hbx; have hz : w.heap.size < W2.heap.size := (Array.getElem?_eq_some_iff.1 hbx).1; have hW1 := (hW.alloc _).grown (hR.alloc _).isMap hg1; have hG1 := (hG.alloc _).grown (hR.alloc _) hg1; have hd2 := hW1.cell 2 w2 rfl; have hgz := hW1.lt)
    | (go_at_call 55; refine (operand_D w2 rb mb (vadd vs w0.data.toList) _ hs2 hl2 hR1 hG1).mono ?_; rintro e W4 ⟨iv, va, co, rfl, HO, hR2, hg2⟩; have hby := kept_cells hbx hR1.isMap hg2; clear hx1 hx2; obtain ⟨hx1, hx2⟩ := box_cells hby; have hz' : w.heap.size < W4.heap.size := (Array.getElem?_eq_some_iff.1 hby).1))
  refine bodyPost_ret (v := .tuple #[snV ⟨0, vnum vs w0.data.toList, 0, 0, ⟨iv, va, co⟩, o0, emp⟩, .bool (opdB w2)]) (by simp [results, Tryd.results47, go_sem, snV, snCells, o0, emp, nilS, hx1, hz']) rfl ⟨by rw [HO.out], ?_, ?_⟩
  · refine Rd.alloc ?_ _
    repeat (refine Rd.set ?_ (by simp; omega) (by simp; omega) _)
    exact hR2
  · refine World.grownBy.trans ?_ (World.grownBy_alloc _ _ _)
    repeat (refine grown_set ?_ (Nat.le_refl _) _)
    exact (grown_of_alloc hg1).trans hg2
end Go.Proofs.YtmipbiligijcpaaDoor
