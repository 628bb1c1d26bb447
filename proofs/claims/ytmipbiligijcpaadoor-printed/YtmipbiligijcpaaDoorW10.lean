/- The statement of a line. -/
import Derived.Test.YtmipbiligijcpaaDoorW9
namespace Go.Proofs.YtmipbiligijcpaaDoor
set_option linter.unusedVariables false
set_option linter.unusedSimpArgs false
open Go.RowKit Go.Proofs Go.Maps

set_option maxHeartbeats 1000000 in
theorem readStm_out (rb mb g off len cap : Nat) (w0 : ByteArray) (ws : List ByteArray) (vs : List Nam) (st : St) (w : World) (hl : (0 : Int) < (len : Int)) (hR : Rd w rb mb vs) (hG : Glob w) (hW : Ws w g off (w0 :: ws)) (h0 : (w0.toList == [111, 117, 116, 112, 117, 116]) = true)
    (hC : ∀ W, Rd W rb mb vs → Glob W → Ws W g off (w0 :: ws) → Calls Tryd.prog 44 #[.pointer (some ⟨rb, 0, none⟩), .slice (some ⟨g, off, none⟩) len cap] W (Ans W rb mb st)) :
    Calls Tryd.prog 28 #[.pointer (some ⟨rb, 0, none⟩), .slice (some ⟨g, off, none⟩) len cap] w (Ans w rb mb st) := by
  have hc : w.cell? ⟨g, off, none⟩ = some (.string w0) := hW.cell 0 w0 rfl
  have hg := hW.lt
  have hm := hR.lt
  have hr := hR.ltr
  have HC : Hid (∀ W, Rd W rb mb vs → Glob W → Ws W g off (w0 :: ws) → Calls Tryd.prog 44 #[.pointer (some ⟨rb, 0, none⟩), .slice (some ⟨g, off, none⟩) len cap] W (Ans W rb mb st)) := hC
  clear hC
  go_enter Tryd.func28, Tryd.ntmps28
  go_wp2_with fail
  refine Calls.mono (HC.out _ (hR.alloc _) (hG.alloc _) (hW.alloc _)) ?_
  rintro e W2 ⟨n, ok, vs', rfl, HS, hR1, hg1⟩
  have hbx := box_grown hg1 (fun k e => by cases e; exact hR.lt)
  obtain ⟨hx1, hx2⟩ := box_cells hbx
  have hz : w.heap.size < W2.heap.size := (Array.getElem?_eq_some_iff.1 hbx).1
  clear hbx hc
  go_wp2_with fail
  refine bodyPost_ret (v := .tuple #[snV n, .bool ok]) (by simp [results, Tryd.results28, go_sem, snV, snCells, emp, nilS, hx1, hz]) rfl ⟨n, ok, vs', rfl, HS, ?_, ?_⟩
  · repeat (refine Rd.set ?_ (by simp; omega) (by simp; omega) _)
    exact hR1
  · repeat (refine grown_set ?_ (Nat.le_refl _) _)
    exact grown_of_alloc hg1
set_option maxHeartbeats 1000000 in
theorem readStm_if (rb mb g off len cap : Nat) (w0 : ByteArray) (ws : List ByteArray) (vs : List Nam) (st : St) (w : World) (hl : (0 : Int) < (len : Int)) (hR : Rd w rb mb vs) (hG : Glob w) (hW : Ws w g off (w0 :: ws)) (h0 : (w0.toList == [111, 117, 116, 112, 117, 116]) = false) (h1 : (w0.toList == [105, 102]) = true)
    (hC : ∀ W, Rd W rb mb vs → Glob W → Ws W g off (w0 :: ws) → Calls Tryd.prog 45 #[.pointer (some ⟨rb, 0, none⟩), .slice (some ⟨g, off, none⟩) len cap] W (Ans W rb mb st)) :
    Calls Tryd.prog 28 #[.pointer (some ⟨rb, 0, none⟩), .slice (some ⟨g, off, none⟩) len cap] w (Ans w rb mb st) := by
  have hc : w.cell? ⟨g, off, none⟩ = some (.string w0) := hW.cell 0 w0 rfl
  have hg := hW.lt
  have hm := hR.lt
  have hr := hR.ltr
  have HC : Hid (∀ W, Rd W rb mb vs → Glob W → Ws W g off (w0 :: ws) → Calls Tryd.prog 45 #[.pointer (some ⟨rb, 0, none⟩), .slice (some ⟨g, off, none⟩) len cap] W (Ans W rb mb st)) := hC
  clear hC
  go_enter Tryd.func28, Tryd.ntmps28
  go_wp2_with fail
  refine Calls.mono (HC.out _ (hR.alloc _) (hG.alloc _) (hW.alloc _)) ?_
  rintro e W2 ⟨n, ok, vs', rfl, HS, hR1, hg1⟩
  have hbx := box_grown hg1 (fun k e => by cases e; exact hR.lt)
  obtain ⟨hx1, hx2⟩ := box_cells hbx
  have hz : w.heap.size < W2.heap.size := (Array.getElem?_eq_some_iff.1 hbx).1
  clear hbx hc
  go_wp2_with fail
  refine bodyPost_ret (v := .tuple #[snV n, .bool ok]) (by simp [results, Tryd.results28, go_sem, snV, snCells, emp, nilS, hx1, hz]) rfl ⟨n, ok, vs', rfl, HS, ?_, ?_⟩
  · repeat (refine Rd.set ?_ (by simp; omega) (by simp; omega) _)
    exact hR1
  · repeat (refine grown_set ?_ (Nat.le_refl _) _)
    exact grown_of_alloc hg1
set_option maxHeartbeats 1000000 in
theorem readStm_goto (rb mb g off len cap : Nat) (w0 : ByteArray) (ws : List ByteArray) (vs : List Nam) (st : St) (w : World) (hl : (0 : Int) < (len : Int)) (hR : Rd w rb mb vs) (hG : Glob w) (hW : Ws w g off (w0 :: ws)) (h0 : (w0.toList == [111, 117, 116, 112, 117, 116]) = false) (h1 : (w0.toList == [105, 102]) = false) (h2 : (w0.toList == [103, 111, 116, 111]) = true)
    (hC : ∀ W, Rd W rb mb vs → Glob W → Ws W g off (w0 :: ws) → Calls Tryd.prog 46 #[.slice (some ⟨g, off, none⟩) len cap] W (Ans W rb mb st)) :
    Calls Tryd.prog 28 #[.pointer (some ⟨rb, 0, none⟩), .slice (some ⟨g, off, none⟩) len cap] w (Ans w rb mb st) := by
  have hc : w.cell? ⟨g, off, none⟩ = some (.string w0) := hW.cell 0 w0 rfl
  have hg := hW.lt
  have hm := hR.lt
  have hr := hR.ltr
  have HC : Hid (∀ W, Rd W rb mb vs → Glob W → Ws W g off (w0 :: ws) → Calls Tryd.prog 46 #[.slice (some ⟨g, off, none⟩) len cap] W (Ans W rb mb st)) := hC
  clear hC
  go_enter Tryd.func28, Tryd.ntmps28
  go_wp2_with fail
  refine Calls.mono (HC.out _ (hR.alloc _) (hG.alloc _) (hW.alloc _)) ?_
  rintro e W2 ⟨n, ok, vs', rfl, HS, hR1, hg1⟩
  have hbx := box_grown hg1 (fun k e => by cases e; exact hR.lt)
  obtain ⟨hx1, hx2⟩ := box_cells hbx
  have hz : w.heap.size < W2.heap.size := (Array.getElem?_eq_some_iff.1 hbx).1
  clear hbx hc
  go_wp2_with fail
  refine bodyPost_ret (v := .tuple #[snV n, .bool ok]) (by simp [results, Tryd.results28, go_sem, snV, snCells, emp, nilS, hx1, hz]) rfl ⟨n, ok, vs', rfl, HS, ?_, ?_⟩
  · repeat (refine Rd.set ?_ (by simp; omega) (by simp; omega) _)
    exact hR1
  · repeat (refine grown_set ?_ (Nat.le_refl _) _)
    exact grown_of_alloc hg1
set_option maxHeartbeats 1000000 in
theorem readStm_asg (rb mb g off len cap : Nat) (w0 : ByteArray) (ws : List ByteArray) (vs : List Nam) (st : St) (w : World) (hl : (0 : Int) < (len : Int)) (hR : Rd w rb mb vs) (hG : Glob w) (hW : Ws w g off (w0 :: ws)) (h0 : (w0.toList == [111, 117, 116, 112, 117, 116]) = false) (h1 : (w0.toList == [105, 102]) = false) (h2 : (w0.toList == [103, 111, 116, 111]) = false) (h3 : (w0.toList == [114, 101, 116, 117, 114, 110]) = false)
    (hC : ∀ W, Rd W rb mb vs → Glob W → Ws W g off (w0 :: ws) → Calls Tryd.prog 47 #[.pointer (some ⟨rb, 0, none⟩), .slice (some ⟨g, off, none⟩) len cap] W (Ans W rb mb st)) :
    Calls Tryd.prog 28 #[.pointer (some ⟨rb, 0, none⟩), .slice (some ⟨g, off, none⟩) len cap] w (Ans w rb mb st) := by
  have hc : w.cell? ⟨g, off, none⟩ = some (.string w0) := hW.cell 0 w0 rfl
  have hg := hW.lt
  have hm := hR.lt
  have hr := hR.ltr
  have HC : Hid (∀ W, Rd W rb mb vs → Glob W → Ws W g off (w0 :: ws) → Calls Tryd.prog 47 #[.pointer (some ⟨rb, 0, none⟩), .slice (some ⟨g, off, none⟩) len cap] W (Ans W rb mb st)) := hC
  clear hC
  go_enter Tryd.func28, Tryd.ntmps28
  go_wp2_with fail
  refine Calls.mono (HC.out _ (hR.alloc _) (hG.alloc _) (hW.alloc _)) ?_
  rintro e W2 ⟨n, ok, vs', rfl, HS, hR1, hg1⟩
  have hbx := box_grown hg1 (fun k e => by cases e; exact hR.lt)
  obtain ⟨hx1, hx2⟩ := box_cells hbx
  have hz : w.heap.size < W2.heap.size := (Array.getElem?_eq_some_iff.1 hbx).1
  clear hbx hc
  go_wp2_with fail
  refine bodyPost_ret (v := .tuple #[snV n, .bool ok]) (by simp [results, Tryd.results28, go_sem, snV, snCells, emp, nilS, hx1, hz]) rfl ⟨n, ok, vs', rfl, HS, ?_, ?_⟩
  · repeat (refine Rd.set ?_ (by simp; omega) (by simp; omega) _)
    exact hR1
  · repeat (refine grown_set ?_ (Nat.le_refl _) _)
    exact grown_of_alloc hg1
set_option maxHeartbeats 1000000 in
theorem readStm_ret (rb mb g off len cap : Nat) (w0 : ByteArray) (ws : List ByteArray) (vs : List Nam) (w : World) (hl : (0 : Int) < (len : Int)) (hR : Rd w rb mb vs) (hW : Ws w g off (w0 :: ws)) (h0 : (w0.toList == [111, 117, 116, 112, 117, 116]) = false) (h1 : (w0.toList == [105, 102]) = false) (h2 : (w0.toList == [103, 111, 116, 111]) = false) (h3 : (w0.toList == [114, 101, 116, 117, 114, 110]) = true) :
    Calls Tryd.prog 28 #[.pointer (some ⟨rb, 0, none⟩), .slice (some ⟨g, off, none⟩) len cap] w (Ans w rb mb (⟨6, 0, 0, 0, o0, o0, emp⟩, (len : Int) == 1, vs)) := by
  have hc : w.cell? ⟨g, off, none⟩ = some (.string w0) := hW.cell 0 w0 rfl
  have hg := hW.lt
  go_enter Tryd.func28, Tryd.ntmps28
  go_wp2_with fail
  exact bodyPost_ret (v := .tuple #[snV ⟨6, 0, 0, 0, o0, o0, emp⟩, .bool ((len : Int) == 1)]) (by simp [results, Tryd.results28, go_sem, snV, snCells, o0, emp, nilS]) rfl ⟨_, _, vs, rfl, rfl, hR.alloc _, World.grownBy_alloc _ _ _⟩
theorem readStatement_any (rb mb g off cap : Nat) (ws : List ByteArray) (vs : List Nam) (w : World) (h0 : ws ≠ []) (hz : Wsz ws) (hn : vs.length + 3 < maxLen) (hR : Rd w rb mb vs) (hG : Glob w) (hW : Ws w g off ws) :
    Calls Tryd.prog 28 #[.pointer (some ⟨rb, 0, none⟩), .slice (some ⟨g, off, none⟩) ws.length cap] w (Ans w rb mb (stm vs ws)) := by
  match ws, h0, hz, hW with
  | w0 :: r, _, hz, hW =>
    have hl : (0 : Int) < ((w0 :: r).length : Int) := by simp
    cases e0 : (w0.toList == [111, 117, 116, 112, 117, 116]) with
    | true =>
      rw [show stm vs (w0 :: r) = outS vs (w0 :: r) by simp only [stm, e0, if_true]]
      exact readStm_out rb mb g off _ cap w0 r vs _ w hl hR hG hW e0 (fun W a b c => readOutput_all rb mb g off cap (w0 :: r) vs W hz hn a b c)
    | false =>
      cases e1 : (w0.toList == [105, 102]) with
      | true =>
        rw [show stm vs (w0 :: r) = ifS vs (w0 :: r) by simp only [stm, e0, e1, Bool.false_eq_true, if_false, if_true]]
        exact readStm_if rb mb g off _ cap w0 r vs _ w hl hR hG hW e0 e1 (fun W a b c => readIf_all rb mb g off cap (w0 :: r) vs W hz hn a b c)
      | false =>
        cases e2 : (w0.toList == [103, 111, 116, 111]) with
        | true =>
          rw [show stm vs (w0 :: r) = gotoS vs (w0 :: r) by simp only [stm, e0, e1, e2, Bool.false_eq_true, if_false, if_true]]
          exact readStm_goto rb mb g off _ cap w0 r vs _ w hl hR hG hW e0 e1 e2 (fun W a b c => readGoto_all rb mb g off cap (w0 :: r) vs W hz a c)
        | false =>
          cases e3 : (w0.toList == [114, 101, 116, 117, 114, 110]) with
          | true =>
            rw [show stm vs (w0 :: r) = (⟨6, 0, 0, 0, o0, o0, emp⟩, ((r.length + 1 : Nat) : Int) == 1, vs) by simp only [stm, e0, e1, e2, e3, Bool.false_eq_true, if_false, if_true]]
            exact readStm_ret rb mb g off _ cap w0 r vs w hl hR hW e0 e1 e2 e3
          | false =>
            rw [show stm vs (w0 :: r) = asgS vs (w0 :: r) by simp only [stm, e0, e1, e2, e3, Bool.false_eq_true, if_false]]
            exact readStm_asg rb mb g off _ cap w0 r vs _ w hl hR hG hW e0 e1 e2 e3 (fun W a b c => readAsg_all rb mb g off cap (w0 :: r) vs W hz hn a b c)
end Go.Proofs.YtmipbiligijcpaaDoor
