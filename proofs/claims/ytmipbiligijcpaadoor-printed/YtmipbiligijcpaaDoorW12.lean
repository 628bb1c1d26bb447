/- A line's words read as a node, its label with it. -/
import Derived.Test.YtmipbiligijcpaaDoorW10
namespace Go.Proofs.YtmipbiligijcpaaDoor
set_option linter.unusedVariables false
set_option linter.unusedSimpArgs false
open Go.RowKit Go.Proofs Go.Maps

theorem cutSuffix_D (s p : ByteArray) (w : World) (hs : s.size ≤ 3000) :
    Calls Tryd.prog 26 #[.string s, .string p] w fun e w' => ∃ (D : ByteArray) (b : Bool), e = .returned (.tuple #[.string D, .bool b]) ∧ Hid (D.data.toList = Lib.trimSuffix s.data.toList p.data.toList ∧ b = Lib.hasSuffix s.data.toList p.data.toList) ∧ w' = w :=
  (Tryd.strings_CutSuffix s p w (by omega)).mono fun _ _ h => ⟨_, _, h.1, ⟨rfl, rfl⟩, h.2⟩
/-- has the word a label's sign at its end; the label -/
def colB (s : ByteArray) : Bool := Lib.hasSuffix s.data.toList [58]
def labD (s : ByteArray) : ByteArray := ⟨(Lib.trimSuffix s.data.toList [58]).toArray⟩
theorem labD_size (s : ByteArray) : (labD s).size ≤ s.size := by
  show (Lib.trimSuffix s.data.toList [58]).toArray.size ≤ s.data.size
  unfold Lib.trimSuffix
  split <;> simp

theorem grown_drew' {a w : World} {row : Option Nat} (h : a.drew.grownBy w row) : a.grownBy w row := ⟨h.os, h.tape, h.output, h.size, h.block⟩
abbrev Ln := ByteArray × Nat × St
/-- a line: its label, how many words the label takes, the statement -/
def lin (vs : List Nam) (ws : List ByteArray) : Ln :=
  match ws with
  | [] => (emp, 0, noSt vs)
  | w0 :: r =>
    if colB w0 then
      (if Wm.nm (labD w0) then (match r with | [] => (emp, 0, noSt vs) | _ => (labD w0, 1, stm vs r)) else (emp, 0, noSt vs))
    else (emp, 0, stm vs (w0 :: r))
/-- what readLine answers -/
def AnsL (w : World) (rb mb g off len cap : Nat) (ln : Ln) (e : Ending) (w' : World) : Prop :=
  ∃ (lab : ByteArray) (k : Nat) (ad : Option Addr) (l c : Nat) (n : SN) (ok : Bool) (vs' : List Nam), e = .returned (.tuple #[.agg #[.string lab, .slice ad l c, .int .i64 n.kind, .int .i64 n.var, .int .i64 n.op, .int .i64 n.test, .bool n.a.isVar, .int .i64 n.a.var, .int .i64 n.a.const, .bool n.b.isVar, .int .i64 n.b.var, .int .i64 n.b.const, .slice none 0 0, .string n.goal], .bool ok]) ∧ Hid ((lab, k, n, ok, vs') = ln) ∧ Hid (ok = true → ad = some ⟨g, off + k, none⟩ ∧ l = len - k ∧ c = cap - k) ∧ Rd w' rb mb vs' ∧ w.grownBy w' (some mb)

set_option maxHeartbeats 1000000 in
theorem readLine_bad (rb mb g off len cap : Nat) (w0 : ByteArray) (ws : List ByteArray) (vs : List Nam) (w : World) (hl : (0 : Int) < (len : Int)) (hs : w0.size ≤ 3000) (hR : Rd w rb mb vs) (hW : Ws w g off (w0 :: ws)) (hc : colB w0 = true) (hn : Wm.nm (labD w0) = false) :
    Calls Tryd.prog 15 #[.pointer (some ⟨rb, 0, none⟩), .slice (some ⟨g, off, none⟩) len cap] w fun e w' =>
      e = .returned (.tuple #[snV sn0, .bool false]) ∧ Below w.heap.size w w' := by
  have hcl : w.cell? ⟨g, off, none⟩ = some (.string w0) := hW.cell 0 w0 rfl
  have hg := hW.lt
  have hm : (labD w0).size ≤ maxLen := by have := labD_size w0; unfold maxLen; omega
  go_enter Tryd.func15, Tryd.ntmps15
  go_wp2_with fail
  refine (cutSuffix_D _ _ _ hs).mono ?_
  rintro e w' ⟨D, b, rfl, HD, rfl⟩
  obtain rfl : D = labD w0 := by
    have := HD.out.1
    cases D; simp only [labD] at this ⊢; congr 1; exact Array.toList_inj.1 this
  obtain rfl : b = true := HD.out.2.trans hc
  go_wp2_with (first | (go_at_call 27; refine (isName_any _ _ hm).mono ?_; rintro e w' ⟨rfl, rfl⟩))
  exact bodyPost_ret (v := .tuple #[snV sn0, .bool false]) (by simp [results, Tryd.results15, go_sem, snV, snCells, sn0, o0, emp, nilS]) rfl ⟨rfl, (Below.refl _ _).alloc (Nat.le_refl _) _⟩
set_option maxHeartbeats 1000000 in
theorem readLine_lone (rb mb g off cap : Nat) (w0 : ByteArray) (ws : List ByteArray) (vs : List Nam) (w : World) (hcap : 1 ≤ cap) (hs : w0.size ≤ 3000) (hR : Rd w rb mb vs) (hW : Ws w g off (w0 :: ws)) (hc : colB w0 = true) (hn : Wm.nm (labD w0) = true) :
    Calls Tryd.prog 15 #[.pointer (some ⟨rb, 0, none⟩), .slice (some ⟨g, off, none⟩) 1 cap] w fun e w' =>
      e = .returned (.tuple #[snV sn0, .bool false]) ∧ Below w.heap.size w w' := by
  have hcl : w.cell? ⟨g, off, none⟩ = some (.string w0) := hW.cell 0 w0 rfl
  have hg := hW.lt
  have hm : (labD w0).size ≤ maxLen := by have := labD_size w0; unfold maxLen; omega
  go_enter Tryd.func15, Tryd.ntmps15
  go_wp2_with fail
  refine (cutSuffix_D _ _ _ hs).mono ?_
  rintro e w' ⟨D, b, rfl, HD, rfl⟩
  obtain rfl : D = labD w0 := by
    have := HD.out.1
    cases D; simp only [labD] at this ⊢; congr 1; exact Array.toList_inj.1 this
  obtain rfl : b = true := HD.out.2.trans hc
  clear HD
  go_wp2_with (first | (go_at_call 27; refine (isName_any _ _ hm).mono ?_; rintro e w' ⟨rfl, rfl⟩))
  go_region
  all_goals go_wp2
  all_goals exact bodyPost_ret (v := .tuple #[snV sn0, .bool false]) (by simp [results, Tryd.results15, go_sem, snV, snCells, sn0, o0, emp, nilS]) rfl ⟨rfl, ((Below.refl _ _).alloc (Nat.le_refl _) _).drew⟩
set_option maxHeartbeats 2000000 in
theorem readLine_lab (rb mb g off len cap : Nat) (w0 : ByteArray) (ws : List ByteArray) (vs : List Nam) (st : St) (w : World) (hlen : 2 ≤ len) (hcap : len ≤ cap) (hmax : cap ≤ maxLen) (hs : w0.size ≤ 3000) (hR : Rd w rb mb vs) (hG : Glob w) (hW : Ws w g off (w0 :: ws)) (hc : colB w0 = true) (hn : Wm.nm (labD w0) = true)
    (hC : ∀ W, Rd W rb mb vs → Glob W → Ws W g (off + 1) ws → Calls Tryd.prog 28 #[.pointer (some ⟨rb, 0, none⟩), .slice (some ⟨g, off + 1, none⟩) (len - 1) (cap - 1)] W (Ans W rb mb st)) :
    Calls Tryd.prog 15 #[.pointer (some ⟨rb, 0, none⟩), .slice (some ⟨g, off, none⟩) len cap] w (AnsL w rb mb g off len cap (labD w0, 1, st)) := by
  have hcl : w.cell? ⟨g, off, none⟩ = some (.string w0) := hW.cell 0 w0 rfl
  have hg := hW.lt
  have hmm := hR.lt
  have hr := hR.ltr
  have hm : (labD w0).size ≤ maxLen := by have := labD_size w0; unfold maxLen; omega
  have HC : Hid (∀ W, Rd W rb mb vs → Glob W → Ws W g (off + 1) ws → Calls Tryd.prog 28 #[.pointer (some ⟨rb, 0, none⟩), .slice (some ⟨g, off + 1, none⟩) (len - 1) (cap - 1)] W (Ans W rb mb st)) := hC
  clear hC
  unfold maxLen at hmax
  have i1 : (1 : Int) ≤ (len : Int) := by omega
  have i2 : (len : Int) ≤ (cap : Int) := by omega
  have i3 : (1 : Int) ≤ (cap : Int) := by omega
  have i0 : (0 : Int) < (len : Int) := by omega
  have i4 : ¬ cap = 1 := by omega
  have i5 : ¬ len = 1 := by omega
  go_enter Tryd.func15, Tryd.ntmps15
  go_wp2_with fail
  refine (cutSuffix_D _ _ _ hs).mono ?_
  rintro e w' ⟨D, b, rfl, HD, rfl⟩
  obtain rfl : D = labD w0 := by
    have := HD.out.1
    cases D; simp only [labD] at this ⊢; congr 1; exact Array.toList_inj.1 this
  obtain rfl : b = true := HD.out.2.trans hc
  clear HD
  go_wp2_with (first | (go_at_call 27; refine (isName_any _ _ hm).mono ?_; rintro e w' ⟨rfl, rfl⟩))
  go_region
  go_wp2_with fail
  refine Calls.mono (HC.out _ (hR.alloc _).drew (hG.alloc _) (hW.alloc _).tail) ?_
  rintro e W2 ⟨n, ok, vs', rfl, HS, hR1, hg1⟩
  have hg1' := grown_drew' hg1
  have hbx := box_grown hg1' (fun k e => by cases e; exact hR.lt)
  obtain ⟨hx1, hx2⟩ := box_cells hbx
  have hz : w.heap.size < W2.heap.size := (Array.getElem?_eq_some_iff.1 hbx).1
  clear hbx hcl hW hG HC
  go_wp2_with fail
  refine bodyPost_ret (v := .tuple #[.agg (snCells (labD w0) (.slice (some ⟨g, off + 1, none⟩) (len - 1) (cap - 1)) n nilS), .bool ok]) (by simp [results, Tryd.results15, go_sem, snCells, nilS, hx1, hz]) rfl ⟨(labD w0), 1, _, _, _, n, ok, vs', rfl, by show _ = _; rw [← HS.out], fun _ => ⟨rfl, rfl, rfl⟩, ?_, ?_⟩
  · refine Rd.alloc ?_ _
    repeat (refine Rd.set ?_ (by simp; omega) (by simp; omega) _)
    exact hR1
  · refine World.grownBy.trans ?_ (World.grownBy_alloc _ _ _)
    repeat (refine grown_set ?_ (Nat.le_refl _) _)
    exact grown_of_alloc hg1'

set_option maxHeartbeats 2000000 in
theorem readLine_bare (rb mb g off len cap : Nat) (w0 : ByteArray) (ws : List ByteArray) (vs : List Nam) (st : St) (w : World) (hlen : 1 ≤ len) (hs : w0.size ≤ 3000) (hR : Rd w rb mb vs) (hG : Glob w) (hW : Ws w g off (w0 :: ws)) (hc : colB w0 = false)
    (hC : ∀ W, Rd W rb mb vs → Glob W → Ws W g off (w0 :: ws) → Calls Tryd.prog 28 #[.pointer (some ⟨rb, 0, none⟩), .slice (some ⟨g, off, none⟩) len cap] W (Ans W rb mb st)) :
    Calls Tryd.prog 15 #[.pointer (some ⟨rb, 0, none⟩), .slice (some ⟨g, off, none⟩) len cap] w (AnsL w rb mb g off len cap (emp, 0, st)) := by
  have hcl : w.cell? ⟨g, off, none⟩ = some (.string w0) := hW.cell 0 w0 rfl
  have hg := hW.lt
  have hmm := hR.lt
  have hr := hR.ltr
  have HC : Hid (∀ W, Rd W rb mb vs → Glob W → Ws W g off (w0 :: ws) → Calls Tryd.prog 28 #[.pointer (some ⟨rb, 0, none⟩), .slice (some ⟨g, off, none⟩) len cap] W (Ans W rb mb st)) := hC
  clear hC
  have i0 : (0 : Int) < (len : Int) := by omega
  have i5 : ((len : Int) == 0) = false := by rw [beq_eq_false_iff_ne]; omega
  go_enter Tryd.func15, Tryd.ntmps15
  go_wp2_with fail
  refine (cutSuffix_D _ _ _ hs).mono ?_
  rintro e w' ⟨D, b, rfl, HD, rfl⟩
  obtain rfl : b = false := HD.out.2.trans hc
  clear HD
  go_wp2_with fail
  refine Calls.mono (HC.out _ (hR.alloc _) (hG.alloc _) (hW.alloc _)) ?_
  rintro e W2 ⟨n, ok, vs', rfl, HS, hR1, hg1⟩
  have hg1' := hg1
  have hbx := box_grown hg1' (fun k e => by cases e; exact hR.lt)
  obtain ⟨hx1, hx2⟩ := box_cells hbx
  have hz : w.heap.size < W2.heap.size := (Array.getElem?_eq_some_iff.1 hbx).1
  clear hbx hcl hW hG HC
  go_wp2_with fail
  refine bodyPost_ret (v := .tuple #[.agg (snCells emp (.slice (some ⟨g, off, none⟩) len cap) n nilS), .bool ok]) (by simp [results, Tryd.results15, go_sem, snCells, nilS, emp, hx1, hz]) rfl ⟨emp, 0, _, _, _, n, ok, vs', rfl, by show _ = _; rw [← HS.out], fun _ => ⟨rfl, rfl, rfl⟩, ?_, ?_⟩
  · refine Rd.alloc ?_ _
    repeat (refine Rd.set ?_ (by simp; omega) (by simp; omega) _)
    exact hR1
  · refine World.grownBy.trans ?_ (World.grownBy_alloc _ _ _)
    repeat (refine grown_set ?_ (Nat.le_refl _) _)
    exact grown_of_alloc hg1'

theorem lin_no {w w' : World} {rb mb g off len cap : Nat} {vs : List Nam} {e : Ending} (hR : Rd w rb mb vs) (h : e = .returned (.tuple #[snV sn0, .bool false]) ∧ Below w.heap.size w w') : AnsL w rb mb g off len cap (emp, 0, noSt vs) e w' :=
  ⟨emp, 0, none, 0, 0, sn0, false, vs, h.1, rfl, (fun e => by cases e), hR.grown h.2, grown_to (grown_of_below h.2) _⟩
theorem Wsz.tail {x : ByteArray} {ws : List ByteArray} (h : Wsz (x :: ws)) : Wsz ws := ⟨by have := h.len; simp at this; omega, fun y hy => h.word y (by simp [hy])⟩
theorem readLine_any (rb mb g off cap : Nat) (ws : List ByteArray) (vs : List Nam) (w : World) (h0 : ws ≠ []) (hcap : ws.length ≤ cap) (hmax : cap ≤ maxLen) (hz : Wsz ws) (hn : vs.length + 3 < maxLen) (hR : Rd w rb mb vs) (hG : Glob w) (hW : Ws w g off ws) :
    Calls Tryd.prog 15 #[.pointer (some ⟨rb, 0, none⟩), .slice (some ⟨g, off, none⟩) ws.length cap] w (AnsL w rb mb g off ws.length cap (lin vs ws)) := by
  match ws, h0, hcap, hz, hW with
  | w0 :: r, _, hcap, hz, hW =>
    have hs := hz.word w0 (by simp)
    cases hc : colB w0 with
    | true =>
      cases hnm : Wm.nm (labD w0) with
      | true =>
        match r, hcap, hz, hW with
        | [], hcap, hz, hW =>
          rw [show lin vs [w0] = (emp, 0, noSt vs) by simp only [lin, hc, hnm, if_true]]
          exact (readLine_lone rb mb g off cap w0 [] vs w hcap hs hR hW hc hnm).mono fun _ _ h => lin_no hR h
        | w1 :: r, hcap, hz, hW =>
          rw [show lin vs (w0 :: w1 :: r) = (labD w0, 1, stm vs (w1 :: r)) by simp only [lin, hc, hnm, if_true]]
          exact readLine_lab rb mb g off _ cap w0 (w1 :: r) vs _ w (by simp) hcap hmax hs hR hG hW hc hnm (fun W a b c => readStatement_any rb mb g (off + 1) (cap - 1) (w1 :: r) vs W (by simp) hz.tail hn a b c)
      | false =>
        rw [show lin vs (w0 :: r) = (emp, 0, noSt vs) by simp only [lin, hc, hnm, if_true, Bool.false_eq_true, if_false]]
        exact (readLine_bad rb mb g off _ cap w0 r vs w (by simp) hs hR hW hc hnm).mono fun _ _ h => lin_no hR h
    | false =>
      rw [show lin vs (w0 :: r) = (emp, 0, stm vs (w0 :: r)) by simp only [lin, hc, Bool.false_eq_true, if_false]]
      exact readLine_bare rb mb g off _ cap w0 r vs _ w (by simp) hs hR hG hW hc (fun W a b c => readStatement_any rb mb g off cap (w0 :: r) vs W (by simp) hz hn a b c)
end Go.Proofs.YtmipbiligijcpaaDoor
