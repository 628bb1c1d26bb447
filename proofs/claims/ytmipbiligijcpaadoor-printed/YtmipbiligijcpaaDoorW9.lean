/- What a line's words are as a node, and the reader's calls in one form. -/
import Derived.Test.YtmipbiligijcpaaDoorW6
import Derived.Test.YtmipbiligijcpaaDoorW7
import Derived.Test.YtmipbiligijcpaaDoorW8
namespace Go.Proofs.YtmipbiligijcpaaDoor
set_option linter.unusedVariables false
set_option linter.unusedSimpArgs false
open Go.RowKit Go.Proofs Go.Maps

abbrev St := SN × Bool × List Nam
def noSt (vs : List Nam) : St := (sn0, false, vs)
def outS (vs : List Nam) (ws : List ByteArray) : St :=
  match ws with
  | [_, w1] => (⟨3, 0, 0, 0, opd vs w1, o0, emp⟩, opdB w1, opdA vs w1)
  | _ => noSt vs
def gotoS (vs : List Nam) (ws : List ByteArray) : St :=
  match ws with
  | [_, w1] => (⟨5, 0, 0, 0, o0, o0, w1⟩, Wm.nm w1, vs)
  | _ => noSt vs
def ifS (vs : List Nam) (ws : List ByteArray) : St :=
  match ws with
  | [_, w1, w2, w3, w4, w5] =>
    if w4.toList == [103, 111, 116, 111] then (⟨4, 0, 0, Wm.tsN w2.data.toList, opd vs w1, opd (opdA vs w1) w3, w5⟩, opdB w1 && Wm.tsB w2.data.toList && opdB w3 && Wm.nm w5, opdA (opdA vs w1) w3) else noSt vs
  | _ => noSt vs
def asgS (vs : List Nam) (ws : List ByteArray) : St :=
  match ws with
  | w0 :: w1 :: w2 :: q =>
    if Wm.nm w0 && w1.toList == [61] then
      match q with
      | [] => if w2.toList == [105, 110, 112, 117, 116] then (⟨2, vnum vs w0.data.toList, 0, 0, o0, o0, emp⟩, true, vadd vs w0.data.toList) else (⟨0, vnum vs w0.data.toList, 0, 0, opd (vadd vs w0.data.toList) w2, o0, emp⟩, opdB w2, opdA (vadd vs w0.data.toList) w2)
      | [w3, w4] => (⟨1, vnum vs w0.data.toList, Wm.opN w3.data.toList, 0, opd (vadd vs w0.data.toList) w2, opd (opdA (vadd vs w0.data.toList) w2) w4, emp⟩, opdB w2 && Wm.opB w3.data.toList && opdB w4, opdA (opdA (vadd vs w0.data.toList) w2) w4)
      | _ => (sn0, false, opdA (vadd vs w0.data.toList) w2)
    else noSt vs
  | _ => noSt vs
def stm (vs : List Nam) (ws : List ByteArray) : St :=
  match ws with
  | [] => noSt vs
  | w0 :: r =>
    if w0.toList == [111, 117, 116, 112, 117, 116] then outS vs (w0 :: r)
    else if w0.toList == [105, 102] then ifS vs (w0 :: r)
    else if w0.toList == [103, 111, 116, 111] then gotoS vs (w0 :: r)
    else if w0.toList == [114, 101, 116, 117, 114, 110] then (⟨6, 0, 0, 0, o0, o0, emp⟩, ((r.length + 1 : Nat) : Int) == 1, vs)
    else asgS vs (w0 :: r)

/-- a line's words: few, short -/
structure Wsz (ws : List ByteArray) : Prop where
  len : ws.length ≤ 3001
  word : ∀ x ∈ ws, x.size ≤ 3000
theorem Wsz.max {ws : List ByteArray} (h : Wsz ws) {x : ByteArray} (hx : x ∈ ws) : x.size ≤ maxLen := by have := h.word x hx; unfold maxLen; omega

/-- what a reading call answers: a node's cells written out -/
def Ans (w : World) (rb mb : Nat) (st : St) (e : Ending) (w' : World) : Prop :=
  ∃ (n : SN) (ok : Bool) (vs' : List Nam), e = .returned (.tuple #[.agg #[.string ⟨#[]⟩, .slice none 0 0, .int .i64 n.kind, .int .i64 n.var, .int .i64 n.op, .int .i64 n.test, .bool n.a.isVar, .int .i64 n.a.var, .int .i64 n.a.const, .bool n.b.isVar, .int .i64 n.b.var, .int .i64 n.b.const, .slice none 0 0, .string n.goal], .bool ok]) ∧ Hid ((n, ok, vs') = st) ∧ Rd w' rb mb vs' ∧ w.grownBy w' (some mb)
theorem ans_no {w w' : World} {rb mb : Nat} {vs : List Nam} {e : Ending} (hR : Rd w rb mb vs) (h : e = .returned (.tuple #[snV sn0, .bool false]) ∧ Below w.heap.size w w') : Ans w rb mb (noSt vs) e w' :=
  ⟨sn0, false, vs, h.1, rfl, hR.grown h.2, grown_to (grown_of_below h.2) _⟩
theorem ans_yes {w w' : World} {rb mb : Nat} {vs' : List Nam} {n : SN} {ok : Bool} {e : Ending} (h : e = .returned (.tuple #[snV n, .bool ok]) ∧ Rd w' rb mb vs' ∧ w.grownBy w' (some mb)) : Ans w rb mb (n, ok, vs') e w' :=
  ⟨n, ok, vs', h.1, rfl, h.2.1, h.2.2⟩
theorem ne_len {n m : Nat} (h : n ≠ m) : ((n : Int) != (m : Int)) = true := by simp; omega

theorem readOutput_all (rb mb g off cap : Nat) (ws : List ByteArray) (vs : List Nam) (w : World) (hz : Wsz ws) (hn : vs.length + 3 < maxLen) (hR : Rd w rb mb vs) (hG : Glob w) (hW : Ws w g off ws) :
    Calls Tryd.prog 44 #[.pointer (some ⟨rb, 0, none⟩), .slice (some ⟨g, off, none⟩) ws.length cap] w (Ans w rb mb (outS vs ws)) := by
  match ws, hz, hW with
  | [_, w1], hz, hW => exact (readOutput_yes rb mb g off cap _ w1 vs w (hz.word w1 (by simp)) (by omega) hR hG hW).mono fun _ _ h => ans_yes h
  | [], hz, _ => exact (readOutput_no rb _ 0 cap w (by decide) (by omega)).mono fun _ _ h => ans_no hR h
  | [_], hz, _ => exact (readOutput_no rb _ 1 cap w (by decide) (by omega)).mono fun _ _ h => ans_no hR h
  | _ :: _ :: _ :: r, hz, _ => exact (readOutput_no rb _ _ cap w (ne_len (m := 2) (by simp)) hz.len).mono fun _ _ h => ans_no hR h
theorem readGoto_all (rb mb g off cap : Nat) (ws : List ByteArray) (vs : List Nam) (w : World) (hz : Wsz ws) (hR : Rd w rb mb vs) (hW : Ws w g off ws) :
    Calls Tryd.prog 46 #[.slice (some ⟨g, off, none⟩) ws.length cap] w (Ans w rb mb (gotoS vs ws)) := by
  match ws, hz, hW with
  | [_, w1], hz, hW => exact (readGoto_yes g off cap _ w1 w (hz.word w1 (by simp)) hW).mono fun _ _ h => ans_yes ⟨h.1, hR.grown h.2, grown_to (grown_of_below h.2) _⟩
  | [], hz, _ => exact (readGoto_no _ 0 cap w (by decide) (by omega)).mono fun _ _ h => ans_no hR h
  | [_], hz, _ => exact (readGoto_no _ 1 cap w (by decide) (by omega)).mono fun _ _ h => ans_no hR h
  | _ :: _ :: _ :: r, hz, _ => exact (readGoto_no _ _ cap w (ne_len (m := 2) (by simp)) hz.len).mono fun _ _ h => ans_no hR h
theorem ifS_no (vs : List Nam) (ws : List ByteArray) (h : ws.length ≠ 6) : ifS vs ws = noSt vs := by
  unfold ifS
  split
  · simp at h
  · rfl
theorem six {ws : List ByteArray} (h : ws.length = 6) : ∃ a b c d e f, ws = [a, b, c, d, e, f] := by
  match ws, h with
  | [a, b, c, d, e, f], _ => exact ⟨a, b, c, d, e, f, rfl⟩
theorem readIf_all (rb mb g off cap : Nat) (ws : List ByteArray) (vs : List Nam) (w : World) (hz : Wsz ws) (hn : vs.length + 3 < maxLen) (hR : Rd w rb mb vs) (hG : Glob w) (hW : Ws w g off ws) :
    Calls Tryd.prog 45 #[.pointer (some ⟨rb, 0, none⟩), .slice (some ⟨g, off, none⟩) ws.length cap] w (Ans w rb mb (ifS vs ws)) := by
  by_cases h6 : ws.length = 6
  · obtain ⟨w0, w1, w2, w3, w4, w5, rfl⟩ := six h6
    cases h4 : (w4.toList == [103, 111, 116, 111]) with
    | true =>
      have e : ifS vs [w0, w1, w2, w3, w4, w5] = (⟨4, 0, 0, Wm.tsN w2.data.toList, opd vs w1, opd (opdA vs w1) w3, w5⟩, opdB w1 && Wm.tsB w2.data.toList && opdB w3 && Wm.nm w5, opdA (opdA vs w1) w3) := by
        show (if w4.toList == [103, 111, 116, 111] then _ else _) = _
        rw [h4]; rfl
      rw [e]
      exact (readIf_yes rb mb g off cap w0 w1 w2 w3 w4 w5 vs w (hz.word w1 (by simp)) (hz.word w3 (by simp)) (hz.max (by simp)) (by omega) hR hG hW h4).mono fun _ _ h => ans_yes h
    | false =>
      have e : ifS vs [w0, w1, w2, w3, w4, w5] = noSt vs := by
        show (if w4.toList == [103, 111, 116, 111] then _ else _) = _
        rw [h4]; rfl
      rw [e]
      exact (readIf_not rb g off cap w0 w1 w2 w3 w4 w5 w hW h4).mono fun _ _ h => ans_no hR h
  · rw [ifS_no vs ws h6]
    exact (readIf_no rb _ _ cap w (ne_len (m := 6) h6) hz.len).mono fun _ _ h => ans_no hR h
theorem readAsg_all (rb mb g off cap : Nat) (ws : List ByteArray) (vs : List Nam) (w : World) (hz : Wsz ws) (hn : vs.length + 3 < maxLen) (hR : Rd w rb mb vs) (hG : Glob w) (hW : Ws w g off ws) :
    Calls Tryd.prog 47 #[.pointer (some ⟨rb, 0, none⟩), .slice (some ⟨g, off, none⟩) ws.length cap] w (Ans w rb mb (asgS vs ws)) := by
  match ws, hz, hW with
  | [], hz, _ => exact (readAsg_short rb _ 0 cap w (by decide)).mono fun _ _ h => ans_no hR h
  | [_], hz, _ => exact (readAsg_short rb _ 1 cap w (by decide)).mono fun _ _ h => ans_no hR h
  | [_, _], hz, _ => exact (readAsg_short rb _ 2 cap w (by decide)).mono fun _ _ h => ans_no hR h
  | w0 :: w1 :: w2 :: q, hz, hW =>
    have hlen : decide (((w0 :: w1 :: w2 :: q).length : Int) < 3) = false := by rw [decide_eq_false_iff_not]; simp; omega
    cases hn0 : Wm.nm w0 with
    | false =>
      have e : asgS vs (w0 :: w1 :: w2 :: q) = noSt vs := by simp [asgS, hn0]
      rw [e]
      exact (readAsg_name rb g off _ cap w0 _ w hW (hz.max (by simp)) hlen hn0).mono fun _ _ h => ans_no hR h
    | true =>
      cases he : (w1.toList == [61]) with
      | false =>
        have e : asgS vs (w0 :: w1 :: w2 :: q) = noSt vs := by simp only [asgS, hn0, he]; rfl
        rw [e]
        exact (readAsg_eq rb g off _ cap w0 w1 _ w hW (hz.max (by simp)) hlen hn0 he).mono fun _ _ h => ans_no hR h
      | true =>
        match q, hz, hW, hlen with
        | [], hz, hW, hlen =>
          cases hi : (w2.toList == [105, 110, 112, 117, 116]) with
          | true =>
            have e : asgS vs [w0, w1, w2] = (⟨2, vnum vs w0.data.toList, 0, 0, o0, o0, emp⟩, true, vadd vs w0.data.toList) := by simp only [asgS, hn0, he, hi]; rfl
            rw [e]
            exact (readAsg_input rb mb g off cap w0 w1 w2 vs w hW (hz.max (by simp)) hn0 he hi (by omega) hR).mono fun _ _ h => ans_yes h
          | false =>
            have e : asgS vs [w0, w1, w2] = (⟨0, vnum vs w0.data.toList, 0, 0, opd (vadd vs w0.data.toList) w2, o0, emp⟩, opdB w2, opdA (vadd vs w0.data.toList) w2) := by simp only [asgS, hn0, he, hi]; rfl
            rw [e]
            exact (readAsg_copy rb mb g off cap w0 w1 w2 vs w hW (hz.max (by simp)) (hz.word w2 (by simp)) hn0 he hi (by omega) hR hG).mono fun _ _ h => ans_yes h
        | [w3, w4], hz, hW, hlen =>
          have e : asgS vs [w0, w1, w2, w3, w4] = (⟨1, vnum vs w0.data.toList, Wm.opN w3.data.toList, 0, opd (vadd vs w0.data.toList) w2, opd (opdA (vadd vs w0.data.toList) w2) w4, emp⟩, opdB w2 && Wm.opB w3.data.toList && opdB w4, opdA (opdA (vadd vs w0.data.toList) w2) w4) := by simp only [asgS, hn0, he]; rfl
          rw [e]
          exact (readAsg_comp rb mb g off cap w0 w1 w2 w3 w4 vs w hW (hz.max (by simp)) (hz.word w2 (by simp)) (hz.word w4 (by simp)) hn0 he (by omega) hR hG).mono fun _ _ h => ans_yes h
        | [w3], hz, hW, hlen =>
          have e : asgS vs [w0, w1, w2, w3] = (sn0, false, opdA (vadd vs w0.data.toList) w2) := by simp only [asgS, hn0, he]; rfl
          rw [e]
          exact (readAsg_bad rb mb g off _ cap w0 w1 w2 _ vs w hW (hz.max (by simp)) (hz.word w2 (by simp)) hn0 he hlen (by simp) (by simp) (by omega) hR hG).mono fun _ _ h => ans_yes h
        | w3 :: w4 :: w5 :: r, hz, hW, hlen =>
          have e : asgS vs (w0 :: w1 :: w2 :: w3 :: w4 :: w5 :: r) = (sn0, false, opdA (vadd vs w0.data.toList) w2) := by simp only [asgS, hn0, he]; rfl
          rw [e]
          exact (readAsg_bad rb mb g off _ cap w0 w1 w2 _ vs w hW (hz.max (by simp)) (hz.word w2 (by simp)) hn0 he hlen (by simp; omega) (by simp; omega) (by omega) hR hG).mono fun _ _ h => ans_yes h
end Go.Proofs.YtmipbiligijcpaaDoor
