/- A part of the proof: contracts of functions of the program. -/
import Derived.Test.YtmipbiligijcpaaGreatDoorA24
import Derived.Test.YtmipbiligijcpaaGreatDoorA21
import Derived.Test.YtmipbiligijcpaaGreatDoorA23
import Derived.Test.YtmipbiligijcpaaGreatDoorA25
namespace Go.Proofs.YtmipbiligijcpaaGreatDoor
set_option linter.unusedVariables false
set_option linter.unusedSimpArgs false
open Go.RowKit Go.Proofs Go.Maps

set_option maxHeartbeats 2000000 in
set_option maxRecDepth 100000 in
theorem rst_comp (pb B g off cap : Nat) (nv xv : Value) (vs : List Nam) (vb : Option Nat) (w0 w1 w2 w3 w4 : ByteArray)  (w : World) (hs0 : w0.size ≤ 3000) (hs1 : w1.size ≤ 3000) (hs2 : w2.size ≤ 3000) (hs3 : w3.size ≤ 3000) (hs4 : w4.size ≤ 3000) (hn : vs.length + 2 < 20000) (hn0 : Wm.nm w0 = true) (h1 : (w1.toList == [61]) = true) (hB : B ≤ w.heap.size) (hBp : pb < B) (hP : Rp w pb B nv xv vs vb) (hW : Ws w g off [w0, w1, w2, w3, w4]) (hgv : some g ≠ vb) :
    Calls Tryz.prog 69 #[.pointer (some ⟨pb, 0, none⟩), .slice (some ⟨g, off, none⟩) 5 cap] w (RAns w pb B nv xv (.slice (some ⟨g, off, none⟩) 5 cap) vb (rst vs [w0, w1, w2, w3, w4])) := by
  have hp := hP.lt
  have hvl := hP.vlt
  have hgz := hW.lt
  have hg1 : g ≠ w.heap.size := by omega
  have hg2 : g ≠ w.heap.size + 1 := by omega
  have hg1' : w.heap.size ≠ g := by omega
  have hg2' : w.heap.size + 1 ≠ g := by omega
  have hc0 := hW.cell 0 w0 rfl
  rw [Nat.add_zero] at hc0
  have hc1 := hW.cell 1 w1 rfl
  have hc2 := hW.cell 2 w2 rfl
  have hc3 := hW.cell 3 w3 rfl
  have hc4 := hW.cell 4 w4 rfl
  have HR : Hid (rst vs [w0, w1, w2, w3, w4] = if opdB w2 && opdB w4 && opsL.any (fun q => q.toList == w3.toList) then some (⟨emp, ⟨#[61]⟩, vnum vs w0.data.toList, rop (vadd vs w0.data.toList) w2, rop (opdA (vadd vs w0.data.toList) w2) w4, 2, w3, emp⟩, opdA (opdA (vadd vs w0.data.toList) w2) w4) else none) := by
    show _ = _
    simp only [rst, hn0, h1, Bool.and_self, if_true]
  go_enter Tryz.func69, Tryz.ntmps69
  go_wp2_with (first | (go_at_call_of 68 (Value.string w0); refine (rname_any _ _ hs0).mono ?_; rintro e w' ⟨rfl, rfl⟩))
  refine (rv_any w0 pb B nv xv vs vb _ (by omega) (by simp; omega) hBp ((hP.alloc _).alloc _)).mono ?_
  rintro e W3 ⟨rfl, vb3, hP3, hf3, hn3⟩
  have hb1 : W3.heap[w.heap.size]? = some _ := box_rf hf3 (alloc2 w _ _).1 (by omega) (ne_own hP (Nat.le_refl _))
  have hb2 : W3.heap[w.heap.size + 1]? = some _ := box_rf hf3 (alloc2 w _ _).2 (by omega) (ne_own hP (by omega))
  obtain ⟨p1, p2⟩ := box_cells hb1
  obtain ⟨q1, q2⟩ := box_cells hb2
  have hz1 : w.heap.size + 1 < W3.heap.size := (Array.getElem?_eq_some_iff.1 hb2).1
  have hz0 : w.heap.size < W3.heap.size := by omega
  have i1 : w.heap.size ≠ W3.heap.size := by omega
  have i1' : W3.heap.size ≠ w.heap.size := by omega
  have i2 : w.heap.size + 1 ≠ W3.heap.size := by omega
  have i2' : W3.heap.size ≠ w.heap.size + 1 := by omega
  have hne0 : some w.heap.size ≠ vb3 := hn3.ne (by simp; omega) (ne_own hP (Nat.le_refl _))
  have hne1 : some (w.heap.size + 1) ≠ vb3 := hn3.ne (by simp) (ne_own hP (by omega))
  have hf3' := hf3.of_alloc.of_alloc
  have hn3' := hn3.of_alloc.of_alloc
  go_wp2_with fail
  have hnv : (vadd vs w0.data.toList).length + 1 < 20000 := by have := vadd_len vs w0.data.toList; omega
  have hW3 : Ws W3 g off [w0, w1, w2, w3, w4] := ((hW.alloc _).alloc _).rf ((hP.alloc _).alloc _) hgv hf3
  have hgv3 : some g ≠ vb3 := hn3.ne (by simp; omega) hgv
  refine (two_three2 pb B g off 5 cap nv xv (vadd vs w0.data.toList) vb3 [w0, w1, w2, w3, w4] w2 w3 w4 W3.heap.size 4 opsL ⟨⟨#[]⟩, ⟨#[61]⟩, vnum vs w0.data.toList, ⟨0, 0, ⟨#[]⟩⟩, ⟨0, 0, ⟨#[]⟩⟩, 0, ⟨#[]⟩, ⟨#[]⟩⟩ _ rfl rfl rfl (by decide) (by decide) (by decide) hs2 hs4 hnv rfl (ws_new _ opsL _ _ (by simp) rfl) (ne_own hP3 (Nat.le_refl _)) (by simp; omega) hBp ((hP3.set (by simp; omega) (by simpa using hne1) _).alloc _) ((hW3.set (by simpa using hg2) _).alloc _) hgv3).mono ?_
  rintro e W5 ⟨m, vb5, vs5, ok, rfl, HOK, HM, hP5, hf5, hn5⟩
  have hb5 : W5.heap[w.heap.size]? = some _ := box_rf hf5 (kept_alloc ((Below.heap_setCell _ _ _ _ (by simp)).trans hb1) _) (by omega) hne0
  clear hb1 hb2 p1 p2 q1 q2
  obtain ⟨p1, p2⟩ := box_cells hb5
  have j0 : w.heap.size < W5.heap.size := (Array.getElem?_eq_some_iff.1 hb5).1
  have j1 : w.heap.size ≠ W5.heap.size := by omega
  have j1' : W5.heap.size ≠ w.heap.size := by omega
  have hm : newer w vb vb5 := hn3'.trans (by omega) (v := W3) (by rcases hn5 with h | ⟨q, h, hq⟩; exact Or.inl h; exact Or.inr ⟨q, h, by simp at hq; omega⟩)
  have hne0 : some w.heap.size ≠ vb5 := hn5.ne (by simp; omega) hne0
  have hf5' : RF pb vb w W5 := by
    refine RF.trans ?_ hn3' hf5
    with_reducible refine RF.snoc ?_ _
    with_reducible refine RF.set ?_ (by simp) _
    exact hf3'
  clear hb5 hf5 hn5 hf3 hn3 hn3' hf3'
  simp only [rnCells]
  go_wp2_with fail
  refine bodyPost_ret (v := .tuple #[.agg (rnCells (.slice (some ⟨g, off, none⟩) 5 cap) m), .bool ok]) (by simp [results, Tryz.results69, go_sem, rnCells, ro0, emp, p1, j0]) rfl ?_
  unfold RAns
  refine ⟨m, vb5, vs5, ok, rfl, (by show _ = _; rw [HR.out, ← HOK.out]; cases ok with | false => rfl | true => rw [(HM.out rfl).1, (HM.out rfl).2]; rfl), ?_, ?_, hm⟩
  · repeat (first | with_reducible refine Rp.drew ?_ | with_reducible refine Rp.alloc ?_ _ | with_reducible refine Rp.set ?_ (by simp; omega) (by first | simpa using hne0 | simpa using hne1) _)
    exact hP5
  · repeat (first | with_reducible refine RF.drew ?_ | with_reducible refine RF.snoc ?_ _ | with_reducible refine RF.set ?_ (by simp) _)
    exact hf5'
end Go.Proofs.YtmipbiligijcpaaGreatDoor
namespace Go.Proofs.YtmipbiligijcpaaGreatDoor
set_option linter.unusedVariables false
set_option linter.unusedSimpArgs false
open Go.RowKit Go.Proofs Go.Maps

theorem rst_any (pb B g off cap : Nat) (nv xv : Value) (vs : List Nam) (vb : Option Nat) (ws : List ByteArray) (w : World) (hz : Wsz ws) (hn : vs.length + 3 < 20000) (hB : B ≤ w.heap.size) (hBp : pb < B) (hP : Rp w pb B nv xv vs vb) (hW : Ws w g off ws) (hgv : some g ≠ vb) :
    Calls Tryz.prog 69 #[.pointer (some ⟨pb, 0, none⟩), .slice (some ⟨g, off, none⟩) ws.length cap] w (RAns w pb B nv xv (.slice (some ⟨g, off, none⟩) ws.length cap) vb (rst vs ws)) := by
  match ws, hz, hW with
  | [], _, _ => exact rst_0 pb B cap _ nv xv vs vb w hP
  | [w0], hz, hW => exact rst_1 pb B g off cap nv xv vs vb w0 w (hz.word w0 (by simp)) hB hBp hP hW
  | [w0, w1], hz, hW =>
    have s0 := hz.word w0 (by simp)
    have s1 := hz.word w1 (by simp)
    cases h0 : (w0.toList == [103, 111, 116, 111]) with
    | true => exact rst_goto pb B g off cap nv xv vs vb w0 w1 w s0 s1 h0 hB hBp hP hW
    | false =>
      cases h1 : (w0.toList == [111, 117, 116, 112, 117, 116]) with
      | true => exact rst_out pb B g off cap nv xv vs vb w0 w1 w s0 s1 (by omega) h0 h1 hB hBp hP hW hgv
      | false => exact rst_2no pb B g off cap nv xv vs vb w0 w1 w s0 s1 h0 h1 hB hBp hP hW
  | [w0, w1, w2], hz, hW =>
    have s0 := hz.word w0 (by simp)
    have s1 := hz.word w1 (by simp)
    have s2 := hz.word w2 (by simp)
    cases hn0 : Wm.nm w0 with
    | false => exact rst_3no0 pb B g off cap nv xv vs vb w0 w1 w2 w s0 s1 s2 hn0 hB hBp hP hW
    | true =>
      cases h1 : (w1.toList == [61]) with
      | false => exact rst_3no1 pb B g off cap nv xv vs vb w0 w1 w2 w s0 s1 s2 hn0 h1 hB hBp hP hW
      | true =>
        cases h2 : (w2.toList == [105, 110, 112, 117, 116]) with
        | true => exact rst_in pb B g off cap nv xv vs vb w0 w1 w2 w s0 s1 s2 (by omega) hn0 h1 h2 hB hBp hP hW hgv
        | false => exact rst_copy pb B g off cap nv xv vs vb w0 w1 w2 w s0 s1 s2 (by omega) hn0 h1 h2 hB hBp hP hW hgv
  | [w0, w1, w2, w3, w4], hz, hW =>
    have s0 := hz.word w0 (by simp)
    have s1 := hz.word w1 (by simp)
    have s2 := hz.word w2 (by simp)
    have s3 := hz.word w3 (by simp)
    have s4 := hz.word w4 (by simp)
    cases hn0 : Wm.nm w0 with
    | false => exact rst_5no0 pb B g off cap nv xv vs vb w0 w1 w2 w3 w4 w s0 s1 s2 s3 s4 hn0 hB hBp hP hW
    | true =>
      cases h1 : (w1.toList == [61]) with
      | false => exact rst_5no1 pb B g off cap nv xv vs vb w0 w1 w2 w3 w4 w s0 s1 s2 s3 s4 hn0 h1 hB hBp hP hW
      | true => exact rst_comp pb B g off cap nv xv vs vb w0 w1 w2 w3 w4 w s0 s1 s2 s3 s4 (by omega) hn0 h1 hB hBp hP hW hgv
  | [w0, w1, w2, w3, w4, w5], hz, hW =>
    have s0 := hz.word w0 (by simp)
    have s1 := hz.word w1 (by simp)
    have s2 := hz.word w2 (by simp)
    have s3 := hz.word w3 (by simp)
    have s4 := hz.word w4 (by simp)
    have s5 := hz.word w5 (by simp)
    cases h0 : (w0.toList == [105, 102]) with
    | false => exact rst_6no0 pb B g off cap nv xv vs vb w0 w1 w2 w3 w4 w5 w s0 s1 s2 s3 s4 s5 h0 hB hBp hP hW
    | true =>
      cases h4 : (w4.toList == [103, 111, 116, 111]) with
      | false => exact rst_6no1 pb B g off cap nv xv vs vb w0 w1 w2 w3 w4 w5 w s0 s1 s2 s3 s4 s5 h0 h4 hB hBp hP hW
      | true => exact rst_if pb B g off cap nv xv vs vb w0 w1 w2 w3 w4 w5 w s0 s1 s2 s3 s4 s5 (by omega) h0 h4 hB hBp hP hW hgv
  | [w0, w1, w2, w3], hz, hW => exact rst_long pb B g off cap nv xv vs vb w0 _ _ w (hz.word w0 (by simp)) hz.len rfl rfl (by simp) (by simp) (by simp) (by simp) (by simp) (by simp) (by simp) hB hBp hP hW
  | w0 :: w1 :: w2 :: w3 :: w4 :: w5 :: w6 :: r, hz, hW =>
    have hl : (w0 :: w1 :: w2 :: w3 :: w4 :: w5 :: w6 :: r).length = r.length + 7 := by simp
    refine rst_long pb B g off cap nv xv vs vb w0 _ _ w (hz.word w0 (by simp)) hz.len rfl rfl ?_ ?_ ?_ ?_ ?_ ?_ ?_ hB hBp hP hW
    all_goals (rw [hl]; first | (rw [beq_eq_false_iff_ne]; omega) | omega)

/-! ### the document's node and the program's -/
def opRel (r : RO) (o : Opd) : Prop := if o.isVar then r.var = o.var ∧ 0 ≤ o.var else r.var = -1 ∧ r.c = o.const
def doesOf (k : Int) : ByteArray := if k = 0 ∨ k = 1 then ⟨#[61]⟩ else if k = 2 then ⟨#[105, 110, 112, 117, 116]⟩ else if k = 3 then ⟨#[111, 117, 116, 112, 117, 116]⟩ else if k = 4 then ⟨#[105, 102]⟩ else if k = 5 then ⟨#[103, 111, 116, 111]⟩ else ⟨#[114, 101, 116, 117, 114, 110]⟩
structure RelN (m : RN) (n : SN) : Prop where
  goal : m.goal = n.goal
  kind : 0 ≤ n.kind ∧ n.kind ≤ 6
  does : m.does = doesOf n.kind
  target : m.target = if n.kind ≤ 2 then n.var else -1
  var : n.kind ≤ 2 → 0 ≤ n.var
  a : n.kind = 0 ∨ n.kind = 1 ∨ n.kind = 3 ∨ n.kind = 4 → opRel m.a n.a
  b : n.kind = 1 ∨ n.kind = 4 → opRel m.b n.b
  ops : m.ops = if n.kind = 0 ∨ n.kind = 3 then 1 else if n.kind = 1 ∨ n.kind = 4 then 2 else 0
  op : n.kind = 1 → n.op = Wm.opN m.sign.data.toList ∧ Wm.opB m.sign.data.toList = true
  test : n.kind = 4 → n.test = Wm.tsN m.sign.data.toList ∧ Wm.tsB m.sign.data.toList = true
  lab : m.lab = emp
  gnm : n.kind = 4 ∨ n.kind = 5 → Wm.nm n.goal = true
  gno : n.kind ≠ 4 → n.kind ≠ 5 → n.goal = emp
theorem rop_opd (vs : List Nam) (s : ByteArray) (h : opdB s = true) : opRel (rop vs s) (opd vs s) := by
  unfold opRel rop opd
  cases hn : Wm.nm s with
  | true =>
    rw [nm_cst s hn]
    simp [vnum_nn]
  | false =>
    have hc : cstB s.data.toList = true := by unfold opdB at h; rw [hn] at h; simpa using h
    simp [hc]
theorem any_ops (w3 : ByteArray) : opsL.any (fun q => q.toList == w3.toList) = Wm.opB w3.data.toList := by
  rw [ByteArray.toList_eq w3]
  simp only [opsL, List.any_cons, List.any_nil, Wm.opB, ByteArray.toList_eq, Bool.or_false]
  rw [beq_comm_list [43], beq_comm_list [45], beq_comm_list [42], beq_comm_list [47]]
  simp [Bool.or_assoc]
theorem any_tst (w3 : ByteArray) : tstL.any (fun q => q.toList == w3.toList) = Wm.tsB w3.data.toList := by
  rw [ByteArray.toList_eq w3]
  simp only [tstL, List.any_cons, List.any_nil, Wm.tsB, ByteArray.toList_eq, Bool.or_false]
  rw [beq_comm_list [60], beq_comm_list [60, 61], beq_comm_list [61, 61], beq_comm_list [33, 61]]
  simp [Bool.or_assoc]
theorem is_word {s : ByteArray} {a : Array UInt8} (h : (s.toList == a.toList) = true) : s = ⟨a⟩ := by
  rw [beq_iff_eq, ByteArray.toList_eq] at h
  exact data_inj h
theorem nm_word {s : ByteArray} (l : List UInt8) (hl : Wm.nameL l = false) (h : Wm.nm s = true) : (s.toList == l) = false := by
  rw [beq_eq_false_iff_ne, ByteArray.toList_eq]
  intro e
  unfold Wm.nm at h
  rw [e, hl] at h
  cases h
/-- what the document makes of a line's words, the program makes of them -/
structure SameSt (vs : List Nam) (ws : List ByteArray) : Prop where
  no : rst vs ws = none → (stm vs ws).2.1 = false
  yes : ∀ m vs', rst vs ws = some (m, vs') → (stm vs ws).2.1 = true ∧ (stm vs ws).2.2 = vs' ∧ RelN m (stm vs ws).1
theorem same_no {vs : List Nam} {ws : List ByteArray} (h : rst vs ws = none) (h2 : (stm vs ws).2.1 = false) : SameSt vs ws :=
  ⟨fun _ => h2, fun m vs' e => by rw [h] at e; cases e⟩
theorem same_if {vs : List Nam} {ws : List ByteArray} {b : Bool} {m : RN} {vs' : List Nam} (h : rst vs ws = if b then some (m, vs') else none) (h2 : (stm vs ws).2.1 = b) (h3 : b = true → (stm vs ws).2.2 = vs' ∧ RelN m (stm vs ws).1) : SameSt vs ws := by
  cases b with
  | false => exact same_no h h2
  | true =>
    refine ⟨fun e => ?_, fun m' vs'' e => ?_⟩
    · rw [h] at e; cases e
    · rw [h] at e; cases e; exact ⟨h2, h3 rfl⟩
theorem stm_asg (vs : List Nam) (w0 : ByteArray) (r : List ByteArray) (h : Wm.nm w0 = true) : stm vs (w0 :: r) = asgS vs (w0 :: r) := by
  unfold stm
  simp only
  rw [nm_word [111, 117, 116, 112, 117, 116] (by decide) h, nm_word [105, 102] (by decide) h, nm_word [103, 111, 116, 111] (by decide) h, nm_word [114, 101, 116, 117, 114, 110] (by decide) h]
  rfl
theorem asg_no (vs : List Nam) (w0 : ByteArray) (r : List ByteArray) (h : Wm.nm w0 = false) : asgS vs (w0 :: r) = noSt vs := by
  unfold asgS
  split
  · rename_i e
    cases e
    rw [h]; rfl
  · rfl
theorem out_long (vs : List Nam) (ws : List ByteArray) (h : ws.length ≠ 2) : outS vs ws = noSt vs := by
  unfold outS; split
  · simp at h
  · rfl
theorem goto_long (vs : List Nam) (ws : List ByteArray) (h : ws.length ≠ 2) : gotoS vs ws = noSt vs := by
  unfold gotoS; split
  · simp at h
  · rfl
theorem stm_no (vs : List Nam) (w0 : ByteArray) (r : List ByteArray) (h1 : (w0 :: r).length ≠ 1) (h2 : (w0 :: r).length ≠ 2) (h3 : (ifS vs (w0 :: r)).2.1 = false ∨ (w0.toList == [105, 102]) = false) (h4 : (asgS vs (w0 :: r)).2.1 = false) : (stm vs (w0 :: r)).2.1 = false := by
  unfold stm
  simp only
  split
  · rw [out_long vs _ h2]; rfl
  · split
    · rename_i h
      rcases h3 with h3 | h3
      · exact h3
      · rw [h3] at h; cases h
    · split
      · rw [goto_long vs _ h2]; rfl
      · split
        · simp only [List.length_cons] at h1
          simp only
          rw [beq_eq_false_iff_ne]; omega
        · exact h4
theorem is_list {s : ByteArray} {l : List UInt8} (h : (s.toList == l) = true) : s.toList = l := by simpa using h
theorem is_arr {s : ByteArray} {l : List UInt8} (h : (s.toList == l) = true) : s = ⟨l.toArray⟩ := is_word (a := l.toArray) h
theorem same_1 (vs : List Nam) (w0 : ByteArray) : SameSt vs [w0] := by
  refine same_if (b := (w0.toList == [114, 101, 116, 117, 114, 110])) rfl ?_ ?_
  · cases h : (w0.toList == [114, 101, 116, 117, 114, 110]) with
    | true =>
      have e := is_list h
      simp [stm, e]
    | false =>
      unfold stm
      simp only [h]
      rw [out_long vs _ (by simp), ifS_no vs _ (by simp), goto_long vs _ (by simp)]
      split; · rfl
      split; · rfl
      split; · rfl
      rfl
  · intro h
    have e := is_list h
    have hs : stm vs [w0] = (⟨6, 0, 0, 0, o0, o0, emp⟩, true, vs) := by simp [stm, e]
    rw [hs]
    exact ⟨rfl, ⟨rfl, by simp, is_arr h, rfl, by simp, by simp, by simp, rfl, by simp, by simp, rfl, by simp, fun _ _ => rfl⟩⟩
theorem same_2 (vs : List Nam) (w0 w1 : ByteArray) : SameSt vs [w0, w1] := by
  cases h0 : (w0.toList == [103, 111, 116, 111]) with
  | true =>
    have e := is_list h0
    have hs : stm vs [w0, w1] = (⟨5, 0, 0, 0, o0, o0, w1⟩, Wm.nm w1, vs) := by simp [stm, e, gotoS]
    refine same_if (b := Wm.nm w1) (by simp only [rst, h0, if_true]; rfl) (by rw [hs]) ?_
    intro hn
    rw [hs]
    exact ⟨rfl, ⟨rfl, by simp, is_arr h0, rfl, by simp, by simp, by simp, rfl, by simp, by simp, rfl, fun _ => hn, by simp⟩⟩
  | false =>
    cases h1 : (w0.toList == [111, 117, 116, 112, 117, 116]) with
    | true =>
      have e := is_list h1
      have hs : stm vs [w0, w1] = (⟨3, 0, 0, 0, opd vs w1, o0, emp⟩, opdB w1, opdA vs w1) := by simp [stm, e, outS]
      refine same_if (b := opdB w1) (by simp only [rst, h0, h1, if_true]; rfl) (by rw [hs]) ?_
      intro hn
      rw [hs]
      exact ⟨rfl, ⟨rfl, by simp, is_arr h1, rfl, by simp, fun _ => rop_opd vs w1 hn, by simp, rfl, by simp, by simp, rfl, by simp, fun _ _ => rfl⟩⟩
    | false =>
      refine same_no (by simp only [rst, h0, h1]; rfl) ?_
      unfold stm
      simp only [h0, h1]
      simp only [Bool.false_eq_true, if_false]
      split
      · rw [ifS_no vs _ (by simp)]; rfl
      · split
        · rfl
        · rfl
theorem same_3 (vs : List Nam) (w0 w1 w2 : ByteArray) : SameSt vs [w0, w1, w2] := by
  cases hn0 : Wm.nm w0 with
  | false =>
    refine same_no (by simp only [rst, hn0]; rfl) (stm_no vs w0 _ (by simp) (by simp) (Or.inl (by rw [ifS_no vs _ (by simp)]; rfl)) ?_)
    rw [asg_no vs w0 _ hn0]; rfl
  | true =>
    cases h1 : (w1.toList == [61]) with
    | false =>
      refine same_no (by simp only [rst, hn0, h1]; rfl) ?_
      rw [stm_asg vs w0 _ hn0]
      simp only [asgS, hn0, h1]; rfl
    | true =>
      cases h2 : (w2.toList == [105, 110, 112, 117, 116]) with
      | true =>
        have hs : stm vs [w0, w1, w2] = (⟨2, vnum vs w0.data.toList, 0, 0, o0, o0, emp⟩, true, vadd vs w0.data.toList) := by
          rw [stm_asg vs w0 _ hn0]; simp only [asgS, hn0, h1, h2]; rfl
        refine same_if (b := true) (by simp only [rst, hn0, h1, h2]; rfl) (by rw [hs]) ?_
        intro _
        rw [hs]
        exact ⟨rfl, ⟨rfl, by simp, rfl, rfl, fun _ => vnum_nn _ _, by simp, by simp, rfl, by simp, by simp, rfl, by simp, fun _ _ => rfl⟩⟩
      | false =>
        have hs : stm vs [w0, w1, w2] = (⟨0, vnum vs w0.data.toList, 0, 0, opd (vadd vs w0.data.toList) w2, o0, emp⟩, opdB w2, opdA (vadd vs w0.data.toList) w2) := by
          rw [stm_asg vs w0 _ hn0]; simp only [asgS, hn0, h1, h2]; rfl
        refine same_if (b := opdB w2) (by simp only [rst, hn0, h1, h2]; rfl) (by rw [hs]) ?_
        intro hn
        rw [hs]
        exact ⟨rfl, ⟨rfl, by simp, rfl, rfl, fun _ => vnum_nn _ _, fun _ => rop_opd _ w2 hn, by simp, rfl, by simp, by simp, rfl, by simp, fun _ _ => rfl⟩⟩
theorem same_5 (vs : List Nam) (w0 w1 w2 w3 w4 : ByteArray) : SameSt vs [w0, w1, w2, w3, w4] := by
  cases hn0 : Wm.nm w0 with
  | false =>
    refine same_no (by simp only [rst, hn0]; rfl) (stm_no vs w0 _ (by simp) (by simp) (Or.inl (by rw [ifS_no vs _ (by simp)]; rfl)) ?_)
    rw [asg_no vs w0 _ hn0]; rfl
  | true =>
    cases h1 : (w1.toList == [61]) with
    | false =>
      refine same_no (by simp only [rst, hn0, h1]; rfl) ?_
      rw [stm_asg vs w0 _ hn0]
      simp only [asgS, hn0, h1]; rfl
    | true =>
      have hs : stm vs [w0, w1, w2, w3, w4] = (⟨1, vnum vs w0.data.toList, Wm.opN w3.data.toList, 0, opd (vadd vs w0.data.toList) w2, opd (opdA (vadd vs w0.data.toList) w2) w4, emp⟩, opdB w2 && Wm.opB w3.data.toList && opdB w4, opdA (opdA (vadd vs w0.data.toList) w2) w4) := by
        rw [stm_asg vs w0 _ hn0]; simp only [asgS, hn0, h1]; rfl
      have hb : (opdB w2 && Wm.opB w3.data.toList && opdB w4) = (opdB w2 && opdB w4 && opsL.any (fun q => q.toList == w3.toList)) := by
        rw [any_ops, Bool.and_assoc, Bool.and_comm (Wm.opB _), Bool.and_assoc]
      refine same_if (b := opdB w2 && opdB w4 && opsL.any (fun q => q.toList == w3.toList)) (by simp only [rst, hn0, h1]; rfl) (by rw [hs, ← hb]) ?_
      intro hn
      rw [any_ops] at hn
      simp only [Bool.and_eq_true] at hn
      rw [hs]
      exact ⟨rfl, ⟨rfl, by simp, rfl, rfl, fun _ => vnum_nn _ _, fun _ => rop_opd _ w2 hn.1.1, fun _ => rop_opd _ w4 hn.1.2, rfl, fun _ => ⟨rfl, hn.2⟩, by simp, rfl, by simp, fun _ _ => rfl⟩⟩
theorem same_6 (vs : List Nam) (w0 w1 w2 w3 w4 w5 : ByteArray) : SameSt vs [w0, w1, w2, w3, w4, w5] := by
  have ha : (asgS vs [w0, w1, w2, w3, w4, w5]).2.1 = false := by
    unfold asgS; simp only
    split <;> rfl
  cases h0 : (w0.toList == [105, 102]) with
  | false =>
    exact same_no (by simp only [rst, h0]; rfl) (stm_no vs w0 _ (by simp) (by simp) (Or.inr h0) ha)
  | true =>
    have e := is_list h0
    have hst : stm vs [w0, w1, w2, w3, w4, w5] = ifS vs [w0, w1, w2, w3, w4, w5] := by simp [stm, e]
    cases h4 : (w4.toList == [103, 111, 116, 111]) with
    | false =>
      refine same_no (by simp only [rst, h0, h4]; rfl) ?_
      rw [hst]; simp only [ifS, h4]; rfl
    | true =>
      have hs : stm vs [w0, w1, w2, w3, w4, w5] = (⟨4, 0, 0, Wm.tsN w2.data.toList, opd vs w1, opd (opdA vs w1) w3, w5⟩, opdB w1 && Wm.tsB w2.data.toList && opdB w3 && Wm.nm w5, opdA (opdA vs w1) w3) := by
        rw [hst]; simp only [ifS, h4]; rfl
      have hb : (opdB w1 && Wm.tsB w2.data.toList && opdB w3 && Wm.nm w5) = (Wm.nm w5 && (opdB w1 && opdB w3 && tstL.any (fun q => q.toList == w2.toList))) := by
        rw [any_tst, Bool.and_comm _ (Wm.nm w5)]
        congr 1
        rw [Bool.and_assoc, Bool.and_comm (Wm.tsB _), Bool.and_assoc]
      refine same_if (b := Wm.nm w5 && (opdB w1 && opdB w3 && tstL.any (fun q => q.toList == w2.toList))) (by simp only [rst, h0, h4]; rfl) (by rw [hs, ← hb]) ?_
      intro hn
      rw [any_tst] at hn
      simp only [Bool.and_eq_true] at hn
      rw [hs]
      exact ⟨rfl, ⟨rfl, by simp, is_arr h0, rfl, by simp, fun _ => rop_opd _ w1 hn.2.1.1, fun _ => rop_opd _ w3 hn.2.1.2, rfl, by simp, fun _ => ⟨rfl, hn.2.2⟩, rfl, fun _ => hn.1, by simp⟩⟩
theorem same_all (vs : List Nam) (ws : List ByteArray) : SameSt vs ws := by
  match ws with
  | [] => exact same_no rfl rfl
  | [w0] => exact same_1 vs w0
  | [w0, w1] => exact same_2 vs w0 w1
  | [w0, w1, w2] => exact same_3 vs w0 w1 w2
  | [w0, w1, w2, w3, w4] => exact same_5 vs w0 w1 w2 w3 w4
  | [w0, w1, w2, w3, w4, w5] => exact same_6 vs w0 w1 w2 w3 w4 w5
  | [w0, w1, w2, w3] =>
    refine same_no rfl (stm_no vs w0 _ (by simp) (by simp) (Or.inl (by rw [ifS_no vs _ (by simp)]; rfl)) ?_)
    unfold asgS; simp only
    split <;> rfl
  | w0 :: w1 :: w2 :: w3 :: w4 :: w5 :: w6 :: r =>
    refine same_no rfl (stm_no vs w0 _ (by simp) (by simp) (Or.inl (by rw [ifS_no vs _ (by simp)]; rfl)) ?_)
    unfold asgS; simp only
    split <;> rfl
end Go.Proofs.YtmipbiligijcpaaGreatDoor
