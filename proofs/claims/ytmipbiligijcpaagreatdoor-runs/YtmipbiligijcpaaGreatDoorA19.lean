/- A part of the proof: contracts of functions of the program. -/
import Derived.Test.YtmipbiligijcpaaGreatDoorA18
namespace Go.Proofs.YtmipbiligijcpaaGreatDoor
set_option linter.unusedVariables false
set_option linter.unusedSimpArgs false
open Go.RowKit Go.Proofs Go.Maps

set_option maxHeartbeats 4000000 in
set_option maxRecDepth 100000 in
theorem two_three1 (pb B g off len cap : Nat) (nv xv : Value) (vs : List Nam) (vb : Option Nat) (ws : List ByteArray) (x z y : ByteArray) (sb sc : Nat) (sl : List ByteArray) (n : RN) (w : World) (hx : ws[1]? = some x) (hzw : ws[2]? = some z) (hyw : ws[3]? = some y) (hlen : (1 : Int) < (len : Int)) (hlen2 : (2 : Int) < (len : Int)) (hlen3 : (3 : Int) < (len : Int)) (hs : x.size ≤ 3000) (hsy : y.size ≤ 3000) (hn : vs.length + 1 < 20000) (hsl : sl.length = 4) (hS : Ws w sb 0 sl) (hsv : some sb ≠ vb) (hB : B ≤ w.heap.size) (hBp : pb < B) (hP : Rp w pb B nv xv vs vb) (hW : Ws w g off ws) (hgv : some g ≠ vb) :
    Calls Tryz.prog 112 #[.pointer (some ⟨pb, 0, none⟩), .agg #[.slice (some ⟨g, off, none⟩) len cap, .string n.lab, .string n.does, .int .i64 n.target, .int .i64 n.a.var, .int .i64 n.a.c, .string n.a.word, .int .i64 n.b.var, .int .i64 n.b.c, .string n.b.word, .int .i64 n.ops, .string n.sign, .string n.goal], .int .i64 1, .int .i64 4, .slice (some ⟨sb, 0, none⟩) 4 sc] w fun e w' => ∃ (m : RN) (vb' : Option Nat) (vs' : List Nam) (ok : Bool),
      e = .returned (.tuple #[.agg (rnCells (.slice (some ⟨g, off, none⟩) len cap) m), .bool ok]) ∧ Hid (ok = (opdB x && opdB y && sl.any (fun q => q.toList == z.toList))) ∧ Hid (ok = true → m = { n with a := rop vs x, b := rop (opdA vs x) y, sign := z, ops := 2 } ∧ vs' = opdA (opdA vs x) y) ∧ Rp w' pb B nv xv vs' vb' ∧ RF pb vb w w' ∧ newer w vb vb' := by
  have hp := hP.lt
  have hvl := hP.vlt
  have hvne : some w.heap.size ≠ vb := by intro e; have := hvl _ e.symm; omega
  have hvne1 : some (w.heap.size + 1) ≠ vb := by intro e; have := hvl _ e.symm; omega
  have hc := hW.cell 1 x hx
  have hgz := hW.lt
  go_enter Tryz.func112, Tryz.ntmps112
  go_wp2_with fail
  refine (rop_any x pb B nv xv vs vb _ hs (by omega) (by simp; omega) hBp ((hP.alloc _).alloc _)).mono ?_
  rintro e W2 ⟨va, co, wd, vb2, rfl, HO, hP2, hf2, hn2⟩
  have h2 := alloc2 w (.cells #[.slice (some ⟨g, off, none⟩) len cap, .string n.lab, .string n.does, .int .i64 n.target, .int .i64 n.a.var, .int .i64 n.a.c, .string n.a.word, .int .i64 n.b.var, .int .i64 n.b.c, .string n.b.word, .int .i64 n.ops, .string n.sign, .string n.goal] 111) (.cells #[.slice none 0 0, .string ⟨#[]⟩, .string ⟨#[]⟩, .int .i64 0, .int .i64 0, .int .i64 0, .string ⟨#[]⟩, .int .i64 0, .int .i64 0, .string ⟨#[]⟩, .int .i64 0, .string ⟨#[]⟩, .string ⟨#[]⟩] 111)
  have hb1 := box_rf hf2 h2.1 (by omega) hvne
  have hb2 := box_rf hf2 h2.2 (by omega) hvne1
  obtain ⟨hx1, hx2⟩ := box_cells hb1
  obtain ⟨hy1, hy2⟩ := box_cells hb2
  have hz : w.heap.size + 1 < W2.heap.size := (Array.getElem?_eq_some_iff.1 hb2).1
  have hz0 : w.heap.size < W2.heap.size := by omega
  have hq1 : w.heap.size ≠ W2.heap.size := by omega
  have hq2 : w.heap.size + 1 ≠ W2.heap.size := by omega
  have hne0 : some w.heap.size ≠ vb2 := hn2.ne (by simp; omega) hvne
  have hne1 : some (w.heap.size + 1) ≠ vb2 := hn2.ne (by simp) hvne1
  have hnx : (opdA vs x).length < 20000 := by have := opdA_len vs x; omega
  clear h2 hc
  have hf2' := hf2.of_alloc.of_alloc
  have hn2' : newer w vb vb2 := by
    rcases hn2 with h | ⟨q, h, hq⟩
    · exact Or.inl h
    · exact Or.inr ⟨q, h, by simp at hq; omega⟩
  cases hok : opdB x with
  | false =>
    clear hb1 hb2
    go_wp2_with fail
    refine bodyPost_ret (v := .tuple #[.agg (rnCells (.slice (some ⟨g, off, none⟩) len cap) n), .bool false]) (by simp [results, Tryz.results112, go_sem, rnCells, hx1, hy1, hz, hz0]) rfl ⟨n, vb2, opdA vs x, false, rfl, (by show _ = _; rw [hok]; rfl), (fun e => by cases e), ?_, ?_, hn2'⟩
    · refine Rp.alloc ?_ _
      repeat (refine Rp.set ?_ (by simp; omega) (by simpa using hne1) _)
      exact hP2
    · refine RF.trans ?_ (Or.inl rfl) (RF.alloc _ _)
      repeat (refine RF.set ?_ (by simp) _)
      exact hf2'
  | true =>
    have hWz := ((hW.alloc (.cells #[.slice (some ⟨g, off, none⟩) len cap, .string n.lab, .string n.does, .int .i64 n.target, .int .i64 n.a.var, .int .i64 n.a.c, .string n.a.word, .int .i64 n.b.var, .int .i64 n.b.c, .string n.b.word, .int .i64 n.ops, .string n.sign, .string n.goal] 111)).alloc (.cells #[.slice none 0 0, .string ⟨#[]⟩, .string ⟨#[]⟩, .int .i64 0, .int .i64 0, .int .i64 0, .string ⟨#[]⟩, .int .i64 0, .int .i64 0, .string ⟨#[]⟩, .int .i64 0, .string ⟨#[]⟩, .string ⟨#[]⟩] 111)).rf ((hP.alloc _).alloc _) hgv hf2
    have hc2 := hWz.cell 2 z hzw
    have hc3 := hWz.cell 3 y hyw
    have hg1 : g ≠ w.heap.size := by omega
    have hg2 : g ≠ w.heap.size + 1 := by omega
    have hg3 : g ≠ W2.heap.size := by omega
    have hg1' : w.heap.size ≠ g := by omega
    have hg2' : w.heap.size + 1 ≠ g := by omega
    have hg3' : W2.heap.size ≠ g := by omega
    have hgz2 : g < W2.heap.size := by omega
    go_wp2_with fail
    refine (rop_any y pb B nv xv (opdA vs x) vb2 _ hsy hnx (by simp; omega) hBp ?_).mono ?_
    · refine Rp.alloc ?_ _
      repeat (refine Rp.set ?_ (by simp; omega) (by simpa using hne0) _)
      exact hP2
    rintro e W4 ⟨va', co', wd', vb4, rfl, HO', hP4, hf4, hn4⟩
    have hn4' : newer W2 vb2 vb4 := by
      rcases hn4 with h | ⟨q, h, hq⟩
      · exact Or.inl h
      · exact Or.inr ⟨q, h, by simp at hq; omega⟩
    have hc1 := box_rf hf4 (kept_alloc (heap_setCell_same _ _ _ _ _ _ (heap_setCell_same _ _ _ _ _ _ (heap_setCell_same _ _ _ _ _ _ (heap_setCell_same _ _ _ _ _ _ (heap_setCell_same _ _ _ _ _ _ hb1))))) _) (by omega) hne0
    have hc2 : W4.heap[w.heap.size + 1]? = _ := box_rf hf4 (kept_alloc ((Below.heap_setCell _ _ _ _ (by simp)).trans ((Below.heap_setCell _ _ _ _ (by simp)).trans ((Below.heap_setCell _ _ _ _ (by simp)).trans ((Below.heap_setCell _ _ _ _ (by simp)).trans ((Below.heap_setCell _ _ _ _ (by simp)).trans hb2))))) _) (by omega) hne1
    simp at hc1
    have hsz := hS.lt
    have hsg : sb ≠ w.heap.size := by omega
    have hS4 : Ws W4 sb 0 sl := by
      have h1 := ((hS.alloc (.cells #[.slice (some ⟨g, off, none⟩) len cap, .string n.lab, .string n.does, .int .i64 n.target, .int .i64 n.a.var, .int .i64 n.a.c, .string n.a.word, .int .i64 n.b.var, .int .i64 n.b.c, .string n.b.word, .int .i64 n.ops, .string n.sign, .string n.goal] 111)).alloc (.cells #[.slice none 0 0, .string ⟨#[]⟩, .string ⟨#[]⟩, .int .i64 0, .int .i64 0, .int .i64 0, .string ⟨#[]⟩, .int .i64 0, .int .i64 0, .string ⟨#[]⟩, .int .i64 0, .string ⟨#[]⟩, .string ⟨#[]⟩] 111)).rf ((hP.alloc _).alloc _) hsv hf2
      refine Ws.rf ?_ (?_ : Rp _ pb B nv xv (opdA vs x) vb2) (hn2.ne (by simp; omega) hsv) hf4
      · refine Ws.alloc ?_ _
        repeat (refine Ws.set ?_ (by simpa using hsg) _)
        exact h1
      · refine Rp.alloc ?_ _
        repeat (refine Rp.set ?_ (by simp; omega) (by simpa using hne0) _)
        exact hP2
    have hf4' : RF pb vb w W4 := by
      refine RF.trans ?_ hn2' hf4
      refine RF.trans ?_ (Or.inl rfl) (RF.alloc _ _)
      repeat (refine RF.set ?_ (by simp) _)
      exact hf2'
    have hz4 : W2.heap.size < W4.heap.size := by have := hf4.size; simp at this; omega
    have hn4'' : newer w vb vb4 := hn2'.trans (by omega) hn4'
    have hm0 : some w.heap.size ≠ vb4 := hn4'.ne hz0 hne0
    have hm1 : some (w.heap.size + 1) ≠ vb4 := hn4'.ne hz hne1
    obtain ⟨p1, p2⟩ := box_cells hc1
    obtain ⟨q1, q2⟩ := box_cells hc2
    clear hc1 hc2 hx1 hx2 hy1 hy2 hb1 hb2 hf4 hn4 hf2 hn2 hWz hc3 hq1 hq2 hW hS hne0 hne1 hn2' hf2' hP2 hP hg1 hg2 hg3 hg1' hg2' hg3'
    have r1 : w.heap.size < W4.heap.size := by omega
    have r2 : w.heap.size + 1 < W4.heap.size := by omega
    have r3 : w.heap.size ≠ W4.heap.size := by omega
    have r4 : w.heap.size + 1 ≠ W4.heap.size := by omega
    have r5 : W4.heap.size ≠ w.heap.size := by omega
    have r6 : W4.heap.size ≠ w.heap.size + 1 := by omega
    obtain ⟨am, ham⟩ : ∃ am, (sl.any (fun q => q.toList == z.toList)) = am := ⟨_, rfl⟩
    have HAm : Hid ((sl.any (fun q => q.toList == z.toList)) = am) := ham
    have hAm : ∀ W : World, Ws W sb 0 sl → Calls Tryz.prog 180 #[.string z, .slice (some ⟨sb, 0, none⟩) 4 sc] W fun e w' => e = .returned (.bool am) ∧ w' = W := by
      intro W hWW
      have := among_any z sb sc sl W (by omega) hWW
      rw [hsl, ham] at this
      exact this
    have HCa : Hid (∀ W : World, Ws W sb 0 sl → Calls Tryz.prog 180 #[.string z, .slice (some ⟨sb, 0, none⟩) 4 sc] W fun e w' => e = .returned (.bool am) ∧ w' = W) := hAm
    clear ham hAm
    go_wp2_with fail
    refine (HCa.out _ ?_).mono ?_
    · refine Ws.alloc ?_ _
      repeat (refine Ws.set ?_ (by simpa using hsg) _)
      exact hS4
    rintro e W5 ⟨rfl, rfl⟩
    clear HCa
    cases hoy : opdB y with
    | true =>
      go_wp2_with fail
      refine bodyPost_ret (v := .tuple #[.agg (rnCells (.slice (some ⟨g, off, none⟩) len cap) { n with a := ⟨va, co, wd⟩, b := ⟨va', co', wd'⟩, sign := z, ops := 2 }), .bool am]) (by simp [results, Tryz.results112, go_sem, rnCells, p1, q1, r1, r2]) rfl ⟨_, vb4, opdA (opdA vs x) y, am, rfl, (by show _ = _; rw [hok, hoy, HAm.out]; rfl), (fun _ => ⟨by rw [HO.out, HO'.out], rfl⟩), ?_, ?_, hn4''⟩
      · refine Rp.alloc ?_ _
        repeat (refine Rp.set ?_ (by simp; omega) (by first | simpa using hm1 | simpa using hm0) _)
        exact hP4
      · refine RF.trans ?_ (Or.inl rfl) (RF.alloc _ _)
        repeat (refine RF.set ?_ (by simp) _)
        exact hf4'
    | false =>
      go_wp2_with fail
      refine bodyPost_ret (v := .tuple #[.agg (rnCells (.slice (some ⟨g, off, none⟩) len cap) { n with a := ⟨va, co, wd⟩, b := ⟨va', co', wd'⟩, sign := z, ops := 2 }), .bool false]) (by simp [results, Tryz.results112, go_sem, rnCells, p1, q1, r1, r2]) rfl ⟨_, vb4, opdA (opdA vs x) y, false, rfl, (by show _ = _; rw [hok, hoy, HAm.out]; rfl), (fun _ => ⟨by rw [HO.out, HO'.out], rfl⟩), ?_, ?_, hn4''⟩
      · refine Rp.alloc ?_ _
        repeat (refine Rp.set ?_ (by simp; omega) (by first | simpa using hm1 | simpa using hm0) _)
        exact hP4
      · refine RF.trans ?_ (Or.inl rfl) (RF.alloc _ _)
        repeat (refine RF.set ?_ (by simp) _)
        exact hf4'
set_option maxHeartbeats 4000000 in
set_option maxRecDepth 100000 in
theorem two_three2 (pb B g off len cap : Nat) (nv xv : Value) (vs : List Nam) (vb : Option Nat) (ws : List ByteArray) (x z y : ByteArray) (sb sc : Nat) (sl : List ByteArray) (n : RN) (w : World) (hx : ws[2]? = some x) (hzw : ws[3]? = some z) (hyw : ws[4]? = some y) (hlen : (2 : Int) < (len : Int)) (hlen2 : (3 : Int) < (len : Int)) (hlen3 : (4 : Int) < (len : Int)) (hs : x.size ≤ 3000) (hsy : y.size ≤ 3000) (hn : vs.length + 1 < 20000) (hsl : sl.length = 4) (hS : Ws w sb 0 sl) (hsv : some sb ≠ vb) (hB : B ≤ w.heap.size) (hBp : pb < B) (hP : Rp w pb B nv xv vs vb) (hW : Ws w g off ws) (hgv : some g ≠ vb) :
    Calls Tryz.prog 112 #[.pointer (some ⟨pb, 0, none⟩), .agg #[.slice (some ⟨g, off, none⟩) len cap, .string n.lab, .string n.does, .int .i64 n.target, .int .i64 n.a.var, .int .i64 n.a.c, .string n.a.word, .int .i64 n.b.var, .int .i64 n.b.c, .string n.b.word, .int .i64 n.ops, .string n.sign, .string n.goal], .int .i64 2, .int .i64 5, .slice (some ⟨sb, 0, none⟩) 4 sc] w fun e w' => ∃ (m : RN) (vb' : Option Nat) (vs' : List Nam) (ok : Bool),
      e = .returned (.tuple #[.agg (rnCells (.slice (some ⟨g, off, none⟩) len cap) m), .bool ok]) ∧ Hid (ok = (opdB x && opdB y && sl.any (fun q => q.toList == z.toList))) ∧ Hid (ok = true → m = { n with a := rop vs x, b := rop (opdA vs x) y, sign := z, ops := 2 } ∧ vs' = opdA (opdA vs x) y) ∧ Rp w' pb B nv xv vs' vb' ∧ RF pb vb w w' ∧ newer w vb vb' := by
  have hp := hP.lt
  have hvl := hP.vlt
  have hvne : some w.heap.size ≠ vb := by intro e; have := hvl _ e.symm; omega
  have hvne1 : some (w.heap.size + 1) ≠ vb := by intro e; have := hvl _ e.symm; omega
  have hc := hW.cell 2 x hx
  have hgz := hW.lt
  go_enter Tryz.func112, Tryz.ntmps112
  go_wp2_with fail
  refine (rop_any x pb B nv xv vs vb _ hs (by omega) (by simp; omega) hBp ((hP.alloc _).alloc _)).mono ?_
  rintro e W2 ⟨va, co, wd, vb2, rfl, HO, hP2, hf2, hn2⟩
  have h2 := alloc2 w (.cells #[.slice (some ⟨g, off, none⟩) len cap, .string n.lab, .string n.does, .int .i64 n.target, .int .i64 n.a.var, .int .i64 n.a.c, .string n.a.word, .int .i64 n.b.var, .int .i64 n.b.c, .string n.b.word, .int .i64 n.ops, .string n.sign, .string n.goal] 111) (.cells #[.slice none 0 0, .string ⟨#[]⟩, .string ⟨#[]⟩, .int .i64 0, .int .i64 0, .int .i64 0, .string ⟨#[]⟩, .int .i64 0, .int .i64 0, .string ⟨#[]⟩, .int .i64 0, .string ⟨#[]⟩, .string ⟨#[]⟩] 111)
  have hb1 := box_rf hf2 h2.1 (by omega) hvne
  have hb2 := box_rf hf2 h2.2 (by omega) hvne1
  obtain ⟨hx1, hx2⟩ := box_cells hb1
  obtain ⟨hy1, hy2⟩ := box_cells hb2
  have hz : w.heap.size + 1 < W2.heap.size := (Array.getElem?_eq_some_iff.1 hb2).1
  have hz0 : w.heap.size < W2.heap.size := by omega
  have hq1 : w.heap.size ≠ W2.heap.size := by omega
  have hq2 : w.heap.size + 1 ≠ W2.heap.size := by omega
  have hne0 : some w.heap.size ≠ vb2 := hn2.ne (by simp; omega) hvne
  have hne1 : some (w.heap.size + 1) ≠ vb2 := hn2.ne (by simp) hvne1
  have hnx : (opdA vs x).length < 20000 := by have := opdA_len vs x; omega
  clear h2 hc
  have hf2' := hf2.of_alloc.of_alloc
  have hn2' : newer w vb vb2 := by
    rcases hn2 with h | ⟨q, h, hq⟩
    · exact Or.inl h
    · exact Or.inr ⟨q, h, by simp at hq; omega⟩
  cases hok : opdB x with
  | false =>
    clear hb1 hb2
    go_wp2_with fail
    refine bodyPost_ret (v := .tuple #[.agg (rnCells (.slice (some ⟨g, off, none⟩) len cap) n), .bool false]) (by simp [results, Tryz.results112, go_sem, rnCells, hx1, hy1, hz, hz0]) rfl ⟨n, vb2, opdA vs x, false, rfl, (by show _ = _; rw [hok]; rfl), (fun e => by cases e), ?_, ?_, hn2'⟩
    · refine Rp.alloc ?_ _
      repeat (refine Rp.set ?_ (by simp; omega) (by simpa using hne1) _)
      exact hP2
    · refine RF.trans ?_ (Or.inl rfl) (RF.alloc _ _)
      repeat (refine RF.set ?_ (by simp) _)
      exact hf2'
  | true =>
    have hWz := ((hW.alloc (.cells #[.slice (some ⟨g, off, none⟩) len cap, .string n.lab, .string n.does, .int .i64 n.target, .int .i64 n.a.var, .int .i64 n.a.c, .string n.a.word, .int .i64 n.b.var, .int .i64 n.b.c, .string n.b.word, .int .i64 n.ops, .string n.sign, .string n.goal] 111)).alloc (.cells #[.slice none 0 0, .string ⟨#[]⟩, .string ⟨#[]⟩, .int .i64 0, .int .i64 0, .int .i64 0, .string ⟨#[]⟩, .int .i64 0, .int .i64 0, .string ⟨#[]⟩, .int .i64 0, .string ⟨#[]⟩, .string ⟨#[]⟩] 111)).rf ((hP.alloc _).alloc _) hgv hf2
    have hc2 := hWz.cell 3 z hzw
    have hc3 := hWz.cell 4 y hyw
    have hg1 : g ≠ w.heap.size := by omega
    have hg2 : g ≠ w.heap.size + 1 := by omega
    have hg3 : g ≠ W2.heap.size := by omega
    have hg1' : w.heap.size ≠ g := by omega
    have hg2' : w.heap.size + 1 ≠ g := by omega
    have hg3' : W2.heap.size ≠ g := by omega
    have hgz2 : g < W2.heap.size := by omega
    go_wp2_with fail
    refine (rop_any y pb B nv xv (opdA vs x) vb2 _ hsy hnx (by simp; omega) hBp ?_).mono ?_
    · refine Rp.alloc ?_ _
      repeat (refine Rp.set ?_ (by simp; omega) (by simpa using hne0) _)
      exact hP2
    rintro e W4 ⟨va', co', wd', vb4, rfl, HO', hP4, hf4, hn4⟩
    have hn4' : newer W2 vb2 vb4 := by
      rcases hn4 with h | ⟨q, h, hq⟩
      · exact Or.inl h
      · exact Or.inr ⟨q, h, by simp at hq; omega⟩
    have hc1 := box_rf hf4 (kept_alloc (heap_setCell_same _ _ _ _ _ _ (heap_setCell_same _ _ _ _ _ _ (heap_setCell_same _ _ _ _ _ _ (heap_setCell_same _ _ _ _ _ _ (heap_setCell_same _ _ _ _ _ _ hb1))))) _) (by omega) hne0
    have hc2 : W4.heap[w.heap.size + 1]? = _ := box_rf hf4 (kept_alloc ((Below.heap_setCell _ _ _ _ (by simp)).trans ((Below.heap_setCell _ _ _ _ (by simp)).trans ((Below.heap_setCell _ _ _ _ (by simp)).trans ((Below.heap_setCell _ _ _ _ (by simp)).trans ((Below.heap_setCell _ _ _ _ (by simp)).trans hb2))))) _) (by omega) hne1
    simp at hc1
    have hsz := hS.lt
    have hsg : sb ≠ w.heap.size := by omega
    have hS4 : Ws W4 sb 0 sl := by
      have h1 := ((hS.alloc (.cells #[.slice (some ⟨g, off, none⟩) len cap, .string n.lab, .string n.does, .int .i64 n.target, .int .i64 n.a.var, .int .i64 n.a.c, .string n.a.word, .int .i64 n.b.var, .int .i64 n.b.c, .string n.b.word, .int .i64 n.ops, .string n.sign, .string n.goal] 111)).alloc (.cells #[.slice none 0 0, .string ⟨#[]⟩, .string ⟨#[]⟩, .int .i64 0, .int .i64 0, .int .i64 0, .string ⟨#[]⟩, .int .i64 0, .int .i64 0, .string ⟨#[]⟩, .int .i64 0, .string ⟨#[]⟩, .string ⟨#[]⟩] 111)).rf ((hP.alloc _).alloc _) hsv hf2
      refine Ws.rf ?_ (?_ : Rp _ pb B nv xv (opdA vs x) vb2) (hn2.ne (by simp; omega) hsv) hf4
      · refine Ws.alloc ?_ _
        repeat (refine Ws.set ?_ (by simpa using hsg) _)
        exact h1
      · refine Rp.alloc ?_ _
        repeat (refine Rp.set ?_ (by simp; omega) (by simpa using hne0) _)
        exact hP2
    have hf4' : RF pb vb w W4 := by
      refine RF.trans ?_ hn2' hf4
      refine RF.trans ?_ (Or.inl rfl) (RF.alloc _ _)
      repeat (refine RF.set ?_ (by simp) _)
      exact hf2'
    have hz4 : W2.heap.size < W4.heap.size := by have := hf4.size; simp at this; omega
    have hn4'' : newer w vb vb4 := hn2'.trans (by omega) hn4'
    have hm0 : some w.heap.size ≠ vb4 := hn4'.ne hz0 hne0
    have hm1 : some (w.heap.size + 1) ≠ vb4 := hn4'.ne hz hne1
    obtain ⟨p1, p2⟩ := box_cells hc1
    obtain ⟨q1, q2⟩ := box_cells hc2
    clear hc1 hc2 hx1 hx2 hy1 hy2 hb1 hb2 hf4 hn4 hf2 hn2 hWz hc3 hq1 hq2 hW hS hne0 hne1 hn2' hf2' hP2 hP hg1 hg2 hg3 hg1' hg2' hg3'
    have r1 : w.heap.size < W4.heap.size := by omega
    have r2 : w.heap.size + 1 < W4.heap.size := by omega
    have r3 : w.heap.size ≠ W4.heap.size := by omega
    have r4 : w.heap.size + 1 ≠ W4.heap.size := by omega
    have r5 : W4.heap.size ≠ w.heap.size := by omega
    have r6 : W4.heap.size ≠ w.heap.size + 1 := by omega
    obtain ⟨am, ham⟩ : ∃ am, (sl.any (fun q => q.toList == z.toList)) = am := ⟨_, rfl⟩
    have HAm : Hid ((sl.any (fun q => q.toList == z.toList)) = am) := ham
    have hAm : ∀ W : World, Ws W sb 0 sl → Calls Tryz.prog 180 #[.string z, .slice (some ⟨sb, 0, none⟩) 4 sc] W fun e w' => e = .returned (.bool am) ∧ w' = W := by
      intro W hWW
      have := among_any z sb sc sl W (by omega) hWW
      rw [hsl, ham] at this
      exact this
    have HCa : Hid (∀ W : World, Ws W sb 0 sl → Calls Tryz.prog 180 #[.string z, .slice (some ⟨sb, 0, none⟩) 4 sc] W fun e w' => e = .returned (.bool am) ∧ w' = W) := hAm
    clear ham hAm
    go_wp2_with fail
    refine (HCa.out _ ?_).mono ?_
    · refine Ws.alloc ?_ _
      repeat (refine Ws.set ?_ (by simpa using hsg) _)
      exact hS4
    rintro e W5 ⟨rfl, rfl⟩
    clear HCa
    cases hoy : opdB y with
    | true =>
      go_wp2_with fail
      refine bodyPost_ret (v := .tuple #[.agg (rnCells (.slice (some ⟨g, off, none⟩) len cap) { n with a := ⟨va, co, wd⟩, b := ⟨va', co', wd'⟩, sign := z, ops := 2 }), .bool am]) (by simp [results, Tryz.results112, go_sem, rnCells, p1, q1, r1, r2]) rfl ⟨_, vb4, opdA (opdA vs x) y, am, rfl, (by show _ = _; rw [hok, hoy, HAm.out]; rfl), (fun _ => ⟨by rw [HO.out, HO'.out], rfl⟩), ?_, ?_, hn4''⟩
      · refine Rp.alloc ?_ _
        repeat (refine Rp.set ?_ (by simp; omega) (by first | simpa using hm1 | simpa using hm0) _)
        exact hP4
      · refine RF.trans ?_ (Or.inl rfl) (RF.alloc _ _)
        repeat (refine RF.set ?_ (by simp) _)
        exact hf4'
    | false =>
      go_wp2_with fail
      refine bodyPost_ret (v := .tuple #[.agg (rnCells (.slice (some ⟨g, off, none⟩) len cap) { n with a := ⟨va, co, wd⟩, b := ⟨va', co', wd'⟩, sign := z, ops := 2 }), .bool false]) (by simp [results, Tryz.results112, go_sem, rnCells, p1, q1, r1, r2]) rfl ⟨_, vb4, opdA (opdA vs x) y, false, rfl, (by show _ = _; rw [hok, hoy, HAm.out]; rfl), (fun _ => ⟨by rw [HO.out, HO'.out], rfl⟩), ?_, ?_, hn4''⟩
      · refine Rp.alloc ?_ _
        repeat (refine Rp.set ?_ (by simp; omega) (by first | simpa using hm1 | simpa using hm0) _)
        exact hP4
      · refine RF.trans ?_ (Or.inl rfl) (RF.alloc _ _)
        repeat (refine RF.set ?_ (by simp) _)
        exact hf4'
end Go.Proofs.YtmipbiligijcpaaGreatDoor
