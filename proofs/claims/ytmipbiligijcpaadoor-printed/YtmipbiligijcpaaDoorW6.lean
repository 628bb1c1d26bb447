/- the if line that is one. -/
import Derived.Test.YtmipbiligijcpaaDoorW5
import Derived.BigRegion
namespace Go.Proofs.YtmipbiligijcpaaDoor
set_option linter.unusedVariables false
set_option linter.unusedSimpArgs false
open Go.RowKit Go.Proofs Go.Maps

theorem Rd.drew {w : World} {rb mb : Nat} {vs : List Nam} (h : Rd w rb mb vs) : Rd w.drew rb mb vs := ⟨h.box, h.own, h.nodup⟩
theorem grown_drew {a w : World} {row : Option Nat} (h : a.grownBy w row) : a.grownBy w.drew row := ⟨h.os, h.tape, h.output, h.size, h.block⟩
set_option maxHeartbeats 8000000 in
theorem readIf_yes (rb mb g off cap : Nat) (w0 w1 w2 w3 w4 w5 : ByteArray) (vs : List Nam) (w : World) (hs1 : w1.size ≤ 3000) (hs3 : w3.size ≤ 3000) (hs5 : w5.size ≤ maxLen) (hn : vs.length + 1 < maxLen) (hR : Rd w rb mb vs) (hG : Glob w) (hW : Ws w g off [w0, w1, w2, w3, w4, w5]) (h4 : (w4.toList == [103, 111, 116, 111]) = true) :
    Calls Tryd.prog 45 #[.pointer (some ⟨rb, 0, none⟩), .slice (some ⟨g, off, none⟩) 6 cap] w fun e w' =>
      e = .returned (.tuple #[snV ⟨4, 0, 0, Wm.tsN w2.data.toList, opd vs w1, opd (opdA vs w1) w3, w5⟩, .bool (opdB w1 && Wm.tsB w2.data.toList && opdB w3 && Wm.nm w5)]) ∧ Rd w' rb mb (opdA (opdA vs w1) w3) ∧ w.grownBy w' (some mb) := by
  have hc4 := hW.cell 4 w4 rfl
  have hc1 := hW.cell 1 w1 rfl
  have hg := hW.lt
  have hm := hR.lt
  have hr := hR.ltr
  have hn1 : vs.length < maxLen := by omega
  have hn2 : (opdA vs w1).length < maxLen := by have := opdA_len vs w1; omega
  go_enter Tryd.func45, Tryd.ntmps45
  go_wp2_with (first
    | (go_at_call_of 55 (Value.string w1); refine (operand_D w1 rb mb vs _ hs1 hn1 (hR.alloc _) (hG.alloc _)).mono ?_; rintro e W2 ⟨iv, va, co, rfl, HO, hR1, hg1⟩; have hbx := box_grown hg1 (fun k e => by cases e; exact hR.lt); obtain ⟨hx1, hx2⟩ := box_cells hbx; have hz : w.heap.size < W2.heap.size := (Array.getElem?_eq_some_iff.1 hbx).1; have hW1 := (hW.alloc _).grown (hR.alloc _).isMap hg1; have hG1 := (hG.alloc _).grown (hR.alloc _) hg1; have hd2 := hW1.cell 2 w2 rfl; have hd3 := hW1.cell 3 w3 rfl; have hgz := hW1.lt)
    | (go_at_call_of 55 (Value.string w3); refine (operand_D w3 rb mb (opdA vs w1) _ hs3 hn2 (hR1.alloc _) (hG1.alloc _)).mono ?_; rintro e W4 ⟨iv', va', co', rfl, HO', hR2, hg2⟩; have hby := kept_cells (kept_alloc hbx _) (hR1.alloc _).isMap hg2; obtain ⟨hy1, hy2⟩ := box_cells hby; have hbz := box_grown hg2 (fun k e => by cases e; exact hR1.lt); obtain ⟨hz1, hz2⟩ := box_cells hbz; have hz' : W2.heap.size < W4.heap.size := (Array.getElem?_eq_some_iff.1 hbz).1; have hW2 := (hW1.alloc _).grown (hR1.alloc _).isMap hg2; have hd5 := hW2.cell 5 w5 rfl; have hgz2 := hW2.lt)
    | (go_at_call 56; refine (parseTest_any _ _).mono ?_; rintro e w' ⟨rfl, rfl⟩))
  clear hc4 hc1 hd2 hd3 hx1 hx2 hbx h4 hW1 hG1 hW2 hy1 hy2
  have hlt2 : w.heap.size < W4.heap.size := by omega
  obtain ⟨W5, hW5⟩ : ∃ W5, W4.alloc (.cells #[.bool iv', .int .i64 va', .int .i64 co'] 55) = W5 := ⟨_, rfl⟩
  rw [hW5]
  have b1 := kept_alloc hby (.cells #[.bool iv', .int .i64 va', .int .i64 co'] 55)
  have b2 := kept_alloc hbz (.cells #[.bool iv', .int .i64 va', .int .i64 co'] 55)
  have b3 : (W4.alloc (.cells #[.bool iv', .int .i64 va', .int .i64 co'] 55)).heap[W4.heap.size]? = some (.cells #[.bool iv', .int .i64 va', .int .i64 co'] 55 (0, 0)) := heap_alloc_new _ _
  rw [hW5] at b1 b2 b3
  have HW : Hid (W4.alloc (.cells #[.bool iv', .int .i64 va', .int .i64 co'] 55) = W5) := hW5
  clear hW5 hz1 hz2 hby hbz hW hs1 hs3
  obtain ⟨x1, x2⟩ := box_cells b1
  obtain ⟨y1, y2⟩ := box_cells b2
  obtain ⟨z1, z2⟩ := box_cells b3
  clear b1 b2 b3
  have n1 : w.heap.size ≠ W2.heap.size := by omega
  have n2 : W2.heap.size ≠ w.heap.size := by omega
  have n3 : w.heap.size ≠ W4.heap.size := by omega
  have n4 : W4.heap.size ≠ w.heap.size := by omega
  have hR5 : Rd W5 rb mb (opdA (opdA vs w1) w3) := by have := hR2.alloc (.cells #[.bool iv', .int .i64 va', .int .i64 co'] 55); rw [HW.out] at this; exact this
  have hg5 : w.grownBy W5 (some mb) := by
    have := (grown_of_alloc hg1).trans ((grown_of_alloc hg2).trans (World.grownBy_alloc W4 (.cells #[.bool iv', .int .i64 va', .int .i64 co'] 55) (some mb)))
    rw [HW.out] at this; exact this
  have HG5 : Hid (w.grownBy W5 (some mb)) := hg5
  clear hg5 hR1 hR2 hg1 hg2 HW hd5 hR hG hn hn1 hn2 hgz hgz2
  cases hB1 : opdB w1
  case false =>
    go_region
    go_wp2
    refine bodyPost_ret (v := .tuple #[snV ⟨4, 0, 0, Wm.tsN w2.data.toList, ⟨iv, va, co⟩, ⟨iv', va', co'⟩, w5⟩, .bool (opdB w1 && Wm.tsB w2.data.toList && opdB w3 && Wm.nm w5)]) (by simp [results, Tryd.results45, go_sem, snV, snCells, emp, nilS, x1, hB1]) rfl ⟨by rw [HO.out, HO'.out], ?_, ?_⟩
    · refine Rd.drew ?_
      repeat (refine Rd.set ?_ (by simp; omega) (by simp; omega) _)
      exact hR5
    · refine grown_drew ?_
      repeat (refine grown_set ?_ (Nat.le_refl _) _)
      exact HG5.out
  case true =>
  cases hB2 : Wm.tsB w2.data.toList
  case false =>
    go_region
    go_wp2
    refine bodyPost_ret (v := .tuple #[snV ⟨4, 0, 0, Wm.tsN w2.data.toList, ⟨iv, va, co⟩, ⟨iv', va', co'⟩, w5⟩, .bool (opdB w1 && Wm.tsB w2.data.toList && opdB w3 && Wm.nm w5)]) (by simp [results, Tryd.results45, go_sem, snV, snCells, emp, nilS, x1, hB1, hB2]) rfl ⟨by rw [HO.out, HO'.out], ?_, ?_⟩
    · refine Rd.drew ?_
      repeat (refine Rd.set ?_ (by simp; omega) (by simp; omega) _)
      exact hR5
    · refine grown_drew ?_
      repeat (refine grown_set ?_ (Nat.le_refl _) _)
      exact HG5.out
  case true =>
  cases hB3 : opdB w3
  case false =>
    go_region
    go_wp2
    refine bodyPost_ret (v := .tuple #[snV ⟨4, 0, 0, Wm.tsN w2.data.toList, ⟨iv, va, co⟩, ⟨iv', va', co'⟩, w5⟩, .bool (opdB w1 && Wm.tsB w2.data.toList && opdB w3 && Wm.nm w5)]) (by simp [results, Tryd.results45, go_sem, snV, snCells, emp, nilS, x1, hB1, hB2, hB3]) rfl ⟨by rw [HO.out, HO'.out], ?_, ?_⟩
    · refine Rd.drew ?_
      repeat (refine Rd.set ?_ (by simp; omega) (by simp; omega) _)
      exact hR5
    · refine grown_drew ?_
      repeat (refine grown_set ?_ (Nat.le_refl _) _)
      exact HG5.out
  case true =>
    go_region_held3 (fun w' => w'.cell? ⟨W2.heap.size, 0, none⟩ = some (.bool iv) ∧ w'.cell? ⟨W2.heap.size, 1, none⟩ = some (.int .i64 va) ∧ w'.cell? ⟨W2.heap.size, 2, none⟩ = some (.int .i64 co) ∧ w'.cell? ⟨W4.heap.size, 0, none⟩ = some (.bool iv') ∧ w'.cell? ⟨W4.heap.size, 1, none⟩ = some (.int .i64 va') ∧ w'.cell? ⟨W4.heap.size, 2, none⟩ = some (.int .i64 co')) (go_keep) ((go_at_call 27; refine (isName_any _ _ hs5).mono ?_; rintro e w' ⟨rfl, rfl⟩))
    go_wp2
    refine bodyPost_ret (v := .tuple #[snV ⟨4, 0, 0, Wm.tsN w2.data.toList, ⟨iv, va, co⟩, ⟨iv', va', co'⟩, w5⟩, .bool (opdB w1 && Wm.tsB w2.data.toList && opdB w3 && Wm.nm w5)]) (by simp [results, Tryd.results45, go_sem, snV, snCells, emp, nilS, x1, hB1, hB2, hB3]) rfl ⟨by rw [HO.out, HO'.out], ?_, ?_⟩
    · refine Rd.drew ?_
      repeat (refine Rd.set ?_ (by simp; omega) (by simp; omega) _)
      exact hR5
    · refine grown_drew ?_
      repeat (refine grown_set ?_ (Nat.le_refl _) _)
      exact HG5.out
end Go.Proofs.YtmipbiligijcpaaDoor
