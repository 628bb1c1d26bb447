/- A part of the proof: contracts of functions of the program. -/
import Derived.Test.YtmipbiligijcpaaGreatDoorA36
import Derived.Test.YtmipbiligijcpaaGreatDoorA32
namespace Go.Proofs.YtmipbiligijcpaaGreatDoor
set_option linter.unusedVariables false
set_option linter.unusedSimpArgs false
open Go.RowKit Go.Proofs Go.Maps

/-- what the document's run keeps: the trace's box, the rows of values, outputs, steps -/
structure DS (w W : World) (tb nv : Nat) (vals outs : List Int) (vv ov sv : Value) (stl : List Stp) : Prop where
  box : W.heap[tb]? = some (.cells #[.int .i64 0, ov, sv] 57 (0, 0))
  low : w.heap.size ≤ tb
  vrow : W.ownsRow w.heap.size 2 1 vv vals.length (vals.map (Value.int .i64))
  orow : W.ownsRow w.heap.size 2 1 ov outs.length (outs.map (Value.int .i64))
  ne : vv.ownBlock = none ∨ vv.ownBlock ≠ ov.ownBlock
  row : W.ownsRow w.heap.size 113 2 sv stl.length (stCells stl)
  each : ∀ s ∈ stl, W.ownsRow w.heap.size 2 1 s.2.1 s.2.2.length (s.2.2.map (Value.int .i64)) ∧ s.2.2.length = nv ∧ (s.2.1.ownBlock = none ∨ s.2.1.ownBlock ≠ vv.ownBlock) ∧ (s.2.1.ownBlock = none ∨ s.2.1.ownBlock ≠ ov.ownBlock)
  below : Below w.heap.size w W
  vlen : vals.length = nv
  olen : outs.length ≤ stl.length
theorem DS.lt {w W : World} {tb nv : Nat} {vals outs : List Int} {vv ov sv : Value} {stl : List Stp} (h : DS w W tb nv vals outs vv ov sv stl) : tb < W.heap.size := (Array.getElem?_eq_some_iff.1 h.box).1
theorem DS.up {w W W' : World} {tb nv : Nat} {vals outs : List Int} {vv ov sv : Value} {stl : List Stp} (h : DS w W tb nv vals outs vv ov sv stl) (hb : Below W.heap.size W W') : DS w W' tb nv vals outs vv ov sv stl :=
  ⟨(hb.block _ h.lt).trans h.box, h.low, own_of_below h.vrow hb, own_of_below h.orow hb, h.ne, own_of_below h.row hb, fun s hs => ⟨own_of_below (h.each s hs).1 hb, (h.each s hs).2⟩, h.below.trans (hb.mono h.below.size), h.vlen, h.olen⟩
theorem own_ne_tr {w : World} {tb B n e size : Nat} {v : Value} {xs : List Value} {cs : Array Value} (h : w.ownsRow B e size v n xs) (hb : w.heap[tb]? = some (.cells cs 57 (0, 0))) (he : e ≠ 57) : v.ownBlock = none ∨ v.ownBlock ≠ some tb := by
  cases hv : v.ownBlock with
  | none => exact Or.inl rfl
  | some k =>
    refine Or.inr (fun e0 => ?_)
    obtain ⟨c1, f1, h1⟩ := own_cells h k hv
    cases e0
    rw [h1] at hb
    simp at hb
    exact he hb.2.1
/-- a value is put -/
theorem DS.put {w W : World} {tb nv g cap k : Nat} {vals outs : List Int} {ov sv : Value} {stl : List Stp} (h : DS w W tb nv vals outs (.slice (some ⟨g, 0, none⟩) nv cap) ov sv stl) (x : Int) : DS w (W.setCell ⟨g, k, none⟩ (.int .i64 x)) tb nv (vals.set k x) outs (.slice (some ⟨g, 0, none⟩) nv cap) ov sv stl := by
  have hv := h.vrow
  rw [h.vlen] at hv
  obtain ⟨s1, s2⟩ := hv.stored k (.int .i64 x)
  have hne := own_ne_tr hv h.box (by decide)
  have hgt : g ≠ tb := by
    rcases hne with e | e
    · cases e
    · intro e2; exact e (by rw [e2]; rfl)
  have hgB := (hv.lt g rfl).1
  refine ⟨(Below.heap_setCell _ _ _ _ (fun e => hgt e.symm)).trans h.box, h.low, ?_, ?_, h.ne, ?_, ?_, ?_, by rw [List.length_set]; exact h.vlen, h.olen⟩
  · rw [List.length_set, List.map_set, h.vlen]; exact s1
  · refine h.orow.kept s2 ?_
    rcases h.ne with e | e
    · cases e
    · exact Or.inr (fun e2 => e (by rw [e2]; rfl))
  · exact h.row.kept s2 (by
      rcases own_ne_ty h.row hv (by decide) with e | e
      · exact Or.inl e
      · exact Or.inr e)
  · intro s hs
    obtain ⟨a1, a2, a3, a4⟩ := h.each s hs
    exact ⟨a1.kept s2 a3, a2, a3, a4⟩
  · exact h.below.setCell hgB _
/-- an output is added -/
theorem DS.out {w W W' W4 : World} {tb nv : Nat} {vals outs : List Int} {vv ov sv v4 : Value} {stl : List Stp} {y : Int} (h : DS w W tb nv vals outs vv ov sv stl) (hb : Below W.heap.size W W') (hg : W'.grownBy W4 ov.ownBlock) (ho : W4.ownsRow w.heap.size 2 1 v4 (outs.length + 1) (outs.map (Value.int .i64) ++ [.int .i64 y])) (hn : v4.ownBlock = ov.ownBlock ∨ v4.ownBlock = some W'.heap.size) (hl : outs.length < stl.length) : DS w (W4.setCell ⟨tb, 1, none⟩ v4) tb nv vals (outs ++ [y]) vv v4 sv stl := by
  have h2 := h.up hb
  have hset := grown_self W4 tb 1 v4
  have hbz := hb.size
  have hot : some tb ≠ ov.ownBlock := by
    rcases own_ne_tr h2.orow h2.box (by decide) with e | e
    · rw [e]; simp
    · exact fun e2 => e e2.symm
  have hb4 : W4.heap[tb]? = some (.cells #[.int .i64 0, ov, sv] 57 (0, 0)) := (hg.block tb h2.lt hot).trans h2.box
  have hnew : ∀ {u : Value} {n : Nat} {xs : List Value} {e size : Nat}, W.ownsRow w.heap.size e size u n xs → (u.ownBlock = none ∨ u.ownBlock ≠ ov.ownBlock) → (u.ownBlock = none ∨ u.ownBlock ≠ v4.ownBlock) := by
    intro u n xs e size hu hne
    rcases hn with e1 | e1
    · rw [e1]; exact hne
    · rw [e1]
      cases hv : u.ownBlock with
      | none => exact Or.inl rfl
      | some k => have := (hu.lt k hv).2; exact Or.inr (by simp; omega)
  refine ⟨?_, h.low, ?_, ?_, hnew h.vrow h.ne, ?_, ?_, ?_, h.vlen, by simp; omega⟩
  · rw [heap_setCell_same _ _ _ _ _ _ hb4]; rfl
  · have h4 := h2.vrow.kept hg h.ne
    exact h4.kept hset (own_ne_tr h4 hb4 (by decide))
  · rw [List.length_append, List.map_append]
    exact ho.kept hset (own_ne_tr ho hb4 (by decide))
  · have h4 := h2.row.kept hg (own_ne_ty h2.row h2.orow (by decide))
    exact h4.kept hset (own_ne_tr h4 hb4 (by decide))
  · intro s hs
    obtain ⟨a1, a2, a3, a4⟩ := h2.each s hs
    have h4 := a1.kept hg a4
    exact ⟨h4.kept hset (own_ne_tr h4 hb4 (by decide)), a2, a3, hnew (h.each s hs).1 a4⟩
  · refine ⟨hg.os.trans h2.below.os, hg.tape.trans h2.below.tape, hg.output.trans h2.below.output, by have := hg.size; have := h2.below.size; simp [World.setCell]; omega, fun k hk => ?_⟩
    refine (Below.heap_setCell _ _ _ _ (by have := h.low; show k ≠ tb; omega)).trans ((hg.block k (by have := h2.below.size; omega) ?_).trans (h2.below.block k hk))
    intro e
    have := (h2.orow.lt k e.symm).1
    omega
/-- a step is added -/
theorem DS.push {w W W' W4 : World} {tb nv k : Nat} {vals outs : List Int} {vv ov sv cv v4 : Value} {stl : List Stp} {o : Obj} (h : DS w W tb nv vals outs vv ov sv stl) (hb : Below W.heap.size W W') (hc : W'.ownsRow W.heap.size 2 1 cv nv (vals.map (Value.int .i64))) (hg : (W'.alloc o).grownBy W4 sv.ownBlock) (ho : W4.ownsRow w.heap.size 113 2 v4 (stl.length + 1) (stCells stl ++ [.int .i64 k, cv])) : DS w (W4.setCell ⟨tb, 2, none⟩ v4) tb nv vals outs vv ov v4 (stl ++ [(k, cv, vals)]) := by
  have hga : W'.grownBy W4 sv.ownBlock := (World.grownBy_alloc W' o _).trans hg
  have h2 := h.up hb
  have hset := grown_self W4 tb 2 v4
  have hwz := h.below.size
  have hst : some tb ≠ sv.ownBlock := by
    rcases own_ne_tr h2.row h2.box (by decide) with e | e
    · rw [e]; simp
    · exact fun e2 => e e2.symm
  have hb4 : W4.heap[tb]? = some (.cells #[.int .i64 0, ov, sv] 57 (0, 0)) := (hga.block tb h2.lt hst).trans h2.box
  have keep : ∀ {u : Value} {n : Nat} {xs : List Value}, W'.ownsRow w.heap.size 2 1 u n xs → (W4.setCell ⟨tb, 2, none⟩ v4).ownsRow w.heap.size 2 1 u n xs := by
    intro u n xs hu
    have h4 := hu.kept hga (own_ne_ty hu h2.row (by decide))
    exact h4.kept hset (own_ne_tr h4 hb4 (by decide))
  have hcn : ∀ {u : Value} {n : Nat} {xs : List Value}, W.ownsRow w.heap.size 2 1 u n xs → (cv.ownBlock = none ∨ cv.ownBlock ≠ u.ownBlock) := by
    intro u n xs hu
    cases hv : cv.ownBlock with
    | none => exact Or.inl rfl
    | some q =>
      have h1 := (hc.lt q hv).1
      refine Or.inr (fun e => ?_)
      have := (hu.lt q e.symm).2
      omega
  refine ⟨?_, h.low, keep h2.vrow, keep h2.orow, h.ne, ?_, ?_, ?_, h.vlen, by have := h.olen; simp; omega⟩
  · rw [heap_setCell_same _ _ _ _ _ _ hb4]; rfl
  · rw [stCells_snoc, List.length_append]
    exact ho.kept hset (own_ne_tr ho hb4 (by decide))
  · intro s hs
    rcases List.mem_append.1 hs with hs | hs
    · obtain ⟨a1, a2, a3, a4⟩ := h2.each s hs
      exact ⟨keep a1, a2, a3, a4⟩
    · simp only [List.mem_singleton] at hs
      subst hs
      refine ⟨?_, h.vlen, hcn h.vrow, hcn h.orow⟩
      have := keep (own_mono hc hwz)
      rw [← h.vlen] at this
      exact this
  · refine ⟨hga.os.trans h2.below.os, hga.tape.trans h2.below.tape, hga.output.trans h2.below.output, by have := hga.size; have := h2.below.size; simp [World.setCell]; omega, fun j hj => ?_⟩
    refine (Below.heap_setCell _ _ _ _ (by have := h.low; show j ≠ tb; omega)).trans ((hga.block j (by have := h2.below.size; omega) ?_).trans (h2.below.block j hj))
    intro e
    have := (h.row.lt j e.symm).1
    omega
/-- what the document's Run answers -/
def DocAns (w : World) (r : Int × (Int × List Int × List (Nat × List Int)) × Nat) (e : Ending) (w' : World) : Prop :=
  Below w.heap.size w w' ∧ ∃ oa oc sa sc stl, e = .returned (.tuple #[.agg #[.int .i64 r.2.1.1, .slice oa r.2.1.2.1.length oc, .slice sa stl.length sc], .int .i64 r.1]) ∧ w'.ownsRow w.heap.size 2 1 (.slice oa r.2.1.2.1.length oc) r.2.1.2.1.length (r.2.1.2.1.map (Value.int .i64)) ∧ w'.ownsRow w.heap.size 113 2 (.slice sa stl.length sc) stl.length (stCells stl) ∧ stOf stl = r.2.1.2.2 ∧ (∀ s ∈ stl, w'.ownsRow w.heap.size 2 1 s.2.1 s.2.2.length (s.2.2.map (Value.int .i64)))
end Go.Proofs.YtmipbiligijcpaaGreatDoor
namespace Go.Proofs.YtmipbiligijcpaaGreatDoor
set_option linter.unusedVariables false
set_option linter.unusedSimpArgs false
open Go.RowKit Go.Proofs Go.Maps

set_option maxHeartbeats 800000 in
theorem worked_any (sg : ByteArray) (a b : Int) (w : World) (h : Wm.opB sg.data.toList = true) :
    Calls Tryz.prog 56 #[.string sg, .int .i64 a, .int .i64 b] w fun e w' => e = .returned (.tuple #[.int .i64 (opVal (Wm.opN sg.data.toList) a b), .bool (opOk (Wm.opN sg.data.toList) b)]) ∧ w' = w := by
  rw [← ByteArray.toList_eq] at h ⊢
  have ht : a.tdiv (-1) = -a := by rw [Int.tdiv_neg, Int.tdiv_one]
  have HT : Hid (a.tdiv (-1) = -a) := ht
  have HH : Hid (Wm.opB sg.toList = true) := h
  clear ht h
  by_cases hb : b = 0
  · subst hb
    go_enter Tryz.func56, Tryz.ntmps56
    go_wp2
    all_goals
      go_ret2
      have hh := HH.out
      refine ⟨ret_ib ?_ ?_, rfl⟩ <;> simp_all [opVal, opOk, Wm.opN, Wm.opB, wrap0]
  · have h0 : (b == 0) = false := by simp [hb]
    by_cases hm : b = -1
    · subst hm
      go_enter Tryz.func56, Tryz.ntmps56
      go_wp2
      all_goals
        go_ret2
        have hh := HH.out
        have ht := HT.out
        refine ⟨ret_ib ?_ ?_, rfl⟩ <;> simp_all [opVal, opOk, Wm.opN, Wm.opB, wrap0]
    · have h1 : (b == -1) = false := by simp [hm]
      go_enter Tryz.func56, Tryz.ntmps56
      go_wp2
      all_goals
        go_ret2
        have hh := HH.out
        refine ⟨ret_ib ?_ ?_, rfl⟩ <;> simp_all [opVal, opOk, Wm.opN, Wm.opB, wrap0]
set_option maxHeartbeats 800000 in
theorem so_any (sg : ByteArray) (a b : Int) (w : World) (h : Wm.tsB sg.data.toList = true) :
    Calls Tryz.prog 55 #[.string sg, .int .i64 a, .int .i64 b] w fun e w' => e = .returned (.bool (tsSo (Wm.tsN sg.data.toList) a b)) ∧ w' = w := by
  rw [← ByteArray.toList_eq] at h ⊢
  have HH : Hid (Wm.tsB sg.toList = true) := h
  clear h
  go_enter Tryz.func55, Tryz.ntmps55
  go_wp2
  all_goals
    go_ret
    have hh := HH.out
    refine ⟨ret_bool ?_, rfl⟩ <;> simp_all [tsSo, Wm.tsN, Wm.tsB]
  · exact le_split a b
  · omega
end Go.Proofs.YtmipbiligijcpaaGreatDoor
