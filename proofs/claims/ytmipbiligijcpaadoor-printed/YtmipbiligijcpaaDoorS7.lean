/- A run. -/
import Derived.Test.YtmipbiligijcpaaDoorS6
import Derived.OwnWalk
namespace Go.Proofs.YtmipbiligijcpaaDoor
set_option linter.unusedVariables false
set_option linter.unusedSimpArgs false
open Go.RowKit Go.Proofs Go.Maps

abbrev Stp := Nat × Value × List Int
def stCells (l : List Stp) : List Value := l.flatMap fun s => [.int .i64 s.1, s.2.1]
theorem stCells_snoc (l : List Stp) (s : Stp) : stCells (l ++ [s]) = stCells l ++ [.int .i64 s.1, s.2.1] := by simp [stCells]
def stOf (l : List Stp) : List (Nat × List Int) := l.map fun s => (s.1, s.2.2)
/-- a run of at most so many nodes: how it ends, outputs, steps -/
def runF (pl : List PN) (ps : List (Nam × Nat)) : Nat → Nat → List Int → List Int → List Int → List (Nat × List Int) → Int × List Int × List (Nat × List Int)
  | 0, _, _, _, outs, st => (4, outs, st)
  | f + 1, k, vals, ins, outs, st =>
    match pl[k]? with
    | none => (4, outs, st ++ [(k, vals)])
    | some p =>
      if (vis p.n vals ins outs).1 = 0 then
        runF pl ps f ((edgK ps p.nc k).getD (edgN p.n (vis p.n vals ins outs).2.1).toNat 0).toNat (vis p.n vals ins outs).2.1 (vis p.n vals ins outs).2.2.1 (vis p.n vals ins outs).2.2.2 (st ++ [(k, vals)])
      else ((vis p.n vals ins outs).1, (vis p.n vals ins outs).2.2.2, st ++ [(k, vals)])
/-- the program fits: its variables are there, its edges lead to nodes -/
structure Fit (pl : List PN) (ps : List (Nam × Nat)) (nv : Nat) : Prop where
  nin : ∀ p ∈ pl, NIn nv p.n
  edge : ∀ (j : Nat) (p : PN) (vals : List Int), pl[j]? = some p → p.n.kind ≠ 6 → ∃ t : Nat, (edgK ps p.nc j)[(edgN p.n vals).toNat]? = some (t : Int) ∧ t < pl.length
structure RunS (w W : World) (sb nv : Nat) (vals ins outs : List Int) (vv iv ov sv : Value) (stl : List Stp) : Prop where
  ms : MS W sb w.heap.size vals ins outs vv iv ov
  row : W.ownsRow w.heap.size 43 2 sv stl.length (stCells stl)
  each : ∀ s ∈ stl, W.ownsRow w.heap.size 2 1 s.2.1 s.2.2.length (s.2.2.map (Value.int .i64)) ∧ s.2.2.length = nv ∧ ∃ q, s.2.1.ownBlock = some q ∧ some q ≠ vv.ownBlock ∧ some q ≠ ov.ownBlock
  nodup : (stl.map fun s => s.2.1.ownBlock).Nodup
  low : Below w.heap.size w W
  vlen : vals.length = nv
  olen : outs.length ≤ stl.length
def lenOf (v : Value) : Nat := match v with | .slice _ n _ => n | _ => 0
/-- what a run's call answers -/
def RnAns (w : World) (nv : Nat) (r : Int × List Int × List (Nat × List Int)) (e : Ending) (w' : World) : Prop :=
  Below w.heap.size w w' ∧ ∃ ov sv stl, e = .returned (.agg #[.int .i64 r.1, ov, sv]) ∧ w'.ownsRow w.heap.size 2 1 ov r.2.1.length (r.2.1.map (Value.int .i64)) ∧ w'.ownsRow w.heap.size 43 2 sv stl.length (stCells stl) ∧ stOf stl = r.2.2 ∧ (∀ s ∈ stl, w'.ownsRow w.heap.size 2 1 s.2.1 s.2.2.length (s.2.2.map (Value.int .i64)) ∧ s.2.2.length = nv ∧ ∃ q, s.2.1.ownBlock = some q ∧ some q ≠ ov.ownBlock) ∧ (stl.map fun s => s.2.1.ownBlock).Nodup
theorem infoStep : (Tryd.prog.info? 43).map (fun i => (i.zero, i.size, i.bytes)) = some (some (.agg #[.int .i64 0, .slice none 0 0]), 2, 32) := by kernel_rfl
theorem RunS.below {w W W' : World} {sb nv : Nat} {vals ins outs : List Int} {vv iv ov sv : Value} {stl : List Stp} (h : RunS w W sb nv vals ins outs vv iv ov sv stl) (hb : Below W.heap.size W W') : RunS w W' sb nv vals ins outs vv iv ov sv stl :=
  ⟨h.ms.below hb, own_of_below h.row hb, fun s hs => ⟨own_of_below (h.each s hs).1 hb, (h.each s hs).2⟩, h.nodup, h.low.trans (hb.mono h.low.size), h.vlen, h.olen⟩
theorem own_vf {w w' : World} {sb : Nat} {a b : Option Nat} {B e size n : Nat} {v : Value} {xs : List Value} (h : w.ownsRow B e size v n xs) (hf : VF sb a b w w') (h0 : v.ownBlock = none ∨ v.ownBlock ≠ some sb) (h1 : v.ownBlock = none ∨ v.ownBlock ≠ a) (h2 : v.ownBlock = none ∨ v.ownBlock ≠ b) : w'.ownsRow B e size v n xs := by
  have hlt := h.lt
  refine ⟨h.1, ?_⟩
  rcases h.2 with e0 | ⟨g, cap, cur, e1, c1, c2, c3⟩
  · exact Or.inl e0
  · subst e1
    refine Or.inr ⟨g, cap, cur, rfl, c1, (hf.block g (hlt g rfl).2 ?_ ?_ ?_).trans c2, c3⟩
    · rcases h0 with h | h
      · cases h
      · intro e; exact h (by rw [e]; rfl)
    · rcases h1 with h | h
      · cases h
      · exact h
    · rcases h2 with h | h
      · cases h
      · exact h
theorem own_ne_st {w : World} {sb B n : Nat} {v : Value} {xs : List Value} {cs : Array Value} (h : w.ownsRow B 43 2 v n xs) (hb : w.heap[sb]? = some (.cells cs 72 (0, 0))) : v.ownBlock = none ∨ v.ownBlock ≠ some sb := by
  cases hv : v.ownBlock with
  | none => exact Or.inl rfl
  | some k =>
    refine Or.inr (fun e => ?_)
    obtain ⟨c1, f1, h1⟩ := own_cells h k hv
    cases e
    rw [h1] at hb
    simp at hb
theorem MS.grown {w W4 : World} {sb B n : Nat} {vals ins outs : List Int} {vv iv ov sv : Value} {xs : List Value} (h : MS w sb B vals ins outs vv iv ov) (hs : w.ownsRow B 43 2 sv n xs) (hg : w.grownBy W4 sv.ownBlock) : MS W4 sb B vals ins outs vv iv ov := by
  have h1 := own_ne_st hs h.box
  refine ⟨(hg.block sb h.lt ?_).trans h.box, h.low, h.vals.kept hg (own_ne_ty h.vals hs (by decide)), h.ins.mono (fun k hk => hg.block k (by have := h.lt; have := h.low; omega) ?_), h.outs.kept hg (own_ne_ty h.outs hs (by decide)), h.ne⟩
  · rcases h1 with e | e
    · rw [e]; simp
    · exact fun e2 => e e2.symm
  · intro e
    have := (hs.lt k e.symm).1
    omega
theorem RunS.push {w Wr W W4 : World} {sb nv k q : Nat} {vals ins outs : List Int} {vv iv ov sv cv sv4 : Value} {stl : List Stp} {o : Obj} (h : RunS w Wr sb nv vals ins outs vv iv ov sv stl) (hb : Below Wr.heap.size Wr W) (hc : W.ownsRow Wr.heap.size 2 1 cv nv (vals.map (Value.int .i64))) (hq : cv.ownBlock = some q) (hqz : Wr.heap.size ≤ q) (hg : (W.alloc o).grownBy W4 sv.ownBlock) (ho : W4.ownsRow w.heap.size 43 2 sv4 (stl.length + 1) (stCells stl ++ [.int .i64 k, cv])) : RunS w W4 sb nv vals ins outs vv iv ov sv4 (stl ++ [(k, cv, vals)]) ∧ outs.length + 1 ≤ (stl ++ [((k, cv, vals) : Stp)]).length := by
  have hga : W.grownBy W4 sv.ownBlock := (World.grownBy_alloc W o _).trans hg
  have h2 := h.below hb
  have hz := h.low.size
  have hbz := hb.size
  refine ⟨⟨h2.ms.grown h2.row hga, ?_, ?_, ?_, ?_, h.vlen, by have := h.olen; simp; omega⟩, by have := h.olen; simp; omega⟩
  · rw [stCells_snoc, List.length_append]; exact ho
  · intro s hs
    rcases List.mem_append.1 hs with hs | hs
    · obtain ⟨a1, a2, a3⟩ := h2.each s hs
      exact ⟨a1.kept hga (own_ne_ty a1 h2.row (by decide)), a2, a3⟩
    · simp only [List.mem_singleton] at hs
      subst hs
      refine ⟨?_, h.vlen, q, hq, ?_, ?_⟩
      · have := (own_mono hc hz).kept hga (own_ne_ty hc h2.row (by decide))
        rw [← h.vlen] at this
        exact this
      · intro e; have := (h.ms.vals.lt q e.symm).2; omega
      · intro e; have := (h.ms.outs.lt q e.symm).2; omega
  · rw [List.map_append, List.nodup_append]
    refine ⟨h.nodup, by simp, ?_⟩
    intro a ha b hb2 e
    simp only [List.map_cons, List.map_nil, List.mem_singleton] at hb2
    subst hb2
    obtain ⟨s, hs, rfl⟩ := List.mem_map.1 ha
    obtain ⟨a1, _, q', hq', _⟩ := h.each s hs
    have e' : s.2.1.ownBlock = cv.ownBlock := e
    rw [hq', hq] at e'
    cases e'
    have := (a1.lt _ hq').2
    omega
  · refine ⟨hga.os.trans h2.low.os, hga.tape.trans h2.low.tape, hga.output.trans h2.low.output, Nat.le_trans h2.low.size hga.size, fun j hj => (hga.block j (by omega) ?_).trans (h2.low.block j hj)⟩
    intro e
    have := (h.row.lt j e.symm).1
    omega
theorem RunS.visited {w W W5 : World} {sb nv : Nat} {vals ins outs vals' ins' outs' : List Int} {vv iv ov sv iv' ov' : Value} {stl : List Stp} (h : RunS w W sb nv vals ins outs vv iv ov sv stl) (hf : VF sb vv.ownBlock ov.ownBlock W W5) (hm : MS W5 sb w.heap.size vals' ins' outs' vv iv' ov') (hn : ov'.ownBlock = ov.ownBlock ∨ ∃ q, ov'.ownBlock = some q ∧ W.heap.size ≤ q) (hv : vals'.length = vals.length) (ho : outs'.length ≤ stl.length) : RunS w W5 sb nv vals' ins' outs' vv iv' ov' sv stl := by
  have hz := h.low.size
  refine ⟨hm, own_vf h.row hf (own_ne_st h.row h.ms.box) (own_ne_ty h.row h.ms.vals (by decide)) (own_ne_ty h.row h.ms.outs (by decide)), ?_, h.nodup, ?_, hv.trans h.vlen, ho⟩
  · intro s hs
    obtain ⟨a1, a2, q, a3, a4, a5⟩ := h.each s hs
    refine ⟨own_vf a1 hf (own_ne_sb a1 h.ms.box) (Or.inr (by rw [a3]; exact a4)) (Or.inr (by rw [a3]; exact a5)), a2, q, a3, a4, ?_⟩
    rcases hn with e | ⟨q', e, hq'⟩
    · rw [e]; exact a5
    · rw [e]
      have := (a1.lt q a3).2
      simp; omega
  · refine ⟨hf.os.trans h.low.os, hf.tape.trans h.low.tape, hf.output.trans h.low.output, Nat.le_trans hz hf.size, fun j hj => (hf.block j (by omega) (by have := h.ms.low; omega) ?_ ?_).trans (h.low.block j hj)⟩
    · intro e; have := (h.ms.vals.lt j e.symm).1; omega
    · intro e; have := (h.ms.outs.lt j e.symm).1; omega
theorem RunS.answer {w w2 W : World} {sb nv : Nat} {vals ins outs : List Int} {vv iv ov sv : Value} {stl : List Stp} (h : RunS w2 W sb nv vals ins outs vv iv ov sv stl) (hw : Below w.heap.size w w2) (hz : w2.heap.size = w.heap.size + 2) (a b c : Value) (en : Int) : RnAns w nv (en, outs, stOf stl) (.returned (.agg #[.int .i64 en, ov, sv])) (((W.setCell ⟨w.heap.size + 1, 0, none⟩ a).setCell ⟨w.heap.size + 1, 1, none⟩ b).setCell ⟨w.heap.size + 1, 2, none⟩ c) := by
  have hlow := hw.trans (h.low.mono hw.size)
  have keep : ∀ {e size n : Nat} {v : Value} {xs : List Value}, W.ownsRow w2.heap.size e size v n xs → (((W.setCell ⟨w.heap.size + 1, 0, none⟩ a).setCell ⟨w.heap.size + 1, 1, none⟩ b).setCell ⟨w.heap.size + 1, 2, none⟩ c).ownsRow w.heap.size e size v n xs := fun ho =>
    own_mono (ownsRow_setCell_below (ownsRow_setCell_below (ownsRow_setCell_below ho (by show w.heap.size + 1 < _; omega) a) (by show w.heap.size + 1 < _; omega) b) (by show w.heap.size + 1 < _; omega) c) (by omega)
  refine ⟨((hlow.setCell (by show w.heap.size ≤ w.heap.size + 1; omega) _).setCell (by show w.heap.size ≤ w.heap.size + 1; omega) _).setCell (by show w.heap.size ≤ w.heap.size + 1; omega) _, ov, sv, stl, rfl, keep h.ms.outs, keep h.row, rfl, ?_, h.nodup⟩
  intro s hs
  obtain ⟨a1, a2, q, a3, _, a5⟩ := h.each s hs
  exact ⟨keep a1, a2, q, a3, a5⟩
theorem runF_step {pl : List PN} {ps : List (Nam × Nat)} {fuel n k : Nat} {vals ins outs : List Int} {st : List (Nat × List Int)} {p : PN} (hp : pl[k]? = some p) (hn : n < fuel) : runF pl ps (fuel - n) k vals ins outs st = if (vis p.n vals ins outs).1 = 0 then runF pl ps (fuel - (n + 1)) ((edgK ps p.nc k).getD (edgN p.n (vis p.n vals ins outs).2.1).toNat 0).toNat (vis p.n vals ins outs).2.1 (vis p.n vals ins outs).2.2.1 (vis p.n vals ins outs).2.2.2 (st ++ [(k, vals)]) else ((vis p.n vals ins outs).1, (vis p.n vals ins outs).2.2.2, st ++ [(k, vals)]) := by
  rw [show fuel - n = (fuel - (n + 1)) + 1 by omega, runF]
  simp only [hp]
theorem stOf_snoc (l : List Stp) (s : Stp) : stOf (l ++ [s]) = stOf l ++ [(s.1, s.2.2)] := by simp [stOf]
theorem edgN_nn (n : SN) (vals : List Int) : 0 ≤ edgN n vals := by unfold edgN; split <;> simp
theorem vis_return {n : SN} {vals ins outs : List Int} (h : (vis n vals ins outs).1 = 0) : n.kind ≠ 6 := by
  intro e
  unfold vis at h
  simp [e] at h
theorem vis_vals (n : SN) (vals ins outs : List Int) : (vis n vals ins outs).2.1.length = vals.length ∧ (vis n vals ins outs).2.2.2.length ≤ outs.length + 1 := by
  unfold vis
  repeat' split
  all_goals simp
set_option maxHeartbeats 4000000 in
set_option maxRecDepth 100000 in
theorem mrun_any (g cap nv : Nat) (ia : Option Addr) (ic : Nat) (ins : List Int) (fuel : Nat) (nl : List NC) (pl : List PN) (ps : List (Nam × Nat)) (w : World) (h8 : nv ≤ 8) (hf : fuel ≤ 2000) (h0 : 0 < pl.length) (h60 : pl.length ≤ 60) (hN : Nrow w g cap nl) (hR : Reps w nl pl) (hE : ∀ (j : Nat) (c : NC) (p : PN), nl[j]? = some c → pl[j]? = some p → Er w c.ev (edgK ps p.nc j)) (hF : Fit pl ps nv) (hI : InL w w.heap.size (.slice ia ins.length ic) ins) :
    Calls Tryd.prog 11 #[.agg #[.slice (some ⟨g, 0, none⟩) pl.length cap, .int .i64 nv], .slice ia ins.length ic, .int .i64 fuel] w (RnAns w nv (runF pl ps fuel 0 (List.replicate nv 0) ins [] [])) := by
  obtain ⟨i1, hi, hz0, hz1, hz2⟩ := info_parts info64
  have HI : Hid (Tryd.prog.info? 2 = some i1 ∧ i1.zero = some (.int .i64 0) ∧ i1.size = 1 ∧ i1.bytes = 8) := ⟨hi, hz0, hz1, hz2⟩
  clear hi hz0 hz1 hz2
  obtain ⟨i2, hi, hz0, hz1, hz2⟩ := info_parts infoStep
  have HI2 : Hid (Tryd.prog.info? 43 = some i2 ∧ i2.zero = some (.agg #[.int .i64 0, .slice none 0 0]) ∧ i2.size = 2 ∧ i2.bytes = 32) := ⟨hi, hz0, hz1, hz2⟩
  clear hi hz0 hz1 hz2
  go_enter Tryd.func11, Tryd.ntmps11
  go_wp2_with (at_make; refine wpList_make_full _ rfl (.tmp 13) (.tmp 13) 22 rfl (w.heap.size + 2) 2 i1 (.int .i64 0) 1 Tryd.underlying22 HI.out.1 HI.out.2.1 HI.out.2.2.1 .i64 .i64 nv nv nv rfl rfl rfl rfl (by rw [HI.out.2.2.2]; omega) (by unfold maxLen; omega) (by simp) ?_; intro W1 hown1 hgrow1)
  obtain ⟨w2, hw2⟩ : ∃ w2, w2 = (w.alloc (.cells #[.slice (some ⟨g, 0, none⟩) pl.length cap, .int .i64 nv] 37)).alloc (.cells #[.int .i64 0, .slice none 0 0, .slice none 0 0] 29) := ⟨_, rfl⟩
  rw [← hw2] at hgrow1 hown1
  have hz2 : w2.heap.size = w.heap.size + 2 := by rw [hw2]; simp
  have HW2 : Hid (Below w.heap.size w w2 ∧ w2.heap[w.heap.size]? = some (.cells #[.slice (some ⟨g, 0, none⟩) pl.length cap, .int .i64 nv] 37 (0, 0)) ∧ w2.heap[w.heap.size + 1]? = some (.cells #[.int .i64 0, .slice none 0 0, .slice none 0 0] 29 (0, 0)) ∧ Nrow w2 g cap nl ∧ Reps w2 nl pl ∧ (∀ (j : Nat) (c : NC) (p : PN), nl[j]? = some c → pl[j]? = some p → Er w2 c.ev (edgK ps p.nc j))) := by
    subst hw2
    refine ⟨((Below.refl _ _).alloc (Nat.le_refl _) _).alloc (by simp) _, (alloc2 w _ _).1, (alloc2 w _ _).2, (hN.alloc _).alloc _, reps_alloc (reps_alloc hR _) _, fun j c p a b => ?_⟩
    exact (hE j c p a b).of_below (((Below.refl _ _).alloc (Nat.le_refl _) _).alloc (by simp) _)
  have hg1z := hgrow1.size
  rw [show w2.heap.size = w.heap.size + 1 + 1 from hz2] at hown1
  have HS : Hid (RunS w2 (W1.alloc (.cells #[.slice (some ⟨w.heap.size + 1 + 1, 0, none⟩) nv nv, .slice ia ins.length ic, .slice none 0 0] 72)) W1.heap.size nv (List.replicate nv 0) ins [] (.slice (some ⟨w.heap.size + 1 + 1, 0, none⟩) nv nv) (.slice ia ins.length ic) (.slice none 0 0) (.slice none 0 0) []) := by
    have hb1 : Below w2.heap.size w2 W1 := ⟨hgrow1.os, hgrow1.tape, hgrow1.output, hgrow1.size, fun k hk => hgrow1.block k hk (by simp)⟩
    have hb2 := hb1.alloc hb1.size (.cells #[.slice (some ⟨w.heap.size + 1 + 1, 0, none⟩) nv nv, .slice ia ins.length ic, .slice none 0 0] 72)
    refine ⟨⟨heap_alloc_new _ _, hb1.size, ?_, ?_, World.ownsRow_nil _ _ _ _, Or.inr (by simp [Value.ownBlock])⟩, World.ownsRow_nil _ _ _ _, by simp, by simp, hb2, by simp, by simp⟩
    · have h1 := hown1.alloc (.cells #[.slice (some ⟨w.heap.size + 1 + 1, 0, none⟩) nv nv, .slice ia ins.length ic, .slice none 0 0] 72)
      rw [show (Value.int IntKind.i64 0).cells = #[.int .i64 0] from rfl, toList_madeCells_one, Nat.mul_one] at h1
      rw [List.length_replicate, List.map_replicate, hz2]
      exact h1
    · obtain ⟨ao, cp, e, h1, h2, h3⟩ := hI
      refine ⟨ao, cp, e, h1, h2, fun j x hj => ?_⟩
      obtain ⟨b, o, e2, hlt, hc⟩ := h3 j x hj
      exact ⟨b, o, e2, by omega, (cell_block ((hb2.block b (by omega)).trans (HW2.out.1.block b hlt))).trans hc⟩
  obtain ⟨sb, hsb⟩ : ∃ sb, sb = W1.heap.size := ⟨_, rfl⟩
  rw [← hsb] at HS ⊢
  generalize W1.alloc (.cells #[.slice (some ⟨w.heap.size + 1 + 1, 0, none⟩) nv nv, .slice ia ins.length ic, .slice none 0 0] 72) = W2 at HS ⊢
  have hsz : w.heap.size + 2 ≤ sb := by omega
  have HF : Hid (Fit pl ps nv) := hF
  clear hsb hown1 hgrow1 hg1z hw2 hN hR hE hI hF
  go_loopw [8, 9] (fun s a wr => ∃ (vals ins' outs : List Int) (sa : Option Addr) (sc : Nat) (iv' ov : Value) (stl : List Stp) (k : Nat), a = .int .i64 k ∧ s = .slice sa stl.length sc ∧ stl.length ≤ fuel ∧ k < pl.length ∧ Hid (RunS w2 wr sb nv vals ins' outs (.slice (some ⟨w.heap.size + 1 + 1, 0, none⟩) nv nv) iv' ov (.slice sa stl.length sc) stl) ∧ Hid (runF pl ps fuel 0 (List.replicate nv 0) ins [] [] = runF pl ps (fuel - stl.length) k vals ins' outs (stOf stl))) (fun s _ _ => fuel - (lenOf s))
  case atStart => exact ⟨_, ins, [], none, 0, _, _, [], 0, rfl, rfl, by simp, h0, HS, rfl⟩
  case round =>
    clear HS
    obtain ⟨vals, ins', outs, sa, sc, iv', ov, stl, k, rfl, rfl, hle, hk, HS, HR⟩ := hrel
    by_cases hlt : stl.length < fuel
    · have hlti : (stl.length : Int) < (fuel : Int) := by omega
      have hki : (k : Int) < (pl.length : Int) := by omega
      obtain ⟨p, hp⟩ : ∃ p, pl[k]? = some p := ⟨_, List.getElem?_eq_getElem hk⟩
      obtain ⟨c, hc⟩ : ∃ c, nl[k]? = some c := ⟨_, List.getElem?_eq_getElem (by have := HW2.out.2.2.2.2.1.len; omega)⟩
      have HP : Hid (pl[k]? = some p ∧ c.n = p.n ∧ Er w2 c.ev (edgK ps p.nc k) ∧ NIn nv p.n) := ⟨hp, (HW2.out.2.2.2.2.1.each k c p hc hp).n, HW2.out.2.2.2.2.2 k c p hc hp, HF.out.nin p (List.mem_of_getElem? hp)⟩
      clear hp
      obtain ⟨hx1, hx2⟩ := box_cells HS.out.ms.box
      have hvl := HS.out.vlen
      have hC := clone_any w2.heap.size (w.heap.size + 1 + 1) nv vals wr (by have := HS.out.ms.vals; rw [hvl] at this ⊢; exact this) (by omega)
      rw [hvl] at hC
      have HC := (show Hid _ from hC)
      clear hC hvl
      go_wp2_with fail
      refine Calls.mono HC.out ?_
      clear HC
      rintro e W3 ⟨hb3, v3, rfl, hown3, hnil3⟩
      obtain ⟨ca, cc, rfl⟩ := sl_of_own hown3
      obtain ⟨q3, hq3, hqz⟩ : ∃ q, (Value.slice ca nv cc).ownBlock = some q ∧ wr.heap.size ≤ q := by
        rcases hown3.2 with ⟨h, _⟩ | ⟨q, c1, cur, h, hq, _⟩
        · exact absurd h hnil3
        · cases h; exact ⟨q, rfl, hq⟩
      have HS3 : Hid (RunS w2 W3 sb nv vals ins' outs (.slice (some ⟨w.heap.size + 1 + 1, 0, none⟩) nv nv) iv' ov (.slice sa stl.length sc) stl) := HS.out.below hb3
      have HQ : Hid (W3.ownsRow wr.heap.size 2 1 (.slice ca nv cc) nv (vals.map (Value.int .i64)) ∧ (Value.slice ca nv cc).ownBlock = some q3 ∧ wr.heap.size ≤ q3) := ⟨hown3, hq3, hqz⟩
      have hl1 : stl.length + 1 ≤ maxLen := by unfold maxLen; omega
      have hl2 : (stl.length + 1) * 32 ≤ 140737488355328 := by omega
      have HRW : Hid ((W3.alloc (.cells #[.int .i64 k, .slice ca nv cc] 43)).ownsRow w2.heap.size 43 2 (.slice sa stl.length sc) stl.length (stCells stl) ∧ (∀ j u, [Value.int .i64 k, Value.slice ca nv cc][j]? = some u → (W3.alloc (.cells #[.int .i64 k, .slice ca nv cc] 43)).cell? ((⟨W3.heap.size, 0, none⟩ : Addr).add j) = some u) ∧ w2.heap.size ≤ (W3.alloc (.cells #[.int .i64 k, .slice ca nv cc] 43)).heap.size) := by
        refine ⟨HS3.out.row.alloc _, ?_, by have := HS3.out.low.size; simp; omega⟩
        intro j u hj
        match j, hj with
        | 0, hj => simp at hj; subst hj; simp [Addr.add]
        | 1, hj => simp at hj; subst hj; simp [Addr.add]
      clear hown3 hnil3 hq3 hqz hx1 hx2
      go_wp2_with (at_builtin; go_must (refine wpList_append_own _ rfl (.tmp 21) (.tmp 27) 27 rfl w2.heap.size 43 i2 (.agg #[.int .i64 0, .slice none 0 0]) 2 32 Tryd.underlying27 HI2.out.1 HI2.out.2.1 HI2.out.2.2.1 HI2.out.2.2.2 rfl (by decide) _ _ _ rfl HRW.out.1 ⟨W3.heap.size, 0, none⟩ 1 1 [.int .i64 k, .slice ca nv cc] rfl rfl HRW.out.2.1 (by intro u hu; simp at hu; rcases hu with rfl | rfl <;> rfl) hl1 hl2 HRW.out.2.2 ?_; intro v4 W4 hown4 hgrow4 hnil4; obtain ⟨a4, c4, rfl⟩ := sl_of_own hown4; have hpush := HS.out.push hb3 HQ.out.1 HQ.out.2.1 HQ.out.2.2 hgrow4 hown4; have HS4 := (show Hid _ from hpush); clear hpush hown4 hgrow4 hnil4; have hpx := (HS4.out.1.low.block w.heap.size (by omega)).trans HW2.out.2.1; obtain ⟨px1, px2⟩ := box_cells hpx; have hN4 := HW2.out.2.2.2.1.of_block (HS4.out.1.low.block g HW2.out.2.2.2.1.lt); obtain ⟨q0, q1, q2, q4, q5, q6, q7, q8, q9, q10, q11, q12, q13, q14⟩ := hN4.all k c hc; clear hpx hN4))
      have HS5 : Hid (RunS w2 (W4.alloc (.cells #[.string c.lab, .slice c.wa c.wl c.wc, .int .i64 c.n.kind, .int .i64 c.n.var, .int .i64 c.n.op, .int .i64 c.n.test, .bool c.n.a.isVar, .int .i64 c.n.a.var, .int .i64 c.n.a.const, .bool c.n.b.isVar, .int .i64 c.n.b.var, .int .i64 c.n.b.const, .slice c.ea c.el c.ec, .string c.n.goal] 58)) sb nv vals ins' outs (.slice (some ⟨w.heap.size + 1 + 1, 0, none⟩) nv nv) iv' ov (.slice a4 (stl.length + 1) c4) (stl ++ [(k, .slice ca nv cc, vals)])) := HS4.out.1.below ((Below.refl _ _).alloc (Nat.le_refl _) _)
      have hvl := HS5.out.vlen
      have HV := (show Hid _ from visit_any sb w2.heap.size (.slice (some ⟨w.heap.size + 1 + 1, 0, none⟩) nv nv) iv' ov c.wv c.ev vals ins' outs c.lab c.n _ HS5.out.ms (by rw [hvl, HP.out.2.1]; exact HP.out.2.2.2) (by have := HS4.out.2; have := HS5.out.olen; simp at this; omega))
      simp only [snCells] at HV
      clear hvl
      refine Calls.mono HV.out ?_
      clear HV
      obtain ⟨r, hr⟩ : ∃ r, vis c.n vals ins' outs = r := ⟨_, rfl⟩
      rw [hr]
      rintro e W5 ⟨rfl, hvf, iv5, ov5, hm5, hn5⟩
      have HVR : Hid (vis p.n vals ins' outs = r) := by rw [← HP.out.2.1]; exact hr
      have HS6 : Hid (RunS w2 W5 sb nv r.2.1 r.2.2.1 r.2.2.2 (.slice (some ⟨w.heap.size + 1 + 1, 0, none⟩) nv nv) iv5 ov5 (.slice a4 (stl.length + 1) c4) (stl ++ [(k, .slice ca nv cc, vals)])) := by
        have hvv := vis_vals p.n vals ins' outs
        rw [HVR.out] at hvv
        exact HS5.out.visited hvf hm5 hn5 hvv.1 (by have := HS4.out.2; omega)
      obtain ⟨oa5, oc5, rfl⟩ := sl_of_own HS6.out.ms.outs
      have hnd : W5.heap[W4.heap.size]? = some (.cells #[.string c.lab, .slice c.wa c.wl c.wc, .int .i64 c.n.kind, .int .i64 c.n.var, .int .i64 c.n.op, .int .i64 c.n.test, .bool c.n.a.isVar, .int .i64 c.n.a.var, .int .i64 c.n.a.const, .bool c.n.b.isVar, .int .i64 c.n.b.var, .int .i64 c.n.b.const, .slice c.ea c.el c.ec, .string c.n.goal] 58 (0, 0)) := by
        refine (hvf.block W4.heap.size (by simp) ?_ ?_ ?_).trans (heap_alloc_new _ _)
        · have := HS4.out.1.ms.lt; omega
        · intro e; have := (HS4.out.1.ms.vals.lt _ e.symm).2; omega
        · intro e; have := (HS4.out.1.ms.outs.lt _ e.symm).2; omega
      obtain ⟨nd1, nd2⟩ := box_cells hnd
      obtain ⟨sx1, sx2⟩ := box_cells HS6.out.ms.box
      obtain ⟨tx1, tx2⟩ := box_cells ((HS6.out.low.block (w.heap.size + 1) (by omega)).trans HW2.out.2.2.1)
      have HND : Hid (W4.heap.size < W5.heap.size ∧ sb < W4.heap.size) := ⟨(Array.getElem?_eq_some_iff.1 hnd).1, HS4.out.1.ms.lt⟩
      clear hr hvf hm5 hn5 px1 px2 q0 q1 q2 q4 q5 q6 q7 q8 q9 q10 q11 q12 q13 q14
      by_cases hz : r.1 = 0
      · have hz0 : (r.1 == 0) = true := by simp [hz]
        have hz1 : (r.1 != 0) = false := by simp [hz]
        have hzr : (vis p.n vals ins' outs).1 = 0 := by rw [HVR.out]; exact hz
        obtain ⟨t, ht, htl⟩ := HF.out.edge k p r.2.1 HP.out.1 (vis_return hzr)
        obtain ⟨i, hi⟩ : ∃ i : Nat, edgN p.n r.2.1 = (i : Int) := ⟨(edgN p.n r.2.1).toNat, by have := edgN_nn p.n r.2.1; omega⟩
        rw [hi, Int.toNat_natCast] at ht
        have hil := (List.getElem?_eq_some_iff.1 ht).1
        obtain ⟨eb, hev, heb⟩ : ∃ b, c.ev = .slice (some ⟨b, 0, none⟩) (edgK ps p.nc k).length (edgK ps p.nc k).length ∧ w2.heap[b]? = some (.cells ((edgK ps p.nc k).map (Value.int .i64)).toArray 3 (0, 0)) := by
          rcases HP.out.2.2.1 with ⟨e, _⟩ | h
          · rw [e] at hil; simp at hil
          · exact h
        obtain ⟨L, hL⟩ : ∃ L, (edgK ps p.nc k).length = L := ⟨_, rfl⟩
        rw [hL] at hev hil
        simp only [NC.ev, Value.slice.injEq] at hev
        obtain ⟨he1, he2, he3⟩ := hev
        rw [he1, he2, he3] at nd1 hnd
        have hieb : ∀ W, Below w2.heap.size w2 W → W.cell? ⟨eb, i, none⟩ = some (.int .i64 t) := by
          intro W hW
          have := (box_cells ((hW.block eb (Array.getElem?_eq_some_iff.1 heb).1).trans heb)).1 i
          rw [this]
          simp [ht]
        have hie := hieb W5 HS6.out.low
        have HIE : Hid (∀ W, Below w2.heap.size w2 W → W.cell? ⟨eb, i, none⟩ = some (.int .i64 t)) := hieb
        have hii : (i : Int) < (L : Int) := by omega
        have hnv6 := HS6.out.vlen
        have HED := (show Hid _ from edge_any sb w2.heap.size (.slice (some ⟨w.heap.size + 1 + 1, 0, none⟩) nv nv) iv5 (.slice oa5 r.2.2.2.length oc5) c.wv (.slice (some ⟨eb, 0, none⟩) L L) r.2.1 r.2.2.1 r.2.2.2 c.lab c.n W5.drew (HS6.out.ms.below ((Below.refl _ _).drew)) (by rw [hnv6, HP.out.2.1]; exact HP.out.2.2.2))
        rw [HP.out.2.1, hi, ← HP.out.2.1] at HED
        simp only [snCells] at HED
        have HNX : Hid (runF pl ps fuel 0 (List.replicate nv 0) ins [] [] = runF pl ps (fuel - (stl.length + 1)) t r.2.1 r.2.2.1 r.2.2.2 (stOf (stl ++ [((k, .slice ca nv cc, vals) : Stp)]))) := by
          show _ = _
          rw [HR.out, runF_step HP.out.1 hlt, if_pos hzr, HVR.out, hi, stOf_snoc]
          simp [List.getD, ht]
        have HNB : Hid (W5.heap[W4.heap.size]? = _) := hnd
        clear ht heb he1 he2 he3 hieb hL hnv6 hi
        go_wp2_with fail
        go_region_held3 (fun w' => w'.cell? ⟨W4.heap.size, 0, none⟩ = some (.string c.lab) ∧ w'.cell? ⟨W4.heap.size, 1, none⟩ = some (.slice c.wa c.wl c.wc) ∧ w'.cell? ⟨W4.heap.size, 2, none⟩ = some (.int .i64 c.n.kind) ∧ w'.cell? ⟨W4.heap.size, 3, none⟩ = some (.int .i64 c.n.var) ∧ w'.cell? ⟨W4.heap.size, 4, none⟩ = some (.int .i64 c.n.op) ∧ w'.cell? ⟨W4.heap.size, 5, none⟩ = some (.int .i64 c.n.test) ∧ w'.cell? ⟨W4.heap.size, 6, none⟩ = some (.bool c.n.a.isVar) ∧ w'.cell? ⟨W4.heap.size, 7, none⟩ = some (.int .i64 c.n.a.var) ∧ w'.cell? ⟨W4.heap.size, 8, none⟩ = some (.int .i64 c.n.a.const) ∧ w'.cell? ⟨W4.heap.size, 9, none⟩ = some (.bool c.n.b.isVar) ∧ w'.cell? ⟨W4.heap.size, 10, none⟩ = some (.int .i64 c.n.b.var) ∧ w'.cell? ⟨W4.heap.size, 11, none⟩ = some (.int .i64 c.n.b.const) ∧ w'.cell? ⟨W4.heap.size, 12, none⟩ = some (.slice (some ⟨eb, 0, none⟩) L L) ∧ w'.cell? ⟨W4.heap.size, 13, none⟩ = some (.string c.n.goal) ∧ w'.cell? ⟨eb, i, none⟩ = some (.int .i64 t)) (go_keep) ((go_at_call 22; refine Calls.mono HED.out ?_; rintro e W6 ⟨rfl, hb6⟩; obtain ⟨nd3, nd4⟩ := box_cells ((hb6.block W4.heap.size HND.out.1).trans HNB.out); have hie6 := HIE.out W6 (HS6.out.low.trans ((Below.refl W5.heap.size W5).drew.trans hb6 |>.mono HS6.out.low.size))))
        go_wp2_with fail
        refine ⟨⟨r.2.1, r.2.2.1, r.2.2.2, a4, c4, iv5, .slice oa5 r.2.2.2.length oc5, stl ++ [(k, .slice ca nv cc, vals)], t, rfl, by simp, by simp; omega, htl, ?_, ?_⟩, by simp [lenOf]; omega⟩
        · show RunS _ _ _ _ _ _ _ _ _ _ _ _
          rw [List.length_append]
          exact HS6.out.below ((Below.refl W5.heap.size W5).drew.trans hb6)
        · show _ = _
          rw [List.length_append]
          exact HNX.out
      · have hz0 : (r.1 == 0) = false := by simp [hz]
        have hz1 : (r.1 != 0) = true := by simp [hz]
        have HNX : Hid (runF pl ps fuel 0 (List.replicate nv 0) ins [] [] = (r.1, r.2.2.2, stOf (stl ++ [((k, .slice ca nv cc, vals) : Stp)]))) := by
          show _ = _
          rw [HR.out, runF_step HP.out.1 hlt, if_neg (by rw [HVR.out]; exact hz), HVR.out, stOf_snoc]
        clear hnd
        go_wp2_with fail
        refine bodyPost_ret (v := .agg #[.int .i64 r.1, .slice oa5 r.2.2.2.length oc5, .slice a4 (stl.length + 1) c4]) (by simp [results, Tryd.results11, go_sem, tx1]) rfl ?_
        rw [HNX.out]
        exact HS6.out.answer HW2.out.1 hz2 _ _ _ _
    · have hlti : ¬ (stl.length : Int) < (fuel : Int) := by omega
      have hlte : fuel - stl.length = 0 := by omega
      obtain ⟨oa, oc, rfl⟩ := sl_of_own HS.out.ms.outs
      obtain ⟨hx1, hx2⟩ := box_cells HS.out.ms.box
      obtain ⟨tx1, tx2⟩ := box_cells ((HS.out.low.block (w.heap.size + 1) (by omega)).trans HW2.out.2.2.1)
      have HNX : Hid (runF pl ps fuel 0 (List.replicate nv 0) ins [] [] = (4, outs, stOf stl)) := by
        show _ = _
        rw [HR.out, hlte, runF]
      clear hlte
      go_wp2_with fail
      refine bodyPost_ret (v := .agg #[.int .i64 4, .slice oa outs.length oc, .slice sa stl.length sc]) (by simp [results, Tryd.results11, go_sem, tx1]) rfl ?_
      rw [HNX.out]
      exact HS.out.answer HW2.out.1 hz2 _ _ _ _
end Go.Proofs.YtmipbiligijcpaaDoor
