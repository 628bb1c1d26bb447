/- warrant.Run. -/
import Derived.Test.YtmipbiligijcpaaDoorS8
namespace Go.Proofs.YtmipbiligijcpaaDoor
set_option linter.unusedVariables false
set_option linter.unusedSimpArgs false
open Go.RowKit Go.Proofs Go.Maps

def runG (pl : List PN) (vs : List Nam) (ins : List Int) (fuel : Int) : Int × (Int × List Int × List (Nat × List Int)) × Nat :=
  match plc 0 [] (pl.map PN.lab) with
  | none => (9, (0, [], []), 0)
  | some ps => (0, runF pl ps fuel.toNat 0 (List.replicate vs.length 0) ins [] [], vs.length)
/-- what a Run answers: the error, the trace, how many variables there are -/
def runR (s : ByteArray) (ins : List Int) (fuel : Int) : Int × (Int × List Int × List (Nat × List Int)) × Nat :=
  match prs s with
  | .inl false => (1, (0, [], []), 0)
  | .inl true => (2, (0, [], []), 0)
  | .inr (pl, vs) => if 100 < ins.length ∨ fuel < 0 ∨ 2000 < fuel then (9, (0, [], []), 0) else runG pl vs ins fuel
/-- the trace lies in memory of the call's own -/
def TrcIs (w w' : World) (nv : Nat) (r : Int × List Int × List (Nat × List Int)) (ov sv : Value) (stl : List Stp) : Prop :=
  w'.ownsRow w.heap.size 2 1 ov r.2.1.length (r.2.1.map (Value.int .i64)) ∧ w'.ownsRow w.heap.size 43 2 sv stl.length (stCells stl) ∧ stOf stl = r.2.2 ∧ (∀ s ∈ stl, w'.ownsRow w.heap.size 2 1 s.2.1 s.2.2.length (s.2.2.map (Value.int .i64)) ∧ s.2.2.length = nv ∧ ∃ q, s.2.1.ownBlock = some q ∧ some q ≠ ov.ownBlock) ∧ (stl.map fun s => s.2.1.ownBlock).Nodup
def RunAns (w : World) (r : Int × (Int × List Int × List (Nat × List Int)) × Nat) (e : Ending) (w' : World) : Prop :=
  Below w.heap.size w w' ∧ ∃ ov sv stl, e = .returned (.tuple #[.agg #[.int .i64 r.2.1.1, ov, sv], .int .i64 r.1]) ∧ TrcIs w w' r.2.2 r.2.1 ov sv stl
theorem trc_nil (w w' : World) (n : Nat) (x : Int) : TrcIs w w' n (x, [], []) (.slice none 0 0) (.slice none 0 0) [] :=
  ⟨World.ownsRow_nil _ _ _ _, World.ownsRow_nil _ _ _ _, rfl, by simp, by simp⟩
theorem TrcIs.below {w w' w'' : World} {nv : Nat} {r : Int × List Int × List (Nat × List Int)} {ov sv : Value} {stl : List Stp} (h : TrcIs w w' nv r ov sv stl) (hb : Below w'.heap.size w' w'') : TrcIs w w'' nv r ov sv stl :=
  ⟨own_of_below h.1 hb, own_of_below h.2.1 hb, h.2.2.1, fun s hs => ⟨own_of_below (h.2.2.2.1 s hs).1 hb, (h.2.2.2.1 s hs).2⟩, h.2.2.2.2⟩
theorem TrcIs.base {w w0 w' : World} {nv : Nat} {r : Int × List Int × List (Nat × List Int)} {ov sv : Value} {stl : List Stp} (h : TrcIs w w' nv r ov sv stl) (hb : w0.heap.size ≤ w.heap.size) : TrcIs w0 w' nv r ov sv stl :=
  ⟨own_mono h.1 hb, own_mono h.2.1 hb, h.2.2.1, fun s hs => ⟨own_mono (h.2.2.2.1 s hs).1 hb, (h.2.2.2.1 s hs).2⟩, h.2.2.2.2⟩
theorem cell_up {w w' : World} {k : Nat} {v : Value} (h : w.cell? ⟨k, 0, none⟩ = some v) (hb : Below w.heap.size w w') : w'.cell? ⟨k, 0, none⟩ = some v := by
  obtain ⟨c, t, f, hc⟩ := not_map_of_cell h
  exact (cell_block (hb.block k (Array.getElem?_eq_some_iff.1 hc).1)).trans h
theorem Env.up {w w' : World} (h : Env w) (hb : Below w.heap.size w w') : Env w' := by
  obtain ⟨⟨te, pe, hc⟩, m, hm⟩ := h
  exact ⟨⟨te, pe, cell_up hc hb⟩, m, cell_up hm hb⟩
set_option maxHeartbeats 2000000 in
set_option maxRecDepth 100000 in
theorem wRun_any (s : ByteArray) (ins : List Int) (ia : Option Addr) (ic : Nat) (fuel : Int) (w : World) (hE : Env w) (hI : InL w w.heap.size (.slice ia ins.length ic) ins) :
    Calls Tryd.prog 6 #[.string s, .slice ia ins.length ic, .int .i64 fuel] w (RunAns w (runR s ins fuel)) := by
  have hw1 : Below w.heap.size w (w.alloc (.cells #[.int .i64 0, .slice none 0 0, .slice none 0 0] 29)) := (Below.refl _ _).alloc (Nat.le_refl _) _
  have hP := parse_any s (w.alloc (.cells #[.int .i64 0, .slice none 0 0, .slice none 0 0] 29)) (hE.up hw1)
  have HW1 : Hid (Below w.heap.size w (w.alloc (.cells #[.int .i64 0, .slice none 0 0, .slice none 0 0] 29)) ∧ (w.alloc (.cells #[.int .i64 0, .slice none 0 0, .slice none 0 0] 29)).heap[w.heap.size]? = some (.cells #[.int .i64 0, .slice none 0 0, .slice none 0 0] 29 (0, 0))) := ⟨hw1, heap_alloc_new _ _⟩
  clear hw1
  unfold runR
  rcases hr : prs s with b | ⟨pl, vs⟩
  · cases b with
    | false =>
      rw [hr] at hP
      clear hr
      simp only
      go_enter Tryd.func6, Tryd.ntmps6
      go_wp2_with (go_at_call 9; refine hP.mono ?_; rintro e W1 ⟨hb1, rfl⟩; obtain ⟨tx1, tx2⟩ := box_cells ((hb1.block w.heap.size (by simp)).trans HW1.out.2); have z0 : w.heap.size < W1.heap.size := (by have := hb1.size; simp at this; omega); have z1 : w.heap.size ≠ W1.heap.size := (by omega); have z2 : W1.heap.size ≠ w.heap.size := (by omega))
      refine bodyPost_ret (v := .tuple #[.agg #[.int .i64 0, .slice none 0 0, .slice none 0 0], .int .i64 1]) (by simp [results, Tryd.results6, go_sem, tx1, z0, z1, z2]) rfl ?_
      exact ⟨(by repeat (first | exact (HW1.out.1.trans (hb1.mono HW1.out.1.size)) | with_reducible refine below_drewN ?_ _ | with_reducible refine Below.drew ?_ | refine Below.setCell ?_ (by first | exact Nat.le_refl _ | (simp; done) | (simp; omega)) _ | refine Below.alloc ?_ (by first | (simp; done) | (simp [World.setCell]; omega)) _)), _, _, [], rfl, trc_nil _ _ _ _⟩
    | true =>
      rw [hr] at hP
      clear hr
      simp only
      go_enter Tryd.func6, Tryd.ntmps6
      go_wp2_with (go_at_call 9; refine hP.mono ?_; rintro e W1 ⟨hb1, rfl⟩; obtain ⟨tx1, tx2⟩ := box_cells ((hb1.block w.heap.size (by simp)).trans HW1.out.2); have z0 : w.heap.size < W1.heap.size := (by have := hb1.size; simp at this; omega); have z1 : w.heap.size ≠ W1.heap.size := (by omega); have z2 : W1.heap.size ≠ w.heap.size := (by omega))
      refine bodyPost_ret (v := .tuple #[.agg #[.int .i64 0, .slice none 0 0, .slice none 0 0], .int .i64 2]) (by simp [results, Tryd.results6, go_sem, tx1, z0, z1, z2]) rfl ?_
      exact ⟨(by repeat (first | exact (HW1.out.1.trans (hb1.mono HW1.out.1.size)) | with_reducible refine below_drewN ?_ _ | with_reducible refine Below.drew ?_ | refine Below.setCell ?_ (by first | exact Nat.le_refl _ | (simp; done) | (simp; omega)) _ | refine Below.alloc ?_ (by first | (simp; done) | (simp [World.setCell]; omega)) _)), _, _, [], rfl, trc_nil _ _ _ _⟩
  · obtain ⟨hz, h0, hok, _⟩ := prs_ok hr
    have hv8 : vs.length ≤ 8 := by simp only [progOk, Bool.and_eq_true, decide_eq_true_eq] at hok; exact hok.1.1.1
    have HFIT : Hid (∀ ps, plc 0 [] (pl.map PN.lab) = some ps → Fit pl ps vs.length) := fun ps hp => fit_of (ps := ps) hr hp
    have hp60 := hz.len
    rw [hr] at hP
    clear hr hok
    simp only
    by_cases hA : 100 < ins.length
    · rw [if_pos (Or.inl hA)]
      have d1 : decide (100 < (ins.length : Int)) = true := decide_eq_true (by omega)
      go_enter Tryd.func6, Tryd.ntmps6
      go_wp2_with (go_at_call 9; refine hP.mono ?_; rintro e W1 ⟨hb1, g, cap, nl, ps, rfl, hgB, hN, hR, hps, hEr⟩; obtain ⟨tx1, tx2⟩ := box_cells ((hb1.block w.heap.size (by simp)).trans HW1.out.2); have z0 : w.heap.size < W1.heap.size := (by have := hb1.size; simp at this; omega); have z1 : w.heap.size ≠ W1.heap.size := (by omega); have z2 : W1.heap.size ≠ w.heap.size := (by omega))
      refine bodyPost_ret (v := .tuple #[.agg #[.int .i64 0, .slice none 0 0, .slice none 0 0], .int .i64 9]) (by simp [results, Tryd.results6, go_sem, tx1, z0, z1, z2]) rfl ?_
      exact ⟨(by repeat (first | exact (HW1.out.1.trans (hb1.mono HW1.out.1.size)) | with_reducible refine below_drewN ?_ _ | with_reducible refine Below.drew ?_ | refine Below.setCell ?_ (by first | exact Nat.le_refl _ | (simp; done) | (simp; omega)) _ | refine Below.alloc ?_ (by first | (simp; done) | (simp [World.setCell]; omega)) _)), _, _, [], rfl, trc_nil _ _ _ _⟩
    · by_cases hB : fuel < 0
      · rw [if_pos (Or.inr (Or.inl hB))]
        have d1 : decide (100 < (ins.length : Int)) = false := decide_eq_false (by omega)
        have d2 : decide (fuel < 0) = true := decide_eq_true (by omega)
        go_enter Tryd.func6, Tryd.ntmps6
        go_wp2_with (go_at_call 9; refine hP.mono ?_; rintro e W1 ⟨hb1, g, cap, nl, ps, rfl, hgB, hN, hR, hps, hEr⟩; obtain ⟨tx1, tx2⟩ := box_cells ((hb1.block w.heap.size (by simp)).trans HW1.out.2); have z0 : w.heap.size < W1.heap.size := (by have := hb1.size; simp at this; omega); have z1 : w.heap.size ≠ W1.heap.size := (by omega); have z2 : W1.heap.size ≠ w.heap.size := (by omega))
        refine bodyPost_ret (v := .tuple #[.agg #[.int .i64 0, .slice none 0 0, .slice none 0 0], .int .i64 9]) (by simp [results, Tryd.results6, go_sem, tx1, z0, z1, z2]) rfl ?_
        exact ⟨(by repeat (first | exact (HW1.out.1.trans (hb1.mono HW1.out.1.size)) | with_reducible refine below_drewN ?_ _ | with_reducible refine Below.drew ?_ | refine Below.setCell ?_ (by first | exact Nat.le_refl _ | (simp; done) | (simp; omega)) _ | refine Below.alloc ?_ (by first | (simp; done) | (simp [World.setCell]; omega)) _)), _, _, [], rfl, trc_nil _ _ _ _⟩
      · by_cases hC : 2000 < fuel
        · rw [if_pos (Or.inr (Or.inr hC))]
          have d1 : decide (100 < (ins.length : Int)) = false := decide_eq_false (by omega)
          have d2 : decide (fuel < 0) = false := decide_eq_false (by omega)
          have d3 : decide (2000 < fuel) = true := decide_eq_true (by omega)
          go_enter Tryd.func6, Tryd.ntmps6
          go_wp2_with (go_at_call 9; refine hP.mono ?_; rintro e W1 ⟨hb1, g, cap, nl, ps, rfl, hgB, hN, hR, hps, hEr⟩; obtain ⟨tx1, tx2⟩ := box_cells ((hb1.block w.heap.size (by simp)).trans HW1.out.2); have z0 : w.heap.size < W1.heap.size := (by have := hb1.size; simp at this; omega); have z1 : w.heap.size ≠ W1.heap.size := (by omega); have z2 : W1.heap.size ≠ w.heap.size := (by omega))
          refine bodyPost_ret (v := .tuple #[.agg #[.int .i64 0, .slice none 0 0, .slice none 0 0], .int .i64 9]) (by simp [results, Tryd.results6, go_sem, tx1, z0, z1, z2]) rfl ?_
          exact ⟨(by repeat (first | exact (HW1.out.1.trans (hb1.mono HW1.out.1.size)) | with_reducible refine below_drewN ?_ _ | with_reducible refine Below.drew ?_ | refine Below.setCell ?_ (by first | exact Nat.le_refl _ | (simp; done) | (simp; omega)) _ | refine Below.alloc ?_ (by first | (simp; done) | (simp [World.setCell]; omega)) _)), _, _, [], rfl, trc_nil _ _ _ _⟩
        · rw [if_neg (by omega)]
          have d1 : decide (100 < (ins.length : Int)) = false := decide_eq_false (by omega)
          have d2 : decide (fuel < 0) = false := decide_eq_false (by omega)
          have d3 : decide (2000 < fuel) = false := decide_eq_false (by omega)
          obtain ⟨f, rfl⟩ : ∃ f : Nat, fuel = f := ⟨fuel.toNat, by omega⟩
          have hf2 : f ≤ 2000 := by omega
          have HII : Hid (InL w w.heap.size (.slice ia ins.length ic) ins) := hI
          clear hI hA hB hC
          go_enter Tryd.func6, Tryd.ntmps6
          go_wp2_with (go_at_call 9; refine hP.mono ?_; rintro e W1 ⟨hb1, g, cap, nl, ps, rfl, hgB, hN, hR, hps, hEr⟩; obtain ⟨tx1, tx2⟩ := box_cells ((hb1.block w.heap.size (by simp)).trans HW1.out.2); have z0 : w.heap.size < W1.heap.size := (by have := hb1.size; simp at this; omega); have z1 : w.heap.size ≠ W1.heap.size := (by omega); have z2 : W1.heap.size ≠ w.heap.size := (by omega))
          have hw2 : Below W1.heap.size W1 (W1.alloc (.cells #[.slice (some ⟨g, 0, none⟩) pl.length cap, .int .i64 vs.length] 37)) := (Below.refl _ _).alloc (Nat.le_refl _) _
          have HLOW : Hid (Below w.heap.size w (W1.alloc (.cells #[.slice (some ⟨g, 0, none⟩) pl.length cap, .int .i64 vs.length] 37))) := (HW1.out.1.trans (hb1.mono HW1.out.1.size)).trans (hw2.mono (by omega))
          have hI2 : InL (W1.alloc (.cells #[.slice (some ⟨g, 0, none⟩) pl.length cap, .int .i64 vs.length] 37)) (W1.alloc (.cells #[.slice (some ⟨g, 0, none⟩) pl.length cap, .int .i64 vs.length] 37)).heap.size (.slice ia ins.length ic) ins := by
            obtain ⟨ao, cp, e, h1, h2, h3⟩ := HII.out
            refine ⟨ao, cp, e, h1, h2, fun j x hj => ?_⟩
            obtain ⟨b, o, e2, hlt, hc⟩ := h3 j x hj
            exact ⟨b, o, e2, Nat.lt_of_lt_of_le hlt HLOW.out.size, (cell_block (HLOW.out.block b hlt)).trans hc⟩
          have HRUN := (show Hid _ from mrun_any g cap vs.length ia ic ins f nl pl ps _ hv8 hf2 h0 hp60 (hN.alloc (.cells #[.slice (some ⟨g, 0, none⟩) pl.length cap, .int .i64 vs.length] 37)) (reps_alloc hR _) (fun j c p a b => (hEr j c p a b).of_below hw2) (HFIT.out ps hps) hI2)
          have HPS : Hid (plc 0 [] (pl.map PN.lab) = some ps) := hps
          have HTX : Hid ((W1.alloc (.cells #[.slice (some ⟨g, 0, none⟩) pl.length cap, .int .i64 vs.length] 37)).heap[w.heap.size]? = some (.cells #[.int .i64 0, .slice none 0 0, .slice none 0 0] 29 (0, 0))) := (Below.heap_alloc _ _ _ z0).trans ((hb1.block w.heap.size (by simp)).trans HW1.out.2)
          clear hI2 hw2 hps hN hR hEr hb1 tx1 tx2
          refine Calls.mono HRUN.out ?_
          clear HRUN
          obtain ⟨r, hr⟩ : ∃ r, runF pl ps f 0 (List.replicate vs.length 0) ins [] [] = r := ⟨_, rfl⟩
          rw [hr]
          rintro e W2 ⟨hb2, ov, sv, stl, rfl, ho, hs, hrest⟩
          have HT : Hid (TrcIs _ W2 vs.length r ov sv stl) := ⟨ho, hs, hrest⟩
          obtain ⟨oa, oc, rfl⟩ := sl_of_own ho
          obtain ⟨sa, sc, rfl⟩ := sl_of_own hs
          obtain ⟨tx1, tx2⟩ := box_cells ((hb2.block w.heap.size (by simp; omega)).trans HTX.out)
          have HB2 : Hid (Below w.heap.size w W2) := HLOW.out.trans (hb2.mono HLOW.out.size)
          have HRR : Hid (runF pl ps f 0 (List.replicate vs.length 0) ins [] [] = r) := hr
          clear hr ho hs hrest hb2
          go_wp2_with fail
          refine bodyPost_ret (v := .tuple #[.agg #[.int .i64 r.1, .slice oa r.2.1.length oc, .slice sa stl.length sc], .int .i64 0]) (by simp [results, Tryd.results6, go_sem, tx1]) rfl ?_
          unfold runG
          rw [HPS.out]
          simp only
          rw [Int.toNat_natCast, HRR.out]
          have keep : ∀ {W : World} {a : Addr} {v : Value} {e size n : Nat} {u : Value} {xs : List Value}, W.ownsRow (W1.alloc (.cells #[.slice (some ⟨g, 0, none⟩) pl.length cap, .int .i64 vs.length] 37)).heap.size e size u n xs → a.block = w.heap.size → (W.setCell a v).ownsRow (W1.alloc (.cells #[.slice (some ⟨g, 0, none⟩) pl.length cap, .int .i64 vs.length] 37)).heap.size e size u n xs := fun h e => ownsRow_setCell_below h (by rw [e]; simp; omega) _
          refine ⟨((HB2.out.setCell (Nat.le_refl _) _).setCell (Nat.le_refl _) _).setCell (Nat.le_refl _) _, _, _, stl, rfl, TrcIs.base (w := W1.alloc (.cells #[.slice (some ⟨g, 0, none⟩) pl.length cap, .int .i64 vs.length] 37)) ?_ (by simp; omega)⟩
          exact ⟨keep (keep (keep HT.out.1 rfl) rfl) rfl, keep (keep (keep HT.out.2.1 rfl) rfl) rfl, HT.out.2.2.1, fun x hx => ⟨keep (keep (keep (HT.out.2.2.2.1 x hx).1 rfl) rfl) rfl, (HT.out.2.2.2.1 x hx).2⟩, HT.out.2.2.2.2⟩
end Go.Proofs.YtmipbiligijcpaaDoor
