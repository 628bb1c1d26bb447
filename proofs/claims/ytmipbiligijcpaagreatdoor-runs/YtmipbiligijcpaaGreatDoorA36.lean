/- A part of the proof: contracts of functions of the program. -/
import Derived.Test.YtmipbiligijcpaaGreatDoorA35
namespace Go.Proofs.YtmipbiligijcpaaGreatDoor
set_option linter.unusedVariables false
set_option linter.unusedSimpArgs false
open Go.RowKit Go.Proofs Go.Maps

theorem vnum_lt (vs : List Nam) (v : Nam) : vnum vs v < (vadd vs v).length := by
  unfold vnum vadd
  split
  · rename_i h
    have := List.idxOf_lt_length_of_mem h
    omega
  · simp only [List.length_append, List.length_singleton]
    omega
theorem vadd_mono (vs : List Nam) (v : Nam) : vs.length ≤ (vadd vs v).length := by
  unfold vadd; split <;> simp
theorem opdA_mono (vs : List Nam) (s : ByteArray) : vs.length ≤ (opdA vs s).length := by
  unfold opdA; split
  · exact vadd_mono _ _
  · exact Nat.le_refl _
theorem opd_in (vs : List Nam) (s : ByteArray) : opdIn (opdA vs s).length (opd vs s) := by
  unfold opdIn opd opdA
  split
  · intro _; exact ⟨vnum_nn _ _, vnum_lt _ _⟩
  · intro h; cases h
theorem opdIn.mono {n m : Nat} {o : Opd} (h : opdIn n o) (hm : n ≤ m) : opdIn m o := fun e => ⟨(h e).1, by have := (h e).2; omega⟩
theorem NIn.mono {n m : Nat} {x : SN} (h : NIn n x) (hm : n ≤ m) : NIn m x := ⟨h.kind, fun e => ⟨(h.var e).1, by have := (h.var e).2; omega⟩, fun e => (h.a e).mono hm, fun e => (h.b e).mono hm⟩
theorem nin0 (n : Nat) : NIn n ⟨6, 0, 0, 0, o0, o0, emp⟩ := ⟨by simp, by simp, by simp, by simp⟩
theorem stm_in (vs : List Nam) (ws : List ByteArray) : vs.length ≤ (stm vs ws).2.2.length ∧ ((stm vs ws).2.1 = true → NIn (stm vs ws).2.2.length (stm vs ws).1) := by
  have ho : ∀ ws, vs.length ≤ (outS vs ws).2.2.length ∧ ((outS vs ws).2.1 = true → NIn (outS vs ws).2.2.length (outS vs ws).1) := by
    intro ws; unfold outS; split
    · rename_i w1
      exact ⟨opdA_mono _ _, fun _ => ⟨by simp, by simp, fun _ => opd_in _ _, by simp⟩⟩
    · exact ⟨Nat.le_refl _, fun h => by cases h⟩
  have hg : ∀ ws, vs.length ≤ (gotoS vs ws).2.2.length ∧ ((gotoS vs ws).2.1 = true → NIn (gotoS vs ws).2.2.length (gotoS vs ws).1) := by
    intro ws; unfold gotoS; split
    · exact ⟨Nat.le_refl _, fun _ => ⟨by simp, by simp, by simp, by simp⟩⟩
    · exact ⟨Nat.le_refl _, fun h => by cases h⟩
  have hi : ∀ ws, vs.length ≤ (ifS vs ws).2.2.length ∧ ((ifS vs ws).2.1 = true → NIn (ifS vs ws).2.2.length (ifS vs ws).1) := by
    intro ws; unfold ifS; split
    · rename_i _ w1 w2 w3 w4 w5
      split
      · exact ⟨Nat.le_trans (opdA_mono vs w1) (opdA_mono _ w3), fun _ => ⟨by simp, by simp, fun _ => (opd_in vs w1).mono (opdA_mono _ w3), fun _ => opd_in _ w3⟩⟩
      · exact ⟨Nat.le_refl _, fun h => by cases h⟩
    · exact ⟨Nat.le_refl _, fun h => by cases h⟩
  have ha : ∀ ws, vs.length ≤ (asgS vs ws).2.2.length ∧ ((asgS vs ws).2.1 = true → NIn (asgS vs ws).2.2.length (asgS vs ws).1) := by
    intro ws; unfold asgS; split
    · rename_i w0 w1 w2 q
      have h1 := vadd_mono vs w0.data.toList
      have h2 := vnum_lt vs w0.data.toList
      have h3 := vnum_nn vs w0.data.toList
      have h4 := opdA_mono (vadd vs w0.data.toList) w2
      split
      · split
        · split
          · exact ⟨h1, fun _ => ⟨by simp, fun _ => ⟨h3, h2⟩, by simp, by simp⟩⟩
          · exact ⟨by simp only; omega, fun _ => ⟨by simp, fun _ => ⟨h3, by simp only; omega⟩, fun _ => opd_in _ _, by simp⟩⟩
        · rename_i w3 w4
          have h5 := opdA_mono (opdA (vadd vs w0.data.toList) w2) w4
          exact ⟨by simp only; omega, fun _ => ⟨by simp, fun _ => ⟨h3, by simp only; omega⟩, fun _ => (opd_in _ _).mono h5, fun _ => opd_in _ _⟩⟩
        · exact ⟨by simp only; omega, fun h => by cases h⟩
      · exact ⟨Nat.le_refl _, fun h => by cases h⟩
    · exact ⟨Nat.le_refl _, fun h => by cases h⟩
  unfold stm
  split
  · exact ⟨Nat.le_refl _, fun h => by cases h⟩
  · split
    · exact ho _
    · split
      · exact hi _
      · split
        · exact hg _
        · split
          · exact ⟨Nat.le_refl _, fun _ => nin0 _⟩
          · exact ha _
theorem lin_in (vs : List Nam) (ws : List ByteArray) : vs.length ≤ (lin vs ws).2.2.2.2.length ∧ ((lin vs ws).2.2.2.1 = true → NIn (lin vs ws).2.2.2.2.length (lin vs ws).2.2.1) := by
  unfold lin
  split
  · exact ⟨Nat.le_refl _, fun h => by cases h⟩
  · split
    · split
      · split
        · exact ⟨Nat.le_refl _, fun h => by cases h⟩
        · exact stm_in _ _
      · exact ⟨Nat.le_refl _, fun h => by cases h⟩
    · exact stm_in _ _
theorem rdl_in : ∀ (L : List (List ByteArray)) (vs : List Nam) (acc pl : List PN) (vs' : List Nam), (∀ p ∈ acc, NIn vs.length p.n) → rdl vs acc L = some (pl, vs') → ∀ p ∈ pl, NIn vs'.length p.n := by
  intro L
  induction L with
  | nil => intro vs acc pl vs' ha h; simp [rdl] at h; rw [← h.1, ← h.2]; exact ha
  | cons ws r ih =>
    intro vs acc pl vs' ha h
    rw [rdl] at h
    obtain ⟨h1, h2⟩ := lin_in vs ws
    split at h
    · exact ih vs acc pl vs' ha h
    · split at h
      · rename_i hok
        refine ih _ _ pl vs' ?_ h
        intro p hp
        rcases List.mem_append.1 hp with hp | hp
        · exact (ha p hp).mono h1
        · simp at hp; subst hp; exact h2 hok
      · cases h
theorem plc_lt : ∀ (labs : List ByteArray) (i : Nat) (ps ps' : List (Nam × Nat)), plc i ps labs = some ps' → ∀ p ∈ ps', p ∈ ps ∨ p.2 < i + labs.length := by
  intro labs
  induction labs with
  | nil => intro i ps ps' h p hp; simp [plc] at h; subst h; exact Or.inl hp
  | cons x r ih =>
    intro i ps ps' h p hp
    rw [plc] at h
    split at h
    · rcases ih _ _ _ h p hp with h2 | h2
      · exact Or.inl h2
      · exact Or.inr (by simp; omega)
    · split at h
      · cases h
      · rcases ih _ _ _ h p hp with h2 | h2
        · rcases List.mem_append.1 h2 with h3 | h3
          · exact Or.inl h3
          · simp at h3; subst h3; exact Or.inr (by simp)
        · exact Or.inr (by simp; omega)
theorem valA_lt {ps : List (Nam × Nat)} {n : Nat} (h : ∀ p ∈ ps, p.2 < n) (h0 : 0 < n) (v : Nam) : ∃ t : Nat, valA ps v = (t : Int) ∧ t < n := by
  unfold valA
  split
  · rename_i p hp
    exact ⟨p.2, rfl, h p (by have := List.mem_of_find?_eq_some hp; simpa using this)⟩
  · exact ⟨0, rfl, h0⟩
theorem fit_of {s : ByteArray} {pl : List PN} {vs : List Nam} {ps : List (Nam × Nat)} (h : prs s = Pr.ok pl vs) (hp : plc 0 [] (pl.map PN.lab) = some ps) : Fit pl ps vs.length := by
  obtain ⟨_, h0, hok, hr, _⟩ := prs_ok h
  simp only [progOk, Bool.and_eq_true] at hok
  have hlk := hok.2
  unfold linkOk at hlk
  rw [nc_labs, hp] at hlk
  simp only [Bool.and_eq_true] at hlk
  have hlt : ∀ p ∈ ps, p.2 < pl.length := by
    intro p hps
    rcases plc_lt _ _ _ _ hp p hps with h1 | h1
    · cases h1
    · simpa using h1
  refine ⟨rdl_in _ [] [] pl vs (by simp) hr, ?_⟩
  intro j p vals hj hk6
  have hjl := (List.getElem?_eq_some_iff.1 hj).1
  obtain ⟨t, ht, htl⟩ := valA_lt hlt h0 p.n.goal.data.toList
  have hnext : p.n.kind ≠ 5 → j + 1 < pl.length := by
    intro hk5
    by_cases hlast : j + 1 = pl.length
    · exfalso
      have h2 := hlk.2
      unfold lastOk at h2
      have hgl : (pl.map PN.nc).getLast? = some p.nc := by
        rw [List.getLast?_eq_getElem?, List.length_map, List.getElem?_map, show pl.length - 1 = j by omega, hj]; rfl
      rw [hgl] at h2
      simp only [List.length_map, Bool.not_eq_true', ← hlast] at h2
      have : (edgK ps p.nc (j + 1 - 1)).contains ((j + 1 : Nat) : Int) = true := by
        unfold edgK edg
        have e1 : p.nc.n.kind = p.n.kind := rfl
        rw [e1]
        by_cases h4 : p.n.kind = 4
        · simp [h4]
        · simp [h4, hk5, hk6]
      rw [this] at h2
      cases h2
    · omega
  unfold edgK edg edgN
  have e1 : p.nc.n.kind = p.n.kind := rfl
  have e2 : p.nc.n.goal = p.n.goal := rfl
  rw [e1, e2, ht]
  by_cases h4 : p.n.kind = 4
  · simp only [h4, true_and]
    by_cases hs : tsSo p.n.test (opW vals p.n.a) (opW vals p.n.b) = false
    · rw [if_pos hs]
      exact ⟨j + 1, by simp, hnext (by omega)⟩
    · rw [if_neg hs]
      exact ⟨t, by simp, htl⟩
  · rw [if_neg (by simp [h4])]
    by_cases h5 : p.n.kind = 5
    · exact ⟨t, by simp [h5], htl⟩
    · exact ⟨j + 1, by simp [h4, h5, hk6], hnext h5⟩
end Go.Proofs.YtmipbiligijcpaaGreatDoor
namespace Go.Proofs.YtmipbiligijcpaaGreatDoor
set_option linter.unusedVariables false
set_option linter.unusedSimpArgs false
open Go.RowKit Go.Proofs Go.Maps

def runG (pl : List PN) (vs : List Nam) (ins : List Int) (fuel : Int) : Int × (Int × List Int × List (Nat × List Int)) × Nat :=
  match plc 0 [] (pl.map PN.lab) with
  | none => (9, (0, [], []), 0)
  | some ps => (0, runF pl ps fuel.toNat 0 (List.replicate vs.length 0) ins [] [], vs.length)
/-- what a Run answers: the error, the trace, how many variables there are -/
def runR (s : ByteArray) (ins : List Int) (fuel : Int) : Int × (Int × List Int × List (Nat × List Int)) × Nat :=
  match prs s with
  | .inl false => (1, (0, [], []), 0)
  | .inl true => (2, (0, [], []), 0)
  | .inr (pl, vs) => if 100 < ins.length ∨ fuel < 0 ∨ 2000 < fuel then (9, (0, [], []), 0) else runG pl vs ins fuel
/-- the trace lies in memory of the call's own -/
def TrcIs (w w' : World) (nv : Nat) (r : Int × List Int × List (Nat × List Int)) (ov sv : Value) (stl : List Stp) : Prop :=
  w'.ownsRow w.heap.size 2 1 ov r.2.1.length (r.2.1.map (Value.int .i64)) ∧ w'.ownsRow w.heap.size 113 2 sv stl.length (stCells stl) ∧ stOf stl = r.2.2 ∧ (∀ s ∈ stl, w'.ownsRow w.heap.size 2 1 s.2.1 s.2.2.length (s.2.2.map (Value.int .i64)) ∧ s.2.2.length = nv ∧ ∃ q, s.2.1.ownBlock = some q ∧ some q ≠ ov.ownBlock) ∧ (stl.map fun s => s.2.1.ownBlock).Nodup
def RunAns (w : World) (r : Int × (Int × List Int × List (Nat × List Int)) × Nat) (e : Ending) (w' : World) : Prop :=
  Below w.heap.size w w' ∧ ∃ ov sv stl, e = .returned (.tuple #[.agg #[.int .i64 r.2.1.1, ov, sv], .int .i64 r.1]) ∧ TrcIs w w' r.2.2 r.2.1 ov sv stl
theorem trc_nil (w w' : World) (n : Nat) (x : Int) : TrcIs w w' n (x, [], []) (.slice none 0 0) (.slice none 0 0) [] :=
  ⟨World.ownsRow_nil _ _ _ _, World.ownsRow_nil _ _ _ _, rfl, by simp, by simp⟩
theorem TrcIs.below {w w' w'' : World} {nv : Nat} {r : Int × List Int × List (Nat × List Int)} {ov sv : Value} {stl : List Stp} (h : TrcIs w w' nv r ov sv stl) (hb : Below w'.heap.size w' w'') : TrcIs w w'' nv r ov sv stl :=
  ⟨own_of_below h.1 hb, own_of_below h.2.1 hb, h.2.2.1, fun s hs => ⟨own_of_below (h.2.2.2.1 s hs).1 hb, (h.2.2.2.1 s hs).2⟩, h.2.2.2.2⟩
theorem TrcIs.base {w w0 w' : World} {nv : Nat} {r : Int × List Int × List (Nat × List Int)} {ov sv : Value} {stl : List Stp} (h : TrcIs w w' nv r ov sv stl) (hb : w0.heap.size ≤ w.heap.size) : TrcIs w0 w' nv r ov sv stl :=
  ⟨own_mono h.1 hb, own_mono h.2.1 hb, h.2.2.1, fun s hs => ⟨own_mono (h.2.2.2.1 s hs).1 hb, (h.2.2.2.1 s hs).2⟩, h.2.2.2.2⟩
theorem cell_up {w w' : World} {k : Nat} {v : Value} (h : w.cell? ⟨k, 0, none⟩ = some v) (hb : Below w.heap.size w w') : w'.cell? ⟨k, 0, none⟩ = some v := by
  obtain ⟨c, t, f, hc⟩ := not_map_of_cell h
  exact (cell_block (hb.block k (Array.getElem?_eq_some_iff.1 hc).1)).trans h
theorem Env.up {w w' : World} (h : Env w) (hb : Below w.heap.size w w') : Env w' := by
  obtain ⟨⟨te, pe, hc⟩, m, hm⟩ := h
  exact ⟨⟨te, pe, cell_up hc hb⟩, m, cell_up hm hb⟩
set_option maxHeartbeats 2000000 in
set_option maxRecDepth 100000 in
theorem wRun_any (s : ByteArray) (ins : List Int) (ia : Option Addr) (ic : Nat) (fuel : Int) (w : World) (hE : Env w) (hI : InL w w.heap.size (.slice ia ins.length ic) ins) :
    Calls Tryz.prog 23 #[.string s, .slice ia ins.length ic, .int .i64 fuel] w (RunAns w (runR s ins fuel)) := by
  have hw1 : Below w.heap.size w (w.alloc (.cells #[.int .i64 0, .slice none 0 0, .slice none 0 0] 57)) := (Below.refl _ _).alloc (Nat.le_refl _) _
  have hP := parse_any s (w.alloc (.cells #[.int .i64 0, .slice none 0 0, .slice none 0 0] 57)) (hE.up hw1)
  have HW1 : Hid (Below w.heap.size w (w.alloc (.cells #[.int .i64 0, .slice none 0 0, .slice none 0 0] 57)) ∧ (w.alloc (.cells #[.int .i64 0, .slice none 0 0, .slice none 0 0] 57)).heap[w.heap.size]? = some (.cells #[.int .i64 0, .slice none 0 0, .slice none 0 0] 57 (0, 0))) := ⟨hw1, heap_alloc_new _ _⟩
  clear hw1
  unfold runR
  rcases hr : prs s with b | ⟨pl, vs⟩
  · cases b with
    | false =>
      rw [hr] at hP
      clear hr
      simp only
      go_enter Tryz.func23, Tryz.ntmps23
      go_wp2_with (go_at_call 40; refine hP.mono ?_; rintro e W1 ⟨hb1, rfl⟩; obtain ⟨tx1, tx2⟩ := box_cells ((hb1.block w.heap.size (by simp)).trans HW1.out.2); have z0 : w.heap.size < W1.heap.size := (by have := hb1.size; simp at this; omega); have z1 : w.heap.size ≠ W1.heap.size := (by omega); have z2 : W1.heap.size ≠ w.heap.size := (by omega))
      refine bodyPost_ret (v := .tuple #[.agg #[.int .i64 0, .slice none 0 0, .slice none 0 0], .int .i64 1]) (by simp [results, Tryz.results23, go_sem, tx1, z0, z1, z2]) rfl ?_
      exact ⟨(by repeat (first | exact (HW1.out.1.trans (hb1.mono HW1.out.1.size)) | with_reducible refine below_drewN ?_ _ | with_reducible refine Below.drew ?_ | refine Below.setCell ?_ (by first | exact Nat.le_refl _ | (simp; done) | (simp; omega)) _ | refine Below.alloc ?_ (by first | (simp; done) | (simp [World.setCell]; omega)) _)), _, _, [], rfl, trc_nil _ _ _ _⟩
    | true =>
      rw [hr] at hP
      clear hr
      simp only
      go_enter Tryz.func23, Tryz.ntmps23
      go_wp2_with (go_at_call 40; refine hP.mono ?_; rintro e W1 ⟨hb1, rfl⟩; obtain ⟨tx1, tx2⟩ := box_cells ((hb1.block w.heap.size (by simp)).trans HW1.out.2); have z0 : w.heap.size < W1.heap.size := (by have := hb1.size; simp at this; omega); have z1 : w.heap.size ≠ W1.heap.size := (by omega); have z2 : W1.heap.size ≠ w.heap.size := (by omega))
      refine bodyPost_ret (v := .tuple #[.agg #[.int .i64 0, .slice none 0 0, .slice none 0 0], .int .i64 2]) (by simp [results, Tryz.results23, go_sem, tx1, z0, z1, z2]) rfl ?_
      exact ⟨(by repeat (first | exact (HW1.out.1.trans (hb1.mono HW1.out.1.size)) | with_reducible refine below_drewN ?_ _ | with_reducible refine Below.drew ?_ | refine Below.setCell ?_ (by first | exact Nat.le_refl _ | (simp; done) | (simp; omega)) _ | refine Below.alloc ?_ (by first | (simp; done) | (simp [World.setCell]; omega)) _)), _, _, [], rfl, trc_nil _ _ _ _⟩
  · obtain ⟨hz, h0, hok, _⟩ := prs_ok hr
    have hv8 : vs.length ≤ 8 := by simp only [progOk, Bool.and_eq_true, decide_eq_true_eq] at hok; exact hok.1.1.1
    have HFIT : Hid (∀ ps, plc 0 [] (pl.map PN.lab) = some ps → Fit pl ps vs.length) := fun ps hp => fit_of (ps := ps) hr hp
    have hp60 := hz.len
    rw [hr] at hP
    clear hr hok
    simp only
    by_cases hA : 100 < ins.length
    · rw [if_pos (Or.inl hA)]
      have d1 : decide (100 < (ins.length : Int)) = true := decide_eq_true (by omega)
      go_enter Tryz.func23, Tryz.ntmps23
      go_wp2_with (go_at_call 40; refine hP.mono ?_; rintro e W1 ⟨hb1, g, cap, nl, ps, rfl, hgB, hN, hR, hps, hEr⟩; obtain ⟨tx1, tx2⟩ := box_cells ((hb1.block w.heap.size (by simp)).trans HW1.out.2); have z0 : w.heap.size < W1.heap.size := (by have := hb1.size; simp at this; omega); have z1 : w.heap.size ≠ W1.heap.size := (by omega); have z2 : W1.heap.size ≠ w.heap.size := (by omega))
      refine bodyPost_ret (v := .tuple #[.agg #[.int .i64 0, .slice none 0 0, .slice none 0 0], .int .i64 9]) (by simp [results, Tryz.results23, go_sem, tx1, z0, z1, z2]) rfl ?_
      exact ⟨(by repeat (first | exact (HW1.out.1.trans (hb1.mono HW1.out.1.size)) | with_reducible refine below_drewN ?_ _ | with_reducible refine Below.drew ?_ | refine Below.setCell ?_ (by first | exact Nat.le_refl _ | (simp; done) | (simp; omega)) _ | refine Below.alloc ?_ (by first | (simp; done) | (simp [World.setCell]; omega)) _)), _, _, [], rfl, trc_nil _ _ _ _⟩
    · by_cases hB : fuel < 0
      · rw [if_pos (Or.inr (Or.inl hB))]
        have d1 : decide (100 < (ins.length : Int)) = false := decide_eq_false (by omega)
        have d2 : decide (fuel < 0) = true := decide_eq_true (by omega)
        go_enter Tryz.func23, Tryz.ntmps23
        go_wp2_with (go_at_call 40; refine hP.mono ?_; rintro e W1 ⟨hb1, g, cap, nl, ps, rfl, hgB, hN, hR, hps, hEr⟩; obtain ⟨tx1, tx2⟩ := box_cells ((hb1.block w.heap.size (by simp)).trans HW1.out.2); have z0 : w.heap.size < W1.heap.size := (by have := hb1.size; simp at this; omega); have z1 : w.heap.size ≠ W1.heap.size := (by omega); have z2 : W1.heap.size ≠ w.heap.size := (by omega))
        refine bodyPost_ret (v := .tuple #[.agg #[.int .i64 0, .slice none 0 0, .slice none 0 0], .int .i64 9]) (by simp [results, Tryz.results23, go_sem, tx1, z0, z1, z2]) rfl ?_
        exact ⟨(by repeat (first | exact (HW1.out.1.trans (hb1.mono HW1.out.1.size)) | with_reducible refine below_drewN ?_ _ | with_reducible refine Below.drew ?_ | refine Below.setCell ?_ (by first | exact Nat.le_refl _ | (simp; done) | (simp; omega)) _ | refine Below.alloc ?_ (by first | (simp; done) | (simp [World.setCell]; omega)) _)), _, _, [], rfl, trc_nil _ _ _ _⟩
      · by_cases hC : 2000 < fuel
        · rw [if_pos (Or.inr (Or.inr hC))]
          have d1 : decide (100 < (ins.length : Int)) = false := decide_eq_false (by omega)
          have d2 : decide (fuel < 0) = false := decide_eq_false (by omega)
          have d3 : decide (2000 < fuel) = true := decide_eq_true (by omega)
          go_enter Tryz.func23, Tryz.ntmps23
          go_wp2_with (go_at_call 40; refine hP.mono ?_; rintro e W1 ⟨hb1, g, cap, nl, ps, rfl, hgB, hN, hR, hps, hEr⟩; obtain ⟨tx1, tx2⟩ := box_cells ((hb1.block w.heap.size (by simp)).trans HW1.out.2); have z0 : w.heap.size < W1.heap.size := (by have := hb1.size; simp at this; omega); have z1 : w.heap.size ≠ W1.heap.size := (by omega); have z2 : W1.heap.size ≠ w.heap.size := (by omega))
          refine bodyPost_ret (v := .tuple #[.agg #[.int .i64 0, .slice none 0 0, .slice none 0 0], .int .i64 9]) (by simp [results, Tryz.results23, go_sem, tx1, z0, z1, z2]) rfl ?_
          exact ⟨(by repeat (first | exact (HW1.out.1.trans (hb1.mono HW1.out.1.size)) | with_reducible refine below_drewN ?_ _ | with_reducible refine Below.drew ?_ | refine Below.setCell ?_ (by first | exact Nat.le_refl _ | (simp; done) | (simp; omega)) _ | refine Below.alloc ?_ (by first | (simp; done) | (simp [World.setCell]; omega)) _)), _, _, [], rfl, trc_nil _ _ _ _⟩
        · rw [if_neg (by omega)]
          have d1 : decide (100 < (ins.length : Int)) = false := decide_eq_false (by omega)
          have d2 : decide (fuel < 0) = false := decide_eq_false (by omega)
          have d3 : decide (2000 < fuel) = false := decide_eq_false (by omega)
          obtain ⟨f, rfl⟩ : ∃ f : Nat, fuel = f := ⟨fuel.toNat, by omega⟩
          have hf2 : f ≤ 2000 := by omega
          have HII : Hid (InL w w.heap.size (.slice ia ins.length ic) ins) := hI
          clear hI hA hB hC
          go_enter Tryz.func23, Tryz.ntmps23
          go_wp2_with (go_at_call 40; refine hP.mono ?_; rintro e W1 ⟨hb1, g, cap, nl, ps, rfl, hgB, hN, hR, hps, hEr⟩; obtain ⟨tx1, tx2⟩ := box_cells ((hb1.block w.heap.size (by simp)).trans HW1.out.2); have z0 : w.heap.size < W1.heap.size := (by have := hb1.size; simp at this; omega); have z1 : w.heap.size ≠ W1.heap.size := (by omega); have z2 : W1.heap.size ≠ w.heap.size := (by omega))
          have hw2 : Below W1.heap.size W1 (W1.alloc (.cells #[.slice (some ⟨g, 0, none⟩) pl.length cap, .int .i64 vs.length] 86)) := (Below.refl _ _).alloc (Nat.le_refl _) _
          have HLOW : Hid (Below w.heap.size w (W1.alloc (.cells #[.slice (some ⟨g, 0, none⟩) pl.length cap, .int .i64 vs.length] 86))) := (HW1.out.1.trans (hb1.mono HW1.out.1.size)).trans (hw2.mono (by omega))
          have hI2 : InL (W1.alloc (.cells #[.slice (some ⟨g, 0, none⟩) pl.length cap, .int .i64 vs.length] 86)) (W1.alloc (.cells #[.slice (some ⟨g, 0, none⟩) pl.length cap, .int .i64 vs.length] 86)).heap.size (.slice ia ins.length ic) ins := by
            obtain ⟨ao, cp, e, h1, h2, h3⟩ := HII.out
            refine ⟨ao, cp, e, h1, h2, fun j x hj => ?_⟩
            obtain ⟨b, o, e2, hlt, hc⟩ := h3 j x hj
            exact ⟨b, o, e2, Nat.lt_of_lt_of_le hlt HLOW.out.size, (cell_block (HLOW.out.block b hlt)).trans hc⟩
          have HRUN := (show Hid _ from mrun_any g cap vs.length ia ic ins f nl pl ps _ hv8 hf2 h0 hp60 (hN.alloc (.cells #[.slice (some ⟨g, 0, none⟩) pl.length cap, .int .i64 vs.length] 86)) (reps_alloc hR _) (fun j c p a b => (hEr j c p a b).of_below hw2) (HFIT.out ps hps) hI2)
          have HPS : Hid (plc 0 [] (pl.map PN.lab) = some ps) := hps
          have HTX : Hid ((W1.alloc (.cells #[.slice (some ⟨g, 0, none⟩) pl.length cap, .int .i64 vs.length] 86)).heap[w.heap.size]? = some (.cells #[.int .i64 0, .slice none 0 0, .slice none 0 0] 57 (0, 0))) := (Below.heap_alloc _ _ _ z0).trans ((hb1.block w.heap.size (by simp)).trans HW1.out.2)
          clear hI2 hw2 hps hN hR hEr hb1 tx1 tx2
          refine Calls.mono HRUN.out ?_
          clear HRUN
          obtain ⟨r, hr⟩ : ∃ r, runF pl ps f 0 (List.replicate vs.length 0) ins [] [] = r := ⟨_, rfl⟩
          rw [hr]
          rintro e W2 ⟨hb2, ov, sv, stl, rfl, ho, hs, hrest⟩
          have HT : Hid (TrcIs _ W2 vs.length r ov sv stl) := ⟨ho, hs, hrest⟩
          obtain ⟨oa, oc, rfl⟩ := sl_of_own ho
          obtain ⟨sa, sc, rfl⟩ := sl_of_own hs
          obtain ⟨tx1, tx2⟩ := box_cells ((hb2.block w.heap.size (by simp; omega)).trans HTX.out)
          have HB2 : Hid (Below w.heap.size w W2) := HLOW.out.trans (hb2.mono HLOW.out.size)
          have HRR : Hid (runF pl ps f 0 (List.replicate vs.length 0) ins [] [] = r) := hr
          clear hr ho hs hrest hb2
          go_wp2_with fail
          refine bodyPost_ret (v := .tuple #[.agg #[.int .i64 r.1, .slice oa r.2.1.length oc, .slice sa stl.length sc], .int .i64 0]) (by simp [results, Tryz.results23, go_sem, tx1]) rfl ?_
          unfold runG
          rw [HPS.out]
          simp only
          rw [Int.toNat_natCast, HRR.out]
          have keep : ∀ {W : World} {a : Addr} {v : Value} {e size n : Nat} {u : Value} {xs : List Value}, W.ownsRow (W1.alloc (.cells #[.slice (some ⟨g, 0, none⟩) pl.length cap, .int .i64 vs.length] 86)).heap.size e size u n xs → a.block = w.heap.size → (W.setCell a v).ownsRow (W1.alloc (.cells #[.slice (some ⟨g, 0, none⟩) pl.length cap, .int .i64 vs.length] 86)).heap.size e size u n xs := fun h e => ownsRow_setCell_below h (by rw [e]; simp; omega) _
          refine ⟨((HB2.out.setCell (Nat.le_refl _) _).setCell (Nat.le_refl _) _).setCell (Nat.le_refl _) _, _, _, stl, rfl, TrcIs.base (w := W1.alloc (.cells #[.slice (some ⟨g, 0, none⟩) pl.length cap, .int .i64 vs.length] 86)) ?_ (by simp; omega)⟩
          exact ⟨keep (keep (keep HT.out.1 rfl) rfl) rfl, keep (keep (keep HT.out.2.1 rfl) rfl) rfl, HT.out.2.2.1, fun x hx => ⟨keep (keep (keep (HT.out.2.2.2.1 x hx).1 rfl) rfl) rfl, (HT.out.2.2.2.1 x hx).2⟩, HT.out.2.2.2.2⟩
end Go.Proofs.YtmipbiligijcpaaGreatDoor
namespace Go.Proofs.YtmipbiligijcpaaGreatDoor
set_option linter.unusedVariables false
set_option linter.unusedSimpArgs false
open Go.RowKit Go.Proofs Go.Maps

theorem vis_pre (n : SN) (vals ins outs : List Int) : outs <+: (vis n vals ins outs).2.2.2 := by
  unfold vis
  repeat' split
  all_goals simp
theorem vis_end (n : SN) (vals ins outs : List Int) : (vis n vals ins outs).1 ≠ 4 := by
  unfold vis
  repeat' split
  all_goals simp
theorem run_pre (pl : List PN) (ps : List (Nam × Nat)) : ∀ (f k : Nat) (vals ins outs : List Int) (st : List (Nat × List Int)), outs <+: (runF pl ps f k vals ins outs st).2.1 ∧ st <+: (runF pl ps f k vals ins outs st).2.2 := by
  intro f
  induction f with
  | zero => intro k vals ins outs st; exact ⟨List.prefix_refl _, List.prefix_refl _⟩
  | succ f ih =>
    intro k vals ins outs st
    rw [runF]
    split
    · exact ⟨List.prefix_refl _, List.prefix_append _ _⟩
    · rename_i p _
      split
      · obtain ⟨h1, h2⟩ := ih ((edgK ps p.nc k).getD (edgN p.n (vis p.n vals ins outs).2.1).toNat 0).toNat (vis p.n vals ins outs).2.1 (vis p.n vals ins outs).2.2.1 (vis p.n vals ins outs).2.2.2 (st ++ [(k, vals)])
        exact ⟨(vis_pre _ _ _ _).trans h1, (List.prefix_append _ _).trans h2⟩
      · exact ⟨vis_pre _ _ _ _, List.prefix_append _ _⟩
/-- the run with more fuel is the same, as far as the first one went -/
theorem run_more (pl : List PN) (ps : List (Nam × Nat)) : ∀ (f g k : Nat) (vals ins outs : List Int) (st : List (Nat × List Int)), f ≤ g → (runF pl ps f k vals ins outs st).2.1 <+: (runF pl ps g k vals ins outs st).2.1 ∧ (runF pl ps f k vals ins outs st).2.2 <+: (runF pl ps g k vals ins outs st).2.2 ∧ ((runF pl ps f k vals ins outs st).1 = 4 ∨ (runF pl ps f k vals ins outs st).1 = (runF pl ps g k vals ins outs st).1) := by
  intro f
  induction f with
  | zero => intro g k vals ins outs st _; exact ⟨(run_pre pl ps g k vals ins outs st).1, (run_pre pl ps g k vals ins outs st).2, Or.inl rfl⟩
  | succ f ih =>
    intro g k vals ins outs st hg
    obtain ⟨g', rfl⟩ : ∃ g', g = g' + 1 := ⟨g - 1, by omega⟩
    rw [runF, runF]
    split
    · exact ⟨List.prefix_refl _, List.prefix_refl _, Or.inr rfl⟩
    · split
      · exact ih g' _ _ _ _ _ (by omega)
      · exact ⟨List.prefix_refl _, List.prefix_refl _, Or.inr rfl⟩
theorem run_steps (pl : List PN) (ps : List (Nam × Nat)) : ∀ (f k : Nat) (vals ins outs : List Int) (st : List (Nat × List Int)), (runF pl ps f k vals ins outs st).2.2.length ≤ st.length + f ∧ (0 < f → st.length + 1 ≤ (runF pl ps f k vals ins outs st).2.2.length) := by
  intro f
  induction f with
  | zero => intro k vals ins outs st; exact ⟨by simp [runF], by simp⟩
  | succ f ih =>
    intro k vals ins outs st
    rw [runF]
    split
    · simp
    · rename_i p _
      split
      · obtain ⟨h1, _⟩ := ih ((edgK ps p.nc k).getD (edgN p.n (vis p.n vals ins outs).2.1).toNat 0).toNat (vis p.n vals ins outs).2.1 (vis p.n vals ins outs).2.2.1 (vis p.n vals ins outs).2.2.2 (st ++ [(k, vals)])
        have h2 := (run_pre pl ps f ((edgK ps p.nc k).getD (edgN p.n (vis p.n vals ins outs).2.1).toNat 0).toNat (vis p.n vals ins outs).2.1 (vis p.n vals ins outs).2.2.1 (vis p.n vals ins outs).2.2.2 (st ++ [(k, vals)])).2.length_le
        simp only [List.length_append, List.length_singleton] at h1 h2
        exact ⟨by omega, fun _ => h2⟩
      · simp
end Go.Proofs.YtmipbiligijcpaaGreatDoor
namespace Go.Proofs.YtmipbiligijcpaaGreatDoor
set_option linter.unusedVariables false
set_option linter.unusedSimpArgs false
open Go.RowKit Go.Proofs Go.Maps

/-- the slice reads as these steps -/
def StepsAt (w : World) (ao : Option Addr) (st : List (Nat × List Int)) : Prop := ∀ j s, st[j]? = some s → ∃ b o va vc, ao = some ⟨b, o, none⟩ ∧ w.cell? ⟨b, o + j * 2, none⟩ = some (.int .i64 s.1) ∧ w.cell? ⟨b, o + j * 2 + 1, none⟩ = some (.slice va s.2.length vc) ∧ IntsAt w va s.2
theorem StepsAt.below {w w' : World} {ao : Option Addr} {st : List (Nat × List Int)} (h : StepsAt w ao st) (hb : Below w.heap.size w w') : StepsAt w' ao st := by
  intro j s hj
  obtain ⟨b, o, va, vc, h1, h2, h3, h4⟩ := h j s hj
  exact ⟨b, o, va, vc, h1, cell_stays h2 hb, cell_stays h3 hb, h4.below hb⟩
theorem StepsAt.pre {w : World} {ao : Option Addr} {xs ys : List (Nat × List Int)} (h : StepsAt w ao ys) (hp : xs <+: ys) : StepsAt w ao xs := by
  obtain ⟨t, rfl⟩ := hp
  intro j x hj
  exact h j x (by rw [List.getElem?_append_left (List.getElem?_eq_some_iff.1 hj).1]; exact hj)
theorem ints_of_own {w : World} {B n : Nat} {v : Value} {xs : List Int} (h : w.ownsRow B 2 1 v n (xs.map (Value.int .i64))) (hn : xs.length = n) : ∃ ao cap, v = .slice ao n cap ∧ n ≤ cap ∧ IntsAt w ao xs := by
  rcases h.2 with ⟨rfl, e⟩ | ⟨g, cap, cur, hv, hb, hg, hc, hm, hs, ht⟩
  · refine ⟨none, 0, by rw [e], by omega, fun j x hj => ?_⟩
    have := (List.getElem?_eq_some_iff.1 hj).1
    omega
  · refine ⟨_, cap, hv, hc, fun j x hj => ⟨g, 0, rfl, ?_⟩⟩
    have hjl := (List.getElem?_eq_some_iff.1 hj).1
    have h1 : (xs.map (Value.int .i64))[j]? = some (.int .i64 x) := by simp [hj]
    rw [← ht, List.getElem?_take, if_pos (by omega)] at h1
    simp only [World.cell?, hg, Nat.zero_add]
    simpa using h1
theorem stCells_at : ∀ (l : List Stp) (j : Nat) (s : Stp), l[j]? = some s → (stCells l)[j * 2]? = some (.int .i64 s.1) ∧ (stCells l)[j * 2 + 1]? = some s.2.1
  | [], j, s, h => by simp at h
  | a :: l, 0, s, h => by simp at h; subst h; simp [stCells]
  | a :: l, j + 1, s, h => by
    have := stCells_at l j s (by simpa using h)
    have e : stCells (a :: l) = .int .i64 a.1 :: a.2.1 :: stCells l := by simp [stCells]
    rw [e, show (j + 1) * 2 = j * 2 + 1 + 1 by omega, show j * 2 + 1 + 1 + 1 = (j * 2 + 1) + 1 + 1 by omega]
    simpa using this
theorem steps_of {w w' : World} {nv : Nat} {r : Int × List Int × List (Nat × List Int)} {ov sv : Value} {stl : List Stp} (h : TrcIs w w' nv r ov sv stl) : ∃ ao cap, sv = .slice ao r.2.2.length cap ∧ r.2.2.length ≤ cap ∧ StepsAt w' ao r.2.2 := by
  obtain ⟨_, h2, h3, h4, _⟩ := h
  have hlen : r.2.2.length = stl.length := by rw [← h3]; simp [stOf]
  rcases h2.2 with ⟨rfl, e⟩ | ⟨g, cap, cur, hv, hb, hg, hc, hm, hs, ht⟩
  · refine ⟨none, 0, by rw [hlen, e], by omega, fun j x hj => ?_⟩
    have := (List.getElem?_eq_some_iff.1 hj).1
    omega
  · refine ⟨_, cap, by rw [hlen]; exact hv, by omega, fun j x hj => ?_⟩
    have hjl := (List.getElem?_eq_some_iff.1 hj).1
    obtain ⟨s, hs2⟩ : ∃ s, stl[j]? = some s := ⟨_, List.getElem?_eq_getElem (by omega)⟩
    have hx : x = (s.1, s.2.2) := by
      rw [← h3] at hj
      simp [stOf, hs2] at hj
      exact hj.symm
    subst hx
    obtain ⟨c1, c2⟩ := stCells_at stl j s hs2
    rw [← ht, List.getElem?_take, if_pos (by omega)] at c1 c2
    obtain ⟨a1, _, _⟩ := h4 s (List.mem_of_getElem? hs2)
    obtain ⟨va, vc, hva, _, hints⟩ := ints_of_own a1 rfl
    refine ⟨g, 0, va, vc, rfl, ?_, ?_, hints⟩
    · simp only [World.cell?, hg, Nat.zero_add]; simpa using c1
    · simp only [World.cell?, hg, Nat.zero_add]
      have : (cur.toList)[j * 2 + 1]? = some s.2.1 := c2
      rw [hva] at this
      simpa using this
end Go.Proofs.YtmipbiligijcpaaGreatDoor
