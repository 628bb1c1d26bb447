/- A part of the proof: contracts of functions of the program. -/
import Derived.Test.YtmipbiligijcpaaGreatDoorA29
import Derived.Test.YtmipbiligijcpaaGreatDoorA37
import Derived.Deep.Cut
namespace Go.Proofs.YtmipbiligijcpaaGreatDoor
set_option linter.unusedVariables false
set_option linter.unusedSimpArgs false
open Go.RowKit Go.Proofs Go.Maps

theorem opd_cases {r : RO} {o : Opd} {nv : Nat} {vals : List Int} (h : opRel r o) (hi : opdIn nv o) (hv : vals.length = nv) : (∃ j : Nat, r.var = j ∧ j < nv ∧ vals[j]? = some (opW vals o)) ∨ (r.var = -1 ∧ r.c = opW vals o) := by
  unfold opRel at h
  unfold opW
  cases ho : o.isVar with
  | true =>
    rw [ho] at h
    obtain ⟨h1, h2⟩ := hi ho
    refine Or.inl ⟨o.var.toNat, by rw [h.1]; omega, by omega, ?_⟩
    simp only [if_true]
    rw [List.getD_eq_getElem?_getD, List.getElem?_eq_getElem (show o.var.toNat < vals.length by omega)]
    rfl
  | false =>
    rw [ho] at h
    exact Or.inr ⟨h.1, by simpa using h.2⟩
theorem DS.box4 {w W W' W4 : World} {tb nv : Nat} {vals outs : List Int} {vv ov sv : Value} {stl : List Stp} {o : Obj} (h : DS w W tb nv vals outs vv ov sv stl) (hb : Below W.heap.size W W') (hg : (W'.alloc o).grownBy W4 sv.ownBlock) : W4.heap[tb]? = some (.cells #[.int .i64 0, ov, sv] 57 (0, 0)) := by
  have hga : W'.grownBy W4 sv.ownBlock := (World.grownBy_alloc W' o _).trans hg
  have h2 := h.up hb
  refine (hga.block tb h2.lt ?_).trans h2.box
  rcases own_ne_tr h2.row h2.box (by decide) with e | e
  · rw [e]; simp
  · exact fun e2 => e e2.symm
theorem DS.box5 {w W W' W4 : World} {tb nv : Nat} {vals outs : List Int} {vv ov sv : Value} {stl : List Stp} {o : Obj} (h : DS w W tb nv vals outs vv ov sv stl) (hb : Below W.heap.size W W') (hg : (W'.alloc o).grownBy W4 ov.ownBlock) : W4.heap[tb]? = some (.cells #[.int .i64 0, ov, sv] 57 (0, 0)) := by
  have hga : W'.grownBy W4 ov.ownBlock := (World.grownBy_alloc W' o _).trans hg
  have h2 := h.up hb
  refine (hga.block tb h2.lt ?_).trans h2.box
  rcases own_ne_tr h2.orow h2.box (by decide) with e | e
  · rw [e]; simp
  · exact fun e2 => e e2.symm
theorem DS.rw3 {w W W' : World} {tb nv k : Nat} {vals outs : List Int} {vv ov sv cv : Value} {stl : List Stp} (h : DS w W tb nv vals outs vv ov sv stl) (hb : Below W.heap.size W W') : (W'.alloc (.cells #[.int .i64 k, cv] 113)).ownsRow w.heap.size 113 2 sv stl.length (stCells stl) ∧ (∀ j u, [Value.int .i64 k, cv][j]? = some u → (W'.alloc (.cells #[.int .i64 k, cv] 113)).cell? ((⟨W'.heap.size, 0, none⟩ : Addr).add j) = some u) ∧ w.heap.size ≤ (W'.alloc (.cells #[.int .i64 k, cv] 113)).heap.size := by
  refine ⟨(h.up hb).row.alloc _, ?_, by have := h.below.size; have := hb.size; simp; omega⟩
  intro j u hj
  match j, hj with
  | 0, hj => simp at hj; subst hj; simp [Addr.add]
  | 1, hj => simp at hj; subst hj; simp [Addr.add]
theorem steps_at {w : World} {B sc : Nat} {sa : Option Addr} {stl : List Stp} (h2 : w.ownsRow B 113 2 (.slice sa stl.length sc) stl.length (stCells stl)) (h4 : ∀ s ∈ stl, w.ownsRow B 2 1 s.2.1 s.2.2.length (s.2.2.map (Value.int .i64))) : StepsAt w sa (stOf stl) := by
  intro j x hj
  have hjl : j < stl.length := by have := (List.getElem?_eq_some_iff.1 hj).1; simpa [stOf] using this
  rcases h2.2 with ⟨_, e⟩ | ⟨g, cap, cur, hv, hb, hg, hc, hm, hs, ht⟩
  · omega
  · cases hv
    obtain ⟨s, hs2⟩ : ∃ s, stl[j]? = some s := ⟨_, List.getElem?_eq_getElem hjl⟩
    have hx : x = (s.1, s.2.2) := by
      simp [stOf, hs2] at hj
      exact hj.symm
    subst hx
    obtain ⟨c1, c2⟩ := stCells_at stl j s hs2
    rw [← ht, List.getElem?_take, if_pos (by omega)] at c1 c2
    obtain ⟨va, vc, hva, _, hints⟩ := ints_of_own (h4 s (List.mem_of_getElem? hs2)) rfl
    refine ⟨g, 0, va, vc, rfl, ?_, ?_, hints⟩
    · simp only [World.cell?, hg, Nat.zero_add]; simpa using c1
    · simp only [World.cell?, hg, Nat.zero_add]
      have : (cur.toList)[j * 2 + 1]? = some s.2.1 := c2
      rw [hva] at this
      simpa using this
theorem DS.done {w W1 W : World} {tb nv : Nat} {vals outs : List Int} {vv : Value} {oa sa : Option Addr} {oc sc : Nat} {stl : List Stp} {o : Obj} (h : DS W1 W tb nv vals outs vv (.slice oa outs.length oc) (.slice sa stl.length sc) stl) (hb : Below (w.alloc o).heap.size (w.alloc o) W1) (en : Int) (d a b c : Value) (r : Int × List Int × List (Nat × List Int)) (hr : r = (en, outs, stOf stl)) : DocAns w (0, r, nv) (.returned (.tuple #[.agg #[.int .i64 en, .slice oa outs.length oc, .slice sa stl.length sc], .int .i64 0])) ((((W.setCell ⟨tb, 0, none⟩ d).setCell ⟨w.heap.size, 0, none⟩ a).setCell ⟨w.heap.size, 1, none⟩ b).setCell ⟨w.heap.size, 2, none⟩ c) := by
  subst hr
  have hz := hb.size
  have hza : (w.alloc o).heap.size = w.heap.size + 1 := by simp
  have keep : ∀ {e size n : Nat} {v : Value} {xs : List Value}, e ≠ 57 → W.ownsRow W1.heap.size e size v n xs → ((((W.setCell ⟨tb, 0, none⟩ d).setCell ⟨w.heap.size, 0, none⟩ a).setCell ⟨w.heap.size, 1, none⟩ b).setCell ⟨w.heap.size, 2, none⟩ c).ownsRow W1.heap.size e size v n xs := fun he ho =>
    ownsRow_setCell_below (ownsRow_setCell_below (ownsRow_setCell_below (ho.kept (grown_self W tb 0 d) (own_ne_tr ho h.box he)) (by show w.heap.size < _; omega) a) (by show w.heap.size < _; omega) b) (by show w.heap.size < _; omega) c
  have hl : Below w.heap.size w W := by
    have h1 := ((Below.refl w.heap.size w).alloc (Nat.le_refl _) o).trans (hb.mono (by omega))
    exact h1.trans (h.below.mono (by omega))
  have hlow := h.low
  refine ⟨(((hl.setCell (by show w.heap.size ≤ tb; omega) _).setCell (Nat.le_refl _) _).setCell (Nat.le_refl _) _).setCell (Nat.le_refl _) _, oa, oc, sa, sc, stl, rfl, own_mono (keep (by decide) h.orow) (by omega), own_mono (keep (by decide) h.row) (by omega), rfl, fun s hs => own_mono (keep (by decide) (h.each s hs).1) (by omega)⟩
theorem add0 (b k : Nat) : (⟨b, 0, none⟩ : Addr).add k = ⟨b, k, none⟩ := by unfold Addr.add; split <;> simp_all
theorem run_next {pl : List PN} {ps : List (Nam × Nat)} {f n k nv i : Nat} {vals ins outs vals' ins' outs' : List Int} {st : List (Nat × List Int)} {p : PN} {R : Int × List Int × List (Nat × List Int)} (hF : Fit pl ps nv) (hp : pl[k]? = some p) (hn : n < f) (HR : R = runF pl ps (f - n) k vals ins outs st) (hv : vis p.n vals ins outs = (0, vals', ins', outs')) (hi : edgN p.n vals' = (i : Int)) : ∃ t : Nat, t < pl.length ∧ (edgK ps p.nc k)[i]? = some (t : Int) ∧ R = runF pl ps (f - (n + 1)) t vals' ins' outs' (st ++ [(k, vals)]) := by
  obtain ⟨t, ht, htl⟩ := hF.edge k p vals' hp (vis_return (by rw [hv]))
  rw [hi, Int.toNat_natCast] at ht
  refine ⟨t, htl, ht, ?_⟩
  rw [HR, runF_step hp hn, hv]
  simp only [if_true]
  rw [hi, Int.toNat_natCast]
  simp [List.getD, ht]
theorem run_end {pl : List PN} {ps : List (Nam × Nat)} {f n k : Nat} {en : Int} {vals ins outs vals' ins' outs' : List Int} {st : List (Nat × List Int)} {p : PN} {R : Int × List Int × List (Nat × List Int)} (hp : pl[k]? = some p) (hn : n < f) (HR : R = runF pl ps (f - n) k vals ins outs st) (hv : vis p.n vals ins outs = (en, vals', ins', outs')) (he : en ≠ 0) : R = (en, outs', st ++ [(k, vals)]) := by
  rw [HR, runF_step hp hn, hv, if_neg he]
theorem nxt_cells {W1 : World} {B k t i xb xc : Nat} {evs : List Value} {pl : List PN} {ps : List (Nam × Nat)} {p : PN} (hx : W1.ownsRow B 36 1 (.slice (some ⟨xb, 0, none⟩) pl.length xc) evs.length evs) (hxl : evs.length = pl.length) (hxe : ∀ (j : Nat) (ev : Value) (p : PN), evs[j]? = some ev → pl[j]? = some p → W1.ownsRow B 3 1 ev (edgK ps p.nc j).length ((edgK ps p.nc j).map (Value.int .i64))) (hp : pl[k]? = some p) (ht : (edgK ps p.nc k)[i]? = some (t : Int)) : ∃ eb ec L, i < L ∧ ∀ W, Below W1.heap.size W1 W → W.cell? ⟨xb, k, none⟩ = some (.slice (some ⟨eb, 0, none⟩) L ec) ∧ W.cell? ⟨eb, i, none⟩ = some (.int .i64 t) := by
  have hk : k < pl.length := (List.getElem?_eq_some_iff.1 hp).1
  have hil := (List.getElem?_eq_some_iff.1 ht).1
  obtain ⟨ev, hev⟩ : ∃ ev, evs[k]? = some ev := ⟨_, List.getElem?_eq_getElem (by omega)⟩
  have hrow := hxe k ev p hev hp
  rcases hrow.2 with ⟨_, e⟩ | ⟨g, cap, cur, rfl, hbg, hg, hc, hm, hs, htk⟩
  · omega
  · refine ⟨g, cap, (edgK ps p.nc k).length, hil, fun W hW => ⟨?_, ?_⟩⟩
    · have h1 := hx.cells (g := xb) rfl k _ hev
      rw [add0] at h1
      exact (cell_block (hW.block xb (cell_lt h1))).trans h1
    · have h1 := hrow.cells (g := g) rfl i (.int .i64 t) (by simp [ht])
      rw [add0] at h1
      exact (cell_block (hW.block g (cell_lt h1))).trans h1
set_option maxHeartbeats 8000000 in
set_option maxRecDepth 100000 in
theorem rrun_core (s : ByteArray) (ins : List Int) (ia : Option Addr) (ic f : Nat) (pl : List PN) (vs : List Nam) (w : World) (hI : InL w w.heap.size (.slice ia ins.length ic) ins) (hA : ins.length ≤ 100) (hf : f ≤ 2000) (hr : prs s = Pr.ok pl vs)
    (hP : ∀ W, Calls Tryz.prog 38 #[.string s] W (RPAns W (Pr.ok pl vs))) :
    Calls Tryz.prog 27 #[.string s, .slice ia ins.length ic, .int .i64 f] w (DocAns w (runG pl vs ins f)) := by
  obtain ⟨hz, h0, hok, _⟩ := prs_ok hr
  have hv8 : vs.length ≤ 8 := by simp only [progOk, Bool.and_eq_true, decide_eq_true_eq] at hok; exact hok.1.1.1
  have hp60 := hz.len
  have d1 : decide (100 < (ins.length : Int)) = false := decide_eq_false (by omega)
  have d2 : decide ((f : Int) < 0) = false := decide_eq_false (by omega)
  have d3 : decide (2000 < (f : Int)) = false := decide_eq_false (by omega)
  have HP : Hid (∀ W, Calls Tryz.prog 38 #[.string s] W (RPAns W (Pr.ok pl vs))) := hP
  clear hP hok
  go_enter Tryz.func27, Tryz.ntmps27
  go_wp2_with fail
  refine Calls.mono (HP.out _) ?_
  rintro e W1 ⟨hb1, pb, g, cap, va, vc, xv, cl, evs, ps, rfl, hpb, hbx, hg, hN, hR, hps, hx, hxl, hxe⟩
  obtain ⟨xb, xc, rfl⟩ : ∃ xb xc, xv = .slice (some ⟨xb, 0, none⟩) pl.length xc := by
    rcases hx.2 with ⟨_, e⟩ | ⟨g, cap, cur, e, _⟩
    · omega
    · exact ⟨g, cap, by rw [e, hxl]⟩
  obtain ⟨bx1, bx2⟩ := box_cells hbx
  have hpz : pb < W1.heap.size := (Array.getElem?_eq_some_iff.1 hbx).1
  have p1 : pb ≠ W1.heap.size := by omega
  have p2 : W1.heap.size ≠ pb := by omega
  have HF : Hid (Fit pl ps vs.length ∧ runG pl vs ins f = (0, runF pl ps f 0 (List.replicate vs.length 0) ins [] [], vs.length)) := ⟨fit_of hr hps, by unfold runG; rw [hps]; rfl⟩
  have HB1 := (show Hid _ from hb1)
  have HD : Hid (W1.heap[pb]? = _ ∧ Rrow W1 g cap cl ∧ RReps W1 cl pl ∧ W1.ownsRow (w.alloc (.cells #[.int .i64 0, .slice none 0 0, .slice none 0 0] 57)).heap.size 36 1 (.slice (some ⟨xb, 0, none⟩) pl.length xc) evs.length evs ∧ evs.length = pl.length ∧ (∀ (j : Nat) (ev : Value) (p : PN), evs[j]? = some ev → pl[j]? = some p → W1.ownsRow (w.alloc (.cells #[.int .i64 0, .slice none 0 0, .slice none 0 0] 57)).heap.size 3 1 ev (edgK ps p.nc j).length ((edgK ps p.nc j).map (Value.int .i64)))) := ⟨hbx, hN, hR, hx, hxl, hxe⟩
  have hW1 : w.heap.size < W1.heap.size := by have := hb1.size; simp at this; omega
  have HRB : Hid (∀ W, Below W1.heap.size W1 W → W.heap[w.heap.size]? = some (.cells #[.int .i64 0, .slice none 0 0, .slice none 0 0] 57 (0, 0))) := by
    intro W hW
    exact (hW.block _ hW1).trans ((hb1.block _ (by simp)).trans (heap_alloc_new w _))
  have r1 : w.heap.size ≠ W1.heap.size := by omega
  have r2 : W1.heap.size ≠ w.heap.size := by omega
  clear hbx hN hR hps hx hxl hxe hb1 hpb hg hr hz
  obtain ⟨i1, hi, hz0, hz1, hz2⟩ := info_parts info64
  have HI : Hid (Tryz.prog.info? 2 = some i1 ∧ i1.zero = some (.int .i64 0) ∧ i1.size = 1 ∧ i1.bytes = 8) := ⟨hi, hz0, hz1, hz2⟩
  clear hi hz0 hz1 hz2
  go_wp2_with (at_make; refine wpList_make_full _ rfl (.tmp 48) (.tmp 48) 23 rfl W1.heap.size 2 i1 (.int .i64 0) 1 Tryz.underlying23 HI.out.1 HI.out.2.1 HI.out.2.2.1 .i64 .i64 vs.length vs.length vs.length rfl rfl rfl rfl (by rw [HI.out.2.2.2]; omega) (by unfold maxLen; omega) (by simp) ?_; intro W2 hown2 hgrow2)
  have hz1 : (W1.alloc (.cells #[.int .i64 0, .slice none 0 0, .slice none 0 0] 57)).heap.size = W1.heap.size + 1 := by simp
  rw [hz1] at hown2
  have hg2 := (World.grownBy_alloc W1 (.cells #[.int .i64 0, .slice none 0 0, .slice none 0 0] 57) none).trans hgrow2
  have hb2 : Below W1.heap.size W1 W2 := ⟨hg2.os, hg2.tape, hg2.output, hg2.size, fun k hk => hg2.block k hk (by simp)⟩
  have HS : Hid (DS W1 W2 W1.heap.size vs.length (List.replicate vs.length 0) [] (.slice (some ⟨W1.heap.size + 1, 0, none⟩) vs.length vs.length) (.slice none 0 0) (.slice none 0 0) []) := by
    refine ⟨(hgrow2.block W1.heap.size (by simp) (by simp)).trans (heap_alloc_new _ _), Nat.le_refl _, ?_, World.ownsRow_nil _ _ _ _, Or.inr (by simp [Value.ownBlock]), World.ownsRow_nil _ _ _ _, by simp, hb2, by simp, by simp⟩
    rw [show (Value.int IntKind.i64 0).cells = #[.int .i64 0] from rfl, toList_madeCells_one, Nat.mul_one] at hown2
    rw [List.length_replicate, List.map_replicate]
    exact hown2
  clear hown2 hgrow2 hg2 hb2 hz1 bx1 bx2
  go_loopw [12, 13, 14] (fun u a i wr => ∃ (vals outs : List Int) (ov sv : Value) (stl : List Stp) (used k : Nat), u = .int .i64 used ∧ a = .int .i64 k ∧ i = .int .i64 stl.length ∧ used ≤ ins.length ∧ stl.length ≤ f ∧ k < pl.length ∧ Hid (DS W1 wr W1.heap.size vs.length vals outs (.slice (some ⟨W1.heap.size + 1, 0, none⟩) vs.length vs.length) ov sv stl) ∧ Hid (runF pl ps f 0 (List.replicate vs.length 0) ins [] [] = runF pl ps (f - stl.length) k vals (ins.drop used) outs (stOf stl))) (fun _ _ i _ => f - (intOf i).toNat)
  case atStart => exact ⟨_, [], _, _, [], 0, 0, rfl, rfl, rfl, Nat.zero_le _, by simp, h0, HS, rfl⟩
  case round =>
    clear HS
    obtain ⟨vals, outs, ov, sv, stl, used, k, rfl, rfl, rfl, hu, hle, hk, HS, HR⟩ := hrel
    obtain ⟨sa, sc, rfl⟩ := sl_of_own HS.out.row
    obtain ⟨oa, oc, rfl⟩ := sl_of_own HS.out.orow
    obtain ⟨tx1, tx2⟩ := box_cells HS.out.box
    by_cases hlt : stl.length < f
    · have hlti : (stl.length : Int) < (f : Int) := by omega
      have hki : (k : Int) < (pl.length : Int) := by omega
      have hvr := HS.out.vrow
      rw [HS.out.vlen] at hvr
      have hl1 : 0 + vs.length ≤ maxLen := by unfold maxLen; omega
      have hl2 : (0 + vs.length) * 8 ≤ 140737488355328 := by omega
      have hl3 : stl.length + 1 ≤ maxLen := by unfold maxLen; omega
      have hl4 : (stl.length + 1) * 32 ≤ 140737488355328 := by omega
      have HV : Hid ((∀ j u, (vals.map (Value.int .i64))[j]? = some u → wr.cell? ((⟨W1.heap.size + 1, 0, none⟩ : Addr).add j) = some u) ∧ (vals.map (Value.int .i64)).length = vs.length * 1 ∧ (∀ u ∈ vals.map (Value.int .i64), u.oneCell' = true) ∧ wr.heap.size ≤ wr.heap.size) := by
        refine ⟨hvr.cells (g := W1.heap.size + 1) rfl, by simp [HS.out.vlen], ?_, Nat.le_refl _⟩
        intro u hu
        obtain ⟨x, _, rfl⟩ := List.mem_map.1 hu
        rfl
      clear hvr
      obtain ⟨i2, hi, hz0, hz1, hz2⟩ := info_parts infoStep
      have HI2 : Hid (Tryz.prog.info? 113 = some i2 ∧ i2.zero = some (.agg #[.int .i64 0, .slice none 0 0]) ∧ i2.size = 2 ∧ i2.bytes = 32) := ⟨hi, hz0, hz1, hz2⟩
      clear hi hz0 hz1 hz2
      go_upto_region 16 with (first | (at_builtin; refine wpList_append_own _ rfl (.tmp 55) (.tmp 56) 23 rfl wr.heap.size 2 i1 (.int .i64 0) 1 8 Tryz.underlying23 HI.out.1 HI.out.2.1 HI.out.2.2.1 HI.out.2.2.2 rfl (by decide) (.slice none 0 0) 0 [] rfl (World.ownsRow_nil _ _ _ _) ⟨W1.heap.size + 1, 0, none⟩ vs.length vs.length (vals.map (Value.int .i64)) rfl HV.out.2.1 HV.out.1 HV.out.2.2.1 hl1 hl2 HV.out.2.2.2 ?_; intro v3 W3 hown3 hgrow3 hnil3; rw [Nat.zero_add, List.nil_append] at hown3; clear hnil3; obtain ⟨ca, cc, rfl⟩ := sl_of_own hown3; have hb3 : Below wr.heap.size wr W3 := ⟨hgrow3.os, hgrow3.tape, hgrow3.output, hgrow3.size, fun j hj => hgrow3.block j hj (by simp [Value.ownBlock])⟩; have HB3 := (show Hid _ from hb3); have HO3 := (show Hid _ from hown3); clear hown3 hgrow3 hb3; obtain ⟨ux1, ux2⟩ := box_cells (HS.out.up HB3.out).box; have HRW := (show Hid _ from HS.out.rw3 (k := k) (cv := .slice ca vs.length cc) HB3.out)) | (at_builtin; refine wpList_append_own _ rfl (.tmp 59) (.tmp 63) 55 rfl W1.heap.size 113 i2 (.agg #[.int .i64 0, .slice none 0 0]) 2 32 Tryz.underlying55 HI2.out.1 HI2.out.2.1 HI2.out.2.2.1 HI2.out.2.2.2 rfl (by decide) (.slice sa stl.length sc) stl.length (stCells stl) rfl HRW.out.1 ⟨W3.heap.size, 0, none⟩ 1 1 [.int .i64 k, .slice ca vs.length cc] rfl rfl HRW.out.2.1 (by intro u hu; simp at hu; rcases hu with rfl | rfl <;> rfl) hl3 hl4 HRW.out.2.2 ?_; intro v4 W4 hown4 hgrow4 hnil4; obtain ⟨a4, c4, rfl⟩ := sl_of_own hown4; have hpush := HS.out.push HB3.out HO3.out hgrow4 hown4; have HS4 := (show Hid _ from hpush); obtain ⟨y1, y2⟩ := box_cells (HS.out.box4 HB3.out hgrow4); clear hpush hown4 hgrow4 hnil4))
      generalize W4.setCell ⟨W1.heap.size, 2, none⟩ (.slice a4 (stl.length + 1) c4) = W5 at HS4 ⊢
      obtain ⟨stl', hst⟩ : ∃ l, l = stl ++ [((k, .slice ca vs.length cc, vals) : Stp)] := ⟨_, rfl⟩
      have hstl : stl'.length = stl.length + 1 := by rw [hst]; simp
      have hsto : stOf stl' = stOf stl ++ [(k, vals)] := by rw [hst, stOf_snoc]
      rw [← hst] at HS4
      have HOL : Hid (outs.length ≤ stl.length) := HS.out.olen
      clear HS HB3 HO3 HRW ux1 ux2 y1 y2 tx1 tx2 HV hl1 hl2 hl3 hl4 hst
      obtain ⟨p, hp⟩ : ∃ p, pl[k]? = some p := ⟨_, List.getElem?_eq_getElem hk⟩
      obtain ⟨c, hc⟩ : ∃ c, cl[k]? = some c := ⟨_, List.getElem?_eq_getElem (by have := HD.out.2.2.1.len; omega)⟩
      have hrel := (HD.out.2.2.1.each k c p hc hp).rel.n
      have hnin := HF.out.1.nin p (List.mem_of_getElem? hp)
      have hN5 := HD.out.2.1.of_block (HS4.out.below.block g HD.out.2.1.lt)
      obtain ⟨q0, q1, q2, q3, q4, q5, q6, q7, q8, q9, q10, q11, q12⟩ := hN5.all k c hc
      clear hN5 hc
      obtain ⟨⟨lab, does, target, ⟨av, ac, aw⟩, ⟨bv, bc, bw⟩, ops, sign, goal⟩, wa, wl, wc⟩ := c
      simp only at q0 q1 q2 q3 q4 q5 q6 q7 q8 q9 q10 q11 q12
      have HRN := (show Hid _ from hrel)
      have HPN : Hid (pl[k]? = some p ∧ NIn vs.length p.n) := ⟨hp, hnin⟩
      clear hrel hp hnin
      obtain ⟨px1, px2⟩ := box_cells ((HS4.out.below.block pb hpz).trans HD.out.1)
      go_upto_region 17 with fail
      have HS6 := (show Hid _ from HS4.out.up ((Below.refl _ _).alloc (Nat.le_refl _) (.cells #[.slice wa wl wc, .string lab, .string does, .int .i64 target, .int .i64 av, .int .i64 ac, .string aw, .int .i64 bv, .int .i64 bc, .string bw, .int .i64 ops, .string sign, .string goal] 111)))
      obtain ⟨nx1, nx2⟩ := box_cells (heap_alloc_new W5 (.cells #[.slice wa wl wc, .string lab, .string does, .int .i64 target, .int .i64 av, .int .i64 ac, .string aw, .int .i64 bv, .int .i64 bc, .string bw, .int .i64 ops, .string sign, .string goal] 111))
      have n1 : W5.heap.size ≠ W1.heap.size := by have := HS4.out.lt; omega
      have n2 : W5.heap.size ≠ W1.heap.size + 1 := by have := (HS4.out.vrow.lt (W1.heap.size + 1) rfl).2; omega
      generalize W5.alloc (.cells #[.slice wa wl wc, .string lab, .string does, .int .i64 target, .int .i64 av, .int .i64 ac, .string aw, .int .i64 bv, .int .i64 bc, .string bw, .int .i64 ops, .string sign, .string goal] 111) = W6 at HS6 nx1 nx2 ⊢
      generalize W5.heap.size = nb at n1 n2 nx1 nx2 ⊢
      clear q0 q1 q2 q3 q4 q5 q6 q7 q8 q9 q10 q11 q12 px1 px2 HS4
      have hvl : vals.length = vs.length := HS6.out.vlen
      obtain ⟨tx1, tx2⟩ := box_cells HS6.out.box
      have hvr := HS6.out.vrow
      rw [hvl] at hvr
      have HVX : Hid (∀ (j : Nat) (x : Int), vals[j]? = some x → W6.cell? ⟨W1.heap.size + 1, j, none⟩ = some (.int .i64 x)) := by
        intro j x hj
        have := hvr.cells (g := W1.heap.size + 1) rfl j (.int .i64 x) (by simp [hj])
        rwa [add0] at this
      have vf : ∀ j, W6.frozen? ⟨W1.heap.size + 1, j, none⟩ = false := by
        rcases hvr.2 with ⟨e, _⟩ | ⟨g2, cap2, cur, e, _, hcur, _⟩
        · cases e
        · cases e; exact (box_cells hcur).2
      clear hvr
      have hkr := HRN.out.kind
      rcases (show p.n.kind = 0 ∨ p.n.kind = 1 ∨ p.n.kind = 2 ∨ p.n.kind = 3 ∨ p.n.kind = 4 ∨ p.n.kind = 5 ∨ p.n.kind = 6 by omega) with hk0 | hk0 | hk0 | hk0 | hk0 | hk0 | hk0
      · as_aux_lemma =>
          have ed : does = ⟨#[61]⟩ := (show does = _ from HRN.out.does).trans (by rw [hk0]; rfl)
          have eo : ops = 1 := (show ops = _ from HRN.out.ops).trans (by rw [hk0]; rfl)
          subst ed eo
          obtain ⟨m, hm, hmn⟩ : ∃ m : Nat, p.n.var = m ∧ m < vs.length := ⟨p.n.var.toNat, by have := (HPN.out.2.var (by omega)).1; omega, by have := (HPN.out.2.var (by omega)); omega⟩
          have et : target = m := (show target = _ from HRN.out.target).trans (by rw [if_pos (by omega)]; exact hm)
          subst et
          have hmi : (m : Int) < (vs.length : Int) := by omega
          obtain ⟨y0, hy0⟩ : ∃ y, vals[m]? = some y := ⟨_, List.getElem?_eq_getElem (by omega)⟩
          have cm := HVX.out m y0 hy0
          clear hy0
          rcases opd_cases (show opRel ⟨av, ac, _⟩ p.n.a from HRN.out.a (by omega)) (HPN.out.2.a (by omega)) hvl with ⟨ja, ea, na, xa⟩ | ⟨ea, xa⟩
          · simp only at ea
            subst ea
            have ca := HVX.out ja _ xa
            have la : (ja : Int) < (vs.length : Int) := by omega
            have hvis : vis p.n vals (ins.drop used) outs = (0, vals.set m (opW vals p.n.a), ins.drop used, outs) := by unfold vis; rw [if_pos hk0, hm]; rfl
            have hedg : edgN p.n (vals.set m (opW vals p.n.a)) = ((0 : Nat) : Int) := by unfold edgN; rw [if_neg (by omega)]; rfl
            generalize opW vals p.n.a = x at *
            go_upto_region 49 with fail
            have HS7 := (show Hid _ from HS6.out.put (k := m) x)
            generalize W6.setCell ⟨W1.heap.size + 1, m, none⟩ (.int .i64 x) = W7 at HS7 ⊢
            obtain ⟨t, htl, hte, hnx⟩ := run_next (i := 0) HF.out.1 HPN.out.1 hlt HR.out hvis hedg
            obtain ⟨eb, ec, L, hiL, hcl⟩ := nxt_cells HD.out.2.2.2.1 HD.out.2.2.2.2.1 HD.out.2.2.2.2.2 HPN.out.1 hte
            obtain ⟨z1, z2⟩ := hcl W7 HS7.out.below
            have hiLi : (0 : Int) < (L : Int) := by omega
            obtain ⟨px1, px2⟩ := box_cells ((HS7.out.below.block pb hpz).trans HD.out.1)
            have HNX := (show Hid _ from hnx)
            clear hnx hte hcl hvis hedg
            go_wp2_with fail
            refine ⟨⟨vals.set m x, outs, _, _, stl', used, t, rfl, rfl, by rw [hstl]; rfl, by omega, by omega, htl, HS7, ?_⟩, by simp only [intOf]; omega⟩
            show _ = _
            rw [HNX.out, hstl, hsto]
          · simp only at ea xa
            subst ea xa
            have hvis : vis p.n vals (ins.drop used) outs = (0, vals.set m (opW vals p.n.a), ins.drop used, outs) := by unfold vis; rw [if_pos hk0, hm]; rfl
            have hedg : edgN p.n (vals.set m (opW vals p.n.a)) = ((0 : Nat) : Int) := by unfold edgN; rw [if_neg (by omega)]; rfl
            generalize opW vals p.n.a = x at *
            go_upto_region 49 with fail
            have HS7 := (show Hid _ from HS6.out.put (k := m) x)
            generalize W6.setCell ⟨W1.heap.size + 1, m, none⟩ (.int .i64 x) = W7 at HS7 ⊢
            obtain ⟨t, htl, hte, hnx⟩ := run_next (i := 0) HF.out.1 HPN.out.1 hlt HR.out hvis hedg
            obtain ⟨eb, ec, L, hiL, hcl⟩ := nxt_cells HD.out.2.2.2.1 HD.out.2.2.2.2.1 HD.out.2.2.2.2.2 HPN.out.1 hte
            obtain ⟨z1, z2⟩ := hcl W7 HS7.out.below
            have hiLi : (0 : Int) < (L : Int) := by omega
            obtain ⟨px1, px2⟩ := box_cells ((HS7.out.below.block pb hpz).trans HD.out.1)
            have HNX := (show Hid _ from hnx)
            clear hnx hte hcl hvis hedg
            go_wp2_with fail
            refine ⟨⟨vals.set m x, outs, _, _, stl', used, t, rfl, rfl, by rw [hstl]; rfl, by omega, by omega, htl, HS7, ?_⟩, by simp only [intOf]; omega⟩
            show _ = _
            rw [HNX.out, hstl, hsto]
      · as_aux_lemma =>
          have ed : does = ⟨#[61]⟩ := (show does = _ from HRN.out.does).trans (by rw [hk0]; rfl)
          have eo : ops = 2 := (show ops = _ from HRN.out.ops).trans (by rw [hk0]; rfl)
          subst ed eo
          obtain ⟨m, hm, hmn⟩ : ∃ m : Nat, p.n.var = m ∧ m < vs.length := ⟨p.n.var.toNat, by have := (HPN.out.2.var (by omega)).1; omega, by have := (HPN.out.2.var (by omega)); omega⟩
          have et : target = m := (show target = _ from HRN.out.target).trans (by rw [if_pos (by omega)]; exact hm)
          subst et
          have hmi : (m : Int) < (vs.length : Int) := by omega
          obtain ⟨y0, hy0⟩ : ∃ y, vals[m]? = some y := ⟨_, List.getElem?_eq_getElem (by omega)⟩
          have cm := HVX.out m y0 hy0
          clear hy0
          have hop := HRN.out.op hk0
          have HW : Hid (∀ W, Calls Tryz.prog 56 #[.string sign, .int .i64 (opW vals p.n.a), .int .i64 (opW vals p.n.b)] W fun e w' => e = .returned (.tuple #[.int .i64 (opVal p.n.op (opW vals p.n.a) (opW vals p.n.b)), .bool (opOk p.n.op (opW vals p.n.b))]) ∧ w' = W) := by
            intro W
            rw [hop.1]
            exact worked_any sign _ _ W hop.2
          have hvis := (show vis p.n vals (ins.drop used) outs = (if opOk p.n.op (opW vals p.n.b) then (0, vals.set m (opVal p.n.op (opW vals p.n.a) (opW vals p.n.b)), ins.drop used, outs) else (2, vals, ins.drop used, outs)) by unfold vis; rw [if_neg (by omega), if_pos hk0, hm]; rfl)
          have hedg : ∀ v : Int, edgN p.n (vals.set m v) = ((0 : Nat) : Int) := by intro v; unfold edgN; rw [if_neg (by omega)]; rfl
          clear hop
          rcases opd_cases (show opRel ⟨av, ac, _⟩ p.n.a from HRN.out.a (by omega)) (HPN.out.2.a (by omega)) hvl with ⟨ja, ea, na, xa⟩ | ⟨ea, xa⟩
          · simp only at ea
            subst ea
            have ca := HVX.out ja _ xa
            have la : (ja : Int) < (vs.length : Int) := by omega
            rcases opd_cases (show opRel ⟨bv, bc, _⟩ p.n.b from HRN.out.b (by omega)) (HPN.out.2.b (by omega)) hvl with ⟨jb, eb, nb, xb⟩ | ⟨eb, xb⟩
            · simp only at eb
              subst eb
              have cb := HVX.out jb _ xb
              have lb : (jb : Int) < (vs.length : Int) := by omega
              generalize opVal p.n.op (opW vals p.n.a) (opW vals p.n.b) = v at *
              generalize opOk p.n.op (opW vals p.n.b) = okk at *
              generalize opW vals p.n.a = x at *
              generalize opW vals p.n.b = y at *
              replace hedg := hedg v
              cases okk with
              | true =>
                simp only [if_true] at hvis
                go_upto_region 49 with (go_at_call 56; refine Calls.mono (HW.out _) ?_; rintro e W6' ⟨rfl, hw6⟩; replace hw6 := hw6.symm; subst hw6)
                have HS7 := (show Hid _ from HS6.out.put (k := m) v)
                generalize W6.setCell ⟨W1.heap.size + 1, m, none⟩ (.int .i64 v) = W7 at HS7 ⊢
                obtain ⟨t, htl, hte, hnx⟩ := run_next (i := 0) HF.out.1 HPN.out.1 hlt HR.out hvis hedg
                obtain ⟨eb, ec, L, hiL, hcl⟩ := nxt_cells HD.out.2.2.2.1 HD.out.2.2.2.2.1 HD.out.2.2.2.2.2 HPN.out.1 hte
                obtain ⟨z1, z2⟩ := hcl W7 HS7.out.below
                have hiLi : (0 : Int) < (L : Int) := by omega
                obtain ⟨px1, px2⟩ := box_cells ((HS7.out.below.block pb hpz).trans HD.out.1)
                have HNX := (show Hid _ from hnx)
                clear hnx hte hcl hvis hedg
                go_wp2_with fail
                refine ⟨⟨vals.set m v, outs, _, _, stl', used, t, rfl, rfl, by rw [hstl]; rfl, by omega, by omega, htl, HS7, ?_⟩, by simp only [intOf]; omega⟩
                show _ = _
                rw [HNX.out, hstl, hsto]
              | false =>
                simp only [Bool.false_eq_true, if_false] at hvis
                have hnx := run_end HPN.out.1 hlt HR.out hvis (by decide)
                rw [← hsto] at hnx
                have HNX := (show Hid _ from hnx)
                obtain ⟨rx1, rx2⟩ := box_cells (HRB.out W6 HS6.out.below)
                clear hnx hvis
                go_wp2_with (go_at_call 56; refine Calls.mono (HW.out _) ?_; rintro e W6' ⟨rfl, hw6⟩; replace hw6 := hw6.symm; subst hw6)
                refine bodyPost_ret (v := .tuple #[.agg #[.int .i64 2, .slice oa outs.length oc, .slice a4 (stl.length + 1) c4], .int .i64 0]) (by simp [results, Tryz.results27, go_sem, rx1]) rfl ?_
                rw [HF.out.2]
                have hd := HS6.out
                rw [← hstl] at hd ⊢
                exact hd.done HB1.out 2 _ _ _ _ _ HNX.out
            · simp only at eb xb
              subst eb xb
              generalize opVal p.n.op (opW vals p.n.a) (opW vals p.n.b) = v at *
              generalize opOk p.n.op (opW vals p.n.b) = okk at *
              generalize opW vals p.n.a = x at *
              generalize opW vals p.n.b = y at *
              replace hedg := hedg v
              cases okk with
              | true =>
                simp only [if_true] at hvis
                go_upto_region 49 with (go_at_call 56; refine Calls.mono (HW.out _) ?_; rintro e W6' ⟨rfl, hw6⟩; replace hw6 := hw6.symm; subst hw6)
                have HS7 := (show Hid _ from HS6.out.put (k := m) v)
                generalize W6.setCell ⟨W1.heap.size + 1, m, none⟩ (.int .i64 v) = W7 at HS7 ⊢
                obtain ⟨t, htl, hte, hnx⟩ := run_next (i := 0) HF.out.1 HPN.out.1 hlt HR.out hvis hedg
                obtain ⟨eb, ec, L, hiL, hcl⟩ := nxt_cells HD.out.2.2.2.1 HD.out.2.2.2.2.1 HD.out.2.2.2.2.2 HPN.out.1 hte
                obtain ⟨z1, z2⟩ := hcl W7 HS7.out.below
                have hiLi : (0 : Int) < (L : Int) := by omega
                obtain ⟨px1, px2⟩ := box_cells ((HS7.out.below.block pb hpz).trans HD.out.1)
                have HNX := (show Hid _ from hnx)
                clear hnx hte hcl hvis hedg
                go_wp2_with fail
                refine ⟨⟨vals.set m v, outs, _, _, stl', used, t, rfl, rfl, by rw [hstl]; rfl, by omega, by omega, htl, HS7, ?_⟩, by simp only [intOf]; omega⟩
                show _ = _
                rw [HNX.out, hstl, hsto]
              | false =>
                simp only [Bool.false_eq_true, if_false] at hvis
                have hnx := run_end HPN.out.1 hlt HR.out hvis (by decide)
                rw [← hsto] at hnx
                have HNX := (show Hid _ from hnx)
                obtain ⟨rx1, rx2⟩ := box_cells (HRB.out W6 HS6.out.below)
                clear hnx hvis
                go_wp2_with (go_at_call 56; refine Calls.mono (HW.out _) ?_; rintro e W6' ⟨rfl, hw6⟩; replace hw6 := hw6.symm; subst hw6)
                refine bodyPost_ret (v := .tuple #[.agg #[.int .i64 2, .slice oa outs.length oc, .slice a4 (stl.length + 1) c4], .int .i64 0]) (by simp [results, Tryz.results27, go_sem, rx1]) rfl ?_
                rw [HF.out.2]
                have hd := HS6.out
                rw [← hstl] at hd ⊢
                exact hd.done HB1.out 2 _ _ _ _ _ HNX.out
          · simp only at ea xa
            subst ea xa
            rcases opd_cases (show opRel ⟨bv, bc, _⟩ p.n.b from HRN.out.b (by omega)) (HPN.out.2.b (by omega)) hvl with ⟨jb, eb, nb, xb⟩ | ⟨eb, xb⟩
            · simp only at eb
              subst eb
              have cb := HVX.out jb _ xb
              have lb : (jb : Int) < (vs.length : Int) := by omega
              generalize opVal p.n.op (opW vals p.n.a) (opW vals p.n.b) = v at *
              generalize opOk p.n.op (opW vals p.n.b) = okk at *
              generalize opW vals p.n.a = x at *
              generalize opW vals p.n.b = y at *
              replace hedg := hedg v
              cases okk with
              | true =>
                simp only [if_true] at hvis
                go_upto_region 49 with (go_at_call 56; refine Calls.mono (HW.out _) ?_; rintro e W6' ⟨rfl, hw6⟩; replace hw6 := hw6.symm; subst hw6)
                have HS7 := (show Hid _ from HS6.out.put (k := m) v)
                generalize W6.setCell ⟨W1.heap.size + 1, m, none⟩ (.int .i64 v) = W7 at HS7 ⊢
                obtain ⟨t, htl, hte, hnx⟩ := run_next (i := 0) HF.out.1 HPN.out.1 hlt HR.out hvis hedg
                obtain ⟨eb, ec, L, hiL, hcl⟩ := nxt_cells HD.out.2.2.2.1 HD.out.2.2.2.2.1 HD.out.2.2.2.2.2 HPN.out.1 hte
                obtain ⟨z1, z2⟩ := hcl W7 HS7.out.below
                have hiLi : (0 : Int) < (L : Int) := by omega
                obtain ⟨px1, px2⟩ := box_cells ((HS7.out.below.block pb hpz).trans HD.out.1)
                have HNX := (show Hid _ from hnx)
                clear hnx hte hcl hvis hedg
                go_wp2_with fail
                refine ⟨⟨vals.set m v, outs, _, _, stl', used, t, rfl, rfl, by rw [hstl]; rfl, by omega, by omega, htl, HS7, ?_⟩, by simp only [intOf]; omega⟩
                show _ = _
                rw [HNX.out, hstl, hsto]
              | false =>
                simp only [Bool.false_eq_true, if_false] at hvis
                have hnx := run_end HPN.out.1 hlt HR.out hvis (by decide)
                rw [← hsto] at hnx
                have HNX := (show Hid _ from hnx)
                obtain ⟨rx1, rx2⟩ := box_cells (HRB.out W6 HS6.out.below)
                clear hnx hvis
                go_wp2_with (go_at_call 56; refine Calls.mono (HW.out _) ?_; rintro e W6' ⟨rfl, hw6⟩; replace hw6 := hw6.symm; subst hw6)
                refine bodyPost_ret (v := .tuple #[.agg #[.int .i64 2, .slice oa outs.length oc, .slice a4 (stl.length + 1) c4], .int .i64 0]) (by simp [results, Tryz.results27, go_sem, rx1]) rfl ?_
                rw [HF.out.2]
                have hd := HS6.out
                rw [← hstl] at hd ⊢
                exact hd.done HB1.out 2 _ _ _ _ _ HNX.out
            · simp only at eb xb
              subst eb xb
              generalize opVal p.n.op (opW vals p.n.a) (opW vals p.n.b) = v at *
              generalize opOk p.n.op (opW vals p.n.b) = okk at *
              generalize opW vals p.n.a = x at *
              generalize opW vals p.n.b = y at *
              replace hedg := hedg v
              cases okk with
              | true =>
                simp only [if_true] at hvis
                go_upto_region 49 with (go_at_call 56; refine Calls.mono (HW.out _) ?_; rintro e W6' ⟨rfl, hw6⟩; replace hw6 := hw6.symm; subst hw6)
                have HS7 := (show Hid _ from HS6.out.put (k := m) v)
                generalize W6.setCell ⟨W1.heap.size + 1, m, none⟩ (.int .i64 v) = W7 at HS7 ⊢
                obtain ⟨t, htl, hte, hnx⟩ := run_next (i := 0) HF.out.1 HPN.out.1 hlt HR.out hvis hedg
                obtain ⟨eb, ec, L, hiL, hcl⟩ := nxt_cells HD.out.2.2.2.1 HD.out.2.2.2.2.1 HD.out.2.2.2.2.2 HPN.out.1 hte
                obtain ⟨z1, z2⟩ := hcl W7 HS7.out.below
                have hiLi : (0 : Int) < (L : Int) := by omega
                obtain ⟨px1, px2⟩ := box_cells ((HS7.out.below.block pb hpz).trans HD.out.1)
                have HNX := (show Hid _ from hnx)
                clear hnx hte hcl hvis hedg
                go_wp2_with fail
                refine ⟨⟨vals.set m v, outs, _, _, stl', used, t, rfl, rfl, by rw [hstl]; rfl, by omega, by omega, htl, HS7, ?_⟩, by simp only [intOf]; omega⟩
                show _ = _
                rw [HNX.out, hstl, hsto]
              | false =>
                simp only [Bool.false_eq_true, if_false] at hvis
                have hnx := run_end HPN.out.1 hlt HR.out hvis (by decide)
                rw [← hsto] at hnx
                have HNX := (show Hid _ from hnx)
                obtain ⟨rx1, rx2⟩ := box_cells (HRB.out W6 HS6.out.below)
                clear hnx hvis
                go_wp2_with (go_at_call 56; refine Calls.mono (HW.out _) ?_; rintro e W6' ⟨rfl, hw6⟩; replace hw6 := hw6.symm; subst hw6)
                refine bodyPost_ret (v := .tuple #[.agg #[.int .i64 2, .slice oa outs.length oc, .slice a4 (stl.length + 1) c4], .int .i64 0]) (by simp [results, Tryz.results27, go_sem, rx1]) rfl ?_
                rw [HF.out.2]
                have hd := HS6.out
                rw [← hstl] at hd ⊢
                exact hd.done HB1.out 2 _ _ _ _ _ HNX.out
      · as_aux_lemma =>
          have ed : does = ⟨#[105, 110, 112, 117, 116]⟩ := (show does = _ from HRN.out.does).trans (by rw [hk0]; rfl)
          have eo : ops = 0 := (show ops = _ from HRN.out.ops).trans (by rw [hk0]; rfl)
          subst ed eo
          obtain ⟨m, hm, hmn⟩ : ∃ m : Nat, p.n.var = m ∧ m < vs.length := ⟨p.n.var.toNat, by have := (HPN.out.2.var (by omega)).1; omega, by have := (HPN.out.2.var (by omega)); omega⟩
          have et : target = m := (show target = _ from HRN.out.target).trans (by rw [if_pos (by omega)]; exact hm)
          subst et
          have hmi : (m : Int) < (vs.length : Int) := by omega
          obtain ⟨y0, hy0⟩ : ∃ y, vals[m]? = some y := ⟨_, List.getElem?_eq_getElem (by omega)⟩
          have cm := HVX.out m y0 hy0
          clear hy0
          by_cases hus : used < ins.length
          · obtain ⟨x, hx⟩ : ∃ x, ins[used]? = some x := ⟨_, List.getElem?_eq_getElem hus⟩
            have hdr : ins.drop used = x :: ins.drop (used + 1) := by
              rw [List.drop_eq_getElem_cons hus]
              rw [List.getElem?_eq_getElem hus] at hx
              cases hx
              rfl
            obtain ⟨ib, io, eia, hib, hic⟩ : ∃ b o, ia = some ⟨b, o, none⟩ ∧ b < w.heap.size ∧ w.cell? ⟨b, o + used, none⟩ = some (.int .i64 x) := by
              obtain ⟨ao, cp, e, _, _, h4⟩ := hI
              cases e
              exact h4 used x hx
            have cx : W6.cell? ⟨ib, io + used, none⟩ = some (.int .i64 x) := by
              have hb0 := HB1.out.block ib (by simp; omega)
              rw [Below.heap_alloc _ _ _ (by omega)] at hb0
              exact (cell_block ((HS6.out.below.block ib (by omega)).trans hb0)).trans hic
            have hvis : vis p.n vals (ins.drop used) outs = (0, vals.set m x, ins.drop (used + 1), outs) := by unfold vis; rw [if_neg (by omega), if_neg (by omega), if_pos hk0, hdr, hm]; rfl
            have hedg : edgN p.n (vals.set m x) = ((0 : Nat) : Int) := by unfold edgN; rw [if_neg (by omega)]; rfl
            subst eia
            have hui : (used : Int) < (ins.length : Int) := by omega
            have hug : decide ((ins.length : Int) ≤ (used : Int)) = false := decide_eq_false (by omega)
            have hue : ¬ ((ins.length : Int) ≤ (used : Int)) := by omega
            have i1' : ib ≠ W1.heap.size + 1 := by omega
            have i2' : W1.heap.size + 1 ≠ ib := by omega
            have n3 : W1.heap.size + 1 ≠ nb := Ne.symm n2
            clear hdr hx hic
            go_upto_region 34 with fail
            go_region_held3 (fun w' => w'.cell? ⟨nb, 3, none⟩ = some (.int .i64 m) ∧ w'.cell? ⟨ib, io + used, none⟩ = some (.int .i64 x)) (go_keep) (fail)
            go_upto_region 49 with fail
            have HS7 := (show Hid _ from (HS6.out.put (k := m) x).up ((Below.refl _ _).drew))
            generalize (W6.setCell ⟨W1.heap.size + 1, m, none⟩ (.int .i64 x)).drew = W7 at HS7 ⊢
            obtain ⟨t, htl, hte, hnx⟩ := run_next (i := 0) HF.out.1 HPN.out.1 hlt HR.out hvis hedg
            obtain ⟨eb, ec, L, hiL, hcl⟩ := nxt_cells HD.out.2.2.2.1 HD.out.2.2.2.2.1 HD.out.2.2.2.2.2 HPN.out.1 hte
            obtain ⟨z1, z2⟩ := hcl W7 HS7.out.below
            have hiLi : (0 : Int) < (L : Int) := by omega
            obtain ⟨px1, px2⟩ := box_cells ((HS7.out.below.block pb hpz).trans HD.out.1)
            have HNX := (show Hid _ from hnx)
            clear hnx hte hcl hvis hedg
            go_wp2_with fail
            refine ⟨⟨vals.set m x, outs, _, _, stl', used + 1, t, rfl, rfl, by rw [hstl]; rfl, by omega, by omega, htl, HS7, ?_⟩, by simp only [intOf]; omega⟩
            show _ = _
            rw [HNX.out, hstl, hsto]
          · have hvis : vis p.n vals (ins.drop used) outs = (3, vals, ins.drop used, outs) := by unfold vis; rw [if_neg (by omega), if_neg (by omega), if_pos hk0, List.drop_eq_nil_of_le (by omega)]
            have hui : ¬ (used : Int) < (ins.length : Int) := by omega
            have hug : decide ((ins.length : Int) ≤ (used : Int)) = true := decide_eq_true (by omega)
            have hue : (ins.length : Int) ≤ (used : Int) := by omega
            have hnx := run_end HPN.out.1 hlt HR.out hvis (by decide)
            rw [← hsto] at hnx
            have HNX := (show Hid _ from hnx)
            obtain ⟨rx1, rx2⟩ := box_cells (HRB.out W6 HS6.out.below)
            clear hnx hvis
            go_wp2_with fail
            refine bodyPost_ret (v := .tuple #[.agg #[.int .i64 3, .slice oa outs.length oc, .slice a4 (stl.length + 1) c4], .int .i64 0]) (by simp [results, Tryz.results27, go_sem, rx1]) rfl ?_
            rw [HF.out.2]
            have hd := HS6.out
            rw [← hstl] at hd ⊢
            exact hd.done HB1.out 3 _ _ _ _ _ HNX.out
      · as_aux_lemma =>
          have ed : does = ⟨#[111, 117, 116, 112, 117, 116]⟩ := (show does = _ from HRN.out.does).trans (by rw [hk0]; rfl)
          have eo : ops = 1 := (show ops = _ from HRN.out.ops).trans (by rw [hk0]; rfl)
          subst ed eo
          rcases opd_cases (show opRel ⟨av, ac, _⟩ p.n.a from HRN.out.a (by omega)) (HPN.out.2.a (by omega)) hvl with ⟨ja, ea, na, xa⟩ | ⟨ea, xa⟩
          · simp only at ea
            subst ea
            have ca := HVX.out ja _ xa
            have la : (ja : Int) < (vs.length : Int) := by omega
            have hvis : vis p.n vals (ins.drop used) outs = (0, vals, ins.drop used, outs ++ [opW vals p.n.a]) := by unfold vis; simp [hk0]
            have hedg : edgN p.n vals = ((0 : Nat) : Int) := by unfold edgN; rw [if_neg (by omega)]; rfl
            generalize opW vals p.n.a = x at *
            have holt : outs.length < stl'.length := by have := HOL.out; omega
            have hl1 : outs.length + 1 ≤ maxLen := by unfold maxLen; omega
            have hl2 : (outs.length + 1) * 8 ≤ 140737488355328 := by omega
            have HOW : Hid ((W6.alloc (.cells #[.int .i64 x] 2)).ownsRow W1.heap.size 2 1 (.slice oa outs.length oc) outs.length (outs.map (Value.int .i64)) ∧ W1.heap.size ≤ (W6.alloc (.cells #[.int .i64 x] 2)).heap.size ∧ Below W6.heap.size W6 (W6.alloc (.cells #[.int .i64 x] 2))) := ⟨HS6.out.orow.alloc _, by have := HS6.out.below.size; simp; omega, (Below.refl _ _).alloc (Nat.le_refl _) _⟩
            go_upto_region 49 with (at_builtin; refine wpList_append_own_at _ rfl (.tmp 118) (.tmp 120) 23 rfl W1.heap.size 2 i1 (.int .i64 0) 1 8 Tryz.underlying23 HI.out.1 HI.out.2.1 HI.out.2.2.1 HI.out.2.2.2 rfl (by decide) (.slice oa outs.length oc) outs.length (outs.map (Value.int .i64)) rfl HOW.out.1 ⟨W6.heap.size, 0, none⟩ 1 1 [.int .i64 x] rfl rfl (cell_one_new _ _ _) (by intro u hu; simp at hu; subst hu; rfl) hl1 hl2 HOW.out.2.1 ?_; intro v7 W7 hown7 hgrow7 hnil7 hnew7; obtain ⟨a7, c7, rfl⟩ := sl_of_own hown7; have hout := HS6.out.out HOW.out.2.2 hgrow7 hown7 hnew7 holt; have HS8 := (show Hid _ from hout); obtain ⟨y1, y2⟩ := box_cells (HS6.out.box5 (Below.refl _ _) hgrow7); clear hout hown7 hgrow7 hnil7 hnew7)
            generalize W7.setCell ⟨W1.heap.size, 1, none⟩ (.slice a7 (outs.length + 1) c7) = W8 at HS8 ⊢
            have HS7 := HS8
            obtain ⟨t, htl, hte, hnx⟩ := run_next (i := 0) HF.out.1 HPN.out.1 hlt HR.out hvis hedg
            obtain ⟨eb, ec, L, hiL, hcl⟩ := nxt_cells HD.out.2.2.2.1 HD.out.2.2.2.2.1 HD.out.2.2.2.2.2 HPN.out.1 hte
            obtain ⟨z1, z2⟩ := hcl W8 HS7.out.below
            have hiLi : (0 : Int) < (L : Int) := by omega
            obtain ⟨px1, px2⟩ := box_cells ((HS7.out.below.block pb hpz).trans HD.out.1)
            have HNX := (show Hid _ from hnx)
            clear hnx hte hcl hvis hedg
            go_wp2_with fail
            refine ⟨⟨vals, outs ++ [x], _, _, stl', used, t, rfl, rfl, by rw [hstl]; rfl, by omega, by omega, htl, HS7, ?_⟩, by simp only [intOf]; omega⟩
            show _ = _
            rw [HNX.out, hstl, hsto]
          · simp only at ea xa
            subst ea xa
            have hvis : vis p.n vals (ins.drop used) outs = (0, vals, ins.drop used, outs ++ [opW vals p.n.a]) := by unfold vis; simp [hk0]
            have hedg : edgN p.n vals = ((0 : Nat) : Int) := by unfold edgN; rw [if_neg (by omega)]; rfl
            generalize opW vals p.n.a = x at *
            have holt : outs.length < stl'.length := by have := HOL.out; omega
            have hl1 : outs.length + 1 ≤ maxLen := by unfold maxLen; omega
            have hl2 : (outs.length + 1) * 8 ≤ 140737488355328 := by omega
            have HOW : Hid ((W6.alloc (.cells #[.int .i64 x] 2)).ownsRow W1.heap.size 2 1 (.slice oa outs.length oc) outs.length (outs.map (Value.int .i64)) ∧ W1.heap.size ≤ (W6.alloc (.cells #[.int .i64 x] 2)).heap.size ∧ Below W6.heap.size W6 (W6.alloc (.cells #[.int .i64 x] 2))) := ⟨HS6.out.orow.alloc _, by have := HS6.out.below.size; simp; omega, (Below.refl _ _).alloc (Nat.le_refl _) _⟩
            go_upto_region 49 with (at_builtin; refine wpList_append_own_at _ rfl (.tmp 118) (.tmp 120) 23 rfl W1.heap.size 2 i1 (.int .i64 0) 1 8 Tryz.underlying23 HI.out.1 HI.out.2.1 HI.out.2.2.1 HI.out.2.2.2 rfl (by decide) (.slice oa outs.length oc) outs.length (outs.map (Value.int .i64)) rfl HOW.out.1 ⟨W6.heap.size, 0, none⟩ 1 1 [.int .i64 x] rfl rfl (cell_one_new _ _ _) (by intro u hu; simp at hu; subst hu; rfl) hl1 hl2 HOW.out.2.1 ?_; intro v7 W7 hown7 hgrow7 hnil7 hnew7; obtain ⟨a7, c7, rfl⟩ := sl_of_own hown7; have hout := HS6.out.out HOW.out.2.2 hgrow7 hown7 hnew7 holt; have HS8 := (show Hid _ from hout); obtain ⟨y1, y2⟩ := box_cells (HS6.out.box5 (Below.refl _ _) hgrow7); clear hout hown7 hgrow7 hnil7 hnew7)
            generalize W7.setCell ⟨W1.heap.size, 1, none⟩ (.slice a7 (outs.length + 1) c7) = W8 at HS8 ⊢
            have HS7 := HS8
            obtain ⟨t, htl, hte, hnx⟩ := run_next (i := 0) HF.out.1 HPN.out.1 hlt HR.out hvis hedg
            obtain ⟨eb, ec, L, hiL, hcl⟩ := nxt_cells HD.out.2.2.2.1 HD.out.2.2.2.2.1 HD.out.2.2.2.2.2 HPN.out.1 hte
            obtain ⟨z1, z2⟩ := hcl W8 HS7.out.below
            have hiLi : (0 : Int) < (L : Int) := by omega
            obtain ⟨px1, px2⟩ := box_cells ((HS7.out.below.block pb hpz).trans HD.out.1)
            have HNX := (show Hid _ from hnx)
            clear hnx hte hcl hvis hedg
            go_wp2_with fail
            refine ⟨⟨vals, outs ++ [x], _, _, stl', used, t, rfl, rfl, by rw [hstl]; rfl, by omega, by omega, htl, HS7, ?_⟩, by simp only [intOf]; omega⟩
            show _ = _
            rw [HNX.out, hstl, hsto]
      · as_aux_lemma =>
          have ed : does = ⟨#[105, 102]⟩ := (show does = _ from HRN.out.does).trans (by rw [hk0]; rfl)
          have eo : ops = 2 := (show ops = _ from HRN.out.ops).trans (by rw [hk0]; rfl)
          subst ed eo
          have hop := HRN.out.test hk0
          have HW : Hid (∀ W, Calls Tryz.prog 55 #[.string sign, .int .i64 (opW vals p.n.a), .int .i64 (opW vals p.n.b)] W fun e w' => e = .returned (.bool (tsSo p.n.test (opW vals p.n.a) (opW vals p.n.b))) ∧ w' = W) := by
            intro W
            rw [hop.1]
            exact so_any sign _ _ W hop.2
          have hvis : vis p.n vals (ins.drop used) outs = (0, vals, ins.drop used, outs) := by unfold vis; simp [hk0]
          have hedg0 : edgN p.n vals = if tsSo p.n.test (opW vals p.n.a) (opW vals p.n.b) = false then 1 else 0 := by unfold edgN; simp [hk0]
          clear hop
          rcases opd_cases (show opRel ⟨av, ac, _⟩ p.n.a from HRN.out.a (by omega)) (HPN.out.2.a (by omega)) hvl with ⟨ja, ea, na, xa⟩ | ⟨ea, xa⟩
          · simp only at ea
            subst ea
            have ca := HVX.out ja _ xa
            have la : (ja : Int) < (vs.length : Int) := by omega
            rcases opd_cases (show opRel ⟨bv, bc, _⟩ p.n.b from HRN.out.b (by omega)) (HPN.out.2.b (by omega)) hvl with ⟨jb, eb, nb, xb⟩ | ⟨eb, xb⟩
            · simp only at eb
              subst eb
              have cb := HVX.out jb _ xb
              have lb : (jb : Int) < (vs.length : Int) := by omega
              generalize tsSo p.n.test (opW vals p.n.a) (opW vals p.n.b) = yes at *
              generalize opW vals p.n.a = x at *
              generalize opW vals p.n.b = y at *
              cases yes with
              | true =>
                have hedg : edgN p.n vals = ((0 : Nat) : Int) := by rw [hedg0]; rfl
                clear hedg0
                go_upto_region 49 with (go_at_call 55; refine Calls.mono (HW.out _) ?_; rintro e W6' ⟨rfl, hw6⟩; replace hw6 := hw6.symm; subst hw6)
                have HS7 := HS6
                obtain ⟨t, htl, hte, hnx⟩ := run_next (i := 0) HF.out.1 HPN.out.1 hlt HR.out hvis hedg
                obtain ⟨eb, ec, L, hiL, hcl⟩ := nxt_cells HD.out.2.2.2.1 HD.out.2.2.2.2.1 HD.out.2.2.2.2.2 HPN.out.1 hte
                obtain ⟨z1, z2⟩ := hcl W6 HS7.out.below
                have hiLi : (0 : Int) < (L : Int) := by omega
                obtain ⟨px1, px2⟩ := box_cells ((HS7.out.below.block pb hpz).trans HD.out.1)
                have HNX := (show Hid _ from hnx)
                clear hnx hte hcl hvis hedg
                go_wp2_with fail
                refine ⟨⟨vals, outs, _, _, stl', used, t, rfl, rfl, by rw [hstl]; rfl, by omega, by omega, htl, HS7, ?_⟩, by simp only [intOf]; omega⟩
                show _ = _
                rw [HNX.out, hstl, hsto]
              | false =>
                have hedg : edgN p.n vals = ((1 : Nat) : Int) := by rw [hedg0]; rfl
                clear hedg0
                go_upto_region 49 with (go_at_call 55; refine Calls.mono (HW.out _) ?_; rintro e W6' ⟨rfl, hw6⟩; replace hw6 := hw6.symm; subst hw6)
                have HS7 := HS6
                obtain ⟨t, htl, hte, hnx⟩ := run_next (i := 1) HF.out.1 HPN.out.1 hlt HR.out hvis hedg
                obtain ⟨eb, ec, L, hiL, hcl⟩ := nxt_cells HD.out.2.2.2.1 HD.out.2.2.2.2.1 HD.out.2.2.2.2.2 HPN.out.1 hte
                obtain ⟨z1, z2⟩ := hcl W6 HS7.out.below
                have hiLi : (1 : Int) < (L : Int) := by omega
                obtain ⟨px1, px2⟩ := box_cells ((HS7.out.below.block pb hpz).trans HD.out.1)
                have HNX := (show Hid _ from hnx)
                clear hnx hte hcl hvis hedg
                go_wp2_with fail
                refine ⟨⟨vals, outs, _, _, stl', used, t, rfl, rfl, by rw [hstl]; rfl, by omega, by omega, htl, HS7, ?_⟩, by simp only [intOf]; omega⟩
                show _ = _
                rw [HNX.out, hstl, hsto]
            · simp only at eb xb
              subst eb xb
              generalize tsSo p.n.test (opW vals p.n.a) (opW vals p.n.b) = yes at *
              generalize opW vals p.n.a = x at *
              generalize opW vals p.n.b = y at *
              cases yes with
              | true =>
                have hedg : edgN p.n vals = ((0 : Nat) : Int) := by rw [hedg0]; rfl
                clear hedg0
                go_upto_region 49 with (go_at_call 55; refine Calls.mono (HW.out _) ?_; rintro e W6' ⟨rfl, hw6⟩; replace hw6 := hw6.symm; subst hw6)
                have HS7 := HS6
                obtain ⟨t, htl, hte, hnx⟩ := run_next (i := 0) HF.out.1 HPN.out.1 hlt HR.out hvis hedg
                obtain ⟨eb, ec, L, hiL, hcl⟩ := nxt_cells HD.out.2.2.2.1 HD.out.2.2.2.2.1 HD.out.2.2.2.2.2 HPN.out.1 hte
                obtain ⟨z1, z2⟩ := hcl W6 HS7.out.below
                have hiLi : (0 : Int) < (L : Int) := by omega
                obtain ⟨px1, px2⟩ := box_cells ((HS7.out.below.block pb hpz).trans HD.out.1)
                have HNX := (show Hid _ from hnx)
                clear hnx hte hcl hvis hedg
                go_wp2_with fail
                refine ⟨⟨vals, outs, _, _, stl', used, t, rfl, rfl, by rw [hstl]; rfl, by omega, by omega, htl, HS7, ?_⟩, by simp only [intOf]; omega⟩
                show _ = _
                rw [HNX.out, hstl, hsto]
              | false =>
                have hedg : edgN p.n vals = ((1 : Nat) : Int) := by rw [hedg0]; rfl
                clear hedg0
                go_upto_region 49 with (go_at_call 55; refine Calls.mono (HW.out _) ?_; rintro e W6' ⟨rfl, hw6⟩; replace hw6 := hw6.symm; subst hw6)
                have HS7 := HS6
                obtain ⟨t, htl, hte, hnx⟩ := run_next (i := 1) HF.out.1 HPN.out.1 hlt HR.out hvis hedg
                obtain ⟨eb, ec, L, hiL, hcl⟩ := nxt_cells HD.out.2.2.2.1 HD.out.2.2.2.2.1 HD.out.2.2.2.2.2 HPN.out.1 hte
                obtain ⟨z1, z2⟩ := hcl W6 HS7.out.below
                have hiLi : (1 : Int) < (L : Int) := by omega
                obtain ⟨px1, px2⟩ := box_cells ((HS7.out.below.block pb hpz).trans HD.out.1)
                have HNX := (show Hid _ from hnx)
                clear hnx hte hcl hvis hedg
                go_wp2_with fail
                refine ⟨⟨vals, outs, _, _, stl', used, t, rfl, rfl, by rw [hstl]; rfl, by omega, by omega, htl, HS7, ?_⟩, by simp only [intOf]; omega⟩
                show _ = _
                rw [HNX.out, hstl, hsto]
          · simp only at ea xa
            subst ea xa
            rcases opd_cases (show opRel ⟨bv, bc, _⟩ p.n.b from HRN.out.b (by omega)) (HPN.out.2.b (by omega)) hvl with ⟨jb, eb, nb, xb⟩ | ⟨eb, xb⟩
            · simp only at eb
              subst eb
              have cb := HVX.out jb _ xb
              have lb : (jb : Int) < (vs.length : Int) := by omega
              generalize tsSo p.n.test (opW vals p.n.a) (opW vals p.n.b) = yes at *
              generalize opW vals p.n.a = x at *
              generalize opW vals p.n.b = y at *
              cases yes with
              | true =>
                have hedg : edgN p.n vals = ((0 : Nat) : Int) := by rw [hedg0]; rfl
                clear hedg0
                go_upto_region 49 with (go_at_call 55; refine Calls.mono (HW.out _) ?_; rintro e W6' ⟨rfl, hw6⟩; replace hw6 := hw6.symm; subst hw6)
                have HS7 := HS6
                obtain ⟨t, htl, hte, hnx⟩ := run_next (i := 0) HF.out.1 HPN.out.1 hlt HR.out hvis hedg
                obtain ⟨eb, ec, L, hiL, hcl⟩ := nxt_cells HD.out.2.2.2.1 HD.out.2.2.2.2.1 HD.out.2.2.2.2.2 HPN.out.1 hte
                obtain ⟨z1, z2⟩ := hcl W6 HS7.out.below
                have hiLi : (0 : Int) < (L : Int) := by omega
                obtain ⟨px1, px2⟩ := box_cells ((HS7.out.below.block pb hpz).trans HD.out.1)
                have HNX := (show Hid _ from hnx)
                clear hnx hte hcl hvis hedg
                go_wp2_with fail
                refine ⟨⟨vals, outs, _, _, stl', used, t, rfl, rfl, by rw [hstl]; rfl, by omega, by omega, htl, HS7, ?_⟩, by simp only [intOf]; omega⟩
                show _ = _
                rw [HNX.out, hstl, hsto]
              | false =>
                have hedg : edgN p.n vals = ((1 : Nat) : Int) := by rw [hedg0]; rfl
                clear hedg0
                go_upto_region 49 with (go_at_call 55; refine Calls.mono (HW.out _) ?_; rintro e W6' ⟨rfl, hw6⟩; replace hw6 := hw6.symm; subst hw6)
                have HS7 := HS6
                obtain ⟨t, htl, hte, hnx⟩ := run_next (i := 1) HF.out.1 HPN.out.1 hlt HR.out hvis hedg
                obtain ⟨eb, ec, L, hiL, hcl⟩ := nxt_cells HD.out.2.2.2.1 HD.out.2.2.2.2.1 HD.out.2.2.2.2.2 HPN.out.1 hte
                obtain ⟨z1, z2⟩ := hcl W6 HS7.out.below
                have hiLi : (1 : Int) < (L : Int) := by omega
                obtain ⟨px1, px2⟩ := box_cells ((HS7.out.below.block pb hpz).trans HD.out.1)
                have HNX := (show Hid _ from hnx)
                clear hnx hte hcl hvis hedg
                go_wp2_with fail
                refine ⟨⟨vals, outs, _, _, stl', used, t, rfl, rfl, by rw [hstl]; rfl, by omega, by omega, htl, HS7, ?_⟩, by simp only [intOf]; omega⟩
                show _ = _
                rw [HNX.out, hstl, hsto]
            · simp only at eb xb
              subst eb xb
              generalize tsSo p.n.test (opW vals p.n.a) (opW vals p.n.b) = yes at *
              generalize opW vals p.n.a = x at *
              generalize opW vals p.n.b = y at *
              cases yes with
              | true =>
                have hedg : edgN p.n vals = ((0 : Nat) : Int) := by rw [hedg0]; rfl
                clear hedg0
                go_upto_region 49 with (go_at_call 55; refine Calls.mono (HW.out _) ?_; rintro e W6' ⟨rfl, hw6⟩; replace hw6 := hw6.symm; subst hw6)
                have HS7 := HS6
                obtain ⟨t, htl, hte, hnx⟩ := run_next (i := 0) HF.out.1 HPN.out.1 hlt HR.out hvis hedg
                obtain ⟨eb, ec, L, hiL, hcl⟩ := nxt_cells HD.out.2.2.2.1 HD.out.2.2.2.2.1 HD.out.2.2.2.2.2 HPN.out.1 hte
                obtain ⟨z1, z2⟩ := hcl W6 HS7.out.below
                have hiLi : (0 : Int) < (L : Int) := by omega
                obtain ⟨px1, px2⟩ := box_cells ((HS7.out.below.block pb hpz).trans HD.out.1)
                have HNX := (show Hid _ from hnx)
                clear hnx hte hcl hvis hedg
                go_wp2_with fail
                refine ⟨⟨vals, outs, _, _, stl', used, t, rfl, rfl, by rw [hstl]; rfl, by omega, by omega, htl, HS7, ?_⟩, by simp only [intOf]; omega⟩
                show _ = _
                rw [HNX.out, hstl, hsto]
              | false =>
                have hedg : edgN p.n vals = ((1 : Nat) : Int) := by rw [hedg0]; rfl
                clear hedg0
                go_upto_region 49 with (go_at_call 55; refine Calls.mono (HW.out _) ?_; rintro e W6' ⟨rfl, hw6⟩; replace hw6 := hw6.symm; subst hw6)
                have HS7 := HS6
                obtain ⟨t, htl, hte, hnx⟩ := run_next (i := 1) HF.out.1 HPN.out.1 hlt HR.out hvis hedg
                obtain ⟨eb, ec, L, hiL, hcl⟩ := nxt_cells HD.out.2.2.2.1 HD.out.2.2.2.2.1 HD.out.2.2.2.2.2 HPN.out.1 hte
                obtain ⟨z1, z2⟩ := hcl W6 HS7.out.below
                have hiLi : (1 : Int) < (L : Int) := by omega
                obtain ⟨px1, px2⟩ := box_cells ((HS7.out.below.block pb hpz).trans HD.out.1)
                have HNX := (show Hid _ from hnx)
                clear hnx hte hcl hvis hedg
                go_wp2_with fail
                refine ⟨⟨vals, outs, _, _, stl', used, t, rfl, rfl, by rw [hstl]; rfl, by omega, by omega, htl, HS7, ?_⟩, by simp only [intOf]; omega⟩
                show _ = _
                rw [HNX.out, hstl, hsto]
      · as_aux_lemma =>
          have ed : does = ⟨#[103, 111, 116, 111]⟩ := (show does = _ from HRN.out.does).trans (by rw [hk0]; rfl)
          have eo : ops = 0 := (show ops = _ from HRN.out.ops).trans (by rw [hk0]; rfl)
          subst ed eo
          have hvis : vis p.n vals (ins.drop used) outs = (0, vals, ins.drop used, outs) := by unfold vis; simp [hk0]
          have hedg : edgN p.n vals = ((0 : Nat) : Int) := by unfold edgN; rw [if_neg (by omega)]; rfl
          go_upto_region 49 with fail
          have HS7 := HS6
          obtain ⟨t, htl, hte, hnx⟩ := run_next (i := 0) HF.out.1 HPN.out.1 hlt HR.out hvis hedg
          obtain ⟨eb, ec, L, hiL, hcl⟩ := nxt_cells HD.out.2.2.2.1 HD.out.2.2.2.2.1 HD.out.2.2.2.2.2 HPN.out.1 hte
          obtain ⟨z1, z2⟩ := hcl W6 HS7.out.below
          have hiLi : (0 : Int) < (L : Int) := by omega
          obtain ⟨px1, px2⟩ := box_cells ((HS7.out.below.block pb hpz).trans HD.out.1)
          have HNX := (show Hid _ from hnx)
          clear hnx hte hcl hvis hedg
          go_wp2_with fail
          refine ⟨⟨vals, outs, _, _, stl', used, t, rfl, rfl, by rw [hstl]; rfl, by omega, by omega, htl, HS7, ?_⟩, by simp only [intOf]; omega⟩
          show _ = _
          rw [HNX.out, hstl, hsto]
      · as_aux_lemma =>
          have ed : does = ⟨#[114, 101, 116, 117, 114, 110]⟩ := (show does = _ from HRN.out.does).trans (by rw [hk0]; rfl)
          have eo : ops = 0 := (show ops = _ from HRN.out.ops).trans (by rw [hk0]; rfl)
          subst ed eo
          have hvis : vis p.n vals (ins.drop used) outs = (1, vals, ins.drop used, outs) := by unfold vis; simp [hk0]
          have hnx := run_end HPN.out.1 hlt HR.out hvis (by decide)
          rw [← hsto] at hnx
          have HNX := (show Hid _ from hnx)
          obtain ⟨rx1, rx2⟩ := box_cells (HRB.out W6 HS6.out.below)
          clear hnx hvis
          go_wp2_with fail
          refine bodyPost_ret (v := .tuple #[.agg #[.int .i64 1, .slice oa outs.length oc, .slice a4 (stl.length + 1) c4], .int .i64 0]) (by simp [results, Tryz.results27, go_sem, rx1]) rfl ?_
          rw [HF.out.2]
          have hd := HS6.out
          rw [← hstl] at hd ⊢
          exact hd.done HB1.out 1 _ _ _ _ _ HNX.out
    · have hlti : ¬ (stl.length : Int) < (f : Int) := by omega
      have hnx : runF pl ps f 0 (List.replicate vs.length 0) ins [] [] = (4, outs, stOf stl) := by rw [HR.out, show f - stl.length = 0 by omega, runF]
      have HNX := (show Hid _ from hnx)
      obtain ⟨rx1, rx2⟩ := box_cells (HRB.out wr HS.out.below)
      clear hnx
      go_wp2_with fail
      refine bodyPost_ret (v := .tuple #[.agg #[.int .i64 4, .slice oa outs.length oc, .slice sa stl.length sc], .int .i64 0]) (by simp [results, Tryz.results27, go_sem, rx1]) rfl ?_
      rw [HF.out.2]
      exact HS.out.done HB1.out 4 _ _ _ _ _ HNX.out
end Go.Proofs.YtmipbiligijcpaaGreatDoor
