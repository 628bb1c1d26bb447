/- The link's walk. -/
import Derived.Test.YtmipbiligijcpaaDoorW14
namespace Go.Proofs.YtmipbiligijcpaaDoor
set_option linter.unusedVariables false
set_option linter.unusedSimpArgs false
open Go.RowKit Go.Proofs Go.Maps Go.WideMaps

theorem linkOk_fail {nl : List NC} {ps : List (Nam × Nat)} {k : Nat} {c : NC} (hp : plc 0 [] (nl.map NC.lab) = some ps) (hc : nl[k]? = some c) (h : (!jumps c.n.kind || decide (c.n.goal.data.toList ∈ keysA ps)) = false) : linkOk nl = false := by
  have : goalsOk ps nl = false := by
    rw [goalsOk, List.all_eq_false]
    exact ⟨c, List.mem_of_getElem? hc, by rw [h]; simp⟩
  simp [linkOk, hp, this]
theorem linkOk_end {w : World} {nl nl' : List NC} {ps : List (Nam × Nat)} {c : NC} (hp : plc 0 [] (nl.map NC.lab) = some ps) (h : Lk w ps nl nl' nl.length) (hn : 0 < nl.length) (hc : nl[nl.length - 1]? = some c) : linkOk nl = !(edgK ps c (nl.length - 1)).contains (nl.length : Int) := by
  have h1 : goalsOk ps nl = true := by
    rw [goalsOk, List.all_eq_true]
    intro d hd
    obtain ⟨j, hj, rfl⟩ := List.getElem_of_mem hd
    obtain ⟨_, _, _, _, e⟩ := h.done j _ hj (List.getElem?_eq_getElem hj)
    exact e
  have h2 : nl.getLast? = some c := by rw [List.getLast?_eq_getElem?, hc]
  simp [linkOk, hp, h1, lastOk, h2]

theorem contains_Er {w : World} {a : Option Addr} {l c : Nat} {es : List Int} (h : Er w (.slice a l c) es) (hl : es.length ≤ 2) (x : Int) :
    Calls Tryd.prog 32 #[.slice a l c, .int .i64 x] w fun e w' => e = .returned (.bool (es.contains x)) ∧ w' = w := by
  rcases h with ⟨rfl, h⟩ | ⟨b, h, hb⟩
  · cases h
    exact Tryd.slices_Contains_int_empty none 0 x w
  · cases h
    have := Tryd.slices_Contains_int b 0 es.length es.length es x w (Nat.le_refl _) (by omega) (fun j hj => by
      simp [World.cell?, hb, hj, List.getD_eq_getElem?_getD])
    rw [List.take_length] at this
    exact this
theorem edg_len (k g n : Int) : (edg k g n).length ≤ 2 := by unfold edg; split; simp; split; simp; split <;> simp
set_option maxHeartbeats 2000000 in
set_option maxRecDepth 100000 in
theorem link_any (g cap : Nat) (nl : List NC) (w : World) (hN : Nrow w g cap nl) (h0 : 0 < nl.length) (hlen : nl.length ≤ 60) (hz : ∀ c ∈ nl, c.lab.size ≤ 3000) (hzg : ∀ c ∈ nl, c.n.goal.size ≤ 3000) :
    Calls Tryd.prog 16 #[.slice (some ⟨g, 0, none⟩) nl.length cap] w fun e w' =>
      e = .returned (.bool (linkOk nl)) ∧ w.grownBy w' (some g) ∧ (linkOk nl = true → ∃ ps nl', plc 0 [] (nl.map NC.lab) = some ps ∧ Nrow w' g cap nl' ∧ Lk w' ps nl nl' nl.length) := by
  have hg := hN.lt
  have e0 : ((nl.length : Int) == 0) = false := by rw [beq_eq_false_iff_ne]; omega
  have e6 : decide (60 < (nl.length : Int)) = false := by rw [decide_eq_false_iff_not]; omega
  go_enter Tryd.func16, Tryd.ntmps16
  go_wp2_with fail
  refine (placeLabels_any g cap nl w hN hlen hz).mono ?_
  rintro e W1 ⟨hr, hb1⟩
  rcases hr with ⟨ps, mb, hp, rfl, hmb, hown⟩ | ⟨hp, rfl⟩
  · have HP : Hid (plc 0 [] (nl.map NC.lab) = some ps) := hp
    clear hp
    have hNW := hN.of_block (hb1.block g hg)
    have hgW := hNW.lt
    go_wp2_with fail
    go_loopw [26] (fun i wr => ∃ (k : Nat) (nl' : List NC), k ≤ nl.length ∧ i = .int .i64 k ∧ Nrow wr g cap nl' ∧ Lk wr ps nl nl' k ∧ wr.ownsMap Tryd.prog 9 (plainElem Tryd.prog 3) mb 60 (tabA ps) ∧ w.grownBy wr (some g)) (fun i _ => nl.length - (intOf i).toNat)
    case atStart => exact ⟨0, nl, Nat.zero_le _, rfl, hNW, ⟨rfl, fun j c hj => by omega, fun _ _ => rfl⟩, hown, grown_to (grown_of_below hb1) _⟩
    case round =>
      clear hown hNW
      obtain ⟨k, nl', hk, rfl, hNr, hL, hown, hgr⟩ := hrel
      by_cases hlt : k < nl.length
      · obtain ⟨c, hc⟩ : ∃ c, nl[k]? = some c := ⟨_, List.getElem?_eq_getElem hlt⟩
        have hc' : nl'[k]? = some c := by rw [hL.rest k (Nat.le_refl _)]; exact hc
        obtain ⟨q0, q1, q2, q3, q4, q5, q6, q7, q8, q9, q10, q11, q12, q13⟩ := hNr.all k c hc'
        have hzc : c.n.goal.size ≤ maxLen := by have := hzg c (List.mem_of_getElem? hc); unfold maxLen; omega
        have hlti : (k : Int) < (nl.length : Int) := by omega
        have hkey : keyOf Tryd.prog 9 (.string c.n.goal) = some (keyL c.n.goal.data.toList) := keyOf_string_mk Tryd.underlying9 hzc
        have hat := atA ps c.n.goal.data.toList
        have hhas := hasA ps c.n.goal.data.toList
        have hfz := hNr.frozen (k * 14 + 12)
        obtain ⟨jb, hjb⟩ : ∃ jb, jumps c.n.kind = jb := ⟨_, rfl⟩
        obtain ⟨db, hdb⟩ : ∃ db, decide (c.n.goal.data.toList ∈ keysA ps) = db := ⟨_, rfl⟩
        rw [hdb] at hhas
        cases hcond : (!jb || db) with
        | false =>
          obtain ⟨rfl, rfl⟩ : jb = true ∧ db = false := by cases jb <;> cases db <;> simp_all
          have HF : Hid (linkOk nl = false) := linkOk_fail HP.out hc (by rw [hjb, hdb]; rfl)
          clear hdb
          go_wp2_with (first
            | (at_lookup; refine wpList_lookup_own_ok_int _ rfl _ _ 44 rfl 9 3 .i64 lawS Tryd.underlying44 Tryd.underlying3 (zeroI _) mb 60 (tabA ps) rfl (hown.alloc _) _ _ rfl hkey ?_; intro z hz1 hwc)
            | (go_at_call 30; refine (namesLabel_any c _).mono ?_; rintro e W2 ⟨rfl, hb2⟩))
          go_ret
          exact ⟨ret_bool HF.out.symm, hgr.trans (grown_of_alloc (grown_to (grown_of_below hb2) _)), fun h => by rw [HF.out] at h; cases h⟩
        | true =>
          have HJ : Hid ((!jumps c.n.kind || decide (c.n.goal.data.toList ∈ keysA ps)) = true) := by show _ = _; rw [hjb, hdb]; exact hcond
          clear hdb
          cases jb <;> cases db <;> simp only [Bool.not_true, Bool.not_false, Bool.or_false, Bool.or_true, Bool.false_eq_true] at hcond
          all_goals
            go_wp2_with (first
              | (at_lookup; refine wpList_lookup_own_ok_int _ rfl _ _ 44 rfl 9 3 .i64 lawS Tryd.underlying44 Tryd.underlying3 (zeroI _) mb 60 (tabA ps) rfl (hown.alloc _) _ _ rfl hkey ?_; intro z hz1 hwc)
              | (go_at_call 30; refine (namesLabel_any c _).mono ?_; rintro e W2 ⟨rfl, hb2⟩; have hbx := box_grown (grown_of_below hb2) (fun k e => by cases e); obtain ⟨hx1, hx2⟩ := box_cells hbx; have hgz : g < W2.heap.size := Nat.lt_of_lt_of_le hNr.lt (by have := hb2.size; simp at this; omega); have r12 := ((hNr.alloc _).of_block (hb2.block g (by have := hNr.lt; simp; omega))).all k c hc'; have rfz := ((hNr.alloc _).of_block (hb2.block g (by have := hNr.lt; simp; omega))).frozen (k * 14 + 12); obtain ⟨_, _, _, _, _, _, _, _, _, _, _, _, r12, _⟩ := r12)
              | (go_at_call 31; refine (edges_any _ _ _ _).mono ?_; rintro e W3 ⟨ea, el, ec, rfl, HE, hb3⟩; have hNr3 := ((hNr.alloc _).of_block (hb2.block g (by have := hNr.lt; simp; omega))).of_block (hb3.block g hgz); have t12 := hNr3.all k c hc'; have tfz := hNr3.frozen (k * 14 + 12); obtain ⟨_, _, _, _, _, _, _, _, _, _, _, _, t12, _⟩ := t12))
            go_roundw
            case rel =>
              have ez : z = valA ps c.n.goal.data.toList := by
                have := hz1.symm.trans hat
                simpa using this
              subst ez
              have hbA : Below wr.heap.size wr W3 := (((Below.refl _ wr).alloc (Nat.le_refl _) _).trans (hb2.mono (by simp))).trans (hb3.mono (by have := hb2.size; simp at this; omega))
              have hE : Er W3 (.slice ea el ec) (edgK ps c k) := HE.out
              refine ⟨k + 1, _, by omega, by go_num, hNr3.set_edges k c hc' ea el ec, (hL.of_below hbA).step hNr3 hc hc' ea el ec hE HJ.out, ?_, ?_⟩
              · refine World.ownsMap.setCell ?_ ?_ _
                · exact hown.kept (grown_of_below hbA) (by simp)
                · show mb ≠ g
                  omega
              · have h1 := hgr.trans (grown_to (grown_of_below hbA) (some g))
                refine ⟨h1.os, h1.tape, h1.output, by simpa [World.setCell] using h1.size, fun j hj hne => ?_⟩
                rw [Below.heap_setCell _ _ _ _ (by intro e; exact hne (by rw [e]))]
                exact h1.block j hj hne
            case measure => simp [intOf]; omega
      · obtain rfl : k = nl.length := by omega
        obtain ⟨c, hc⟩ : ∃ c, nl[nl.length - 1]? = some c := ⟨_, List.getElem?_eq_getElem (by omega)⟩
        obtain ⟨c', hc', hlike, hEr, _⟩ := hL.done (nl.length - 1) c (by omega) hc
        have HF : Hid (linkOk nl = !(edgK ps c (nl.length - 1)).contains (nl.length : Int)) := linkOk_end HP.out hL h0 hc
        obtain ⟨_, _, _, _, _, _, _, _, _, _, _, _, q12, _⟩ := hNr.all (nl.length - 1) c' hc'
        have hzero : ((nl.length - 1 : Nat) : Int) = (nl.length : Int) - 1 := by omega
        clear hN
        go_wp2_with fail
        refine (contains_Er hEr (edg_len _ _ _) _).mono ?_
        rintro e w' ⟨rfl, rfl⟩
        go_wp2
        go_ret
        exact ⟨ret_bool (by rw [HF.out]; simp), hgr, fun _ => ⟨ps, nl', HP.out, hNr, hL⟩⟩
  · have HF : Hid (linkOk nl = false) := by show _ = _; simp [linkOk, hp]
    clear hp
    go_wp2_with fail
    go_ret
    exact ⟨ret_bool HF.out.symm, grown_to (grown_of_below hb1) _, fun h => by rw [HF.out] at h; cases h⟩
end Go.Proofs.YtmipbiligijcpaaDoor
