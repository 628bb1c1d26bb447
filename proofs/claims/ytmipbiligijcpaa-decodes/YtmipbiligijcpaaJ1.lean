/- The document's certificates: what is one. -/
import Derived.Test.YtmipbiligijcpaaH3
import Derived.Deep.RegionHeld3
import Derived.Deep.RegionLaw
import Derived.Deep.QuietTactic
import Derived.BigQuiet
namespace Go.Proofs.Ytmipbiligijcpaa
set_option linter.unusedVariables false
set_option linter.unusedSimpArgs false
open Go.RowKit Go.Proofs Go.Maps

set_option maxHeartbeats 400000 in
theorem rrank_any (x : Int) (w : World) : Calls Try.prog 60 #[.int .i64 x] w fun e w' => e = .returned (.bool (rk x)) ∧ w' = w := by
  go_enter Try.func60, Try.ntmps60
  go_wp2
  all_goals
    go_ret
    refine ⟨ret_bool ?_, rfl⟩
    unfold rk
    first | (simp; omega) | (simp; try omega)
set_option maxHeartbeats 2000000 in
set_option maxRecDepth 100000 in
theorem rsetNode_any (g : Int) (fa ra va : Option Addr) (fc rc vc : Nat) (n : Nd) (w : World) (h : NdAt w fa ra va fc rc vc n) (hn : NdIn n) :
    Calls Try.prog 41 #[.agg #[.slice fa n.facts.length fc, .slice ra n.ranks.length rc, .bool n.reached, .int .i64 n.rank, .slice va n.vals.length vc], .int .i64 g] w fun e w' => e = .returned (.bool (okSet g n)) ∧ Below w.heap.size w w' := by
  obtain ⟨facts, ranks, reached, rank, vals⟩ := n
  have HH : Hid (IntsAt w fa facts ∧ IntsAt w ra ranks) := ⟨h.facts, h.ranks⟩
  have h8 : facts.length * 8 ≤ 140737488355328 := hn.fsz
  have h9 : ranks.length * 8 ≤ 140737488355328 := hn.rsz
  clear h hn
  cases reached with
  | true =>
    go_enter Try.func41, Try.ntmps41
    go_wp2_with fail
    all_goals
      go_ret
      exact ⟨ret_bool (by simp [okSet]), below1 _ _⟩
  | false =>
  by_cases hr : rank = 0
  · subst hr
    by_cases hv : vals.length = 0
    · have hv0 : ((vals.length : Int) != 0) = false := by simp [hv]
      have HVL := (show Hid _ from hv)
      clear hv
      by_cases hg : g = 1
      · subst hg
        have HO : Hid (∀ (he : ranks.length = facts.length), okSet 1 ⟨facts, ranks, false, 0, vals⟩ = (rises 0 facts && ranks.all rk)) := by
          intro he
          unfold okSet okRanks
          simp [emp_len, HVL.out, he]
        by_cases hrl : ranks.length = facts.length
        · have hrb : ((ranks.length : Int) != (facts.length : Int)) = false := by rw [bne_eq_false_iff_eq]; omega
          have HRL := (show Hid _ from hrl)
          clear hrl
          go_enter Try.func41, Try.ntmps41
          go_wp2_with fail
          generalize hW : w.alloc (.cells #[.slice fa facts.length fc, .slice ra ranks.length rc, .bool false, .int .i64 0, .slice va vals.length vc] 50) = W1
          have HB : Hid (Below w.heap.size w W1 ∧ W1.heap[w.heap.size]? = some (.cells #[.slice fa facts.length fc, .slice ra ranks.length rc, .bool false, .int .i64 0, .slice va vals.length vc] 50 (0, 0))) := by
            subst hW
            exact ⟨below1 _ _, heap_alloc_new w _⟩
          clear hW
          go_loopw [6] (fun i wr => ∃ (k : Nat) (fl : Int), k ≤ facts.length ∧ i = .int .i64 k ∧ 0 ≤ fl ∧ Hid ((k = 0 → fl = 0) ∧ (∀ j, k = j + 1 → facts[j]? = some (fl - 1))) ∧ Hid (Below W1.heap.size W1 wr) ∧ Hid (rises 0 facts = rises fl (facts.drop k))) (fun i _ => facts.length - (intOf i).toNat)
          case atStart => exact ⟨0, 0, Nat.zero_le _, rfl, by omega, ⟨fun _ => rfl, fun j h => by omega⟩, Below.refl _ _, by show _ = _; simp⟩
          case round =>
            obtain ⟨k, fl, hk, rfl, hf0, HJ, HK, HA⟩ := hrel
            have hbx := (HK.out.block _ (Array.getElem?_eq_some_iff.1 HB.out.2).1).trans HB.out.2
            obtain ⟨x1, x2⟩ := box_cells hbx
            have HW : Hid (Below w.heap.size w wr) := below_trans HB.out.1 HK.out
            by_cases hlt : k < facts.length
            · have hlti : (k : Int) < (facts.length : Int) := by omega
              obtain ⟨x, hx⟩ : ∃ x, facts[k]? = some x := ⟨_, List.getElem?_eq_getElem hlt⟩
              obtain ⟨b1, o1, hfa, c1⟩ := (HH.out.1.below HW.out) k x hx
              have HX : Hid (facts[k]? = some x) := hx
              cases hR : rk x with
              | false =>
                subst hfa
                clear hx
                go_wp2_with (go_at_call 60; refine (rrank_any _ _).mono ?_; rw [hR]; rintro e w2 ⟨rfl, rfl⟩)
                go_quiet (fail)
                go_wp2_with fail
                go_ret
                refine ⟨ret_bool ?_, below_drewN HW.out _⟩
                rw [HO.out HRL.out, HA.out, rises_drop HX.out]
                have : ¬ (fl ≤ x ∧ x ≤ 100000) := by
                  intro h
                  unfold rk at hR
                  simp at hR
                  omega
                rw [show (decide (fl ≤ x) && decide (x ≤ 100000)) = false by rw [Bool.eq_false_iff]; simp; omega]
                rfl
              | true =>
                have hR2 : 0 ≤ x ∧ x ≤ 100000 := by unfold rk at hR; simpa using hR
                rcases Nat.eq_zero_or_pos k with h0 | h0
                · subst h0
                  subst hfa
                  obtain rfl := HJ.out.1 rfl
                  have c0 : wr.cell? ⟨b1, o1, none⟩ = some (.int .i64 x) := c1
                  clear hx c1
                  go_wp2_with (go_at_call 60; refine (rrank_any _ _).mono ?_; rw [hR]; rintro e w2 ⟨rfl, rfl⟩)
                  go_quiet (fail)
                  go_wp2_with fail
                  go_roundw
                  case rel =>
                    refine ⟨1, x + 1, by omega, by go_num, by omega, ⟨fun h => by omega, fun j h => ?_⟩, below_drewN HK.out _, ?_⟩
                    · obtain rfl : j = 0 := by omega
                      rw [HX.out]; congr 1; omega
                    · show _ = _
                      rw [HA.out, rises_drop HX.out]
                      simp [hR2.1, hR2.2]
                  case measure => simp [intOf]; omega
                · obtain ⟨k, rfl⟩ : ∃ j, k = j + 1 := ⟨k - 1, by omega⟩
                  have hprev := HJ.out.2 k rfl
                  obtain ⟨b2, o2, h2, c2⟩ := (HH.out.1.below HW.out) k (fl - 1) hprev
                  rw [hfa] at h2
                  simp at h2
                  obtain ⟨rfl, rfl⟩ := h2
                  subst hfa
                  clear hx hprev
                  have hk0 : decide (0 < ((k + 1 : Nat) : Int)) = true := by rw [decide_eq_true_eq]; omega
                  have hkm : ((k + 1 : Nat) : Int) - 1 = (k : Int) := by omega
                  by_cases hxf : x ≤ fl - 1
                  · go_wp2_with (go_at_call 60; refine (rrank_any _ _).mono ?_; rw [hR]; rintro e w2 ⟨rfl, rfl⟩)
                    go_quiet (fail)
                    go_wp2_with fail
                    go_ret
                    refine ⟨ret_bool ?_, below_drewN HW.out _⟩
                    rw [HO.out HRL.out, HA.out, rises_drop HX.out]
                    rw [show (decide (fl ≤ x) && decide (x ≤ 100000)) = false by rw [Bool.eq_false_iff]; simp; omega]
                    rfl
                  · go_wp2_with (go_at_call 60; refine (rrank_any _ _).mono ?_; rw [hR]; rintro e w2 ⟨rfl, rfl⟩)
                    go_quiet (fail)
                    go_wp2_with fail
                    go_roundw
                    case rel =>
                      refine ⟨k + 1 + 1, x + 1, by omega, by go_num, by omega, ⟨fun h => by omega, fun j h => ?_⟩, below_drewN HK.out _, ?_⟩
                      · obtain rfl : j = k + 1 := by omega
                        rw [HX.out]; congr 1; omega
                      · show _ = _
                        rw [HA.out, rises_drop HX.out]
                        have hq : fl ≤ x := by omega
                        simp [hR2.2, hq]
                    case measure => simp [intOf]; omega
            · obtain rfl : k = facts.length := by omega
              have hlti : ¬ (facts.length : Int) < (facts.length : Int) := by omega
              have HT : Hid (okSet 1 ⟨facts, ranks, false, 0, vals⟩ = ranks.all rk) := by
                show _ = _
                rw [HO.out HRL.out, HA.out]
                simp [rises]
              clear HA HJ
              go_wp2_with fail
              clear x1 x2 hbx
              go_loopw [8] (fun i wx => ∃ (k : Nat), k ≤ ranks.length ∧ i = .int .i64 k ∧ Hid (Below W1.heap.size W1 wx) ∧ Hid (ranks.all rk = (ranks.drop k).all rk)) (fun i _ => ranks.length - (intOf i).toNat)
              case atStart => exact ⟨0, Nat.zero_le _, rfl, HK, by show _ = _; simp⟩
              case round =>
                clear HW HK
                rename_i wx _ _
                obtain ⟨k, hk, rfl, HK, HA⟩ := hrel
                obtain ⟨x1, x2⟩ := box_cells ((HK.out.block _ (Array.getElem?_eq_some_iff.1 HB.out.2).1).trans HB.out.2)
                have HW := (show Hid _ from below_trans HB.out.1 HK.out)
                by_cases hlt : k < ranks.length
                · have hlti : (k : Int) < (ranks.length : Int) := by omega
                  obtain ⟨x, hx⟩ : ∃ x, ranks[k]? = some x := ⟨_, List.getElem?_eq_getElem hlt⟩
                  obtain ⟨b1, o1, rfl, c1⟩ := (HH.out.2.below HW.out) k x hx
                  have HX : Hid (ranks[k]? = some x) := hx
                  clear hx
                  cases hR : rk x with
                  | false =>
                    go_wp2_with (go_at_call 60; refine (rrank_any _ _).mono ?_; rw [hR]; rintro e w2 ⟨rfl, rfl⟩)
                    go_ret
                    refine ⟨ret_bool ?_, HW.out⟩
                    rw [HT.out, HA.out, drop_all HX.out, hR]
                    rfl
                  | true =>
                    go_wp2_with (go_at_call 60; refine (rrank_any _ _).mono ?_; rw [hR]; rintro e w2 ⟨rfl, rfl⟩)
                    refine ⟨⟨k + 1, by omega, by go_num, HK, ?_⟩, by simp [intOf]; omega⟩
                    show _ = _
                    rw [HA.out, drop_all HX.out, hR]
                    rfl
                · obtain rfl : k = ranks.length := by omega
                  have hlti : ¬ (ranks.length : Int) < (ranks.length : Int) := by omega
                  go_wp2_with fail
                  go_ret
                  exact ⟨ret_bool (by rw [HT.out, HA.out]; simp), HW.out⟩
        · have hrb : ((ranks.length : Int) != (facts.length : Int)) = true := by rw [bne_iff_ne]; omega
          go_enter Try.func41, Try.ntmps41
          go_wp2_with fail
          all_goals
            go_ret
            refine ⟨ret_bool ?_, below1 _ _⟩
            unfold okSet okRanks
            simp [hrl]
      · have hgb : (g == 1) = false := by simp [hg]
        have HO : Hid (∀ (he : ranks.length = 0), okSet g ⟨facts, ranks, false, 0, vals⟩ = (rises 0 facts && ranks.all rk)) := by
          intro he
          unfold okSet okRanks
          rw [if_neg hg]
          simp [emp_len, HVL.out, List.length_eq_zero_iff.1 he]
        by_cases hrl : ranks.length = 0
        · have hrb : ((ranks.length : Int) != 0) = false := by rw [bne_eq_false_iff_eq]; omega
          have HRL := (show Hid _ from hrl)
          clear hrl
          go_enter Try.func41, Try.ntmps41
          go_wp2_with fail
          generalize hW : w.alloc (.cells #[.slice fa facts.length fc, .slice ra ranks.length rc, .bool false, .int .i64 0, .slice va vals.length vc] 50) = W1
          have HB : Hid (Below w.heap.size w W1 ∧ W1.heap[w.heap.size]? = some (.cells #[.slice fa facts.length fc, .slice ra ranks.length rc, .bool false, .int .i64 0, .slice va vals.length vc] 50 (0, 0))) := by
            subst hW
            exact ⟨below1 _ _, heap_alloc_new w _⟩
          clear hW hg
          go_loopw [6] (fun i wr => ∃ (k : Nat) (fl : Int), k ≤ facts.length ∧ i = .int .i64 k ∧ 0 ≤ fl ∧ Hid ((k = 0 → fl = 0) ∧ (∀ j, k = j + 1 → facts[j]? = some (fl - 1))) ∧ Hid (Below W1.heap.size W1 wr) ∧ Hid (rises 0 facts = rises fl (facts.drop k))) (fun i _ => facts.length - (intOf i).toNat)
          case atStart => exact ⟨0, 0, Nat.zero_le _, rfl, by omega, ⟨fun _ => rfl, fun j h => by omega⟩, Below.refl _ _, by show _ = _; simp⟩
          case round =>
            obtain ⟨k, fl, hk, rfl, hf0, HJ, HK, HA⟩ := hrel
            have hbx := (HK.out.block _ (Array.getElem?_eq_some_iff.1 HB.out.2).1).trans HB.out.2
            obtain ⟨x1, x2⟩ := box_cells hbx
            have HW : Hid (Below w.heap.size w wr) := below_trans HB.out.1 HK.out
            by_cases hlt : k < facts.length
            · have hlti : (k : Int) < (facts.length : Int) := by omega
              obtain ⟨x, hx⟩ : ∃ x, facts[k]? = some x := ⟨_, List.getElem?_eq_getElem hlt⟩
              obtain ⟨b1, o1, hfa, c1⟩ := (HH.out.1.below HW.out) k x hx
              have HX : Hid (facts[k]? = some x) := hx
              cases hR : rk x with
              | false =>
                subst hfa
                clear hx
                go_wp2_with (go_at_call 60; refine (rrank_any _ _).mono ?_; rw [hR]; rintro e w2 ⟨rfl, rfl⟩)
                go_quiet (fail)
                go_wp2_with fail
                go_ret
                refine ⟨ret_bool ?_, below_drewN HW.out _⟩
                rw [HO.out HRL.out, HA.out, rises_drop HX.out]
                have : ¬ (fl ≤ x ∧ x ≤ 100000) := by
                  intro h
                  unfold rk at hR
                  simp at hR
                  omega
                rw [show (decide (fl ≤ x) && decide (x ≤ 100000)) = false by rw [Bool.eq_false_iff]; simp; omega]
                rfl
              | true =>
                have hR2 : 0 ≤ x ∧ x ≤ 100000 := by unfold rk at hR; simpa using hR
                rcases Nat.eq_zero_or_pos k with h0 | h0
                · subst h0
                  subst hfa
                  obtain rfl := HJ.out.1 rfl
                  have c0 : wr.cell? ⟨b1, o1, none⟩ = some (.int .i64 x) := c1
                  clear hx c1
                  go_wp2_with (go_at_call 60; refine (rrank_any _ _).mono ?_; rw [hR]; rintro e w2 ⟨rfl, rfl⟩)
                  go_quiet (fail)
                  go_wp2_with fail
                  go_roundw
                  case rel =>
                    refine ⟨1, x + 1, by omega, by go_num, by omega, ⟨fun h => by omega, fun j h => ?_⟩, below_drewN HK.out _, ?_⟩
                    · obtain rfl : j = 0 := by omega
                      rw [HX.out]; congr 1; omega
                    · show _ = _
                      rw [HA.out, rises_drop HX.out]
                      simp [hR2.1, hR2.2]
                  case measure => simp [intOf]; omega
                · obtain ⟨k, rfl⟩ : ∃ j, k = j + 1 := ⟨k - 1, by omega⟩
                  have hprev := HJ.out.2 k rfl
                  obtain ⟨b2, o2, h2, c2⟩ := (HH.out.1.below HW.out) k (fl - 1) hprev
                  rw [hfa] at h2
                  simp at h2
                  obtain ⟨rfl, rfl⟩ := h2
                  subst hfa
                  clear hx hprev
                  have hk0 : decide (0 < ((k + 1 : Nat) : Int)) = true := by rw [decide_eq_true_eq]; omega
                  have hkm : ((k + 1 : Nat) : Int) - 1 = (k : Int) := by omega
                  by_cases hxf : x ≤ fl - 1
                  · go_wp2_with (go_at_call 60; refine (rrank_any _ _).mono ?_; rw [hR]; rintro e w2 ⟨rfl, rfl⟩)
                    go_quiet (fail)
                    go_wp2_with fail
                    go_ret
                    refine ⟨ret_bool ?_, below_drewN HW.out _⟩
                    rw [HO.out HRL.out, HA.out, rises_drop HX.out]
                    rw [show (decide (fl ≤ x) && decide (x ≤ 100000)) = false by rw [Bool.eq_false_iff]; simp; omega]
                    rfl
                  · go_wp2_with (go_at_call 60; refine (rrank_any _ _).mono ?_; rw [hR]; rintro e w2 ⟨rfl, rfl⟩)
                    go_quiet (fail)
                    go_wp2_with fail
                    go_roundw
                    case rel =>
                      refine ⟨k + 1 + 1, x + 1, by omega, by go_num, by omega, ⟨fun h => by omega, fun j h => ?_⟩, below_drewN HK.out _, ?_⟩
                      · obtain rfl : j = k + 1 := by omega
                        rw [HX.out]; congr 1; omega
                      · show _ = _
                        rw [HA.out, rises_drop HX.out]
                        have hq : fl ≤ x := by omega
                        simp [hR2.2, hq]
                    case measure => simp [intOf]; omega
            · obtain rfl : k = facts.length := by omega
              have hlti : ¬ (facts.length : Int) < (facts.length : Int) := by omega
              have HT : Hid (okSet g ⟨facts, ranks, false, 0, vals⟩ = ranks.all rk) := by
                show _ = _
                rw [HO.out HRL.out, HA.out]
                simp [rises]
              clear HA HJ
              go_wp2_with fail
              clear x1 x2 hbx
              go_loopw [8] (fun i wx => ∃ (k : Nat), k ≤ ranks.length ∧ i = .int .i64 k ∧ Hid (Below W1.heap.size W1 wx) ∧ Hid (ranks.all rk = (ranks.drop k).all rk)) (fun i _ => ranks.length - (intOf i).toNat)
              case atStart => exact ⟨0, Nat.zero_le _, rfl, HK, by show _ = _; simp⟩
              case round =>
                clear HW HK
                rename_i wx _ _
                obtain ⟨k, hk, rfl, HK, HA⟩ := hrel
                obtain ⟨x1, x2⟩ := box_cells ((HK.out.block _ (Array.getElem?_eq_some_iff.1 HB.out.2).1).trans HB.out.2)
                have HW := (show Hid _ from below_trans HB.out.1 HK.out)
                by_cases hlt : k < ranks.length
                · have hlti : (k : Int) < (ranks.length : Int) := by omega
                  obtain ⟨x, hx⟩ : ∃ x, ranks[k]? = some x := ⟨_, List.getElem?_eq_getElem hlt⟩
                  obtain ⟨b1, o1, rfl, c1⟩ := (HH.out.2.below HW.out) k x hx
                  have HX : Hid (ranks[k]? = some x) := hx
                  clear hx
                  cases hR : rk x with
                  | false =>
                    go_wp2_with (go_at_call 60; refine (rrank_any _ _).mono ?_; rw [hR]; rintro e w2 ⟨rfl, rfl⟩)
                    go_ret
                    refine ⟨ret_bool ?_, HW.out⟩
                    rw [HT.out, HA.out, drop_all HX.out, hR]
                    rfl
                  | true =>
                    go_wp2_with (go_at_call 60; refine (rrank_any _ _).mono ?_; rw [hR]; rintro e w2 ⟨rfl, rfl⟩)
                    refine ⟨⟨k + 1, by omega, by go_num, HK, ?_⟩, by simp [intOf]; omega⟩
                    show _ = _
                    rw [HA.out, drop_all HX.out, hR]
                    rfl
                · obtain rfl : k = ranks.length := by omega
                  have hlti : ¬ (ranks.length : Int) < (ranks.length : Int) := by omega
                  go_wp2_with fail
                  go_ret
                  exact ⟨ret_bool (by rw [HT.out, HA.out]; simp), HW.out⟩
        · have hrb : ((ranks.length : Int) != 0) = true := by rw [bne_iff_ne]; omega
          go_enter Try.func41, Try.ntmps41
          go_wp2_with fail
          all_goals
            go_ret
            refine ⟨ret_bool ?_, below1 _ _⟩
            unfold okSet okRanks
            rw [if_neg hg]
            simp [emp_len, hrl]
    · have hv0 := len_bne hv
      go_enter Try.func41, Try.ntmps41
      go_wp2_with fail
      all_goals
        go_ret
        exact ⟨ret_bool (by simp [okSet, emp_len, hv]), below1 _ _⟩
  · have hr0 : (rank != 0) = true := by rw [bne_iff_ne]; exact hr
    go_enter Try.func41, Try.ntmps41
    go_wp2_with fail
    all_goals
      go_ret
      exact ⟨ret_bool (by simp [okSet, hr]), below1 _ _⟩
end Go.Proofs.Ytmipbiligijcpaa
