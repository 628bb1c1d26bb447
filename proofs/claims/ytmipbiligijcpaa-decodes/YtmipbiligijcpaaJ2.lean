/- The document's certificates: environments. -/
import Derived.Test.YtmipbiligijcpaaJ1
namespace Go.Proofs.Ytmipbiligijcpaa
set_option linter.unusedVariables false
set_option linter.unusedSimpArgs false
open Go.RowKit Go.Proofs Go.Maps

theorem rk_true {x : Int} (h : rk x = true) : 0 ≤ x ∧ x ≤ 100000 := by unfold rk at h; simpa using h
theorem rk_false {x : Int} (h : rk x = false) : ¬ (0 ≤ x ∧ x ≤ 100000) := by
  intro h2
  have : rk x = true := by unfold rk; simp [h2.1, h2.2]
  rw [this] at h
  cases h
set_option maxHeartbeats 4000000 in
set_option maxRecDepth 100000 in
theorem renv62_any (fa ra va : Option Addr) (fc rc vc : Nat) (n : Nd) (w : World) (h : NdAt w fa ra va fc rc vc n) (hn : NdIn n) :
    Calls Try.prog 42 #[.agg #[.slice fa n.facts.length fc, .slice ra n.ranks.length rc, .bool n.reached, .int .i64 n.rank, .slice va n.vals.length vc], .int .i64 6, .int .i64 2] w fun e w' => e = .returned (.bool (okNode 6 2 n)) ∧ Below w.heap.size w w' := by
  obtain ⟨facts, ranks, reached, rank, vals⟩ := n
  have HH : Hid (ValsAt w va vals) := h.vals
  have h7 : vals.length * 48 ≤ 140737488355328 := hn.vsz
  clear h hn
  by_cases hf : facts.length = 0
  · by_cases hr : ranks.length = 0
    · obtain rfl : facts = [] := List.length_eq_zero_iff.1 hf
      obtain rfl : ranks = [] := List.length_eq_zero_iff.1 hr
      simp only [List.length_nil]
      cases hK : rk rank with
      | false =>
        have hK2 := rk_false hK
        go_enter Try.func42, Try.ntmps42
        go_wp2_with (go_at_call 60; refine (rrank_any _ _).mono ?_; rw [hK]; rintro e w2 ⟨rfl, rfl⟩)
        go_ret
        refine ⟨ret_bool ?_, below1 _ _⟩
        unfold okNode okEnv okBare
        cases reached <;> simp [hK]
        omega
      | true =>
        have hK2 := rk_true hK
        by_cases hv : vals.length ≤ 8
        · have hv8 : (vals.length : Int) ≤ 8 := by omega
          cases reached with
          | false =>
            by_cases hz : rank = 0
            · subst hz
              by_cases hv0 : vals.length = 0
              · obtain rfl : vals = [] := List.length_eq_zero_iff.1 hv0
                simp only [List.length_nil]
                have HO : Hid (okNode 6 2 ⟨[], [], false, 0, []⟩ = true) := by show _ = _; decide
                go_enter Try.func42, Try.ntmps42
                go_wp2_with (go_at_call 60; refine (rrank_any _ _).mono ?_; rw [hK]; rintro e w2 ⟨rfl, rfl⟩)
                go_loopw [8] (fun i wr => i = .int .i64 0 ∧ wr = w.alloc (.cells #[.slice fa 0 fc, .slice ra 0 rc, .bool false, .int .i64 0, .slice va 0 vc] 50)) (fun _ _ => 0)
                case atStart => exact ⟨rfl, rfl⟩
                case round =>
                  obtain ⟨rfl, rfl⟩ := hrel
                  go_wp2_with fail
                  go_ret
                  exact ⟨ret_bool HO.out.symm, below1 _ _⟩
              · have hvb := len_bne hv0
                go_enter Try.func42, Try.ntmps42
                go_wp2_with (go_at_call 60; refine (rrank_any _ _).mono ?_; rw [hK]; rintro e w2 ⟨rfl, rfl⟩)
                go_ret
                refine ⟨ret_bool ?_, below1 _ _⟩
                unfold okNode okBare
                simp [emp_len, hv0]
            · have hzb : (rank != 0) = true := by rw [bne_iff_ne]; exact hz
              go_enter Try.func42, Try.ntmps42
              go_wp2_with (go_at_call 60; refine (rrank_any _ _).mono ?_; rw [hK]; rintro e w2 ⟨rfl, rfl⟩)
              all_goals
                go_ret
                refine ⟨ret_bool ?_, below1 _ _⟩
                unfold okNode okBare
                simp [hz]
          | true =>
            by_cases hz : rank = 0
            · subst hz
              have HO : Hid (okNode 6 2 ⟨[], [], true, 0, vals⟩ = vals.all (okVal 6 2 0)) := by
                show _ = _
                unfold okNode okEnv
                simp [hK, hv]
              go_enter Try.func42, Try.ntmps42
              go_wp2_with (go_at_call 60; refine (rrank_any _ _).mono ?_; rw [hK]; rintro e w2 ⟨rfl, rfl⟩)
              generalize hW : w.alloc (.cells #[.slice fa 0 fc, .slice ra 0 rc, .bool true, .int .i64 0, .slice va vals.length vc] 50) = W1
              have HB : Hid (Below w.heap.size w W1 ∧ W1.heap[w.heap.size]? = some (.cells #[.slice fa 0 fc, .slice ra 0 rc, .bool true, .int .i64 0, .slice va vals.length vc] 50 (0, 0))) := by
                subst hW
                exact ⟨below1 _ _, heap_alloc_new w _⟩
              clear hW
              go_loopw [8] (fun i wr => ∃ (k : Nat), k ≤ vals.length ∧ i = .int .i64 k ∧ Hid (Below W1.heap.size W1 wr) ∧ Hid (vals.all (okVal 6 2 0) = (vals.drop k).all (okVal 6 2 0))) (fun i _ => vals.length - (intOf i).toNat)
              case atStart => exact ⟨0, Nat.zero_le _, rfl, Below.refl _ _, by show _ = _; simp⟩
              case round =>
                obtain ⟨k, hk, rfl, HK, HA⟩ := hrel
                obtain ⟨x1, x2⟩ := box_cells ((HK.out.block _ (Array.getElem?_eq_some_iff.1 HB.out.2).1).trans HB.out.2)
                have HW : Hid (Below w.heap.size w wr) := below_trans HB.out.1 HK.out
                have hn1 := (Array.getElem?_eq_some_iff.1 HB.out.2).1
                have hn2 := HK.out.size
                have e1 : w.heap.size < wr.heap.size := by omega
                clear hn1 hn2
                by_cases hlt : k < vals.length
                · have hlti : (k : Int) < (vals.length : Int) := by omega
                  obtain ⟨v, hvk⟩ : ∃ v, vals[k]? = some v := ⟨_, List.getElem?_eq_getElem hlt⟩
                  obtain ⟨b1, o1, rfl, c0, c1, c2, c3, c4, c5⟩ := (HH.out.below HW.out) k v hvk
                  have HV : Hid (vals[k]? = some v) := hvk
                  clear hvk
                  obtain ⟨kind, lo, hi, early, first, vrank⟩ := v
                  simp only at c0 c1 c2 c3 c4 c5
                  by_cases hq0 : vrank = 0
                  · subst hq0
                    have hR : rk 0 = true := by decide
                    go_wp2_with (go_at_call 60; refine (rrank_any _ _).mono ?_; rw [hR]; rintro e w2 ⟨rfl, rfl⟩)
                    all_goals try first
                      | (refine ⟨⟨k + 1, by omega, by go_num, below_trans HK.out (below1 _ _), ?_⟩, by simp [intOf]; omega⟩
                         show _ = _
                         rw [HA.out, drop_all HV.out]
                         have hq : okVal 6 2 0 ⟨kind, lo, hi, early, first, 0⟩ = true := by
                           unfold okVal okEarly
                           first | (simp [*]; done) | (simp [*]; omega)
                         simp [hq])
                      | (go_ret
                         refine ⟨ret_bool ?_, below_trans HW.out (below1 _ _)⟩
                         rw [HO.out, HA.out, drop_all HV.out]
                         have hq : okVal 6 2 0 ⟨kind, lo, hi, early, first, 0⟩ = false := by
                           rw [Bool.eq_false_iff]
                           unfold okVal okEarly
                           first | (simp [*]; done) | (simp [*]; omega)
                         simp [hq])
                  · have hq1 : (vrank == 0) = false := by simp [hq0]
                    cases hR : rk vrank with
                    | true =>
                      have hR2 := rk_true hR
                      go_wp2_with (go_at_call 60; refine (rrank_any _ _).mono ?_; rw [hR]; rintro e w2 ⟨rfl, rfl⟩)
                      all_goals try first
                        | (refine ⟨⟨k + 1, by omega, by go_num, below_trans HK.out (below1 _ _), ?_⟩, by simp [intOf]; omega⟩
                           show _ = _
                           rw [HA.out, drop_all HV.out]
                           have hq : okVal 6 2 0 ⟨kind, lo, hi, early, first, vrank⟩ = true := by
                             unfold okVal okEarly
                             first | (simp [*]; done) | (simp [*]; omega)
                           simp [hq])
                        | (go_ret
                           refine ⟨ret_bool ?_, below_trans HW.out (below1 _ _)⟩
                           rw [HO.out, HA.out, drop_all HV.out]
                           have hq : okVal 6 2 0 ⟨kind, lo, hi, early, first, vrank⟩ = false := by
                             rw [Bool.eq_false_iff]
                             unfold okVal okEarly
                             first | (simp [*]; done) | (simp [*]; omega)
                           simp [hq])
                    | false =>
                      have hR2 := rk_false hR
                      go_wp2_with (go_at_call 60; refine (rrank_any _ _).mono ?_; rw [hR]; rintro e w2 ⟨rfl, rfl⟩)
                      all_goals try first
                        | (refine ⟨⟨k + 1, by omega, by go_num, below_trans HK.out (below1 _ _), ?_⟩, by simp [intOf]; omega⟩
                           show _ = _
                           rw [HA.out, drop_all HV.out]
                           have hq : okVal 6 2 0 ⟨kind, lo, hi, early, first, vrank⟩ = true := by
                             unfold okVal okEarly
                             first | (simp [*]; done) | (simp [*]; omega)
                           simp [hq])
                        | (go_ret
                           refine ⟨ret_bool ?_, below_trans HW.out (below1 _ _)⟩
                           rw [HO.out, HA.out, drop_all HV.out]
                           have hq : okVal 6 2 0 ⟨kind, lo, hi, early, first, vrank⟩ = false := by
                             rw [Bool.eq_false_iff]
                             unfold okVal okEarly
                             first | (simp [*]; done) | (simp [*]; omega)
                           simp [hq])
                · obtain rfl : k = vals.length := by omega
                  have hlti : ¬ (vals.length : Int) < (vals.length : Int) := by omega
                  go_wp2_with fail
                  go_ret
                  exact ⟨ret_bool (by rw [HO.out, HA.out]; simp), HW.out⟩
            · have hzb : (rank != 0) = true := by rw [bne_iff_ne]; exact hz
              go_enter Try.func42, Try.ntmps42
              go_wp2_with (go_at_call 60; refine (rrank_any _ _).mono ?_; rw [hK]; rintro e w2 ⟨rfl, rfl⟩)
              all_goals
                go_ret
                refine ⟨ret_bool ?_, below1 _ _⟩
                unfold okNode okEnv
                simp [hz]
        · have hv8 : ¬ ((vals.length : Int) ≤ 8) := by omega
          go_enter Try.func42, Try.ntmps42
          go_wp2_with (go_at_call 60; refine (rrank_any _ _).mono ?_; rw [hK]; rintro e w2 ⟨rfl, rfl⟩)
          go_ret
          refine ⟨ret_bool ?_, below1 _ _⟩
          have hv9 : ¬ vals.length = 0 := by omega
          unfold okNode okEnv okBare
          cases reached <;> simp [hv, emp_len, hv9]
    · have hr0 := len_bne hr
      go_enter Try.func42, Try.ntmps42
      go_wp2_with (go_at_call 60; refine (rrank_any _ _).mono ?_; rintro e w2 ⟨rfl, rfl⟩)
      all_goals
        go_ret
        refine ⟨ret_bool ?_, below1 _ _⟩
        unfold okNode okEnv okBare
        cases reached <;> simp [emp_len, hr]
  · have hf0 := len_bne hf
    go_enter Try.func42, Try.ntmps42
    go_wp2_with (go_at_call 60; refine (rrank_any _ _).mono ?_; rintro e w2 ⟨rfl, rfl⟩)
    all_goals
      go_ret
      refine ⟨ret_bool ?_, below1 _ _⟩
      unfold okNode okEnv okBare
      cases reached <;> simp [emp_len, hf]
end Go.Proofs.Ytmipbiligijcpaa
