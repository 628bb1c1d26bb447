/- The program's shapes: lists of facts and ranks, sets, environments, nodes, certificates. -/
import Derived.Test.YtmipbiligijcpaaH1
import Derived.Deep.RegionHeld3
namespace Go.Proofs.Ytmipbiligijcpaa
set_option linter.unusedVariables false
set_option linter.unusedSimpArgs false
open Go.RowKit Go.Proofs Go.Maps

theorem rises_drop {fl : Int} {fs : List Int} {k : Nat} {f : Int} (h : fs[k]? = some f) : rises fl (fs.drop k) = (decide (fl ≤ f) && decide (f ≤ 100000) && rises (f + 1) (fs.drop (k + 1))) := by
  have hl := List.getElem?_eq_some_iff.1 h
  rw [List.drop_eq_getElem_cons hl.1, hl.2]; rfl
theorem drop_all {α : Type} {l : List α} {k : Nat} {x : α} {p : α → Bool} (h : l[k]? = some x) : (l.drop k).all p = (p x && (l.drop (k + 1)).all p) := by
  have hl := List.getElem?_eq_some_iff.1 h
  rw [List.drop_eq_getElem_cons hl.1, hl.2]; rfl
set_option maxHeartbeats 1000000 in
set_option maxRecDepth 100000 in
theorem areFacts_any (fa : Option Addr) (fc : Nat) (fs : List Int) (w : World) (h : IntsAt w fa fs) (hin : ∀ f ∈ fs, I64 f) (hl : fs.length * 8 ≤ 140737488355328) :
    Calls Try.prog 75 #[.slice fa fs.length fc] w fun e w' => e = .returned (.bool (rises 0 fs)) ∧ Below w.heap.size w w' := by
  have HH : Hid (IntsAt w fa fs ∧ ∀ f ∈ fs, I64 f) := ⟨h, hin⟩
  clear h hin
  go_enter Try.func75, Try.ntmps75
  go_wp2_with fail
  go_loopw [3, 8] (fun fl i wr => wr = w ∧ ∃ (k : Nat) (f : Int), k ≤ fs.length ∧ i = .int .i64 k ∧ fl = .int .i64 f ∧ Hid (rises 0 fs = rises f (fs.drop k))) (fun _ i _ => fs.length - (intOf i).toNat)
  case atStart => exact ⟨rfl, 0, 0, Nat.zero_le _, rfl, rfl, by show _ = _; simp⟩
  case round =>
    obtain ⟨rfl, k, fl, hk, rfl, rfl, HK⟩ := hrel
    by_cases hlt : k < fs.length
    · have hlti : (k : Int) < (fs.length : Int) := by omega
      obtain ⟨x, hx⟩ : ∃ x, fs[k]? = some x := ⟨_, List.getElem?_eq_getElem hlt⟩
      obtain ⟨b1, o1, rfl, c1⟩ := HH.out.1 k x hx
      obtain ⟨hx1, hx2⟩ := HH.out.2 x (List.mem_of_getElem? hx)
      have HX : Hid (fs[k]? = some x) := hx
      clear hx
      go_wp2_with fail
      all_goals first
        | (refine ⟨⟨by trivial, k + 1, x + 1, by omega, by go_num, by go_num, ?_⟩, by simp [intOf]; omega⟩
           show _ = _
           rw [HK.out, rises_drop HX.out]
           have hq : fl ≤ x ∧ x ≤ 100000 := by omega
           simp [hq.1, hq.2])
        | (go_ret
           refine ⟨ret_bool ?_, Below.refl _ _⟩
           rw [HK.out, rises_drop HX.out]
           symm
           rw [Bool.eq_false_iff]
           simp
           omega)
    · have hlti : ¬ (k : Int) < (fs.length : Int) := by omega
      obtain rfl : k = fs.length := by omega
      go_wp2_with fail
      go_ret
      exact ⟨ret_bool (by rw [HK.out]; simp [rises]), Below.refl _ _⟩
set_option maxHeartbeats 1000000 in
set_option maxRecDepth 100000 in
theorem areRanks_any (p g : Int) (ra : Option Addr) (rc : Nat) (rs : List Int) (m : Nat) (w : World) (h : IntsAt w ra rs) (hm : m * 8 ≤ 140737488355328) (hl : rs.length * 8 ≤ 140737488355328) :
    Calls Try.prog 76 #[.agg #[.int .i64 p, .int .i64 g], .slice ra rs.length rc, .int .i64 m] w fun e w' => e = .returned (.bool (okRanks g rs m)) ∧ Below w.heap.size w w' := by
  have HH : Hid (IntsAt w ra rs) := h
  clear h
  by_cases hg : g = 1
  · by_cases hlm : rs.length = m
    · subst hlm
      go_enter Try.func76, Try.ntmps76
      go_wp2_with (go_at_call 67; refine (isLeast_any _ _ _).mono ?_; rintro e w1 ⟨rfl, rfl⟩)
      have HB := (show Hid _ from below2 w (.cells #[.int .i64 p, .int .i64 1] 80) (.cells #[.int .i64 p, .int .i64 1] 80))
      go_loopw [21] (fun i wr => ∃ k : Nat, k ≤ rs.length ∧ i = .int .i64 k ∧ Hid (Below w.heap.size w wr) ∧ Hid (rs.all rk = (rs.drop k).all rk)) (fun i _ => rs.length - (intOf i).toNat)
      case atStart => exact ⟨0, Nat.zero_le _, rfl, HB, by show _ = _; simp⟩
      case round =>
        clear HB
        obtain ⟨k, hk, rfl, HB, HK⟩ := hrel
        by_cases hlt : k < rs.length
        · have hlti : (k : Int) < (rs.length : Int) := by omega
          obtain ⟨x, hx⟩ : ∃ x, rs[k]? = some x := ⟨_, List.getElem?_eq_getElem hlt⟩
          obtain ⟨b1, o1, rfl, c1⟩ := (HH.out.below HB.out) k x hx
          have HX : Hid (rs[k]? = some x) := hx
          clear hx
          go_wp2_with fail
          all_goals first
            | (refine ⟨⟨k + 1, by omega, by go_num, HB, ?_⟩, by simp [intOf]; omega⟩
               show _ = _
               rw [HK.out, drop_all HX.out]
               have hq : rk x = true := by unfold rk; simp; omega
               simp [hq])
            | (go_ret
               refine ⟨ret_bool ?_, HB.out⟩
               unfold okRanks
               rw [HK.out, drop_all HX.out]
               have hq : rk x = false := by unfold rk; rw [Bool.eq_false_iff]; simp; omega
               simp [hq, hg])
        · have hlti : ¬ (k : Int) < (rs.length : Int) := by omega
          obtain rfl : k = rs.length := by omega
          go_wp2_with fail
          go_ret
          exact ⟨ret_bool (by unfold okRanks; rw [HK.out]; simp), HB.out⟩
    · have hlm' : ((rs.length : Int) != (m : Int)) = true := by simp; omega
      go_enter Try.func76, Try.ntmps76
      go_wp2_with (go_at_call 67; refine (isLeast_any _ _ _).mono ?_; rintro e w1 ⟨rfl, rfl⟩)
      go_ret
      exact ⟨ret_bool (by unfold okRanks; simp [hg, hlm]), below2 _ _ _⟩
  · go_enter Try.func76, Try.ntmps76
    go_wp2_with (go_at_call 67; refine (isLeast_any _ _ _).mono ?_; rintro e w1 ⟨rfl, rfl⟩)
    go_ret
    exact ⟨ret_bool (by unfold okRanks; rw [if_neg hg]; cases rs <;> simp <;> omega), below2 _ _ _⟩
theorem emp_len {α : Type} (l : List α) : l.isEmpty = decide (l.length = 0) := by cases l <;> simp
theorem len_beq {α : Type} (l : List α) : (((l.length : Nat) : Int) == 0) = decide (l = []) := by
  cases l with
  | nil => rfl
  | cons a r => simp; omega
theorem len_bne {α : Type} {l : List α} (h : ¬ l.length = 0) : (((l.length : Nat) : Int) != 0) = true := by rw [bne_iff_ne]; omega
set_option maxHeartbeats 1000000 in
theorem isBare_any (fa ra va : Option Addr) (fc rc vc : Nat) (n : Nd) (w : World) (h : NdIn n) :
    Calls Try.prog 65 #[.agg #[.slice fa n.facts.length fc, .slice ra n.ranks.length rc, .bool n.reached, .int .i64 n.rank, .slice va n.vals.length vc]] w fun e w' => e = .returned (.bool (okBare n)) ∧ Below w.heap.size w w' := by
  go_enter Try.func65, Try.ntmps65
  go_wp2
  all_goals
    go_ret
    refine ⟨ret_bool ?_, below1 _ _⟩
    unfold okBare
    simp [emp_len, len_beq, *]
set_option maxHeartbeats 1000000 in
theorem isSet_any (p g : Int) (fa ra va : Option Addr) (fc rc vc : Nat) (n : Nd) (w : World) (h : NdAt w fa ra va fc rc vc n) (hn : NdIn n) :
    Calls Try.prog 64 #[.agg #[.int .i64 p, .int .i64 g], .agg #[.slice fa n.facts.length fc, .slice ra n.ranks.length rc, .bool n.reached, .int .i64 n.rank, .slice va n.vals.length vc]] w fun e w' => e = .returned (.bool (okSet g n)) ∧ Below w.heap.size w w' := by
  obtain ⟨facts, ranks, reached, rank, vals⟩ := n
  have HH : Hid (IntsAt w fa facts ∧ IntsAt w ra ranks) := ⟨h.facts, h.ranks⟩
  have HN := (show Hid _ from hn)
  clear h hn
  cases reached with
  | true =>
    go_enter Try.func64, Try.ntmps64
    go_wp2_with fail
    go_ret
    exact ⟨ret_bool (by simp [okSet]), below2 _ _ _⟩
  | false =>
    by_cases hr : rank = 0
    · by_cases hv : vals.length = 0
      · subst hr
        have hv0 : ((vals.length : Int) != 0) = false := by simp [hv]
        go_enter Try.func64, Try.ntmps64
        go_wp2_with (first
          | (go_at_call 75; refine (areFacts_any fa fc facts _ (HH.out.1.below (below2 _ _ _)) HN.out.facts HN.out.fsz).mono ?_; rintro e W1 ⟨rfl, hb1⟩; obtain ⟨x1, x2⟩ := box_cells ((hb1.block _ (by simp; omega)).trans (alloc2 w _ _).1); obtain ⟨y1, y2⟩ := box_cells ((hb1.block _ (by simp)).trans (alloc2 w _ _).2); have HB1 := (show Hid _ from below_trans (below2 _ _ _) hb1); clear hb1)
          | (go_at_call 76; refine (areRanks_any _ _ ra rc ranks _ _ (HH.out.2.below HB1.out) HN.out.fsz HN.out.rsz).mono ?_; rintro e W2 ⟨rfl, hb2⟩))
        all_goals
          go_ret
          refine ⟨ret_bool ?_, by first | exact below_trans HB1.out hb2 | exact HB1.out⟩
          simp [okSet, emp_len, hv, *]
      · have hv0 := len_bne hv
        go_enter Try.func64, Try.ntmps64
        go_wp2_with fail
        go_ret
        exact ⟨ret_bool (by simp [okSet, emp_len, hv]), below2 _ _ _⟩
    · go_enter Try.func64, Try.ntmps64
      go_wp2_with fail
      go_ret
      exact ⟨ret_bool (by simp [okSet, hr]), below2 _ _ _⟩
set_option maxHeartbeats 1000000 in
theorem isEnv_any (p g : Int) (fa ra va : Option Addr) (fc rc vc : Nat) (n : Nd) (w : World) (h : NdAt w fa ra va fc rc vc n) (hn : NdIn n) (hre : n.reached = true) :
    Calls Try.prog 66 #[.agg #[.int .i64 p, .int .i64 g], .agg #[.slice fa n.facts.length fc, .slice ra n.ranks.length rc, .bool n.reached, .int .i64 n.rank, .slice va n.vals.length vc]] w fun e w' => e = .returned (.bool (okEnv p g n)) ∧ Below w.heap.size w w' := by
  obtain ⟨facts, ranks, reached, rank, vals⟩ := n
  simp only at hre
  subst hre
  have HH : Hid (ValsAt w va vals) := h.vals
  have HN := (show Hid _ from hn)
  have h3 : vals.length * 48 ≤ 140737488355328 := hn.vsz
  clear h hn
  by_cases hf : facts.length = 0
  · by_cases hr : ranks.length = 0
    · by_cases hv : vals.length ≤ 8
      · obtain rfl : facts = [] := List.length_eq_zero_iff.1 hf
        obtain rfl : ranks = [] := List.length_eq_zero_iff.1 hr
        simp only [List.length_nil]
        by_cases hrk : 0 ≤ rank ∧ rank ≤ 100000
        · cases hL : decide (g = 1) with
          | false =>
            by_cases hz : rank = 0
            · subst hz
              have HO : Hid (okEnv p g ⟨[], [], true, 0, vals⟩ = vals.all (okVal p g 0)) := by
                show _ = _
                simp [okEnv, rk]
                omega
              go_enter Try.func66, Try.ntmps66
              go_wp2_with (go_at_call 67; refine (isLeast_any _ _ _).mono ?_; rw [hL]; rintro e w1 ⟨rfl, rfl⟩)
              generalize hW : ((w.alloc (.cells #[.int .i64 p, .int .i64 g] 80)).alloc (.cells #[.slice fa 0 fc, .slice ra 0 rc, .bool true, .int .i64 0, .slice va vals.length vc] 50)).alloc (.cells #[.int .i64 p, .int .i64 g] 80) = W1
              have HB : Hid (Below w.heap.size w W1 ∧ W1.heap[w.heap.size]? = some (.cells #[.int .i64 p, .int .i64 g] 80 (0, 0)) ∧ W1.heap[w.heap.size + 1]? = some (.cells #[.slice fa 0 fc, .slice ra 0 rc, .bool true, .int .i64 0, .slice va vals.length vc] 50 (0, 0))) := by
                subst hW
                exact ⟨below3 _ _ _ _, (Below.heap_alloc _ _ _ (by simp; omega)).trans (alloc2 w _ _).1, (Below.heap_alloc _ _ _ (by simp)).trans (alloc2 w _ _).2⟩
              clear hW hL hrk
              go_loopw [44] (fun i wr => ∃ k : Nat, k ≤ vals.length ∧ i = .int .i64 k ∧ Hid (Below W1.heap.size W1 wr) ∧ Hid (vals.all (okVal p g 0) = (vals.drop k).all (okVal p g 0))) (fun i _ => vals.length - (intOf i).toNat)
              case atStart => exact ⟨0, Nat.zero_le _, rfl, Below.refl _ _, by show _ = _; simp⟩
              case round =>
                obtain ⟨k, hk, rfl, HK, HA⟩ := hrel
                obtain ⟨x1, x2⟩ := box_cells ((HK.out.block _ (Array.getElem?_eq_some_iff.1 HB.out.2.1).1).trans HB.out.2.1)
                obtain ⟨y1, y2⟩ := box_cells ((HK.out.block _ (Array.getElem?_eq_some_iff.1 HB.out.2.2).1).trans HB.out.2.2)
                have HW : Hid (Below w.heap.size w wr) := below_trans HB.out.1 HK.out
                have hn1 := (Array.getElem?_eq_some_iff.1 HB.out.2.2).1
                have hn2 := HK.out.size
                have e1 : w.heap.size < wr.heap.size := by omega
                have e2 : w.heap.size + 1 < wr.heap.size := by omega
                clear hn1 hn2
                by_cases hlt : k < vals.length
                · have hlti : (k : Int) < (vals.length : Int) := by omega
                  obtain ⟨v, hvk⟩ : ∃ v, vals[k]? = some v := ⟨_, List.getElem?_eq_getElem hlt⟩
                  obtain ⟨b1, o1, rfl, c0, c1, c2, c3, c4, c5⟩ := (HH.out.below HW.out) k v hvk
                  have HV : Hid (vals[k]? = some v) := hvk
                  clear hvk
                  cases hO : okVal p g 0 v with
                  | true =>
                    go_wp2_with (go_at_call 77; refine (isVal_any p g 0 v _).mono ?_; rw [hO]; rintro e W2 ⟨rfl, hb2⟩)
                    refine ⟨⟨k + 1, by omega, by go_num, below_trans (below_trans HK.out (below1 _ _)) hb2, ?_⟩, by simp [intOf]; omega⟩
                    show _ = _
                    rw [HA.out, drop_all HV.out, hO]
                    rfl
                  | false =>
                    go_wp2_with (go_at_call 77; refine (isVal_any p g 0 v _).mono ?_; rw [hO]; rintro e W2 ⟨rfl, hb2⟩)
                    go_ret
                    exact ⟨ret_bool (by rw [HO.out, HA.out, drop_all HV.out, hO]; rfl), below_trans (below_trans HW.out (below1 _ _)) hb2⟩
                · have hlti : ¬ (k : Int) < (vals.length : Int) := by omega
                  obtain rfl : k = vals.length := by omega
                  go_wp2_with fail
                  go_ret
                  exact ⟨ret_bool (by rw [HO.out, HA.out]; simp), HW.out⟩
            · have hz0 : (rank != 0) = true := by rw [bne_iff_ne]; exact hz
              go_enter Try.func66, Try.ntmps66
              go_wp2_with (go_at_call 67; refine (isLeast_any _ _ _).mono ?_; rw [hL]; rintro e w1 ⟨rfl, rfl⟩)
              go_ret
              exact ⟨ret_bool (by simp [okEnv, hL, hz]), below3 _ _ _ _⟩
          | true =>
            have HO : Hid (okEnv p g ⟨[], [], true, rank, vals⟩ = vals.all (okVal p g rank)) := by
              show _ = _
              simp [okEnv, rk, hL, hrk]
              omega
            go_enter Try.func66, Try.ntmps66
            go_wp2_with (go_at_call 67; refine (isLeast_any _ _ _).mono ?_; rw [hL]; rintro e w1 ⟨rfl, rfl⟩)
            generalize hW : ((w.alloc (.cells #[.int .i64 p, .int .i64 g] 80)).alloc (.cells #[.slice fa 0 fc, .slice ra 0 rc, .bool true, .int .i64 rank, .slice va vals.length vc] 50)).alloc (.cells #[.int .i64 p, .int .i64 g] 80) = W1
            have HB : Hid (Below w.heap.size w W1 ∧ W1.heap[w.heap.size]? = some (.cells #[.int .i64 p, .int .i64 g] 80 (0, 0)) ∧ W1.heap[w.heap.size + 1]? = some (.cells #[.slice fa 0 fc, .slice ra 0 rc, .bool true, .int .i64 rank, .slice va vals.length vc] 50 (0, 0))) := by
              subst hW
              exact ⟨below3 _ _ _ _, (Below.heap_alloc _ _ _ (by simp; omega)).trans (alloc2 w _ _).1, (Below.heap_alloc _ _ _ (by simp)).trans (alloc2 w _ _).2⟩
            clear hW hL hrk
            go_loopw [44] (fun i wr => ∃ k : Nat, k ≤ vals.length ∧ i = .int .i64 k ∧ Hid (Below W1.heap.size W1 wr) ∧ Hid (vals.all (okVal p g rank) = (vals.drop k).all (okVal p g rank))) (fun i _ => vals.length - (intOf i).toNat)
            case atStart => exact ⟨0, Nat.zero_le _, rfl, Below.refl _ _, by show _ = _; simp⟩
            case round =>
              obtain ⟨k, hk, rfl, HK, HA⟩ := hrel
              obtain ⟨x1, x2⟩ := box_cells ((HK.out.block _ (Array.getElem?_eq_some_iff.1 HB.out.2.1).1).trans HB.out.2.1)
              obtain ⟨y1, y2⟩ := box_cells ((HK.out.block _ (Array.getElem?_eq_some_iff.1 HB.out.2.2).1).trans HB.out.2.2)
              have HW : Hid (Below w.heap.size w wr) := below_trans HB.out.1 HK.out
              have hn1 := (Array.getElem?_eq_some_iff.1 HB.out.2.2).1
              have hn2 := HK.out.size
              have e1 : w.heap.size < wr.heap.size := by omega
              have e2 : w.heap.size + 1 < wr.heap.size := by omega
              clear hn1 hn2
              by_cases hlt : k < vals.length
              · have hlti : (k : Int) < (vals.length : Int) := by omega
                obtain ⟨v, hvk⟩ : ∃ v, vals[k]? = some v := ⟨_, List.getElem?_eq_getElem hlt⟩
                obtain ⟨b1, o1, rfl, c0, c1, c2, c3, c4, c5⟩ := (HH.out.below HW.out) k v hvk
                have HV : Hid (vals[k]? = some v) := hvk
                clear hvk
                cases hO : okVal p g rank v with
                | true =>
                  go_wp2_with (go_at_call 77; refine (isVal_any p g rank v _).mono ?_; rw [hO]; rintro e W2 ⟨rfl, hb2⟩)
                  refine ⟨⟨k + 1, by omega, by go_num, below_trans (below_trans HK.out (below1 _ _)) hb2, ?_⟩, by simp [intOf]; omega⟩
                  show _ = _
                  rw [HA.out, drop_all HV.out, hO]
                  rfl
                | false =>
                  go_wp2_with (go_at_call 77; refine (isVal_any p g rank v _).mono ?_; rw [hO]; rintro e W2 ⟨rfl, hb2⟩)
                  go_ret
                  exact ⟨ret_bool (by rw [HO.out, HA.out, drop_all HV.out, hO]; rfl), below_trans (below_trans HW.out (below1 _ _)) hb2⟩
              · have hlti : ¬ (k : Int) < (vals.length : Int) := by omega
                obtain rfl : k = vals.length := by omega
                go_wp2_with fail
                go_ret
                exact ⟨ret_bool (by rw [HO.out, HA.out]; simp), HW.out⟩
        · go_enter Try.func66, Try.ntmps66
          go_wp2_with fail
          all_goals
            go_ret
            exact ⟨ret_bool (by simp [okEnv, rk]; omega), below2 _ _ _⟩
      · have hv0 : ¬ ((vals.length : Int) ≤ 8) := by omega
        obtain rfl : facts = [] := List.length_eq_zero_iff.1 hf
        obtain rfl : ranks = [] := List.length_eq_zero_iff.1 hr
        simp only [List.length_nil]
        go_enter Try.func66, Try.ntmps66
        go_wp2_with fail
        go_ret
        exact ⟨ret_bool (by simp [okEnv, emp_len, hv]), below2 _ _ _⟩
    · have hr0 := len_bne hr
      go_enter Try.func66, Try.ntmps66
      go_wp2_with fail
      all_goals
        go_ret
        exact ⟨ret_bool (by simp [okEnv, emp_len, hr]), below2 _ _ _⟩
  · have hf0 := len_bne hf
    go_enter Try.func66, Try.ntmps66
    go_wp2_with fail
    go_ret
    exact ⟨ret_bool (by simp [okEnv, emp_len, hf]), below2 _ _ _⟩
end Go.Proofs.Ytmipbiligijcpaa
