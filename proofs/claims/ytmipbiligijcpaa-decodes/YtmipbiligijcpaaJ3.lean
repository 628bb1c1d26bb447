/- The document's certificates: Formed. -/
import Derived.Test.YtmipbiligijcpaaJ2a
import Derived.Test.YtmipbiligijcpaaJ2b
namespace Go.Proofs.Ytmipbiligijcpaa
set_option linter.unusedVariables false
set_option linter.unusedSimpArgs false
open Go.RowKit Go.Proofs Go.Maps

theorem renv_any (p g : Int) (hk : known p g = true) (hp : ¬ p ≤ 4) (fa ra va : Option Addr) (fc rc vc : Nat) (n : Nd) (w : World) (h : NdAt w fa ra va fc rc vc n) (hn : NdIn n) :
    Calls Try.prog 42 #[.agg #[.slice fa n.facts.length fc, .slice ra n.ranks.length rc, .bool n.reached, .int .i64 n.rank, .slice va n.vals.length vc], .int .i64 p, .int .i64 g] w fun e w' => e = .returned (.bool (okNode p g n)) ∧ Below w.heap.size w w' := by
  have h3 : (p = 5 ∧ g = 1) ∨ (p = 5 ∧ g = 2) ∨ (p = 6 ∧ g = 2) := by
    unfold known at hk
    simp at hk
    omega
  rcases h3 with ⟨rfl, rfl⟩ | ⟨rfl, rfl⟩ | ⟨rfl, rfl⟩
  · exact renv51_any fa ra va fc rc vc n w h hn
  · exact renv52_any fa ra va fc rc vc n w h hn
  · exact renv62_any fa ra va fc rc vc n w h hn
set_option maxHeartbeats 2000000 in
set_option maxRecDepth 100000 in
theorem formed_any (na : Option Addr) (nc : Nat) (c : Ct) (w : World) (h : NodesAt w na c.nodes) (hc : CtIn c) :
    Calls Try.prog 25 #[.agg #[.int .i64 c.problem, .int .i64 c.grade, .slice na c.nodes.length nc]] w fun e w' => e = .returned (.bool (okC c)) ∧ Below w.heap.size w w' := by
  obtain ⟨p, g, ns⟩ := c
  have HH : Hid (NodesAt w na ns ∧ ∀ n ∈ ns, NdIn n) := ⟨h, hc.nodes⟩
  have hs : ns.length * 88 ≤ 140737488355328 := hc.sz
  clear h hc
  simp only
  cases hk : known p g with
  | false =>
    have HO : Hid (okC ⟨p, g, ns⟩ = false ∧ known p g = false) := ⟨by simp [okC, hk], hk⟩
    clear hk
    go_enter Try.func25, Try.ntmps25
    go_wp2_with fail
    all_goals first
      | (go_ret
         exact ⟨ret_bool HO.out.1.symm, below1 _ _⟩)
      | (exfalso
         have hq := HO.out.2
         unfold known at hq
         simp at hq
         omega)
  | true =>
    have hkk : 1 ≤ p ∧ p ≤ 6 ∧ 1 ≤ g ∧ g ≤ 2 ∧ (p = 6 → g = 2) := by
      have hq := hk
      unfold known at hq
      simp at hq
      omega
    obtain ⟨hp1, hp2, hg1, hg2, h62⟩ := hkk
    have hb6 : p = 6 → (g == 1) = false := by intro h; have := h62 h; subst this; rfl
    have HK : Hid (known p g = true ∧ (p = 6 → g = 2)) := ⟨hk, h62⟩
    clear hk h62
    by_cases h60 : ns.length ≤ 60
    · have HO : Hid (okC ⟨p, g, ns⟩ = ns.all (okNode p g)) := by show _ = _; simp [okC, HK.out.1, h60]
      have h61 : ¬ (60 < (ns.length : Int)) := by omega
      by_cases hp6 : p = 6
      · subst hp6
        obtain rfl := HK.out.2 rfl
        go_enter Try.func25, Try.ntmps25
        go_wp2_with fail
        generalize hW : w.alloc (.cells #[.int .i64 6, .int .i64 2, .slice na ns.length nc] 24) = W1
        have HB : Hid (Below w.heap.size w W1 ∧ W1.heap[w.heap.size]? = some (.cells #[.int .i64 6, .int .i64 2, .slice na ns.length nc] 24 (0, 0))) := by
          subst hW
          exact ⟨below1 _ _, heap_alloc_new w _⟩
        clear hW
        go_loopw [3] (fun i wr => ∃ k : Nat, k ≤ ns.length ∧ i = .int .i64 k ∧ Hid (Below W1.heap.size W1 wr) ∧ Hid (ns.all (okNode 6 2) = (ns.drop k).all (okNode 6 2))) (fun i _ => ns.length - (intOf i).toNat)
        case atStart => exact ⟨0, Nat.zero_le _, rfl, Below.refl _ _, by show _ = _; simp⟩
        case round =>
          obtain ⟨k, hk, rfl, HK2, HA⟩ := hrel
          obtain ⟨y1, y2⟩ := box_cells ((HK2.out.block _ (Array.getElem?_eq_some_iff.1 HB.out.2).1).trans HB.out.2)
          have HW : Hid (Below w.heap.size w wr) := below_trans HB.out.1 HK2.out
          have hn1 := (Array.getElem?_eq_some_iff.1 HB.out.2).1
          have hn2 := HK2.out.size
          have e2 : w.heap.size < wr.heap.size := by omega
          clear hn1 hn2
          by_cases hlt : k < ns.length
          · have hlti : (k : Int) < (ns.length : Int) := by omega
            obtain ⟨n, hnk⟩ : ∃ n, ns[k]? = some n := ⟨_, List.getElem?_eq_getElem hlt⟩
            obtain ⟨b1, o1, fa, ra, va, fc, rc, vc, rfl, c0, c1, c2, c3, c4, hat⟩ := (HH.out.1.below HW.out) k n hnk
            have HV : Hid (ns[k]? = some n ∧ NdIn n ∧ NdAt wr fa ra va fc rc vc n) := ⟨hnk, HH.out.2 n (List.mem_of_getElem? hnk), hat⟩
            clear hnk hat
            have hp4 : ¬ (6 : Int) ≤ 4 := by omega
            cases hO : okNode 6 2 n with
            | true =>
              go_wp2_with (go_at_call 42; refine (renv_any 6 2 HK.out.1 hp4 fa ra va fc rc vc n _ (HV.out.2.2.below (below1 _ _)) HV.out.2.1).mono ?_; rw [hO]; rintro e W2 ⟨rfl, hb2⟩)
              refine ⟨⟨k + 1, by omega, by go_num, below_trans (below_trans HK2.out (below1 _ _)) hb2, ?_⟩, by simp [intOf]; omega⟩
              show _ = _
              rw [HA.out, drop_all HV.out.1, hO]
              rfl
            | false =>
              go_wp2_with (go_at_call 42; refine (renv_any 6 2 HK.out.1 hp4 fa ra va fc rc vc n _ (HV.out.2.2.below (below1 _ _)) HV.out.2.1).mono ?_; rw [hO]; rintro e W2 ⟨rfl, hb2⟩)
              go_ret
              exact ⟨ret_bool (by rw [HO.out, HA.out, drop_all HV.out.1, hO]; rfl), below_trans (below_trans HW.out (below1 _ _)) hb2⟩
          · have hlti : ¬ (k : Int) < (ns.length : Int) := by omega
            obtain rfl : k = ns.length := by omega
            go_wp2_with fail
            go_ret
            exact ⟨ret_bool (by rw [HO.out, HA.out]; simp), HW.out⟩
      · have hp6b : (p == 6) = false := by simp [hp6]
        have hd1 : decide (p < 1) = false := by rw [decide_eq_false_iff_not]; omega
        have hd2 : decide (6 < p) = false := by rw [decide_eq_false_iff_not]; omega
        have hd3 : decide (g < 1) = false := by rw [decide_eq_false_iff_not]; omega
        have hd4 : decide (2 < g) = false := by rw [decide_eq_false_iff_not]; omega
        go_enter Try.func25, Try.ntmps25
        go_wp2_with fail
        clear hp6 hp6b hd1 hd2 hd3 hd4 hb6
        generalize hW : w.alloc (.cells #[.int .i64 p, .int .i64 g, .slice na ns.length nc] 24) = W1
        have HB : Hid (Below w.heap.size w W1 ∧ W1.heap[w.heap.size]? = some (.cells #[.int .i64 p, .int .i64 g, .slice na ns.length nc] 24 (0, 0))) := by
          subst hW
          exact ⟨below1 _ _, heap_alloc_new w _⟩
        clear hW
        go_loopw [3] (fun i wr => ∃ k : Nat, k ≤ ns.length ∧ i = .int .i64 k ∧ Hid (Below W1.heap.size W1 wr) ∧ Hid (ns.all (okNode p g) = (ns.drop k).all (okNode p g))) (fun i _ => ns.length - (intOf i).toNat)
        case atStart => exact ⟨0, Nat.zero_le _, rfl, Below.refl _ _, by show _ = _; simp⟩
        case round =>
          obtain ⟨k, hk, rfl, HK2, HA⟩ := hrel
          obtain ⟨y1, y2⟩ := box_cells ((HK2.out.block _ (Array.getElem?_eq_some_iff.1 HB.out.2).1).trans HB.out.2)
          have HW : Hid (Below w.heap.size w wr) := below_trans HB.out.1 HK2.out
          have hn1 := (Array.getElem?_eq_some_iff.1 HB.out.2).1
          have hn2 := HK2.out.size
          have e2 : w.heap.size < wr.heap.size := by omega
          clear hn1 hn2
          by_cases hlt : k < ns.length
          · have hlti : (k : Int) < (ns.length : Int) := by omega
            obtain ⟨n, hnk⟩ : ∃ n, ns[k]? = some n := ⟨_, List.getElem?_eq_getElem hlt⟩
            obtain ⟨b1, o1, fa, ra, va, fc, rc, vc, rfl, c0, c1, c2, c3, c4, hat⟩ := (HH.out.1.below HW.out) k n hnk
            have HV : Hid (ns[k]? = some n ∧ NdIn n ∧ NdAt wr fa ra va fc rc vc n) := ⟨hnk, HH.out.2 n (List.mem_of_getElem? hnk), hat⟩
            clear hnk hat
            by_cases hp4 : p ≤ 4
            · cases hO : okNode p g n with
              | true =>
                have hS : okSet g n = okNode p g n := by unfold okNode; rw [if_pos hp4]
                go_wp2_with (go_at_call 41; refine (rsetNode_any g fa ra va fc rc vc n _ (HV.out.2.2.below (below1 _ _)) HV.out.2.1).mono ?_; rw [hS, hO]; rintro e W2 ⟨rfl, hb2⟩)
                refine ⟨⟨k + 1, by omega, by go_num, below_trans (below_trans HK2.out (below1 _ _)) hb2, ?_⟩, by simp [intOf]; omega⟩
                show _ = _
                rw [HA.out, drop_all HV.out.1, hO]
                rfl
              | false =>
                have hS : okSet g n = okNode p g n := by unfold okNode; rw [if_pos hp4]
                go_wp2_with (go_at_call 41; refine (rsetNode_any g fa ra va fc rc vc n _ (HV.out.2.2.below (below1 _ _)) HV.out.2.1).mono ?_; rw [hS, hO]; rintro e W2 ⟨rfl, hb2⟩)
                go_ret
                exact ⟨ret_bool (by rw [HO.out, HA.out, drop_all HV.out.1, hO]; rfl), below_trans (below_trans HW.out (below1 _ _)) hb2⟩
            · cases hO : okNode p g n with
              | true =>
                go_wp2_with (go_at_call 42; refine (renv_any p g HK.out.1 hp4 fa ra va fc rc vc n _ (HV.out.2.2.below (below1 _ _)) HV.out.2.1).mono ?_; rw [hO]; rintro e W2 ⟨rfl, hb2⟩)
                refine ⟨⟨k + 1, by omega, by go_num, below_trans (below_trans HK2.out (below1 _ _)) hb2, ?_⟩, by simp [intOf]; omega⟩
                show _ = _
                rw [HA.out, drop_all HV.out.1, hO]
                rfl
              | false =>
                go_wp2_with (go_at_call 42; refine (renv_any p g HK.out.1 hp4 fa ra va fc rc vc n _ (HV.out.2.2.below (below1 _ _)) HV.out.2.1).mono ?_; rw [hO]; rintro e W2 ⟨rfl, hb2⟩)
                go_ret
                exact ⟨ret_bool (by rw [HO.out, HA.out, drop_all HV.out.1, hO]; rfl), below_trans (below_trans HW.out (below1 _ _)) hb2⟩
          · have hlti : ¬ (k : Int) < (ns.length : Int) := by omega
            obtain rfl : k = ns.length := by omega
            go_wp2_with fail
            go_ret
            exact ⟨ret_bool (by rw [HO.out, HA.out]; simp), HW.out⟩
    · have HO : Hid (okC ⟨p, g, ns⟩ = false) := by show _ = _; simp [okC, h60]
      have h61 : 60 < (ns.length : Int) := by omega
      go_enter Try.func25, Try.ntmps25
      go_wp2_with fail
      all_goals
        go_ret
        exact ⟨ret_bool HO.out.symm, below1 _ _⟩
end Go.Proofs.Ytmipbiligijcpaa
