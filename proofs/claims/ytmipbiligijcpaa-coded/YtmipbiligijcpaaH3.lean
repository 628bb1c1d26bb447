/- The program's shapes: nodes, certificates. -/
import Derived.Test.YtmipbiligijcpaaH2
namespace Go.Proofs.Ytmipbiligijcpaa
set_option linter.unusedVariables false
set_option linter.unusedSimpArgs false
open Go.RowKit Go.Proofs Go.Maps

def ndV (fa ra va : Option Addr) (fc rc vc : Nat) (n : Nd) : Array Value := #[.slice fa n.facts.length fc, .slice ra n.ranks.length rc, .bool n.reached, .int .i64 n.rank, .slice va n.vals.length vc]
set_option maxHeartbeats 1000000 in
theorem isNode_any (p g : Int) (fa ra va : Option Addr) (fc rc vc : Nat) (n : Nd) (w : World) (h : NdAt w fa ra va fc rc vc n) (hn : NdIn n) :
    Calls Try.prog 48 #[.agg #[.int .i64 p, .int .i64 g], .agg #[.slice fa n.facts.length fc, .slice ra n.ranks.length rc, .bool n.reached, .int .i64 n.rank, .slice va n.vals.length vc]] w fun e w' => e = .returned (.bool (okNode p g n)) ∧ Below w.heap.size w w' := by
  have HH := (show Hid _ from And.intro h hn)
  clear h hn
  cases hp : decide (p ≤ 4) with
  | true =>
    have HO : Hid (okNode p g n = okSet g n) := by show _ = _; unfold okNode; rw [if_pos (by simpa using hp)]
    go_enter Try.func48, Try.ntmps48
    go_wp2_with (first
      | (go_at_call 50; refine (hasSets_any _ _ _).mono ?_; rw [hp]; rintro e w1 ⟨rfl, rfl⟩)
      | (go_at_call 64; refine (isSet_any p g fa ra va fc rc vc n _ (HH.out.1.below (below3 _ _ _ _)) HH.out.2).mono ?_; rintro e W1 ⟨rfl, hb1⟩))
    go_ret
    exact ⟨ret_bool HO.out.symm, below_trans (below3 _ _ _ _) hb1⟩
  | false =>
    have HP : Hid (¬ p ≤ 4) := by show ¬ p ≤ 4; simpa using hp
    cases hr : n.reached with
    | true =>
      have HO : Hid (okNode p g n = okEnv p g n) := by show _ = _; unfold okNode; rw [if_neg HP.out, hr]; rfl
      have hc := fun W hb => isEnv_any p g fa ra va fc rc vc n W (HH.out.1.below hb) HH.out.2 hr
      rw [hr] at hc
      go_enter Try.func48, Try.ntmps48
      go_wp2_with (first
        | (go_at_call 50; refine (hasSets_any _ _ _).mono ?_; rw [hp]; rintro e w1 ⟨rfl, rfl⟩)
        | (go_at_call 66; refine (hc _ (below3 _ _ _ _)).mono ?_; rintro e W1 ⟨rfl, hb1⟩))
      go_ret
      exact ⟨ret_bool HO.out.symm, below_trans (below3 _ _ _ _) hb1⟩
    | false =>
      have HO : Hid (okNode p g n = okBare n) := by show _ = _; unfold okNode; rw [if_neg HP.out, hr]; rfl
      have hc := fun W => isBare_any fa ra va fc rc vc n W HH.out.2
      rw [hr] at hc
      go_enter Try.func48, Try.ntmps48
      go_wp2_with (first
        | (go_at_call 50; refine (hasSets_any _ _ _).mono ?_; rw [hp]; rintro e w1 ⟨rfl, rfl⟩)
        | (go_at_call 65; refine (hc _).mono ?_; rintro e W1 ⟨rfl, hb1⟩))
      go_ret
      exact ⟨ret_bool HO.out.symm, below_trans (below3 _ _ _ _) hb1⟩
set_option maxHeartbeats 1000000 in
theorem isCert_any (na : Option Addr) (nc : Nat) (c : Ct) (w : World) (h : NodesAt w na c.nodes) (hc : CtIn c) :
    Calls Try.prog 35 #[.agg #[.int .i64 c.problem, .int .i64 c.grade, .slice na c.nodes.length nc]] w fun e w' => e = .returned (.bool (okC c)) ∧ Below w.heap.size w w' := by
  obtain ⟨p, g, ns⟩ := c
  have HH : Hid (NodesAt w na ns ∧ ∀ n ∈ ns, NdIn n) := ⟨h, hc.nodes⟩
  have hs : ns.length * 88 ≤ 140737488355328 := hc.sz
  clear h hc
  simp only
  cases hk : known p g with
  | false =>
    have HO : Hid (okC ⟨p, g, ns⟩ = false) := by show _ = _; simp [okC, hk]
    go_enter Try.func35, Try.ntmps35
    go_wp2_with (go_at_call 47; refine (isKnown_any _ _ _).mono ?_; rw [hk]; rintro e w1 ⟨rfl, rfl⟩)
    go_ret
    exact ⟨ret_bool HO.out.symm, below3 _ _ _ _⟩
  | true =>
    by_cases h60 : ns.length ≤ 60
    · have HO : Hid (okC ⟨p, g, ns⟩ = ns.all (okNode p g)) := by show _ = _; simp [okC, hk, h60]
      have h61 : ¬ (60 < (ns.length : Int)) := by omega
      go_enter Try.func35, Try.ntmps35
      go_wp2_with (go_at_call 47; refine (isKnown_any _ _ _).mono ?_; rw [hk]; rintro e w1 ⟨rfl, rfl⟩)
      generalize hW : ((w.alloc (.cells #[.int .i64 p, .int .i64 g, .slice na ns.length nc] 24)).alloc (.cells #[.int .i64 p, .int .i64 g] 80)).alloc (.cells #[.int .i64 p, .int .i64 g] 80) = W1
      have HB : Hid (Below w.heap.size w W1 ∧ W1.heap[w.heap.size + 1]? = some (.cells #[.int .i64 p, .int .i64 g] 80 (0, 0))) := by
        subst hW
        exact ⟨below3 _ _ _ _, (Below.heap_alloc _ _ _ (by simp)).trans (alloc2 w _ _).2⟩
      clear hW hk
      go_loopw [23] (fun i wr => ∃ k : Nat, k ≤ ns.length ∧ i = .int .i64 k ∧ Hid (Below W1.heap.size W1 wr) ∧ Hid (ns.all (okNode p g) = (ns.drop k).all (okNode p g))) (fun i _ => ns.length - (intOf i).toNat)
      case atStart => exact ⟨0, Nat.zero_le _, rfl, Below.refl _ _, by show _ = _; simp⟩
      case round =>
        obtain ⟨k, hk, rfl, HK, HA⟩ := hrel
        obtain ⟨y1, y2⟩ := box_cells ((HK.out.block _ (Array.getElem?_eq_some_iff.1 HB.out.2).1).trans HB.out.2)
        have HW : Hid (Below w.heap.size w wr) := below_trans HB.out.1 HK.out
        have hn1 := (Array.getElem?_eq_some_iff.1 HB.out.2).1
        have hn2 := HK.out.size
        have e2 : w.heap.size + 1 < wr.heap.size := by omega
        clear hn1 hn2
        by_cases hlt : k < ns.length
        · have hlti : (k : Int) < (ns.length : Int) := by omega
          obtain ⟨n, hnk⟩ : ∃ n, ns[k]? = some n := ⟨_, List.getElem?_eq_getElem hlt⟩
          obtain ⟨b1, o1, fa, ra, va, fc, rc, vc, rfl, c0, c1, c2, c3, c4, hat⟩ := (HH.out.1.below HW.out) k n hnk
          have HV : Hid (ns[k]? = some n ∧ NdIn n ∧ NdAt wr fa ra va fc rc vc n) := ⟨hnk, HH.out.2 n (List.mem_of_getElem? hnk), hat⟩
          clear hnk hat
          cases hO : okNode p g n with
          | true =>
            go_wp2_with (go_at_call 48; refine (isNode_any p g fa ra va fc rc vc n _ (HV.out.2.2.below (below1 _ _)) HV.out.2.1).mono ?_; rw [hO]; rintro e W2 ⟨rfl, hb2⟩)
            refine ⟨⟨k + 1, by omega, by go_num, below_trans (below_trans HK.out (below1 _ _)) hb2, ?_⟩, by simp [intOf]; omega⟩
            show _ = _
            rw [HA.out, drop_all HV.out.1, hO]
            rfl
          | false =>
            go_wp2_with (go_at_call 48; refine (isNode_any p g fa ra va fc rc vc n _ (HV.out.2.2.below (below1 _ _)) HV.out.2.1).mono ?_; rw [hO]; rintro e W2 ⟨rfl, hb2⟩)
            go_ret
            exact ⟨ret_bool (by rw [HO.out, HA.out, drop_all HV.out.1, hO]; rfl), below_trans (below_trans HW.out (below1 _ _)) hb2⟩
        · have hlti : ¬ (k : Int) < (ns.length : Int) := by omega
          obtain rfl : k = ns.length := by omega
          go_wp2_with fail
          go_ret
          exact ⟨ret_bool (by rw [HO.out, HA.out]; simp), HW.out⟩
    · have HO : Hid (okC ⟨p, g, ns⟩ = false) := by show _ = _; simp [okC, h60]
      have h61 : 60 < (ns.length : Int) := by omega
      go_enter Try.func35, Try.ntmps35
      go_wp2_with (go_at_call 47; refine (isKnown_any _ _ _).mono ?_; rw [hk]; rintro e w1 ⟨rfl, rfl⟩)
      go_ret
      exact ⟨ret_bool HO.out.symm, below3 _ _ _ _⟩
end Go.Proofs.Ytmipbiligijcpaa
