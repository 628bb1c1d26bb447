/- The law's own comparing: numbers, nodes; Encode as the law calls it. -/
import Derived.Test.YtmipbiligijcpaaH7
import Derived.Test.YtmipbiligijcpaaJ6
namespace Go.Proofs.Ytmipbiligijcpaa
set_option linter.unusedVariables false
set_option linter.unusedSimpArgs false
open Go.RowKit Go.Proofs Go.Maps

theorem wEncode_any (na : Option Addr) (nc : Nat) (c : Ct) (w : World) (h : NodesAt w na c.nodes) (hc : CtIn c) :
    Calls Try.prog 10 #[.agg #[.int .i64 c.problem, .int .i64 c.grade, .slice na c.nodes.length nc]] w fun e w' => e = .returned (.tuple #[.string (encR c).1, .int .i64 (encR c).2]) ∧ Below w.heap.size w w' := by
  have HC := (show Hid _ from fun W hb => encode_any na nc c W (h.below hb) hc)
  clear h hc
  go_enter Try.func10, Try.ntmps10
  go_wp2_with (go_at_call 22; refine (HC.out _ (below1 _ _)).mono ?_; rintro e W1 ⟨rfl, hb1⟩)
  go_ret2
  exact ⟨rfl, below_trans (below1 _ _) hb1⟩
theorem num_any (x : Int) (w : World) : Calls Try.prog 16 #[.int .i64 x] w fun e w' => e = .returned (.int .i64 x) ∧ w' = w := by
  go_enter Try.func16, Try.ntmps16
  go_wp2
  go_ret
  exact ⟨rfl, rfl⟩
set_option maxHeartbeats 1000000 in
set_option maxRecDepth 100000 in
theorem sameInts_any (oa1 oa2 : Option Addr) (oc1 oc2 : Nat) (xs : List Int) (w : World) (h1 : IntsAt w oa1 xs) (h2 : IntsAt w oa2 xs) (hl : xs.length * 8 ≤ 140737488355328) :
    Calls Try.prog 44 #[.slice oa1 xs.length oc1, .slice oa2 xs.length oc2] w fun e w' => e = .returned (.bool true) ∧ Below w.heap.size w w' := by
  have HH : Hid (IntsAt w oa1 xs ∧ IntsAt w oa2 xs) := ⟨h1, h2⟩
  clear h1 h2
  have hl0 : ((xs.length : Int) != (xs.length : Int)) = false := by simp
  go_enter Try.func44, Try.ntmps44
  go_wp2_with fail
  go_loopw [5] (fun i wr => ∃ k : Nat, k ≤ xs.length ∧ i = .int .i64 k ∧ Hid (Below w.heap.size w wr)) (fun i _ => xs.length - (intOf i).toNat)
  case atStart => exact ⟨0, Nat.zero_le _, rfl, Below.refl _ _⟩
  case round =>
    obtain ⟨k, hk, rfl, HK⟩ := hrel
    by_cases hlt : k < xs.length
    · have hlti : (k : Int) < (xs.length : Int) := by omega
      obtain ⟨x, hx⟩ : ∃ x, xs[k]? = some x := ⟨_, List.getElem?_eq_getElem hlt⟩
      obtain ⟨b1, o1, rfl, c1⟩ := (HH.out.1.below HK.out) k x hx
      obtain ⟨b2, o2, rfl, c2⟩ := (HH.out.2.below HK.out) k x hx
      have hxx : (x != x) = false := by simp
      clear hx
      go_wp2_with fail
      go_quiet (fail)
      go_wp2_with fail
      go_roundw
      case rel => exact ⟨k + 1, by omega, by go_num, below_drewN HK.out _⟩
      case measure => simp [intOf]; omega
    · have hlti : ¬ (k : Int) < (xs.length : Int) := by omega
      go_wp2_with fail
      go_ret
      exact ⟨rfl, HK.out⟩
set_option maxHeartbeats 2000000 in
set_option maxRecDepth 100000 in
theorem sameNode_any (fa1 ra1 va1 fa2 ra2 va2 : Option Addr) (fc1 rc1 vc1 fc2 rc2 vc2 : Nat) (n : Nd) (w : World) (h1 : NdAt w fa1 ra1 va1 fc1 rc1 vc1 n) (h2 : NdAt w fa2 ra2 va2 fc2 rc2 vc2 n) (hn : NdIn n) :
    Calls Try.prog 28 #[.agg #[.slice fa1 n.facts.length fc1, .slice ra1 n.ranks.length rc1, .bool n.reached, .int .i64 n.rank, .slice va1 n.vals.length vc1], .agg #[.slice fa2 n.facts.length fc2, .slice ra2 n.ranks.length rc2, .bool n.reached, .int .i64 n.rank, .slice va2 n.vals.length vc2]] w fun e w' => e = .returned (.bool true) ∧ Below w.heap.size w w' := by
  have HH := (show Hid _ from And.intro h1 (And.intro h2 hn))
  have h48 : n.vals.length * 48 ≤ 140737488355328 := hn.vsz
  clear h1 h2 hn
  have l1 : (n.reached != n.reached) = false := by simp
  have l2 : (n.rank != n.rank) = false := by simp
  have l3 : ((n.vals.length : Int) != (n.vals.length : Int)) = false := by simp
  go_enter Try.func28, Try.ntmps28
  go_upto_region 3 with (first
    | (go_at_call 44; have _ := H1; refine (sameInts_any ra1 ra2 rc1 rc2 n.ranks _ (HH.out.1.ranks.below (below_trans (below2 _ _ _) H1.out)) (HH.out.2.1.ranks.below (below_trans (below2 _ _ _) H1.out)) HH.out.2.2.rsz).mono ?_; clear x1 x2 y1 y2; rintro e W2 ⟨rfl, b2⟩; obtain ⟨x1, x2⟩ := box_cells (((below_trans H1.out b2).block _ (by simp; omega)).trans (alloc2 w _ _).1); obtain ⟨y1, y2⟩ := box_cells (((below_trans H1.out b2).block _ (by simp)).trans (alloc2 w _ _).2); have H2 := (show Hid _ from below_trans H1.out b2); clear b2)
    | (go_at_call 44; refine (sameInts_any fa1 fa2 fc1 fc2 n.facts _ (HH.out.1.facts.below (below2 _ _ _)) (HH.out.2.1.facts.below (below2 _ _ _)) HH.out.2.2.fsz).mono ?_; rintro e W1 ⟨rfl, b1⟩; obtain ⟨x1, x2⟩ := box_cells ((b1.block _ (by simp; omega)).trans (alloc2 w _ _).1); obtain ⟨y1, y2⟩ := box_cells ((b1.block _ (by simp)).trans (alloc2 w _ _).2); have H1 := (show Hid _ from b1); clear b1))
  go_wp2_with fail
  clear x1 x2 y1 y2
  generalize hW : (w.alloc (.cells #[.slice fa1 n.facts.length fc1, .slice ra1 n.ranks.length rc1, .bool n.reached, .int .i64 n.rank, .slice va1 n.vals.length vc1] 50)).alloc (.cells #[.slice fa2 n.facts.length fc2, .slice ra2 n.ranks.length rc2, .bool n.reached, .int .i64 n.rank, .slice va2 n.vals.length vc2] 50) = W0 at H2
  have HB : Hid (Below w.heap.size w W0 ∧ W0.heap[w.heap.size]? = some (.cells #[.slice fa1 n.facts.length fc1, .slice ra1 n.ranks.length rc1, .bool n.reached, .int .i64 n.rank, .slice va1 n.vals.length vc1] 50 (0, 0)) ∧ W0.heap[w.heap.size + 1]? = some (.cells #[.slice fa2 n.facts.length fc2, .slice ra2 n.ranks.length rc2, .bool n.reached, .int .i64 n.rank, .slice va2 n.vals.length vc2] 50 (0, 0))) := by
    subst hW
    exact ⟨below2 _ _ _, (alloc2 w _ _).1, (alloc2 w _ _).2⟩
  clear hW H1
  go_loopw [7] (fun i wr => ∃ k : Nat, k ≤ n.vals.length ∧ i = .int .i64 k ∧ Hid (Below W0.heap.size W0 wr)) (fun i _ => n.vals.length - (intOf i).toNat)
  case atStart => exact ⟨0, Nat.zero_le _, rfl, H2⟩
  case round =>
    clear H2
    obtain ⟨k, hk, rfl, HK⟩ := hrel
    obtain ⟨x1, x2⟩ := box_cells ((HK.out.block _ (Array.getElem?_eq_some_iff.1 HB.out.2.1).1).trans HB.out.2.1)
    obtain ⟨y1, y2⟩ := box_cells ((HK.out.block _ (Array.getElem?_eq_some_iff.1 HB.out.2.2).1).trans HB.out.2.2)
    have HW : Hid (Below w.heap.size w wr) := below_trans HB.out.1 HK.out
    by_cases hlt : k < n.vals.length
    · have hlti : (k : Int) < (n.vals.length : Int) := by omega
      obtain ⟨v, hx⟩ : ∃ v, n.vals[k]? = some v := ⟨_, List.getElem?_eq_getElem hlt⟩
      obtain ⟨b1, o1, rfl, c0, c1, c2, c3, c4, c5⟩ := (HH.out.1.vals.below HW.out) k v hx
      obtain ⟨b2, o2, rfl, d0, d1, d2, d3, d4, d5⟩ := (HH.out.2.1.vals.below HW.out) k v hx
      clear hx
      go_wp2_with fail
      go_quiet (fail)
      go_wp2_with fail
      go_roundw
      case rel => exact ⟨k + 1, by omega, by go_num, below_drewN HK.out _⟩
      case measure => simp [intOf]; omega
    · have hlti : ¬ (k : Int) < (n.vals.length : Int) := by omega
      go_wp2_with fail
      go_ret
      exact ⟨rfl, HW.out⟩
end Go.Proofs.Ytmipbiligijcpaa
