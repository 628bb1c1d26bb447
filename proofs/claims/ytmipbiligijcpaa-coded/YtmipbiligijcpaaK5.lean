/- Coded's parts: comparing nodes, Decode as the statement calls it. -/
import Derived.Test.YtmipbiligijcpaaN16
namespace Go.Proofs.Ytmipbiligijcpaa
set_option linter.unusedVariables false
set_option linter.unusedSimpArgs false
open Go.RowKit Go.Proofs Go.Maps

theorem wDecode_any (s : ByteArray) (w : World) : Calls Try.prog 11 #[.string s] w fun e W' => DcR w W' s e ∧ Below w.heap.size w W' := by
  go_enter Try.func11, Try.ntmps11
  go_wp2_with fail
  obtain ⟨V0, hV0⟩ : ∃ V, V = w.alloc (.cells #[.int .i64 0, .int .i64 0, .slice none 0 0] 24) := ⟨_, rfl⟩
  rw [← hV0]
  have hb0 : Below w.heap.size w V0 := by rw [hV0]; exact below1 _ _
  have hz0 : V0.heap.size = w.heap.size + 1 := by rw [hV0]; simp
  have m0 : V0.heap[w.heap.size]? = some (.cells #[.int .i64 0, .int .i64 0, .slice none 0 0] 24 (0, 0)) := by rw [hV0]; exact heap_alloc_new _ _
  refine (pdecode_any s V0).mono ?_
  rintro e W1 ⟨h1, b1⟩
  have k0 := (b1.block _ (by omega)).trans m0
  have hb1 := hb0.trans (b1.mono (by omega))
  have hz1 := b1.size
  clear hV0 m0 hb0
  obtain ⟨x1, x2⟩ := box_cells k0
  rcases h1 with ⟨c, cl, la, lc, e1, e2, rfl, e4, e5, e6⟩ | ⟨e1, rfl⟩
  · have HX := (show Hid _ from And.intro e1 (And.intro e2 (And.intro e4 (And.intro e5 (And.intro e6 hb1)))))
    clear e1 e2 e4 e5 e6 hb1 k0 b1
    go_wp2_with fail
    refine bodyPost_ret (v := .tuple #[.agg #[.int .i64 c.problem, .int .i64 c.grade, .slice la c.nodes.length lc], .int .i64 0]) (by simp [results, Try.results11, go_sem, x1]) rfl ?_
    have fa := fr3 W1 w.heap.size (.int .i64 c.problem) (.int .i64 c.grade) (.slice la c.nodes.length lc)
    refine ⟨Or.inl ⟨c, cl, la, lc, HX.out.1, HX.out.2.1, rfl, own_mono (fa.own HX.out.2.2.1 (fun k hk => by have := (HX.out.2.2.1.lt k hk).1; show k ≠ _; omega)) (by omega), fun x hx => (HX.out.2.2.2.1 x hx).fr fa (fun j hj => by show j ≠ _; omega) (by omega), HX.out.2.2.2.2.1⟩, HX.out.2.2.2.2.2.trans (fa.below (by omega) (fun k hk => by show k ≠ _; omega))⟩
  · have HX := (show Hid _ from And.intro e1 hb1)
    clear e1 hb1 k0 b1
    go_wp2_with fail
    refine bodyPost_ret (v := .tuple #[.agg #[.int .i64 0, .int .i64 0, .slice none 0 0], .int .i64 5]) (by simp [results, Try.results11, go_sem, x1]) rfl ?_
    have fa := fr3 W1 w.heap.size (.int .i64 0) (.int .i64 0) (.slice none 0 0)
    exact ⟨Or.inr ⟨HX.out.1, rfl⟩, HX.out.2.trans (fa.below (by omega) (fun k hk => by show k ≠ _; omega))⟩
set_option maxHeartbeats 2000000 in
set_option maxRecDepth 100000 in
theorem ksameNode_any (fa1 ra1 va1 fa2 ra2 va2 : Option Addr) (fc1 rc1 vc1 fc2 rc2 vc2 : Nat) (n : Nd) (w : World) (h1 : NdAt w fa1 ra1 va1 fc1 rc1 vc1 n) (h2 : NdAt w fa2 ra2 va2 fc2 rc2 vc2 n) (hn : NdIn n) :
    Calls Try.prog 24 #[.agg #[.slice fa1 n.facts.length fc1, .slice ra1 n.ranks.length rc1, .bool n.reached, .int .i64 n.rank, .slice va1 n.vals.length vc1], .agg #[.slice fa2 n.facts.length fc2, .slice ra2 n.ranks.length rc2, .bool n.reached, .int .i64 n.rank, .slice va2 n.vals.length vc2]] w fun e w' => e = .returned (.bool true) ∧ Below w.heap.size w w' := by
  have HH := (show Hid _ from And.intro h1 (And.intro h2 hn))
  have h8 : n.facts.length * 8 ≤ 140737488355328 := hn.fsz
  have h9 : n.ranks.length * 8 ≤ 140737488355328 := hn.rsz
  have h48 : n.vals.length * 48 ≤ 140737488355328 := hn.vsz
  clear h1 h2 hn
  have l1 : (n.reached != n.reached) = false := by simp
  have l2 : (n.rank != n.rank) = false := by simp
  have l3 : ((n.vals.length : Int) != (n.vals.length : Int)) = false := by simp
  have l4 : ((n.facts.length : Int) != (n.facts.length : Int)) = false := by simp
  have l5 : ((n.ranks.length : Int) != (n.ranks.length : Int)) = false := by simp
  go_enter Try.func24, Try.ntmps24
  go_wp2_with fail
  generalize hW : (w.alloc (.cells #[.slice fa1 n.facts.length fc1, .slice ra1 n.ranks.length rc1, .bool n.reached, .int .i64 n.rank, .slice va1 n.vals.length vc1] 50)).alloc (.cells #[.slice fa2 n.facts.length fc2, .slice ra2 n.ranks.length rc2, .bool n.reached, .int .i64 n.rank, .slice va2 n.vals.length vc2] 50) = W0
  have HB : Hid (Below w.heap.size w W0 ∧ W0.heap[w.heap.size]? = some (.cells #[.slice fa1 n.facts.length fc1, .slice ra1 n.ranks.length rc1, .bool n.reached, .int .i64 n.rank, .slice va1 n.vals.length vc1] 50 (0, 0)) ∧ W0.heap[w.heap.size + 1]? = some (.cells #[.slice fa2 n.facts.length fc2, .slice ra2 n.ranks.length rc2, .bool n.reached, .int .i64 n.rank, .slice va2 n.vals.length vc2] 50 (0, 0))) := by
    subst hW
    exact ⟨below2 _ _ _, (alloc2 w _ _).1, (alloc2 w _ _).2⟩
  clear hW
  go_loopw [5] (fun i wr => ∃ k : Nat, k ≤ n.facts.length ∧ i = .int .i64 k ∧ Hid (Below W0.heap.size W0 wr)) (fun i _ => n.facts.length - (intOf i).toNat)
  case atStart => exact ⟨0, Nat.zero_le _, rfl, Below.refl _ _⟩
  case round =>
    obtain ⟨k, hk, rfl, HK⟩ := hrel
    obtain ⟨x1, x2⟩ := box_cells ((HK.out.block _ (Array.getElem?_eq_some_iff.1 HB.out.2.1).1).trans HB.out.2.1)
    obtain ⟨y1, y2⟩ := box_cells ((HK.out.block _ (Array.getElem?_eq_some_iff.1 HB.out.2.2).1).trans HB.out.2.2)
    have HW : Hid (Below w.heap.size w wr) := below_trans HB.out.1 HK.out
    by_cases hlt : k < n.facts.length
    · have hlti : (k : Int) < (n.facts.length : Int) := by omega
      obtain ⟨v, hx⟩ : ∃ v, n.facts[k]? = some v := ⟨_, List.getElem?_eq_getElem hlt⟩
      obtain ⟨b1, o1, rfl, c1⟩ := (HH.out.1.facts.below HW.out) k v hx
      obtain ⟨b2, o2, rfl, c2⟩ := (HH.out.2.1.facts.below HW.out) k v hx
      clear hx
      go_wp2_with fail
      go_quiet (fail)
      go_wp2_with fail
      go_roundw
      case rel => exact ⟨k + 1, by omega, by go_num, below_drewN HK.out _⟩
      case measure => simp [intOf]; omega
    · have hlti : ¬ (k : Int) < (n.facts.length : Int) := by omega
      obtain rfl : k = n.facts.length := by omega
      go_wp2_with fail
      have HK2 := HK
      clear x1 x2 y1 y2 HK HW
      go_loopw [6] (fun i wr => ∃ k : Nat, k ≤ n.ranks.length ∧ i = .int .i64 k ∧ Hid (Below W0.heap.size W0 wr)) (fun i _ => n.ranks.length - (intOf i).toNat)
      case atStart => exact ⟨0, Nat.zero_le _, rfl, HK2⟩
      case round =>
        obtain ⟨k, hk, rfl, HK⟩ := hrel
        obtain ⟨x1, x2⟩ := box_cells ((HK.out.block _ (Array.getElem?_eq_some_iff.1 HB.out.2.1).1).trans HB.out.2.1)
        obtain ⟨y1, y2⟩ := box_cells ((HK.out.block _ (Array.getElem?_eq_some_iff.1 HB.out.2.2).1).trans HB.out.2.2)
        have HW : Hid (Below w.heap.size w wr) := below_trans HB.out.1 HK.out
        by_cases hlt : k < n.ranks.length
        · have hlti : (k : Int) < (n.ranks.length : Int) := by omega
          obtain ⟨v, hx⟩ : ∃ v, n.ranks[k]? = some v := ⟨_, List.getElem?_eq_getElem hlt⟩
          obtain ⟨b1, o1, rfl, c1⟩ := (HH.out.1.ranks.below HW.out) k v hx
          obtain ⟨b2, o2, rfl, c2⟩ := (HH.out.2.1.ranks.below HW.out) k v hx
          clear hx
          go_wp2_with fail
          go_quiet (fail)
          go_wp2_with fail
          go_roundw
          case rel => exact ⟨k + 1, by omega, by go_num, below_drewN HK.out _⟩
          case measure => simp [intOf]; omega
        · have hlti : ¬ (k : Int) < (n.ranks.length : Int) := by omega
          obtain rfl : k = n.ranks.length := by omega
          go_wp2_with fail
          have HK3 := HK
          clear x1 x2 y1 y2 HK HW
          go_loopw [7] (fun i wr => ∃ k : Nat, k ≤ n.vals.length ∧ i = .int .i64 k ∧ Hid (Below W0.heap.size W0 wr)) (fun i _ => n.vals.length - (intOf i).toNat)
          case atStart => exact ⟨0, Nat.zero_le _, rfl, HK3⟩
          case round =>
            obtain ⟨k, hk, rfl, HK⟩ := hrel
            obtain ⟨x1, x2⟩ := box_cells ((HK.out.block _ (Array.getElem?_eq_some_iff.1 HB.out.2.1).1).trans HB.out.2.1)
            obtain ⟨y1, y2⟩ := box_cells ((HK.out.block _ (Array.getElem?_eq_some_iff.1 HB.out.2.2).1).trans HB.out.2.2)
            have HW : Hid (Below w.heap.size w wr) := below_trans HB.out.1 HK.out
            by_cases hlt : k < n.vals.length
            · have hlti : (k : Int) < (n.vals.length : Int) := by omega
              obtain ⟨v, hx⟩ : ∃ v, n.vals[k]? = some v := ⟨_, List.getElem?_eq_getElem hlt⟩
              obtain ⟨b1, o1, rfl, c0, c1, c2, c3, c4, c5⟩ := (HH.out.1.vals.below HW.out) k v hx
              obtain ⟨b2, o2, rfl, d0, d1, d2, d3, d4, d5⟩ := (HH.out.2.1.vals.below HW.out) k v hx
              clear hx
              go_wp2_with fail
              go_quiet (fail)
              go_wp2_with fail
              go_roundw
              case rel => exact ⟨k + 1, by omega, by go_num, below_drewN HK.out _⟩
              case measure => simp [intOf]; omega
            · have hlti : ¬ (k : Int) < (n.vals.length : Int) := by omega
              obtain rfl : k = n.vals.length := by omega
              go_wp2_with fail
              go_ret
              exact ⟨rfl, HW.out⟩
end Go.Proofs.Ytmipbiligijcpaa
