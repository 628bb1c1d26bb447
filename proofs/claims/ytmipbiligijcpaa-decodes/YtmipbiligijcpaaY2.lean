/- The law's own comparing: lists of nodes. -/
import Derived.Test.YtmipbiligijcpaaY1
namespace Go.Proofs.Ytmipbiligijcpaa
set_option linter.unusedVariables false
set_option linter.unusedSimpArgs false
open Go.RowKit Go.Proofs Go.Maps

set_option maxHeartbeats 2000000 in
set_option maxRecDepth 100000 in
theorem sameNodes_any (na1 na2 : Option Addr) (nc1 nc2 : Nat) (ns : List Nd) (w : World) (h1 : NodesAt w na1 ns) (h2 : NodesAt w na2 ns) (hn : ∀ n ∈ ns, NdIn n) (hl : ns.length * 88 ≤ 140737488355328) :
    Calls Try.prog 15 #[.slice na1 ns.length nc1, .slice na2 ns.length nc2] w fun e w' => e = .returned (.bool true) ∧ Below w.heap.size w w' := by
  have HH := (show Hid _ from And.intro h1 (And.intro h2 hn))
  clear h1 h2 hn
  have l3 : ((ns.length : Int) != (ns.length : Int)) = false := by simp
  go_enter Try.func15, Try.ntmps15
  go_wp2_with fail
  go_loopw [5] (fun i wr => ∃ k : Nat, k ≤ ns.length ∧ i = .int .i64 k ∧ Hid (Below w.heap.size w wr)) (fun i _ => ns.length - (intOf i).toNat)
  case atStart => exact ⟨0, Nat.zero_le _, rfl, Below.refl _ _⟩
  case round =>
    obtain ⟨k, hk, rfl, HK⟩ := hrel
    by_cases hlt : k < ns.length
    · have hlti : (k : Int) < (ns.length : Int) := by omega
      obtain ⟨n, hx⟩ : ∃ n, ns[k]? = some n := ⟨_, List.getElem?_eq_getElem hlt⟩
      obtain ⟨b1, o1, fa1, ra1, va1, fc1, rc1, vc1, rfl, c0, c1, c2, c3, c4, hat1⟩ := (HH.out.1.below HK.out) k n hx
      obtain ⟨b2, o2, fa2, ra2, va2, fc2, rc2, vc2, rfl, d0, d1, d2, d3, d4, hat2⟩ := (HH.out.2.1.below HK.out) k n hx
      have HX := (show Hid _ from And.intro hat1 (And.intro hat2 (HH.out.2.2 n (List.mem_of_getElem? hx))))
      have HD := (show Hid _ from And.intro c0 (And.intro c1 (And.intro c2 (And.intro c3 (And.intro c4 (And.intro d0 (And.intro d1 (And.intro d2 (And.intro d3 d4)))))))))
      clear hx hat1 hat2
      go_wp2_with fail
      go_region_held3 (fun w' => w'.cell? ⟨b1, o1 + k * 5, none⟩ = some (.slice fa1 n.facts.length fc1) ∧ w'.cell? ⟨b1, o1 + k * 5 + 1, none⟩ = some (.slice ra1 n.ranks.length rc1) ∧ w'.cell? ⟨b1, o1 + k * 5 + 2, none⟩ = some (.bool n.reached) ∧ w'.cell? ⟨b1, o1 + k * 5 + 3, none⟩ = some (.int .i64 n.rank) ∧ w'.cell? ⟨b1, o1 + k * 5 + 4, none⟩ = some (.slice va1 n.vals.length vc1) ∧ w'.cell? ⟨b2, o2 + k * 5, none⟩ = some (.slice fa2 n.facts.length fc2) ∧ w'.cell? ⟨b2, o2 + k * 5 + 1, none⟩ = some (.slice ra2 n.ranks.length rc2) ∧ w'.cell? ⟨b2, o2 + k * 5 + 2, none⟩ = some (.bool n.reached) ∧ w'.cell? ⟨b2, o2 + k * 5 + 3, none⟩ = some (.int .i64 n.rank) ∧ w'.cell? ⟨b2, o2 + k * 5 + 4, none⟩ = some (.slice va2 n.vals.length vc2)) (go_keep) ((go_at_call 28; refine (sameNode_any fa1 ra1 va1 fa2 ra2 va2 fc1 rc1 vc1 fc2 rc2 vc2 n _ (HX.out.1.below (Below.refl wr.heap.size wr).drew) (HX.out.2.1.below (Below.refl wr.heap.size wr).drew) HX.out.2.2).mono ?_; rintro e W3 ⟨rfl, b3⟩; have b4 := below_trans (Below.refl wr.heap.size wr).drew b3; have c0 := cell_stays HD.out.1 b4; have c1 := cell_stays HD.out.2.1 b4; have c2 := cell_stays HD.out.2.2.1 b4; have c3 := cell_stays HD.out.2.2.2.1 b4; have c4 := cell_stays HD.out.2.2.2.2.1 b4; have d0 := cell_stays HD.out.2.2.2.2.2.1 b4; have d1 := cell_stays HD.out.2.2.2.2.2.2.1 b4; have d2 := cell_stays HD.out.2.2.2.2.2.2.2.1 b4; have d3 := cell_stays HD.out.2.2.2.2.2.2.2.2.1 b4; have d4 := cell_stays HD.out.2.2.2.2.2.2.2.2.2 b4; have H3 := (show Hid _ from below_trans HK.out b4); clear b3 b4))
      all_goals
        clear c0 c1 c2 c3 c4 d0 d1 d2 d3 d4
        go_wp2_with fail
        go_roundw
        case rel => exact ⟨k + 1, by omega, by go_num, H3⟩
        case measure => simp [intOf]; omega
    · have hlti : ¬ (k : Int) < (ns.length : Int) := by omega
      go_wp2_with fail
      go_ret
      exact ⟨rfl, HK.out⟩
end Go.Proofs.Ytmipbiligijcpaa
