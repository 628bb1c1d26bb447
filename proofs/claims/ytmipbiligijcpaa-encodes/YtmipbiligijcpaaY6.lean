/- Encodes: the walk. -/
import Derived.Test.YtmipbiligijcpaaY5
import Derived.OwnWalk
namespace Go.Proofs.Ytmipbiligijcpaa
set_option linter.unusedVariables false
set_option linter.unusedSimpArgs false
open Go.RowKit Go.Proofs Go.Maps

def nd0 : Nd := ⟨[], [], false, 0, []⟩
theorem ndin0 : NdIn nd0 := by
  refine ⟨fun f hf => by simp [nd0] at hf, fun f hf => by simp [nd0] at hf, ?_, fun v hv => by simp [nd0] at hv, by simp [nd0], by simp [nd0], by simp [nd0]⟩
  show I64 0
  unfold I64
  omega
theorem i64s {x : Int} (h : 0 ≤ x) (h2 : x ≤ 100) : I64 x := ⟨by omega, by omega⟩
theorem ctin3 : CtIn ⟨2, 2, [nd0, nd0, nd0]⟩ := ⟨i64s (by decide) (by decide), i64s (by decide) (by decide), fun n hn => by simp at hn; subst hn; exact ndin0, by simp⟩
theorem ctin0 : CtIn ⟨0, 0, []⟩ := ⟨i64s (by decide) (by decide), i64s (by decide) (by decide), (fun n hn => by cases hn), by simp⟩
def n50 : N5 := ⟨none, 0, none, 0, none, 0, nd0⟩
theorem made3 : (madeCells (Value.agg #[.slice none 0 0, .slice none 0 0, .bool false, .int .i64 0, .slice none 0 0]).cells (3 * 5)).toList = nRow [n50, n50, n50] := by kernel_rfl
theorem at3 {w : World} {B oc : Nat} {oa : Option Addr} (h : w.ownsRow B 50 5 (.slice oa 3 oc) 3 (nRow [n50, n50, n50])) : NodesAt w oa [nd0, nd0, nd0] :=
  nodes_own (cl := [n50, n50, n50]) h (B2 := 0) (fun c hc => by simp at hc; subst hc; exact ⟨World.ownsRow_nil _ _ _ _, World.ownsRow_nil _ _ _ _, World.ownsRow_nil _ _ _ _, fun _ => rfl, fun _ => rfl, fun _ => rfl⟩)
set_option maxHeartbeats 2000000 in
set_option maxRecDepth 100000 in
theorem encodes_any (na : Option Addr) (nc : Nat) (c : Ct) (w : World) (h : NodesAt w na c.nodes) (hc : CtIn c) :
    Calls Try.prog 3 #[.agg #[.int .i64 c.problem, .int .i64 c.grade, .slice na c.nodes.length nc]] w fun e w' => e = .returned (.bool true) ∧ Below w.heap.size w w' := by
  have HH := (show Hid _ from And.intro h hc)
  clear h hc
  obtain ⟨i0, hi, hz0, hz1, hz2⟩ := info_parts infoNd
  have HI := (show Hid _ from And.intro hi (And.intro hz0 (And.intro hz1 hz2)))
  clear hi hz0 hz1 hz2
  have ha1 : ∀ oa oc W, NodesAt W oa [nd0, nd0, nd0] → Calls Try.prog 6 #[.agg #[.int .i64 2, .int .i64 2, .slice oa 3 oc]] W fun e w' => e = .returned (.bool true) ∧ Below W.heap.size W w' := fun oa oc W h => encoded_any oa oc ⟨2, 2, [nd0, nd0, nd0]⟩ W h ctin3
  have ha2 : ∀ W, Calls Try.prog 6 #[.agg #[.int .i64 0, .int .i64 0, .slice none 0 0]] W fun e w' => e = .returned (.bool true) ∧ Below W.heap.size W w' := fun W => encoded_any none 0 ⟨0, 0, []⟩ W (fun j n hj => by simp at hj) ctin0
  have HA := (show Hid _ from And.intro ha1 ha2)
  clear ha1 ha2
  go_enter Try.func3, Try.ntmps3
  go_upto_region 1 with (fail)
  generalize hV : w.alloc (.cells #[.int .i64 c.problem, .int .i64 c.grade, .slice na c.nodes.length nc] 24) = W0
  have HB : Hid (Below w.heap.size w W0 ∧ W0.heap[w.heap.size]? = some (.cells #[.int .i64 c.problem, .int .i64 c.grade, .slice na c.nodes.length nc] 24 (0, 0))) := by
    subst hV
    exact ⟨below1 _ _, heap_alloc_new w _⟩
  have e0 := (Array.getElem?_eq_some_iff.1 HB.out.2).1
  clear hV
  go_upto_region 2 with (first
    | (at_make; refine wpList_make_full _ rfl (.const (.int .i64 3)) (.const (.int .i64 3)) 22 rfl W0.heap.size 50 i0 _ 5 Try.underlying22 HI.out.1 HI.out.2.1 HI.out.2.2.1 .i64 .i64 3 3 3 rfl rfl rfl rfl (by rw [HI.out.2.2.2]; decide) (by unfold maxLen; decide) (Nat.le_refl _) ?_; intro W1 hown1 hgrow1; rw [made3] at hown1; have H1 := (show Hid _ from And.intro (at3 hown1) (below_from (Below.refl _ _) hgrow1 (fun q hq => by cases hq) (Below.refl _ _))); clear hown1 hgrow1)
    | (go_at_call 6; refine (HA.out.1 _ _ _ H1.out.1).mono ?_; rintro e W2 ⟨rfl, b2⟩; have H2 := (show Hid _ from below_trans H1.out.2 b2); clear b2))
  go_upto_region 3 with (go_at_call 6; refine (HA.out.2 _).mono ?_; rintro e W3 ⟨rfl, b3⟩; have H3 := (show Hid _ from below_trans H2.out b3); clear b3)
  obtain ⟨x1, x2⟩ := box_cells ((H3.out.block _ e0).trans HB.out.2)
  go_wp2_with (go_at_call 6; refine (encoded_any na nc c _ (HH.out.1.below (below_trans HB.out.1 H3.out)) HH.out.2).mono ?_; clear x1 x2; rintro e W4 ⟨rfl, b4⟩; have H4 := (show Hid _ from below_trans (below_trans HB.out.1 H3.out) b4); clear b4)
  go_ret
  exact ⟨rfl, H4.out⟩
end Go.Proofs.Ytmipbiligijcpaa
