/- A part of the proof: contracts of functions of the program. -/
import Derived.Test.YtmipbiligijcpaaGreatDoorA36
namespace Go.Proofs.YtmipbiligijcpaaGreatDoor
set_option linter.unusedVariables false
set_option linter.unusedSimpArgs false
open Go.RowKit Go.Proofs Go.Maps

set_option maxHeartbeats 1000000 in
set_option maxRecDepth 100000 in
theorem same64_any (oa1 oa2 : Option Addr) (oc1 oc2 : Nat) (xs : List Int) (w : World) (h1 : IntsAt w oa1 xs) (h2 : IntsAt w oa2 xs) (hl : xs.length ≤ 4611686018427387904) :
    Calls Tryz.prog 29 #[.slice oa1 xs.length oc1, .slice oa2 xs.length oc2] w fun e w' => e = .returned (.bool true) ∧ Below w.heap.size w w' := by
  have HH : Hid (IntsAt w oa1 xs ∧ IntsAt w oa2 xs) := ⟨h1, h2⟩
  clear h1 h2
  have hl0 : ((xs.length : Int) != (xs.length : Int)) = false := by simp
  go_enter Tryz.func29, Tryz.ntmps29
  go_wp2_with fail
  go_loopw [5] (fun i wr => ∃ k : Nat, k ≤ xs.length ∧ i = .int .i64 k ∧ Hid (Below w.heap.size w wr)) (fun i _ => xs.length - (intOf i).toNat)
  case atStart => exact ⟨0, Nat.zero_le _, rfl, Below.refl _ _⟩
  case round =>
    obtain ⟨k, hk, rfl, HK⟩ := hrel
    by_cases hlt : k < xs.length
    · have hlti : (k : Int) < (xs.length : Int) := by omega
      obtain ⟨x, hx⟩ : ∃ x, xs[k]? = some x := ⟨_, List.getElem?_eq_getElem hlt⟩
      obtain ⟨b1, o1, rfl, c1⟩ := (HH.out.1.below HK.out) k x hx
      obtain ⟨b2, o2, rfl, c2⟩ := (HH.out.2.below HK.out) k x hx
      have hxx : (x != x) = false := by simp
      clear hx
      go_wp2_with fail
      go_quiet (fail)
      go_wp2_with fail
      go_roundw
      case rel => exact ⟨k + 1, by omega, by go_num, below_drewN HK.out _⟩
      case measure => simp [intOf]; omega
    · have hlti : ¬ (k : Int) < (xs.length : Int) := by omega
      go_wp2_with fail
      go_ret
      exact ⟨rfl, HK.out⟩
set_option maxHeartbeats 2000000 in
set_option maxRecDepth 100000 in
theorem lsame_any (e : Int) (oa1 oa2 sa1 sa2 : Option Addr) (oc1 oc2 sc1 sc2 : Nat) (outs : List Int) (st : List (Nat × List Int)) (w : World) (h1 : IntsAt w oa1 outs) (h2 : IntsAt w oa2 outs) (h3 : StepsAt w sa1 st) (h4 : StepsAt w sa2 st) (hl : outs.length ≤ 3000) (hs : st.length ≤ 3000) (hv : ∀ s ∈ st, s.2.length ≤ 8) :
    Calls Tryz.prog 28 #[.agg #[.int .i64 e, .slice oa1 outs.length oc1, .slice sa1 st.length sc1], .agg #[.int .i64 e, .slice oa2 outs.length oc2, .slice sa2 st.length sc2]] w fun e w' => e = .returned (.bool true) ∧ Below w.heap.size w w' := by
  have HH : Hid (IntsAt w oa1 outs ∧ IntsAt w oa2 outs ∧ StepsAt w sa1 st ∧ StepsAt w sa2 st ∧ ∀ s ∈ st, s.2.length ≤ 8) := ⟨h1, h2, h3, h4, hv⟩
  clear h1 h2 h3 h4 hv
  go_enter Tryz.func28, Tryz.ntmps28
  go_wp2_with fail
  generalize hW2 : (w.alloc (.cells #[.int .i64 e, .slice oa1 outs.length oc1, .slice sa1 st.length sc1] 57)).alloc (.cells #[.int .i64 e, .slice oa2 outs.length oc2, .slice sa2 st.length sc2] 57) = W2
  have HB : Hid (Below w.heap.size w W2 ∧ W2.heap[w.heap.size]? = some (.cells #[.int .i64 e, .slice oa1 outs.length oc1, .slice sa1 st.length sc1] 57 (0, 0)) ∧ W2.heap[w.heap.size + 1]? = some (.cells #[.int .i64 e, .slice oa2 outs.length oc2, .slice sa2 st.length sc2] 57 (0, 0))) := by
    subst hW2
    exact ⟨((Below.refl _ _).alloc (Nat.le_refl _) _).alloc (by simp) _, (alloc2 w _ _).1, (alloc2 w _ _).2⟩
  clear hW2
  refine (same64_any oa1 oa2 oc1 oc2 outs W2 (HH.out.1.below HB.out.1) (HH.out.2.1.below HB.out.1) (by omega)).mono ?_
  rintro e0 W3 ⟨rfl, hb3⟩
  have HB3 : Hid (Below W2.heap.size W2 W3) := hb3
  obtain ⟨x1, x2⟩ := box_cells ((hb3.block _ (Array.getElem?_eq_some_iff.1 HB.out.2.1).1).trans HB.out.2.1)
  obtain ⟨y1, y2⟩ := box_cells ((hb3.block _ (Array.getElem?_eq_some_iff.1 HB.out.2.2).1).trans HB.out.2.2)
  have l0 : (e != e) = false := by simp
  have l1 : ((st.length : Int) != (st.length : Int)) = false := by simp
  clear hb3
  go_wp2_with fail
  clear x1 x2 y1 y2
  go_loopw [6] (fun i wr => ∃ k : Nat, k ≤ st.length ∧ i = .int .i64 k ∧ Hid (Below W2.heap.size W2 wr)) (fun i _ => st.length - (intOf i).toNat)
  case atStart => exact ⟨0, Nat.zero_le _, rfl, HB3⟩
  case round =>
    clear HB3
    obtain ⟨k, hk, rfl, HK⟩ := hrel
    obtain ⟨x1, x2⟩ := box_cells ((HK.out.block _ (Array.getElem?_eq_some_iff.1 HB.out.2.1).1).trans HB.out.2.1)
    obtain ⟨y1, y2⟩ := box_cells ((HK.out.block _ (Array.getElem?_eq_some_iff.1 HB.out.2.2).1).trans HB.out.2.2)
    have HW : Hid (Below w.heap.size w wr) := HB.out.1.trans (HK.out.mono HB.out.1.size)
    by_cases hlt : k < st.length
    · have hlti : (k : Int) < (st.length : Int) := by omega
      obtain ⟨s, hs1⟩ : ∃ s, st[k]? = some s := ⟨_, List.getElem?_eq_getElem hlt⟩
      obtain ⟨b1, o1, va1, vc1, rfl, c1, d1, i1⟩ := (HH.out.2.2.1.below HW.out) k s hs1
      obtain ⟨b2, o2, va2, vc2, rfl, c2, d2, i2⟩ := (HH.out.2.2.2.1.below HW.out) k s hs1
      have hs8 := HH.out.2.2.2.2 s (List.mem_of_getElem? hs1)
      have HI : Hid (IntsAt wr va1 s.2 ∧ IntsAt wr va2 s.2 ∧ wr.cell? ⟨b1, o1 + k * 2, none⟩ = some (.int .i64 s.1) ∧ wr.cell? ⟨b2, o2 + k * 2, none⟩ = some (.int .i64 s.1)) := ⟨i1, i2, c1, c2⟩
      obtain ⟨sn, sv⟩ := s
      simp only at c1 c2 d1 d2 hs8 HI
      have l2 : ((sn : Int) != (sn : Int)) = false := by simp
      have HC : Hid (wr.cell? ⟨b1, o1 + k * 2 + 1, none⟩ = some (.slice va1 sv.length vc1) ∧ wr.cell? ⟨b2, o2 + k * 2 + 1, none⟩ = some (.slice va2 sv.length vc2) ∧ wr.heap[w.heap.size]? = some (.cells #[.int .i64 e, .slice oa1 outs.length oc1, .slice (some ⟨b1, o1, none⟩) st.length sc1] 57 (0, 0)) ∧ wr.heap[w.heap.size + 1]? = some (.cells #[.int .i64 e, .slice oa2 outs.length oc2, .slice (some ⟨b2, o2, none⟩) st.length sc2] 57 (0, 0))) := ⟨d1, d2, (HK.out.block _ (Array.getElem?_eq_some_iff.1 HB.out.2.1).1).trans HB.out.2.1, (HK.out.block _ (Array.getElem?_eq_some_iff.1 HB.out.2.2).1).trans HB.out.2.2⟩
      clear i1 i2 hs1
      go_wp2_with fail
      go_region_held3 (fun w' => w'.cell? ⟨w.heap.size, 2, none⟩ = some (.slice (some ⟨b1, o1, none⟩) st.length sc1) ∧ w'.cell? ⟨w.heap.size + 1, 2, none⟩ = some (.slice (some ⟨b2, o2, none⟩) st.length sc2) ∧ w'.cell? ⟨b1, o1 + k * 2 + 1, none⟩ = some (.slice va1 sv.length vc1) ∧ w'.cell? ⟨b2, o2 + k * 2 + 1, none⟩ = some (.slice va2 sv.length vc2)) (go_keep) ((go_at_call 29; refine (same64_any va1 va2 vc1 vc2 sv wr.drew (by exact HI.out.1) (by exact HI.out.2.1) (by omega)).mono ?_; rintro e0 W4 ⟨rfl, hb4⟩; have hb5 : Below wr.heap.size wr W4 := (Below.refl wr.heap.size wr).drew.trans hb4; have d3 := cell_stays HC.out.1 hb5; have d4 := cell_stays HC.out.2.1 hb5; have c3 := cell_stays HI.out.2.2.1 hb5; have c4 := cell_stays HI.out.2.2.2 hb5; obtain ⟨x3, x4⟩ := box_cells ((hb5.block _ (Array.getElem?_eq_some_iff.1 HC.out.2.2.1).1).trans HC.out.2.2.1); obtain ⟨y3, y4⟩ := box_cells ((hb5.block _ (Array.getElem?_eq_some_iff.1 HC.out.2.2.2).1).trans HC.out.2.2.2); have HB5 := (show Hid _ from hb5); clear hb4 hb5))
      go_wp2_with fail
      go_quiet (fail)
      go_wp2_with fail
      go_roundw
      case rel => exact ⟨k + 1, by omega, by go_num, below_drewN (HK.out.trans (HB5.out.mono HK.out.size)) _⟩
      case measure => simp [intOf]; omega
    · have hlti : ¬ (k : Int) < (st.length : Int) := by omega
      go_wp2_with fail
      go_ret
      exact ⟨rfl, HW.out⟩
end Go.Proofs.YtmipbiligijcpaaGreatDoor
