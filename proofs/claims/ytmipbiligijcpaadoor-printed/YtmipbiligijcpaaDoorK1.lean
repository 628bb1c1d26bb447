/- Printed's small parts. -/
import Derived.Test.YtmipbiligijcpaaDoorS13
import Derived.Test.YtmipbiligijcpaaDoorS12
namespace Go.Proofs.YtmipbiligijcpaaDoor
set_option linter.unusedVariables false
set_option linter.unusedSimpArgs false
open Go.RowKit Go.Proofs Go.Maps

theorem wrap_in {x : Int} (h : -9223372036854775808 ≤ x ∧ x ≤ 9223372036854775807) : wrap64 x = x := by unfold wrap64; omega
theorem tmod_in {d n : Int} (hd : 0 ≤ d) (hn : 0 < n) : 0 ≤ d.tmod n ∧ d.tmod n < n := by
  rw [Int.tmod_eq_emod_of_nonneg hd]
  exact ⟨Int.emod_nonneg _ (by omega), Int.emod_lt_of_pos _ hn⟩
set_option maxHeartbeats 400000 in
theorem pick_any (c n : Int) (w : World) (hc : -9223372036854775808 ≤ c ∧ c ≤ 9223372036854775807) (hn : 0 < n ∧ n ≤ 3000) :
    Calls Tryd.prog 7 #[.int .i64 c, .int .i64 n] w fun e w' => w' = w ∧ ∃ r : Nat, e = .returned (.int .i64 r) ∧ (r : Int) < n := by
  have hn0 : ¬ n = 0 := by omega
  by_cases h : c < 0
  · have d1 : decide (c < 0) = true := decide_eq_true h
    obtain ⟨h1, h2⟩ := tmod_in (d := -(c + 1)) (n := n) (by omega) hn.1
    have HV : Hid ((wrap64 (-(wrap64 (c + 1)))).tmod n = (-(c + 1)).tmod n) := by
      show _ = _
      rw [wrap_in (x := c + 1) (by omega), wrap_in (x := -(c + 1)) (by omega)]
    have HR : Hid (0 ≤ (-(c + 1)).tmod n ∧ (-(c + 1)).tmod n < n) := ⟨h1, h2⟩
    clear h h1 h2
    go_enter Tryd.func7, Tryd.ntmps7
    go_wp2
    go_ret
    refine ⟨rfl, ((-(c + 1)).tmod n).toNat, ?_, ?_⟩
    · rw [Int.toNat_of_nonneg HR.out.1, ← HV.out]; rfl
    · have := HR.out; omega
  · have d1 : decide (c < 0) = false := decide_eq_false h
    obtain ⟨h1, h2⟩ := tmod_in (d := c) (n := n) (by omega) hn.1
    have HR : Hid (0 ≤ c.tmod n ∧ c.tmod n < n) := ⟨h1, h2⟩
    clear h h1 h2
    go_enter Tryd.func7, Tryd.ntmps7
    go_wp2
    go_ret
    refine ⟨rfl, (c.tmod n).toNat, ?_, ?_⟩
    · rw [Int.toNat_of_nonneg HR.out.1]; rfl
    · have := HR.out; omega
set_option maxRecDepth 100000 in
theorem sure_any (w : World) (hE : Env w) : Calls Tryd.prog 4 #[] w fun e w' => e = .returned (.bool true) ∧ Below w.heap.size w w' := by
  have hP : Calls Tryd.prog 5 #[.string ⟨#[108, 58, 32, 120, 32, 61, 32, 105, 110, 112, 117, 116, 10, 32, 105, 102, 32, 120, 32, 60, 32, 49, 48, 32, 103, 111, 116, 111, 32, 108, 10, 32, 111, 117, 116, 112, 117, 116, 32, 120, 10, 114, 101, 116, 117, 114, 110]⟩] w fun e w' => e = .returned (.tuple #[.string exO, .int .i64 0]) ∧ Below w.heap.size w w' := by
    have := wPrint_any exB w hE
    rw [ex_prn.1, ex_prn.2] at this
    exact this
  have he : (exO.toList == [108, 58, 32, 120, 32, 61, 32, 105, 110, 112, 117, 116, 10, 105, 102, 32, 120, 32, 60, 32, 49, 48, 32, 103, 111, 116, 111, 32, 108, 10, 111, 117, 116, 112, 117, 116, 32, 120, 10, 114, 101, 116, 117, 114, 110, 10]) = true := by rw [ByteArray.toList_eq]; rfl
  go_enter Tryd.func4, Tryd.ntmps4
  go_wp2_with (go_at_call 5; refine hP.mono ?_; rintro e W1 ⟨rfl, hb1⟩)
  go_ret
  exact ⟨rfl, hb1⟩
set_option maxHeartbeats 2000000 in
set_option maxRecDepth 100000 in
theorem ksame_any (e : Int) (oa1 oa2 sa1 sa2 : Option Addr) (oc1 oc2 sc1 sc2 : Nat) (outs : List Int) (st : List (Nat × List Int)) (w : World) (h1 : IntsAt w oa1 outs) (h2 : IntsAt w oa2 outs) (h3 : StepsAt w sa1 st) (h4 : StepsAt w sa2 st) (hl : outs.length ≤ 3000) (hs : st.length ≤ 3000) (hv : ∀ s ∈ st, s.2.length ≤ 8) :
    Calls Tryd.prog 8 #[.agg #[.int .i64 e, .slice oa1 outs.length oc1, .slice sa1 st.length sc1], .agg #[.int .i64 e, .slice oa2 outs.length oc2, .slice sa2 st.length sc2]] w fun e w' => e = .returned (.bool true) ∧ Below w.heap.size w w' := by
  have HH : Hid (IntsAt w oa1 outs ∧ IntsAt w oa2 outs ∧ StepsAt w sa1 st ∧ StepsAt w sa2 st ∧ ∀ s ∈ st, s.2.length ≤ 8) := ⟨h1, h2, h3, h4, hv⟩
  clear h1 h2 h3 h4 hv
  go_enter Tryd.func8, Tryd.ntmps8
  go_wp2_with fail
  generalize hW2 : (w.alloc (.cells #[.int .i64 e, .slice oa1 outs.length oc1, .slice sa1 st.length sc1] 29)).alloc (.cells #[.int .i64 e, .slice oa2 outs.length oc2, .slice sa2 st.length sc2] 29) = W2
  have HB : Hid (Below w.heap.size w W2 ∧ W2.heap[w.heap.size]? = some (.cells #[.int .i64 e, .slice oa1 outs.length oc1, .slice sa1 st.length sc1] 29 (0, 0)) ∧ W2.heap[w.heap.size + 1]? = some (.cells #[.int .i64 e, .slice oa2 outs.length oc2, .slice sa2 st.length sc2] 29 (0, 0))) := by
    subst hW2
    exact ⟨((Below.refl _ _).alloc (Nat.le_refl _) _).alloc (by simp) _, (alloc2 w _ _).1, (alloc2 w _ _).2⟩
  clear hW2
  go_loopw [5] (fun i wr => ∃ k : Nat, k ≤ outs.length ∧ i = .int .i64 k ∧ Hid (Below W2.heap.size W2 wr)) (fun i _ => outs.length - (intOf i).toNat)
  case atStart => exact ⟨0, Nat.zero_le _, rfl, Below.refl _ _⟩
  case round =>
    obtain ⟨k, hk, rfl, HK⟩ := hrel
    obtain ⟨x1, x2⟩ := box_cells ((HK.out.block _ (Array.getElem?_eq_some_iff.1 HB.out.2.1).1).trans HB.out.2.1)
    obtain ⟨y1, y2⟩ := box_cells ((HK.out.block _ (Array.getElem?_eq_some_iff.1 HB.out.2.2).1).trans HB.out.2.2)
    have HW : Hid (Below w.heap.size w wr) := HB.out.1.trans (HK.out.mono HB.out.1.size)
    by_cases hlt : k < outs.length
    · have hlti : (k : Int) < (outs.length : Int) := by omega
      obtain ⟨x, hx⟩ : ∃ x, outs[k]? = some x := ⟨_, List.getElem?_eq_getElem hlt⟩
      obtain ⟨b1, o1, rfl, c1⟩ := (HH.out.1.below HW.out) k x hx
      obtain ⟨b2, o2, rfl, c2⟩ := (HH.out.2.1.below HW.out) k x hx
      have hxx : (x != x) = false := by simp
      clear hx
      go_wp2_with fail
      go_quiet (fail)
      go_wp2_with fail
      go_roundw
      case rel => exact ⟨k + 1, by omega, by go_num, below_drewN HK.out _⟩
      case measure => simp [intOf]; omega
    · have hlti : ¬ (k : Int) < (outs.length : Int) := by omega
      go_wp2_with fail
      clear x1 x2 y1 y2
      go_loopw [6] (fun i wx => ∃ k : Nat, k ≤ st.length ∧ i = .int .i64 k ∧ Hid (Below W2.heap.size W2 wx)) (fun i _ => st.length - (intOf i).toNat)
      case atStart => exact ⟨0, Nat.zero_le _, rfl, HK⟩
      case round =>
        clear HK HW hlti hlt hk
        obtain ⟨k, hk, rfl, HK⟩ := hrel
        obtain ⟨x1, x2⟩ := box_cells ((HK.out.block _ (Array.getElem?_eq_some_iff.1 HB.out.2.1).1).trans HB.out.2.1)
        obtain ⟨y1, y2⟩ := box_cells ((HK.out.block _ (Array.getElem?_eq_some_iff.1 HB.out.2.2).1).trans HB.out.2.2)
        have HW : Hid (Below w.heap.size w wr) := HB.out.1.trans (HK.out.mono HB.out.1.size)
        by_cases hlt : k < st.length
        · have hlti : (k : Int) < (st.length : Int) := by omega
          obtain ⟨s, hs1⟩ : ∃ s, st[k]? = some s := ⟨_, List.getElem?_eq_getElem hlt⟩
          obtain ⟨b1, o1, va1, vc1, rfl, c1, d1, i1⟩ := (HH.out.2.2.1.below HW.out) k s hs1
          obtain ⟨b2, o2, va2, vc2, rfl, c2, d2, i2⟩ := (HH.out.2.2.2.1.below HW.out) k s hs1
          have hs8 := HH.out.2.2.2.2 s (List.mem_of_getElem? hs1)
          have HI : Hid (IntsAt wr va1 s.2 ∧ IntsAt wr va2 s.2) := ⟨i1, i2⟩
          obtain ⟨sn, sv⟩ := s
          simp only at c1 c2 d1 d2 hs8 HI
          have n1 : b1 < wr.heap.size := cell_lt c1
          have n2 : b2 < wr.heap.size := cell_lt c2
          have hz2 : w.heap.size + 1 < wr.heap.size := by have := (Array.getElem?_eq_some_iff.1 HB.out.2.2).1; have := HK.out.size; omega
          have z0 : w.heap.size ≠ wr.heap.size := by omega
          have y0' : wr.heap.size ≠ w.heap.size := by omega
          have z1 : w.heap.size ≠ wr.heap.size + 1 := by omega
          have y1' : wr.heap.size + 1 ≠ w.heap.size := by omega
          have z2 : w.heap.size + 1 ≠ wr.heap.size := by omega
          have y2' : wr.heap.size ≠ w.heap.size + 1 := by omega
          have z3 : w.heap.size + 1 ≠ wr.heap.size + 1 := by omega
          have y3' : wr.heap.size + 1 ≠ w.heap.size + 1 := by omega
          have z4 : b1 ≠ wr.heap.size := by omega
          have y4' : wr.heap.size ≠ b1 := by omega
          have z5 : b1 ≠ wr.heap.size + 1 := by omega
          have y5' : wr.heap.size + 1 ≠ b1 := by omega
          have z6 : b2 ≠ wr.heap.size := by omega
          have y6' : wr.heap.size ≠ b2 := by omega
          have z7 : b2 ≠ wr.heap.size + 1 := by omega
          have y7' : wr.heap.size + 1 ≠ b2 := by omega
          have l1 : ((sn : Int) != (sn : Int)) = false := by simp
          have l2 : ((sv.length : Int) != (sv.length : Int)) = false := by simp
          clear i1 i2 hs1
          go_wp2_with fail
          generalize hW3 : (wr.alloc (.cells #[.int .i64 sn, .slice va1 sv.length vc1] 43)).alloc (.cells #[.int .i64 sn, .slice va2 sv.length vc2] 43) = W3
          have HB3 : Hid (Below wr.heap.size wr W3 ∧ W3.heap[wr.heap.size]? = some (.cells #[.int .i64 sn, .slice va1 sv.length vc1] 43 (0, 0)) ∧ W3.heap[wr.heap.size + 1]? = some (.cells #[.int .i64 sn, .slice va2 sv.length vc2] 43 (0, 0))) := by
            subst hW3
            exact ⟨((Below.refl _ _).alloc (Nat.le_refl _) _).alloc (by simp) _, (alloc2 wr _ _).1, (alloc2 wr _ _).2⟩
          obtain ⟨q1, hq1⟩ : ∃ q, q = wr.heap.size := ⟨_, rfl⟩
          rw [← hq1] at HB3 ⊢
          have HI3 : Hid (IntsAt W3 va1 sv ∧ IntsAt W3 va2 sv) := ⟨HI.out.1.below (hq1 ▸ HB3.out.1), HI.out.2.below (hq1 ▸ HB3.out.1)⟩
          have HL3 : Hid (Below W2.heap.size W2 W3) := HK.out.trans ((hq1 ▸ HB3.out.1 : Below wr.heap.size wr W3).mono HK.out.size)
          clear hW3 x1 x2 y1 y2 c1 c2 d1 d2 HI hq1 z0 y0' z1 y1' z2 y2' z3 y3' z4 y4' z5 y5' z6 y6' z7 y7'
          go_loopw [9] (fun i wx => ∃ j : Nat, j ≤ sv.length ∧ i = .int .i64 j ∧ Hid (Below W3.heap.size W3 wx)) (fun i _ => sv.length - (intOf i).toNat)
          case atStart => exact ⟨0, Nat.zero_le _, rfl, Below.refl _ _⟩
          case round =>
            obtain ⟨j, hj, rfl, HJ⟩ := hrel
            obtain ⟨x1, x2⟩ := box_cells ((HJ.out.block _ (Array.getElem?_eq_some_iff.1 HB3.out.2.1).1).trans HB3.out.2.1)
            obtain ⟨y1, y2⟩ := box_cells ((HJ.out.block _ (Array.getElem?_eq_some_iff.1 HB3.out.2.2).1).trans HB3.out.2.2)
            by_cases hjl : j < sv.length
            · have hji : (j : Int) < (sv.length : Int) := by omega
              obtain ⟨x, hx⟩ : ∃ x, sv[j]? = some x := ⟨_, List.getElem?_eq_getElem hjl⟩
              obtain ⟨e1, f1, rfl, c1⟩ := (HI3.out.1.below HJ.out) j x hx
              obtain ⟨e2, f2, rfl, c2⟩ := (HI3.out.2.below HJ.out) j x hx
              have hxx : (x != x) = false := by simp
              clear hx
              go_wp2_with fail
              go_quiet (fail)
              go_wp2_with fail
              go_roundw
              case rel => exact ⟨j + 1, by omega, by go_num, below_drewN HJ.out _⟩
              case measure => simp [intOf]; omega
            · have hji : ¬ (j : Int) < (sv.length : Int) := by omega
              go_wp2_with fail
              go_roundw
              case rel => exact ⟨k + 1, by omega, by go_num, HL3.out.trans (HJ.out.mono HL3.out.size)⟩
              case measure => simp [intOf]; omega
        · have hlti : ¬ (k : Int) < (st.length : Int) := by omega
          go_wp2_with fail
          go_ret
          exact ⟨rfl, HW.out⟩
end Go.Proofs.YtmipbiligijcpaaDoor
