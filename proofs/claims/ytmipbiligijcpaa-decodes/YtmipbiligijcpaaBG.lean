/- The book of nodes' lists reads as its owner wrote it: looks, large. -/
import Derived.Test.YtmipbiligijcpaaBF
namespace Go.Proofs.Ytmipbiligijcpaa
set_option linter.unusedVariables false
set_option linter.unusedSimpArgs false
open Go.RowKit Go.Proofs Go.Maps

theorem add000 (b k : Nat) : (⟨b, 0, none⟩ : Addr).add k = ⟨b, k, none⟩ := by unfold Addr.add; split <;> simp_all
/-- one list of the book, as it is read -/
theorem row_one {W : World} {B e n cap : Nat} {ao : Option Addr} {xs : List Value} (h : W.ownsRow B e 1 (.slice ao n cap) xs.length xs) {i : Nat} {v : Value} (hv : xs[i]? = some v) : ∃ g, ao = some ⟨g, 0, none⟩ ∧ W.cell? ⟨g, i, none⟩ = some v := by
  have hi := (List.getElem?_eq_some_iff.1 hv).1
  rcases h.2 with ⟨_, e⟩ | ⟨g, cap', cur, e, _⟩
  · omega
  · cases e
    have h1 := h.cells (g := g) rfl i v hv
    rw [add000] at h1
    exact ⟨g, rfl, h1⟩
theorem tdiv4 (k : Nat) : (k : Int).tdiv 4 = ((k / 4 : Nat) : Int) := by
  rw [Int.tdiv_eq_ediv_of_nonneg (by omega)]; omega
theorem wrap4 (k : Nat) (h : k ≤ 100000) : wrap64 ((k / 4 : Nat) : Int) = ((k / 4 : Nat) : Int) ∧ wrap64 (-7 - ((k / 4 : Nat) : Int)) = -7 - ((k / 4 : Nat) : Int) := by
  unfold wrap64
  omega
set_option maxHeartbeats 4000000 in
set_option maxRecDepth 100000 in
theorem nlarge_any (bb B : Nat) (l1a l4a l5a : Option Addr) (l1c l4c l5c : Nat) (wn rn : Value) (s1 s4 s5 : List Value) (w : World) (hK : BN w bb B (.slice l1a s1.length l1c) (.slice l4a s4.length l4c) (.slice l5a s5.length l5c) wn rn s1 s4 s5) (hL : s5.length ≤ 100000) :
    Calls Try.prog 21 #[.pointer (some ⟨bb, 0, none⟩)] w fun e w' => e = .returned (.bool true) ∧ Below w.heap.size w w' := by
  have HH : Hid (BN w bb B (.slice l1a s1.length l1c) (.slice l4a s4.length l4c) (.slice l5a s5.length l5c) wn rn s1 s4 s5) := hK
  clear hK
  go_enter Try.func21, Try.ntmps21
  go_wp2_with fail
  go_loopw [3] (fun i wi => i = .int .i64 0 ∧ Hid (Below w.heap.size w wi)) (fun _ _ => 0)
  case atStart => exact ⟨rfl, Below.refl _ _⟩
  case round =>
    obtain ⟨rfl, HZ⟩ := hrel
    obtain ⟨z1, z2⟩ := box_cells (HH.out.below HZ.out).box
    simp only [bookC] at z1
    go_wp2_with fail
    clear z1 z2
    go_loopw [5] (fun i wr => ∃ k : Nat, k ≤ s5.length ∧ i = .int .i64 k ∧ Hid (Below w.heap.size w wr)) (fun i _ => s5.length - (intOf i).toNat)
    case atStart => exact ⟨0, Nat.zero_le _, rfl, HZ⟩
    case round =>
      obtain ⟨k, hk, rfl, HK⟩ := hrel
      obtain ⟨x1, x2⟩ := box_cells (HH.out.below HK.out).box
      simp only [bookC] at x1
      by_cases hlt : k < s5.length
      · have hlti : (k : Int) < (s5.length : Int) := by omega
        go_wp2_with fail
        obtain ⟨v, hv⟩ : ∃ v, s5[k]? = some v := ⟨_, List.getElem?_eq_getElem hlt⟩
        obtain ⟨ao, n, c, rfl, hmx, hfo⟩ := (HH.out.m5 k v hv).form
        have HV : Hid (s5[k]? = some (.slice ao n c)) := hv
        clear hv hmx hfo x1 x2
        go_loopw [6] (fun i wi => ∃ j : Nat, j ≤ n ∧ i = .int .i64 j ∧ Hid (Below w.heap.size w wi)) (fun i _ => n - (intOf i).toNat)
        case atStart => exact ⟨0, Nat.zero_le _, rfl, HK⟩
        case round =>
          obtain ⟨j, hj, rfl, HJ⟩ := hrel
          have hbk := HH.out.below HJ.out
          obtain ⟨y1, y2⟩ := box_cells hbk.box
          simp only [bookC] at y1
          obtain ⟨g, rfl, c1⟩ := row_one hbk.r5 HV.out
          obtain ⟨ao', n', c', e0, hmx, hfo⟩ := (hbk.m5 k _ HV.out).form
          cases e0
          have hmx2 : n ≤ 9223372036854775807 := hmx
          clear hbk hmx
          by_cases hjt : j < n
          · have hjti : (j : Int) < (n : Int) := by omega
            obtain ⟨b, rfl, d1⟩ := hfo j 0 _ hjt rfl
            obtain ⟨b', e1, d2⟩ := hfo j 3 _ hjt rfl
            cases e1
            simp only [List.length_cons, List.length_nil, Nat.zero_add, Nat.add_zero] at d1 d2
            have t1 := tdiv4 k
            obtain ⟨t2, t3⟩ := wrap4 k (by omega)
            have t4 : ((-7 - ((k / 4 : Nat) : Int)) != (-7 - ((k / 4 : Nat) : Int))) = false := by simp
            clear hfo
            go_wp2_with fail
            clear t1 t2 t3 t4
            exact ⟨⟨j + 1, by omega, rfl, HJ⟩, by simp only [intOf]; omega⟩
          · have hjti : ¬ (j : Int) < (n : Int) := by omega
            clear hfo
            go_wp2_with fail
            exact ⟨⟨k + 1, by omega, rfl, HJ⟩, by simp only [intOf]; omega⟩
      · have hlti : ¬ (k : Int) < (s5.length : Int) := by omega
        go_wp2_with fail
        clear x1 x2
        go_ret
        exact ⟨rfl, HK.out⟩
set_option maxHeartbeats 4000000 in
set_option maxRecDepth 100000 in
theorem nlooks_any (bb B : Nat) (l1a l4a l5a : Option Addr) (l1c l4c l5c : Nat) (wn rn : Value) (s1 s4 s5 : List Value) (w : World) (hK : BN w bb B (.slice l1a s1.length l1c) (.slice l4a s4.length l4c) (.slice l5a s5.length l5c) wn rn s1 s4 s5) (hL1 : s1.length ≤ 100000) (hL4 : s4.length ≤ 100000) (hL5 : s5.length ≤ 100000) :
    Calls Try.prog 9 #[.pointer (some ⟨bb, 0, none⟩)] w fun e w' => e = .returned (.bool true) ∧ Below w.heap.size w w' := by
  have HH : Hid (BN w bb B (.slice l1a s1.length l1c) (.slice l4a s4.length l4c) (.slice l5a s5.length l5c) wn rn s1 s4 s5) := hK
  clear hK
  go_enter Try.func9, Try.ntmps9
  go_wp2_with fail
  go_loopw [3] (fun i wr => ∃ k : Nat, k ≤ s1.length ∧ i = .int .i64 k ∧ Hid (Below w.heap.size w wr)) (fun i _ => s1.length - (intOf i).toNat)
  case atStart => exact ⟨0, Nat.zero_le _, rfl, Below.refl _ _⟩
  case round =>
    obtain ⟨k, hk, rfl, HK⟩ := hrel
    obtain ⟨x1, x2⟩ := box_cells (HH.out.below HK.out).box
    simp only [bookC] at x1
    by_cases hlt : k < s1.length
    · have hlti : (k : Int) < (s1.length : Int) := by omega
      go_wp2_with fail
      obtain ⟨v, hv⟩ : ∃ v, s1[k]? = some v := ⟨_, List.getElem?_eq_getElem hlt⟩
      obtain ⟨ao, n, c, rfl, hmx, hfo⟩ := (HH.out.m1 k v hv).form
      have HV : Hid (s1[k]? = some (.slice ao n c)) := hv
      clear hv hmx hfo x1 x2
      go_loopw [4] (fun i wi => ∃ j : Nat, j ≤ n ∧ i = .int .i64 j ∧ Hid (Below w.heap.size w wi)) (fun i _ => n - (intOf i).toNat)
      case atStart => exact ⟨0, Nat.zero_le _, rfl, HK⟩
      case round =>
        obtain ⟨j, hj, rfl, HJ⟩ := hrel
        have hbk := HH.out.below HJ.out
        obtain ⟨y1, y2⟩ := box_cells hbk.box
        simp only [bookC] at y1
        obtain ⟨g, rfl, c1⟩ := row_one hbk.r1 HV.out
        obtain ⟨ao', n', c', e0, hmx, hfo⟩ := (hbk.m1 k _ HV.out).form
        cases e0
        have hmx2 : n ≤ 9223372036854775807 := hmx
        clear hbk hmx
        by_cases hjt : j < n
        · have hjti : (j : Int) < (n : Int) := by omega
          obtain ⟨b, rfl, d1⟩ := hfo j 0 _ hjt rfl
          simp only [List.length_cons, List.length_nil, Nat.zero_add, Nat.add_zero, Nat.mul_one] at d1
          have t1 := tdiv4 k
          obtain ⟨t2, t3⟩ := wrap4 k (by omega)
          have t4 : ((-7 - ((k / 4 : Nat) : Int)) != (-7 - ((k / 4 : Nat) : Int))) = false := by simp
          clear hfo
          go_wp2_with fail
          clear t1 t2 t3 t4
          exact ⟨⟨j + 1, by omega, rfl, HJ⟩, by simp only [intOf]; omega⟩
        · have hjti : ¬ (j : Int) < (n : Int) := by omega
          clear hfo
          go_wp2_with fail
          exact ⟨⟨k + 1, by omega, rfl, HJ⟩, by simp only [intOf]; omega⟩
    · have hlti : ¬ (k : Int) < (s1.length : Int) := by omega
      go_wp2_with fail
      clear x1 x2
      go_loopw [5] (fun i wi => i = .int .i64 0 ∧ Hid (Below w.heap.size w wi)) (fun _ _ => 0)
      case atStart => exact ⟨rfl, HK⟩
      case round =>
        obtain ⟨rfl, HZ⟩ := hrel
        obtain ⟨z1, z2⟩ := box_cells (HH.out.below HZ.out).box
        simp only [bookC] at z1
        go_wp2_with fail
        clear z1 z2
        go_loopw [7] (fun i wr => ∃ k : Nat, k ≤ s4.length ∧ i = .int .i64 k ∧ Hid (Below w.heap.size w wr)) (fun i _ => s4.length - (intOf i).toNat)
        case atStart => exact ⟨0, Nat.zero_le _, rfl, HZ⟩
        case round =>
          obtain ⟨k, hk, rfl, HK⟩ := hrel
          obtain ⟨x1, x2⟩ := box_cells (HH.out.below HK.out).box
          simp only [bookC] at x1
          by_cases hlt : k < s4.length
          · have hlti : (k : Int) < (s4.length : Int) := by omega
            go_wp2_with fail
            obtain ⟨v, hv⟩ : ∃ v, s4[k]? = some v := ⟨_, List.getElem?_eq_getElem hlt⟩
            obtain ⟨ao, n, c, rfl, hmx, hfo⟩ := (HH.out.m4 k v hv).form
            have HV : Hid (s4[k]? = some (.slice ao n c)) := hv
            clear hv hmx hfo x1 x2
            go_loopw [8] (fun i wi => ∃ j : Nat, j ≤ n ∧ i = .int .i64 j ∧ Hid (Below w.heap.size w wi)) (fun i _ => n - (intOf i).toNat)
            case atStart => exact ⟨0, Nat.zero_le _, rfl, HK⟩
            case round =>
              obtain ⟨j, hj, rfl, HJ⟩ := hrel
              have hbk := HH.out.below HJ.out
              obtain ⟨y1, y2⟩ := box_cells hbk.box
              simp only [bookC] at y1
              obtain ⟨g, rfl, c1⟩ := row_one hbk.r4 HV.out
              obtain ⟨ao', n', c', e0, hmx, hfo⟩ := (hbk.m4 k _ HV.out).form
              cases e0
              have hmx2 : n ≤ 9223372036854775807 := hmx
              clear hbk hmx
              by_cases hjt : j < n
              · have hjti : (j : Int) < (n : Int) := by omega
                obtain ⟨b, rfl, d0⟩ := hfo j 0 _ hjt rfl
                obtain ⟨b', e1, d1⟩ := hfo j 1 _ hjt rfl
                cases e1
                obtain ⟨b', e1, d2⟩ := hfo j 2 _ hjt rfl
                cases e1
                obtain ⟨b', e1, d3⟩ := hfo j 3 _ hjt rfl
                cases e1
                obtain ⟨b', e1, d4⟩ := hfo j 4 _ hjt rfl
                cases e1
                obtain ⟨b', e1, d5⟩ := hfo j 5 _ hjt rfl
                cases e1
                simp only [List.length_cons, List.length_nil, Nat.zero_add, Nat.add_zero] at d0 d1 d2 d3 d4 d5
                have t1 := tdiv4 k
                obtain ⟨t2, t3⟩ := wrap4 k (by omega)
                have t4 : ((-7 - ((k / 4 : Nat) : Int)) != (-7 - ((k / 4 : Nat) : Int))) = false := by simp
                clear hfo
                go_wp2_with fail
                clear t1 t2 t3 t4
                exact ⟨⟨j + 1, by omega, rfl, HJ⟩, by simp only [intOf]; omega⟩
              · have hjti : ¬ (j : Int) < (n : Int) := by omega
                clear hfo
                go_wp2_with fail
                exact ⟨⟨k + 1, by omega, rfl, HJ⟩, by simp only [intOf]; omega⟩
          · have hlti : ¬ (k : Int) < (s4.length : Int) := by omega
            go_wp2_with fail
            clear x1 x2
            refine (nlarge_any bb B l1a l4a l5a l1c l4c l5c wn rn s1 s4 s5 _ (HH.out.below HK.out) hL5).mono ?_
            rintro e W9 ⟨rfl, hb9⟩
            have H9 : Hid (Below w.heap.size w W9) := below_trans HK.out hb9
            clear hb9
            go_wp2_with fail
            go_ret
            exact ⟨rfl, H9.out⟩
end Go.Proofs.Ytmipbiligijcpaa
