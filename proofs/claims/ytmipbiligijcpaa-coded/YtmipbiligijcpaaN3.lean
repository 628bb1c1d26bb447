/- The program's reader: counts that are bounded, numbers, flags; also where something was wrong already. -/
import Derived.Test.YtmipbiligijcpaaN2
namespace Go.Proofs.Ytmipbiligijcpaa
set_option linter.unusedVariables false
set_option linter.unusedSimpArgs false
open Go.RowKit Go.Proofs Go.Maps

/-- what reading something answers: it, and the bytes behind it; or z, and the reader is bad -/
def RdA {α : Type} (w' : World) (rb : Nat) (s : ByteArray) (res : Option (α × List UInt8)) (val : α → Value) (z : Value) (e : Ending) : Prop :=
  (∃ a s', res = some (a, s'.data.toList) ∧ s'.size ≤ s.size ∧ e = .returned (val a) ∧ Rdr w' rb s' false) ∨ (res = none ∧ e = .returned z ∧ ∃ s', s'.size ≤ s.size ∧ Rdr w' rb s' true)
def ifG {α : Type} (bad : Bool) (p : List UInt8 → Option (α × List UInt8)) (s : ByteArray) : Option (α × List UInt8) := if bad then none else p s.data.toList
set_option maxHeartbeats 1000000 in
theorem pcount_any (rb : Nat) (s : ByteArray) (bad : Bool) (w : World) (h : Rdr w rb s bad) (hs : s.size ≤ 60000) :
    Calls Try.prog 71 #[.pointer (some ⟨rb, 0, none⟩)] w fun e w' => RdA w' rb s (ifG bad rc s) (fun n : Nat => .int .u64 (n : Int)) (.int .u64 0) e ∧ w.grownBy w' (some rb) := by
  cases bad with
  | false =>
    refine (pcount_ok rb s w h hs).mono ?_
    rintro e w' ⟨h1, h2⟩
    exact ⟨h1, h2⟩
  | true =>
    have HR := (show Hid (Rdr w rb s true) from h)
    clear h
    go_enter Try.func71, Try.ntmps71
    go_wp2_with fail
    go_loopw [3, 4] (fun nv sv wr => nv = .int .u64 0 ∧ sv = .int .i64 0 ∧ wr = w) (fun _ _ _ => 0)
    case atStart => exact ⟨rfl, rfl, rfl⟩
    case round =>
      obtain ⟨rfl, rfl, rfl⟩ := hrel
      go_wp2_with (go_at_call 55; refine (roctet_bad rb s true _ HR.out (Or.inl rfl)).mono ?_; rintro e W1 ⟨rfl, h1, g1⟩; obtain ⟨x1, x2⟩ := box_cells h1; have H1 := (show Hid _ from And.intro h1 g1); clear h1 g1)
      go_ret
      exact ⟨Or.inr ⟨rfl, rfl, s, Nat.le_refl _, H1.out.1⟩, H1.out.2⟩
/-- a count that is at most so much -/
def rsm (most : Int) (l : List UInt8) : Option (Nat × List UInt8) := match rc l with
  | some (n, r) => if (n : Int) ≤ most then some (n, r) else none
  | none => none
set_option maxHeartbeats 1000000 in
theorem psmall_any (rb : Nat) (s : ByteArray) (bad : Bool) (most : Int) (w : World) (h : Rdr w rb s bad) (hs : s.size ≤ 60000) (hm : I64 most) :
    Calls Try.prog 57 #[.pointer (some ⟨rb, 0, none⟩), .int .i64 most] w fun e w' => RdA w' rb s (ifG bad (rsm most) s) (fun n : Nat => .int .i64 (n : Int)) (.int .i64 0) e ∧ w.grownBy w' (some rb) := by
  obtain ⟨hm1, hm2⟩ := hm
  have hc := pcount_any rb s bad w h hs
  have HC := (show Hid _ from hc)
  clear h hc
  go_enter Try.func57, Try.ntmps57
  go_wp2_with fail
  refine Calls.mono HC.out ?_
  rintro e W1 ⟨h1, g1⟩
  rcases h1 with ⟨n, s', hres, hsz, rfl, hr⟩ | ⟨hres, rfl, s', hsz, hr⟩
  · have hn : n < 18446744073709551616 := by
      unfold ifG at hres
      cases bad with
      | true => cases hres
      | false => exact ((rc_iff _ _ _).1 hres).2
    obtain ⟨x1, x2⟩ := box_cells hr
    have H1 := (show Hid _ from And.intro hres (And.intro hr g1))
    have hp2 : Rdr (W1.setCell ⟨rb, 1, none⟩ (.bool true)) rb s' true ∧ W1.grownBy (W1.setCell ⟨rb, 1, none⟩ (.bool true)) (some rb) := ⟨rd_set hr _, grown_self _ _ _ _⟩
    have HP := (show Hid _ from hp2)
    clear hp2 hres hr g1
    by_cases hneg : most < 0
    · go_wp2_with fail
      go_ret
      refine ⟨Or.inr ⟨?_, rfl, s', hsz, HP.out.1⟩, H1.out.2.2.trans HP.out.2⟩
      have h2 := H1.out.1
      unfold ifG at h2 ⊢
      cases bad with
      | true => rfl
      | false =>
        simp only [Bool.false_eq_true, if_false] at h2 ⊢
        unfold rsm
        rw [h2]
        simp only
        rw [if_neg (by omega)]
    · obtain ⟨mn, rfl⟩ := Int.eq_ofNat_of_zero_le (show 0 ≤ most by omega)
      by_cases hle : n ≤ mn
      · have hle2 : ¬ ((mn : Int) < (n : Int)) := by omega
        have hn2 : n < 9223372036854775808 := by omega
        go_wp2_with fail
        go_ret
        refine ⟨Or.inl ⟨n, s', ?_, hsz, rfl, H1.out.2.1⟩, H1.out.2.2⟩
        have h2 := H1.out.1
        unfold ifG at h2 ⊢
        cases bad with
        | true => cases h2
        | false =>
          simp only [Bool.false_eq_true, if_false] at h2 ⊢
          unfold rsm
          rw [h2]
          simp only
          rw [if_pos (by omega)]
      · have hle2 : (mn : Int) < (n : Int) := by omega
        go_wp2_with fail
        go_ret
        refine ⟨Or.inr ⟨?_, rfl, s', hsz, HP.out.1⟩, H1.out.2.2.trans HP.out.2⟩
        have h2 := H1.out.1
        unfold ifG at h2 ⊢
        cases bad with
        | true => rfl
        | false =>
          simp only [Bool.false_eq_true, if_false] at h2 ⊢
          unfold rsm
          rw [h2]
          simp only
          rw [if_neg (by omega)]
  · obtain ⟨x1, x2⟩ := box_cells hr
    have HN : Hid (ifG bad (rsm most) s = none) := by
      show _ = _
      unfold ifG at hres ⊢
      cases bad with
      | true => rfl
      | false =>
        simp only [Bool.false_eq_true, if_false] at hres ⊢
        unfold rsm
        rw [hres]
    have H1 := (show Hid _ from And.intro hr g1)
    have hp2 : Rdr (W1.setCell ⟨rb, 1, none⟩ (.bool true)) rb s' true ∧ W1.grownBy (W1.setCell ⟨rb, 1, none⟩ (.bool true)) (some rb) := ⟨rd_set hr _, grown_self _ _ _ _⟩
    have HP := (show Hid _ from hp2)
    clear hp2 hres hr g1
    by_cases hneg : most < 0
    · go_wp2_with fail
      go_ret
      exact ⟨Or.inr ⟨HN.out, rfl, s', hsz, HP.out.1⟩, H1.out.2.trans HP.out.2⟩
    · obtain ⟨mn, rfl⟩ := Int.eq_ofNat_of_zero_le (show 0 ≤ most by omega)
      have hle2 : ¬ ((mn : Int) < 0) := by omega
      go_wp2_with fail
      go_ret
      exact ⟨Or.inr ⟨HN.out, rfl, s', hsz, H1.out.1⟩, H1.out.2⟩
end Go.Proofs.Ytmipbiligijcpaa
