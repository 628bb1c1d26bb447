/- The program's reader: numbers, flags, ranks. -/
import Derived.Test.YtmipbiligijcpaaN3
namespace Go.Proofs.Ytmipbiligijcpaa
set_option linter.unusedVariables false
set_option linter.unusedSimpArgs false
open Go.RowKit Go.Proofs Go.Maps

def roct (l : List UInt8) : Option (UInt8 × List UInt8) := match l with
  | b :: r => some (b, r)
  | [] => none
theorem poctet_any (rb : Nat) (s : ByteArray) (bad : Bool) (w : World) (h : Rdr w rb s bad) (hs : s.size ≤ 60000) :
    Calls Try.prog 55 #[.pointer (some ⟨rb, 0, none⟩)] w fun e w' => RdA w' rb s (ifG bad roct s) (fun b : UInt8 => .int .u8 (b.toNat : Int)) (.int .u8 0) e ∧ w.grownBy w' (some rb) := by
  by_cases h0 : bad = true ∨ s.size = 0
  · refine (roctet_bad rb s bad w h h0).mono ?_
    rintro e w' ⟨rfl, h1, h2⟩
    refine ⟨Or.inr ⟨?_, rfl, s, Nat.le_refl _, h1⟩, h2⟩
    unfold ifG
    cases bad with
    | true => rfl
    | false =>
      have he : s.data.toList = [] := List.length_eq_zero_iff.1 (show s.size = 0 by rcases h0 with h | h; cases h; exact h)
      rw [he]; rfl
  · have hb : bad = false := by cases bad <;> simp_all
    subst hb
    have hpos : 0 < s.size := by omega
    refine (roctet_ok rb s w h hpos hs).mono ?_
    rintro e w' ⟨rfl, h1, h2⟩
    refine ⟨Or.inl ⟨s[0], s.extract 1 s.size, ?_, by simp, rfl, h1⟩, h2⟩
    unfold ifG
    rw [str_cons hpos]; rfl
def rflag (l : List UInt8) : Option (Bool × List UInt8) := match l with
  | b :: r => if b.toNat ≤ 1 then some (decide (b.toNat = 1), r) else none
  | [] => none
set_option maxHeartbeats 1000000 in
theorem pflag_any (rb : Nat) (s : ByteArray) (bad : Bool) (w : World) (h : Rdr w rb s bad) (hs : s.size ≤ 60000) :
    Calls Try.prog 73 #[.pointer (some ⟨rb, 0, none⟩)] w fun e w' => RdA w' rb s (ifG bad rflag s) (fun b : Bool => .bool b) (.bool false) e ∧ w.grownBy w' (some rb) := by
  have hc := poctet_any rb s bad w h hs
  have HC := (show Hid _ from hc)
  clear h hc
  go_enter Try.func73, Try.ntmps73
  go_wp2_with fail
  refine Calls.mono HC.out ?_
  rintro e W1 ⟨h1, g1⟩
  rcases h1 with ⟨b, s', hres, hsz, rfl, hr⟩ | ⟨hres, rfl, s', hsz, hr⟩
  · obtain ⟨x1, x2⟩ := box_cells hr
    have hb256 := UInt8.toNat_lt b
    have hres2 : bad = false ∧ s.data.toList = b :: s'.data.toList := by
      unfold ifG roct at hres
      cases bad with
      | true => cases hres
      | false =>
        refine ⟨rfl, ?_⟩
        simp only [Bool.false_eq_true, if_false] at hres
        split at hres
        · rename_i b2 r2 he
          simp at hres
          rw [he, hres.1, hres.2]
        · cases hres
    obtain ⟨rfl, hl⟩ := hres2
    have H1 := (show Hid _ from And.intro hl (And.intro hr g1))
    clear hl hr g1 hres
    by_cases hle : b.toNat ≤ 1
    · have hle2 : decide (1 < (b.toNat : Int)) = false := by rw [decide_eq_false_iff_not]; omega
      go_wp2_with fail
      go_ret
      refine ⟨Or.inl ⟨decide (b.toNat = 1), s', ?_, hsz, ?_, ?_⟩, H1.out.2.2.trans (grown_self _ _ _ _)⟩
      · unfold ifG rflag
        rw [H1.out.1]
        simp [hle]
      · show Ending.returned (.bool _) = _
        exact ret_bool (by rw [Bool.eq_iff_iff]; simp; omega)
      · exact rd_set H1.out.2.1 _
    · have hle2 : decide (1 < (b.toNat : Int)) = true := by rw [decide_eq_true_eq]; omega
      have hle3 : ((b.toNat : Int) == 1) = false := by rw [beq_eq_false_iff_ne]; omega
      go_wp2_with fail
      go_ret
      refine ⟨Or.inr ⟨?_, rfl, s', hsz, rd_set H1.out.2.1 _⟩, H1.out.2.2.trans (grown_self _ _ _ _)⟩
      unfold ifG rflag
      rw [H1.out.1]
      simp [hle]
  · obtain ⟨x1, x2⟩ := box_cells hr
    have HN : Hid (ifG bad rflag s = none) := by
      show _ = _
      unfold ifG at hres ⊢
      cases bad with
      | true => rfl
      | false =>
        simp only [Bool.false_eq_true, if_false] at hres ⊢
        cases hl : s.data.toList with
        | nil => rfl
        | cons a r => rw [hl] at hres; simp [roct] at hres
    have H1 := (show Hid _ from And.intro hr g1)
    clear hr g1 hres
    go_wp2_with fail
    go_ret
    exact ⟨Or.inr ⟨HN.out, rfl, s', hsz, rd_set H1.out.1 _⟩, H1.out.2.trans (grown_self _ _ _ _)⟩
def unz (n : Nat) : Int := if n % 2 = 0 then ((n / 2 : Nat) : Int) else -((n / 2 : Nat) : Int) - 1
def rnum (l : List UInt8) : Option (Int × List UInt8) := match rc l with
  | some (n, r) => some (unz n, r)
  | none => none
set_option maxHeartbeats 1000000 in
theorem pnumber_any (rb : Nat) (s : ByteArray) (bad : Bool) (w : World) (h : Rdr w rb s bad) (hs : s.size ≤ 60000) :
    Calls Try.prog 87 #[.pointer (some ⟨rb, 0, none⟩)] w fun e w' => RdA w' rb s (ifG bad rnum s) (fun x : Int => .int .i64 x) (.int .i64 0) e ∧ w.grownBy w' (some rb) := by
  have hc := pcount_any rb s bad w h hs
  have HC := (show Hid _ from hc)
  clear h hc
  go_enter Try.func87, Try.ntmps87
  go_wp2_with fail
  refine Calls.mono HC.out ?_
  rintro e W1 ⟨h1, g1⟩
  rcases h1 with ⟨n, s', hres, hsz, rfl, hr⟩ | ⟨hres, rfl, s', hsz, hr⟩
  · have hn : n < 18446744073709551616 := by
      unfold ifG at hres
      cases bad with
      | true => cases hres
      | false => exact ((rc_iff _ _ _).1 hres).2
    have HN : Hid (ifG bad rnum s = some (unz n, s'.data.toList)) := by
      show _ = _
      unfold ifG at hres ⊢
      cases bad with
      | true => cases hres
      | false =>
        simp only [Bool.false_eq_true, if_false] at hres ⊢
        unfold rnum
        rw [hres]
    have H1 := (show Hid _ from And.intro hr g1)
    clear hres hr g1
    obtain ⟨q, hq, hqi⟩ : ∃ q : Nat, q = n / 2 ∧ (n : Int) / 2 = (q : Int) := ⟨n / 2, rfl, by omega⟩
    have hq63 : q < 9223372036854775808 := by omega
    by_cases h2 : n % 2 = 0
    · have h2i : ((n : Int) % 2 == 0) = true := by rw [beq_iff_eq]; omega
      have HU : Hid (unz n = (q : Int)) := by show _ = _; unfold unz; rw [if_pos h2, hq]
      clear h2 hq
      go_wp2_with fail
      go_ret
      exact ⟨Or.inl ⟨unz n, s', HN.out, hsz, by rw [HU.out]; rfl, H1.out.1⟩, H1.out.2⟩
    · have h2i : ((n : Int) % 2 == 0) = false := by rw [beq_eq_false_iff_ne]; omega
      have HU : Hid (unz n = -(q : Int) - 1) := by show _ = _; unfold unz; rw [if_neg h2, hq]
      clear h2 hq
      go_wp2_with fail
      go_ret
      exact ⟨Or.inl ⟨unz n, s', HN.out, hsz, by rw [HU.out]; rfl, H1.out.1⟩, H1.out.2⟩
  · have HN : Hid (ifG bad rnum s = none) := by
      show _ = _
      unfold ifG at hres ⊢
      cases bad with
      | true => rfl
      | false =>
        simp only [Bool.false_eq_true, if_false] at hres ⊢
        unfold rnum
        rw [hres]
    have H1 := (show Hid _ from And.intro hr g1)
    clear hr g1 hres
    go_wp2_with fail
    go_ret
    exact ⟨Or.inr ⟨HN.out, rfl, s', hsz, H1.out.1⟩, H1.out.2⟩
theorem prank_any (rb : Nat) (s : ByteArray) (bad : Bool) (w : World) (h : Rdr w rb s bad) (hs : s.size ≤ 60000) :
    Calls Try.prog 81 #[.pointer (some ⟨rb, 0, none⟩)] w fun e w' => RdA w' rb s (ifG bad (rsm 100000) s) (fun n : Nat => .int .i64 (n : Int)) (.int .i64 0) e ∧ w.grownBy w' (some rb) := by
  have hc := psmall_any rb s bad 100000 w h hs ⟨by omega, by omega⟩
  have HC := (show Hid _ from hc)
  clear h hc
  go_enter Try.func81, Try.ntmps81
  go_wp2_with fail
  refine Calls.mono HC.out ?_
  rintro e W1 ⟨h1, g1⟩
  rcases h1 with ⟨n, s', hres, hsz, rfl, hr⟩ | ⟨hres, rfl, s', hsz, hr⟩
  · have H1 := (show Hid _ from And.intro hres (And.intro hr g1))
    clear hres hr g1
    go_wp2_with fail
    go_ret
    exact ⟨Or.inl ⟨n, s', H1.out.1, hsz, rfl, H1.out.2.1⟩, H1.out.2.2⟩
  · have H1 := (show Hid _ from And.intro hres (And.intro hr g1))
    clear hres hr g1
    go_wp2_with fail
    go_ret
    exact ⟨Or.inr ⟨H1.out.1, rfl, s', hsz, H1.out.2.1⟩, H1.out.2.2⟩
end Go.Proofs.Ytmipbiligijcpaa
