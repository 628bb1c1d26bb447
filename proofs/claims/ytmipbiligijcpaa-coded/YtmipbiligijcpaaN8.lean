/- The program's reader: sets. -/
import Derived.Test.YtmipbiligijcpaaN7
import Derived.Test.YtmipbiligijcpaaN5
import Derived.Deep.RegionHeld3
namespace Go.Proofs.Ytmipbiligijcpaa
set_option linter.unusedVariables false
set_option linter.unusedSimpArgs false
open Go.RowKit Go.Proofs Go.Maps

theorem wrap_in (x : Int) (h : I64 x) : IntKind.i64.wrap x = x := by
  obtain ⟨h1, h2⟩ := h
  simp [IntKind.wrap, IntKind.bits, IntKind.signed]
  omega
/-- one fact, behind the last -/
def stepF (fl : Nat) (l : List UInt8) : Option ((Int × Nat) × List UInt8) := match rsm (100000 - (fl : Int)) l with
  | some (n, r) => some ((((fl + n : Nat) : Int), fl + n + 1), r)
  | none => none
def InvX (xb rb : Nat) (W : World) : Prop := W.heap[xb]? = some (.cells #[.pointer (some ⟨rb, 0, none⟩)] 102 (0, 0))
def InvF (fb xb rb : Nat) (W : World) (fl : Nat) : Prop := W.heap[fb]? = some (.cells #[.int .i64 (fl : Int)] 3 (0, 0)) ∧ InvX xb rb W ∧ fl ≤ 100001
def InvG (fb xb rb : Nat) (W : World) : Prop := (∃ v : Int, W.heap[fb]? = some (.cells #[.int .i64 v] 3 (0, 0))) ∧ InvX xb rb W
/-- a reading, whether it is good or bad -/
def SmK (s : ByteArray) (bad : Bool) (most : Int) (n : Nat) (s' : ByteArray) (b : Bool) : Prop := s'.size ≤ s.size ∧ ((b = false ∧ ifG bad (rsm most) s = some (n, s'.data.toList) ∧ (n : Int) ≤ most) ∨ (b = true ∧ ifG bad (rsm most) s = none ∧ n = 0))
theorem rsm_le {most : Int} {l r : List UInt8} {n : Nat} (h : rsm most l = some (n, r)) : (n : Int) ≤ most := by
  unfold rsm at h
  cases hc : rc l with
  | none => rw [hc] at h; cases h
  | some p =>
    obtain ⟨m, q⟩ := p
    rw [hc] at h
    simp only at h
    by_cases hm : (m : Int) ≤ most
    · rw [if_pos hm] at h; cases h; exact hm
    · rw [if_neg hm] at h; cases h
theorem psmall_one (rb : Nat) (s : ByteArray) (bad : Bool) (most : Int) (w : World) (h : Rdr w rb s bad) (hs : s.size ≤ 60000) (hm : I64 most) :
    Calls Try.prog 57 #[.pointer (some ⟨rb, 0, none⟩), .int .i64 most] w fun e w' => ∃ (n : Nat) (s' : ByteArray) (b : Bool), e = .returned (.int .i64 (n : Int)) ∧ SmK s bad most n s' b ∧ Rdr w' rb s' b ∧ w.grownBy w' (some rb) := by
  refine (psmall_any rb s bad most w h hs hm).mono ?_
  rintro e w' ⟨h1, g⟩
  rcases h1 with ⟨n, s', hres, hsz, rfl, hr⟩ | ⟨hres, rfl, s', hsz, hr⟩
  · refine ⟨n, s', false, rfl, ⟨hsz, Or.inl ⟨rfl, hres, ?_⟩⟩, hr, g⟩
    unfold ifG at hres
    cases bad with
    | true => cases hres
    | false => exact rsm_le hres
  · exact ⟨0, s', true, rfl, ⟨hsz, Or.inr ⟨rfl, hres, rfl⟩⟩, hr, g⟩
set_option maxHeartbeats 1000000 in
theorem pset1_any (fb xb rb : Nat) (hf : fb ≠ rb) (hx : xb ≠ rb) (hfx : fb ≠ xb) (W : World) (fl : Nat) (s : ByteArray) (bad : Bool) (hI : InvF fb xb rb W fl) (h : Rdr W rb s bad) (hs : s.size ≤ 60000) :
    Calls Try.prog 80 #[.pointer (some ⟨fb, 0, none⟩), .pointer (some ⟨xb, 0, none⟩)] W fun e W' => OneA W' rb s (ifG bad (stepF fl) s) (fun x : Int => .int .i64 x) (fun z => ∃ x, z = .int .i64 x) (InvF fb xb rb) (InvG fb xb rb) e ∧ Fr (fun j => j ≠ rb ∧ ¬ (j = fb ∨ j = xb)) W W' := by
  obtain ⟨i1, i2, i3⟩ := hI
  have hwr : IntKind.i64.wrap (100000 - (fl : Int)) = 100000 - (fl : Int) := by simp [IntKind.wrap, IntKind.bits, IntKind.signed]; omega
  have hc := psmall_one rb s bad (IntKind.i64.wrap (100000 - (fl : Int))) W.drew h hs (by rw [hwr]; exact ⟨by omega, by omega⟩)
  have HW := (show Hid _ from hwr)
  clear hwr
  obtain ⟨x1, x2⟩ := box_cells i1
  obtain ⟨y1, y2⟩ := box_cells i2
  have HC := (show Hid _ from And.intro hc (And.intro i1 i2))
  clear hc i1 i2 h
  go_enter Try.func80, Try.ntmps80
  go_wp2_with fail
  go_region_held3 (fun w' => w'.cell? ⟨fb, 0, none⟩ = some (.int .i64 (fl : Int)) ∧ w'.cell? ⟨xb, 0, none⟩ = some (.pointer (some ⟨rb, 0, none⟩))) (go_keep) ((go_at_call 57; refine Calls.mono HC.out.1 ?_; rintro e W1 ⟨n, s1, b1, rfl, hk, hr, g⟩; have hfb := (g.block fb (Array.getElem?_eq_some_iff.1 HC.out.2.1).1 (by simpa using hf)).trans HC.out.2.1; have hxb := (g.block xb (Array.getElem?_eq_some_iff.1 HC.out.2.2).1 (by simpa using hx)).trans HC.out.2.2; obtain ⟨x3, x4⟩ := box_cells hfb; obtain ⟨y3, y4⟩ := box_cells hxb; have hn : n ≤ 100001 := (by rw [HW.out] at hk; rcases hk.2 with ⟨_, _, q⟩ | ⟨_, _, q⟩ <;> omega); have HK := (show Hid _ from And.intro hk (And.intro hr (And.intro g (And.intro hfb hxb)))); clear hk hr g hfb hxb))
  go_wp2_with fail
  go_ret
  have hst : ∀ v, (W1.setCell ⟨fb, 0, none⟩ v).heap[fb]? = some (.cells #[v] 3 (0, 0)) ∧ InvX xb rb (W1.setCell ⟨fb, 0, none⟩ v) ∧ Rdr (W1.setCell ⟨fb, 0, none⟩ v) rb s1 b1 ∧ Fr (fun j => j ≠ rb ∧ ¬ (j = fb ∨ j = xb)) W (W1.setCell ⟨fb, 0, none⟩ v) := by
    intro v
    obtain ⟨_, k2, k3, k4, k5⟩ := HK.out
    have hg := grown_self W1 fb 0 v
    exact ⟨rd_set k4 v, (hg.block xb (Array.getElem?_eq_some_iff.1 k5).1 (by simpa using fun e => hfx e.symm)).trans k5, k2.grown hg (by simpa using fun e => hf e.symm), Fr.trans (Fr.trans (Fr.of_below (P := fun j => j ≠ rb ∧ ¬ (j = fb ∨ j = xb)) (Below.refl W.heap.size W).drew) (Fr.of_grown (P := fun j => j ≠ rb ∧ ¬ (j = fb ∨ j = xb)) k3 (fun k _ hp => by simpa using hp.1)) (fun _ _ hp => hp)) (Fr.of_grown hg (fun k _ hp => by simpa using fun e => hp.2 (Or.inl e))) (fun _ _ hp => hp)⟩
  refine ⟨?_, (hst _).2.2.2⟩
  have k := HK.out.1
  rw [HW.out] at k
  obtain ⟨k0, k1⟩ := k
  rcases k1 with ⟨hb, hres, hle⟩ | ⟨hb, hres, hn0⟩
  · subst hb
    refine Or.inl ⟨((fl + n : Nat) : Int), fl + n + 1, s1, ?_, k0, by simp [wrap_in (fl + n) (show I64 _ from ⟨by omega, by omega⟩)], (hst _).2.2.1, ?_, (hst _).2.1, by omega⟩
    · unfold ifG at hres ⊢
      cases bad with
      | true => cases hres
      | false =>
        simp only [Bool.false_eq_true, if_false] at hres ⊢
        unfold stepF
        rw [hres]
    · rw [(hst _).1]; push_cast; rfl
  · subst hb
    refine Or.inr ⟨?_, _, s1, ⟨_, rfl⟩, rfl, k0, (hst _).2.2.1, ⟨_, (hst _).1⟩, (hst _).2.1⟩
    unfold ifG at hres ⊢
    cases bad with
    | true => rfl
    | false =>
      simp only [Bool.false_eq_true, if_false] at hres ⊢
      unfold stepF
      rw [hres]
end Go.Proofs.Ytmipbiligijcpaa
