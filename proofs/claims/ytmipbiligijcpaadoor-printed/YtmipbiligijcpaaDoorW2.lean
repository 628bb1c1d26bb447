/- A part of the proof: contracts of functions of the program. -/
import Derived.Test.YtmipbiligijcpaaDoorW1
import Derived.Test.YtmipbiligijcpaaDoorC
import Derived.Test.YtmipbiligijcpaaDoorShelf
namespace Go.Proofs.YtmipbiligijcpaaDoor
set_option linter.unusedVariables false
set_option linter.unusedSimpArgs false
open Go.RowKit Go.Proofs

theorem cutPrefix_D (s p : ByteArray) (w : World) :
    Calls Tryd.prog 69 #[.string s, .string p] w fun e w' => ∃ (D : ByteArray) (b : Bool), e = .returned (.tuple #[.string D, .bool b]) ∧ Hid (D.data.toList = Lib.trimPrefix s.data.toList p.data.toList ∧ b = Lib.hasPrefix s.data.toList p.data.toList) ∧ w' = w :=
  (Tryd.strings_CutPrefix s p w).mono fun _ _ h => ⟨_, _, h.1, ⟨rfl, rfl⟩, h.2⟩
theorem trim_len (l p : List UInt8) : (Lib.trimPrefix l p).length ≤ l.length := by unfold Lib.trimPrefix; split <;> simp
theorem numD_empty (D : ByteArray) (b : Bool) (h : D.size = 0) : Wm.numD b D.data.toList = false := by
  have : D.data.toList = [] := List.length_eq_zero_iff.1 h
  rw [this]; rfl
theorem numD_bad (D : ByteArray) (b : Bool) (k : Nat) (h : k < D.size) (hd : Wm.digB D[k] = false) : Wm.numD b D.data.toList = false := by
  cases e : Wm.numD b D.data.toList with
  | false => rfl
  | true =>
    have := Wm.all_of_take _ (k + 1) _ (Wm.numD_all e).1
    rw [Wm.all_take D k _ h, hd] at this; simp at this
theorem numD_end (D : ByteArray) (b : Bool) (h : 0 < D.size) (ha : (D.data.toList.take D.size).all Wm.digB = true) : Wm.numD b D.data.toList = if D[0].toNat == 48 then decide (D.size = 1) && !b else true := by
  rw [List.take_of_length_le (by rw [Wm.len_data]; exact Nat.le_refl _)] at ha
  have hl := Wm.len_data D
  have hc := Wm.cons_data D h
  rw [hc] at hl ha
  unfold Wm.numD
  rw [hc]
  simp only [List.length_cons] at hl
  simp only [ha, Bool.true_and]
  have : decide ((List.drop 1 D.data.toList).length = 0) = decide (D.size = 1) := by rw [Bool.eq_iff_iff]; simp only [decide_eq_true_eq]; omega
  rw [this]

set_option maxHeartbeats 400000 in
theorem isNumeral_any (s : ByteArray) (w : World) (hs : s.size ≤ maxLen) :
    Calls Tryd.prog 67 #[.string s] w fun e w' => e = .returned (.bool (Wm.numL s.data.toList)) ∧ w' = w := by
  unfold maxLen at hs
  go_enter Tryd.func67, Tryd.ntmps67
  go_wp2_with fail
  refine (cutPrefix_D _ _ _).mono ?_
  rintro e w' ⟨D, b, rfl, hD, rfl⟩
  have hDs : D.size ≤ 2 ^ 63 - 1 := by
    have h1 := trim_len s.data.toList [45]
    have h2 := congrArg List.length hD.out.1
    have h3 := Wm.len_data D
    have h4 := Wm.len_data s
    simp only at h2
    omega
  have HN : Hid (Wm.numL s.data.toList = Wm.numD b D.data.toList) := by
    show _ = _
    rw [hD.out.1, hD.out.2]; rfl
  clear hD
  by_cases h0 : D.size = 0
  · go_wp2
    go_ret
    exact ⟨ret_bool (HN.out.trans (numD_empty D b h0)).symm, rfl⟩
  have hp : 0 < D.size := by omega
  have e0 : ((D.size : Int) == 0) = false := by rw [beq_eq_false_iff_ne]; omega
  go_wp2
  go_loop [16] (fun i => ∃ k : Nat, k ≤ D.size ∧ i = .int .i64 k ∧ Hid ((D.data.toList.take k).all Wm.digB = true)) (fun i => D.size - (intOf i).toNat)
  case atStart => exact ⟨0, Nat.zero_le _, rfl, by show _ = true; simp⟩
  case round =>
    obtain ⟨k, hk, rfl, HA⟩ := hrel
    by_cases hlt : k < D.size
    · cases hd : Wm.digB D[k] with
      | true =>
        go_wp2_with (go_at_call 42; refine (isDigit_any _ _).mono ?_; rintro e w' ⟨rfl, rfl⟩)
        go_round
        case rel => exact ⟨k + 1, by omega, by go_num, by show _ = true; rw [Wm.all_take D k _ hlt, HA.out, hd]; rfl⟩
        case measure => simp [intOf]; omega
      | false =>
        go_wp2_with (go_at_call 42; refine (isDigit_any _ _).mono ?_; rintro e w' ⟨rfl, rfl⟩)
        go_ret
        exact ⟨ret_bool (HN.out.trans (numD_bad D b k hlt hd)).symm, rfl⟩
    · obtain rfl : k = D.size := by omega
      have hE := numD_end D b hp HA.out
      have HE : Hid (Wm.numL s.data.toList = if D[0].toNat == 48 then decide (D.size = 1) && !b else true) := HN.out.trans hE
      clear hE
      by_cases h48 : D[0].toNat = 48
      · have c48 : ((D[0].toNat : Int) == 48) = true := by rw [beq_iff_eq]; omega
        by_cases h1 : D.size = 1
        · have e1 : ((D.size : Int) == 1) = true := by rw [beq_iff_eq]; omega
          go_wp2
          go_ret
          refine ⟨ret_bool ?_, rfl⟩
          rw [HE.out]; simp [h48, h1]
        · have e1 : ((D.size : Int) == 1) = false := by rw [beq_eq_false_iff_ne]; omega
          go_wp2
          go_ret
          refine ⟨ret_bool ?_, rfl⟩
          rw [HE.out]; simp [h48, h1]
      · have c48 : ((D[0].toNat : Int) == 48) = false := by rw [beq_eq_false_iff_ne]; omega
        go_wp2
        go_ret
        refine ⟨ret_bool ?_, rfl⟩
        rw [HE.out]; simp [h48]

/-- the number a word spells, and whether it does -/
def cstV (l : List UInt8) : Int := (Wm.cstL l).getD 0
def cstB (l : List UInt8) : Bool := (Wm.cstL l).isSome
theorem cst_no {l : List UInt8} (h : Wm.numL l = false) : Wm.cstL l = none := by unfold Wm.cstL; rw [h]; rfl

set_option maxHeartbeats 400000 in
theorem parseConstant_any (s : ByteArray) (ev : Value) (w : World) (hs : s.size ≤ 3000) (hv : w.cell? ⟨4, 0, none⟩ = some ev) (hev : ∃ te pe, ev = .iface te pe) :
    Calls Tryd.prog 64 #[.string s] w fun e w' => e = .returned (.tuple #[.int .i64 (cstV s.data.toList), .bool (cstB s.data.toList)]) ∧ Below w.heap.size w w' := by
  have hm : s.size ≤ maxLen := by unfold maxLen; omega
  cases hn : Wm.numL s.data.toList with
  | false =>
    go_enter Tryd.func64, Tryd.ntmps64
    go_wp2_with (go_at_call 67; refine (isNumeral_any _ _ hm).mono ?_; rintro e w' ⟨rfl, rfl⟩)
    go_ret2
    exact ⟨ret_ib (by simp [cstV, cst_no hn]) (by simp [cstB, cst_no hn]), Below.refl _ _⟩
  | true =>
    have hpn := Wm.parse_num _ hn
    cases hc : Wm.cstL s.data.toList with
    | some v =>
      rw [hc] at hpn
      have HC : Hid (Wm.cstL s.data.toList = some v) := hc
      clear hc
      go_enter Tryd.func64, Tryd.ntmps64
      go_wp2_with (first | (go_at_call 67; refine (isNumeral_any _ _ hm).mono ?_; rintro e w' ⟨rfl, rfl⟩) | (go_at_call 68; refine (Tryd.strconv_ParseInt_10_at64_ok s (by omega) v hpn _).mono ?_; rintro e w' ⟨rfl, hw⟩))
      go_ret2
      refine ⟨ret_ib (by simp [cstV, HC.out]) (by simp [cstB, HC.out]), ?_⟩
      rcases hw with rfl | ⟨t, rfl⟩
      · exact Below.refl _ _
      · exact Lib.bytesWorld_below _ _ _
    | none =>
      rw [hc] at hpn
      have HC : Hid (Wm.cstL s.data.toList = none) := hc
      clear hc
      go_enter Tryd.func64, Tryd.ntmps64
      go_wp2_with (first | (go_at_call 67; refine (isNumeral_any _ _ hm).mono ?_; rintro e w' ⟨rfl, rfl⟩) | (go_at_call 68; refine (Tryd.strconv_ParseInt_10_at64_range s (by omega) hpn ev _ hv (Or.inr hev)).mono ?_; rintro e w' ⟨N, rfl, hN, hNb, hb⟩))
      go_ret2
      exact ⟨ret_ib (by simp [cstV, HC.out]) (by simp [cstB, HC.out]), hb⟩
end Go.Proofs.YtmipbiligijcpaaDoor
