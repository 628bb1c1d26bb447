/- The program's reader: counts. -/
import Derived.Test.YtmipbiligijcpaaN1
import Derived.Laws.Bits64b
namespace Go.Proofs.Ytmipbiligijcpaa
set_option linter.unusedVariables false
set_option linter.unusedSimpArgs false
open Go.RowKit Go.Proofs Go.Maps

theorem str_cons {s : ByteArray} (h : 0 < s.size) : s.data.toList = s[0] :: (s.extract 1 s.size).data.toList := by
  have hl : s.data.toList.length = s.size := rfl
  have e : (s.extract 1 s.size).data.toList = s.data.toList.drop 1 := by
    rw [ByteArray.data_extract, Array.toList_extract]
    show (s.data.toList.drop 1).take (s.size - 1) = _
    rw [List.take_of_length_le (by rw [List.length_drop, hl]; exact Nat.le_refl _)]
  rw [e]
  cases hs : s.data.toList with
  | nil => rw [hs] at hl; simp at hl; omega
  | cons a r =>
    have : s[0] = a := by
      have h2 : s.data.toList[0]? = some a := by rw [hs]; rfl
      have h3 : s.data.toList[0]? = some s[0] := by rw [List.getElem?_eq_getElem (by rw [hl]; exact h)]; rfl
      rw [h3] at h2
      exact Option.some.inj h2
    rw [this]; rfl
theorem and127_lt : ∀ r : Fin 256, bits BinOp.and IntKind.u8 ((r.val : Nat) : Int) 127 = ((r.val % 128 : Nat) : Int) := by decide +kernel
theorem and127 (b : UInt8) : bits BinOp.and IntKind.u8 (b.toNat : Int) 127 = ((b.toNat % 128 : Nat) : Int) := and127_lt ⟨b.toNat, UInt8.toNat_lt b⟩
theorem wrap_u (n : Nat) (h : n < 18446744073709551616) : IntKind.u64.wrap (n : Int) = (n : Int) := by
  have e : IntKind.u64.wrap (n : Int) = (n : Int) % 18446744073709551616 := by simp [IntKind.wrap, IntKind.bits, IntKind.signed]
  rw [e]; omega
theorem pow_128 (i : Nat) : 128 ^ i = 2 ^ (7 * i) := by rw [Nat.pow_mul]
theorem read_val (n i : Nat) (b : UInt8) (hn : n < 128 ^ i) (hv : n + 128 ^ i * (b.toNat % 128) < 18446744073709551616) : bits BinOp.or IntKind.u64 (n : Int) (IntKind.u64.wrap (IntKind.u64.wrap (bits BinOp.and IntKind.u8 (b.toNat : Int) 127) * 2 ^ (7 * i))) = ((n + 128 ^ i * (b.toNat % 128) : Nat) : Int) := by
  rw [and127, wrap_u _ (by omega)]
  have e : ((b.toNat % 128 : Nat) : Int) * 2 ^ (7 * i) = ((128 ^ i * (b.toNat % 128) : Nat) : Int) := by
    rw [pow_128]
    push_cast
    rw [Int.mul_comm]
  rw [e, wrap_u _ (by omega), bits_or_u64_nat _ _ (by omega) (by omega)]
  congr 1
  have h2 : 128 ^ i * (b.toNat % 128) = (b.toNat % 128) <<< (7 * i) := by rw [Nat.shiftLeft_eq, pow_128, Nat.mul_comm]
  rw [h2, Nat.or_comm, ← Nat.shiftLeft_add_eq_or_of_lt (by rw [← pow_128]; exact hn), Nat.add_comm]
/-- what reading a count answers -/
def CntA (w w' : World) (rb : Nat) (s : ByteArray) (e : Ending) : Prop := (∃ n s', rc s.data.toList = some (n, s'.data.toList) ∧ s'.size ≤ s.size ∧ e = .returned (.int .u64 (n : Int)) ∧ Rdr w' rb s' false) ∨ (rc s.data.toList = none ∧ e = .returned (.int .u64 0) ∧ ∃ s', s'.size ≤ s.size ∧ Rdr w' rb s' true)
set_option maxHeartbeats 2000000 in
set_option maxRecDepth 100000 in
theorem pcount_ok (rb : Nat) (s : ByteArray) (w : World) (h : Rdr w rb s false) (hs : s.size ≤ 60000) :
    Calls Try.prog 71 #[.pointer (some ⟨rb, 0, none⟩)] w fun e w' => CntA w w' rb s e ∧ w.grownBy w' (some rb) := by
  have HR := (show Hid (Rdr w rb s false) from h)
  clear h
  go_enter Try.func71, Try.ntmps71
  go_wp2_with fail
  go_loopw [3, 4] (fun nv sv wr => ∃ (i n : Nat) (q : ByteArray), i ≤ 9 ∧ n < 128 ^ i ∧ nv = .int .u64 n ∧ sv = .int .i64 ((7 * i : Nat) : Int) ∧ q.size ≤ s.size ∧ Hid (rc s.data.toList = fin10 i n (rcnt (10 - i) q.data.toList)) ∧ Hid (Rdr wr rb q false) ∧ Hid (w.grownBy wr (some rb))) (fun _ sv _ => 100 - (intOf sv).toNat)
  case atStart => exact ⟨0, 0, s, by omega, by simp, rfl, rfl, Nat.le_refl _, rc_fin _, HR, World.grownBy.refl _ _⟩
  case round =>
    obtain ⟨i, n, q, hi, hn, rfl, rfl, hq, HF, HR2, HG⟩ := hrel
    by_cases h0 : 0 < q.size
    · obtain ⟨k, hk⟩ : ∃ k, 10 - i = k + 1 := ⟨9 - i, by omega⟩
      have hb256 := UInt8.toNat_lt (q[0])
      have hcons := str_cons h0
      have hqs : (q.extract 1 q.size).size ≤ q.size := by simp
      have hF2 := HF.out
      rw [hk, hcons] at hF2
      have hoct := fun W hR => roctet_ok rb q W hR h0 (by omega)
      generalize hbv : q[0] = b at hb256 hF2 hoct
      generalize hqv : q.extract 1 q.size = q2 at hqs hF2 hoct
      have HO := (show Hid _ from And.intro hoct (And.intro hF2 hqs))
      have hpw : n < 128 ^ i := hn
      have HN := (show Hid _ from hpw)
      have hpi : 128 ^ i ≤ 9223372036854775808 := by
        have : 128 ^ i ≤ 128 ^ 9 := Nat.pow_le_pow_right (by omega) hi
        omega
      have hp8 : i < 9 → 128 ^ i ≤ 72057594037927936 := by
        intro h
        have : 128 ^ i ≤ 128 ^ 8 := Nat.pow_le_pow_right (by omega) (by omega)
        omega
      clear hoct hF2 hqs hcons hbv hqv hn hpw
      by_cases hb : b.toNat < 128
      · by_cases hz : b.toNat = 0
        · by_cases hi0 : i = 0
          · have fz : ((b.toNat : Int) == 0) = true := by rw [beq_iff_eq]; omega
            have fp : decide (0 < 7 * (i : Int)) = false := by rw [decide_eq_false_iff_not]; omega
            have fg : decide (1 < (b.toNat : Int)) = false := by rw [decide_eq_false_iff_not]; omega
            have fs : (7 * (i : Int) == 63) = false := by rw [beq_eq_false_iff_ne]; omega
            have fl : decide ((b.toNat : Int) < 128) = true := by rw [decide_eq_true_eq]; omega
            have hvb : n + 128 ^ i * (b.toNat % 128) < 18446744073709551616 := by
              have h1 : 128 ^ i * (b.toNat % 128) ≤ 128 ^ i * 1 := Nat.mul_le_mul_left _ (by omega)
              have h3 := HN.out
              omega
            have hval := read_val n i b HN.out hvb
            obtain ⟨N, hN⟩ : ∃ N, N = n + 128 ^ i * (b.toNat % 128) := ⟨_, rfl⟩
            rw [← hN] at hval hvb
            have HNN := (show Hid _ from hN)
            clear hN
            have H0 : Hid (rc s.data.toList = some (N, q2.data.toList)) := by
              show _ = _
              rw [HO.out.2.1, fin_last _ _ _ _ _ hb, if_neg (by omega)]
              have hm : b.toNat % 128 = b.toNat := Nat.mod_eq_of_lt hb
              have hNN := HNN.out
              rw [hm] at hNN
              rw [← hNN, if_pos hvb]
            clear hb256 hpi hp8 hk hz hi0
            go_wp2_with (go_at_call 55; refine (HO.out.1 _ HR2.out).mono ?_; rintro e W1 ⟨rfl, h1, g1⟩; obtain ⟨x1, x2⟩ := box_cells h1; have H1 := (show Hid _ from And.intro h1 g1); clear h1 g1)
            go_ret
            exact ⟨Or.inl ⟨N, q2, H0.out, by have := HO.out.2.2; omega, rfl, H1.out.1⟩, HG.out.trans H1.out.2⟩
          · have fz : ((b.toNat : Int) == 0) = true := by rw [beq_iff_eq]; omega
            have fp : decide (0 < 7 * (i : Int)) = true := by rw [decide_eq_true_eq]; omega
            have fg : decide (1 < (b.toNat : Int)) = false := by rw [decide_eq_false_iff_not]; omega
            have fl : decide ((b.toNat : Int) < 128) = true := by rw [decide_eq_true_eq]; omega
            have H0 : Hid (rc s.data.toList = none) := by
              show _ = _
              rw [HO.out.2.1]
              rw [fin_last _ _ _ _ _ hb, if_pos (by omega)]
            clear hb256 hpi hp8 hk
            go_wp2_with (go_at_call 55; refine (HO.out.1 _ HR2.out).mono ?_; rintro e W1 ⟨rfl, h1, g1⟩; obtain ⟨x1, x2⟩ := box_cells h1; have H1 := (show Hid _ from And.intro h1 g1); clear h1 g1)
            go_ret
            exact ⟨Or.inr ⟨H0.out, rfl, q2, by have := HO.out.2.2; omega, rd_set H1.out.1 _⟩, (HG.out.trans H1.out.2).trans (grown_self _ _ _ _)⟩
        · by_cases h1b : b.toNat = 1
          · have fz : ((b.toNat : Int) == 0) = false := by rw [beq_eq_false_iff_ne]; omega
            have fg : decide (1 < (b.toNat : Int)) = false := by rw [decide_eq_false_iff_not]; omega
            have fl : decide ((b.toNat : Int) < 128) = true := by rw [decide_eq_true_eq]; omega
            have hvb : n + 128 ^ i * (b.toNat % 128) < 18446744073709551616 := by
              have h1 : 128 ^ i * (b.toNat % 128) ≤ 128 ^ i * 1 := Nat.mul_le_mul_left _ (by omega)
              have h3 := HN.out
              omega
            have hval := read_val n i b HN.out hvb
            obtain ⟨N, hN⟩ : ∃ N, N = n + 128 ^ i * (b.toNat % 128) := ⟨_, rfl⟩
            rw [← hN] at hval hvb
            have HNN := (show Hid _ from hN)
            clear hN
            have H0 : Hid (rc s.data.toList = some (N, q2.data.toList)) := by
              show _ = _
              rw [HO.out.2.1, fin_last _ _ _ _ _ hb, if_neg (by omega)]
              have hm : b.toNat % 128 = b.toNat := Nat.mod_eq_of_lt hb
              have hNN := HNN.out
              rw [hm] at hNN
              rw [← hNN, if_pos hvb]
            clear hb256 hpi hp8 hk hz h1b
            go_wp2_with (go_at_call 55; refine (HO.out.1 _ HR2.out).mono ?_; rintro e W1 ⟨rfl, h1, g1⟩; obtain ⟨x1, x2⟩ := box_cells h1; have H1 := (show Hid _ from And.intro h1 g1); clear h1 g1)
            go_ret
            exact ⟨Or.inl ⟨N, q2, H0.out, by have := HO.out.2.2; omega, rfl, H1.out.1⟩, HG.out.trans H1.out.2⟩
          · by_cases hi9 : i = 9
            · have fz : ((b.toNat : Int) == 0) = false := by rw [beq_eq_false_iff_ne]; omega
              have fg : decide (1 < (b.toNat : Int)) = true := by rw [decide_eq_true_eq]; omega
              have fs : (7 * (i : Int) == 63) = true := by rw [beq_iff_eq]; omega
              have fl : decide ((b.toNat : Int) < 128) = true := by rw [decide_eq_true_eq]; omega
              have H0 : Hid (rc s.data.toList = none) := by
                show _ = _
                rw [HO.out.2.1]
                rw [fin_last _ _ _ _ _ hb, if_neg (by omega), if_neg ?_]
                subst hi9
                omega
              clear hb256 hpi hp8 hk
              go_wp2_with (go_at_call 55; refine (HO.out.1 _ HR2.out).mono ?_; rintro e W1 ⟨rfl, h1, g1⟩; obtain ⟨x1, x2⟩ := box_cells h1; have H1 := (show Hid _ from And.intro h1 g1); clear h1 g1)
              go_ret
              exact ⟨Or.inr ⟨H0.out, rfl, q2, by have := HO.out.2.2; omega, rd_set H1.out.1 _⟩, (HG.out.trans H1.out.2).trans (grown_self _ _ _ _)⟩
            · have fz : ((b.toNat : Int) == 0) = false := by rw [beq_eq_false_iff_ne]; omega
              have fg : decide (1 < (b.toNat : Int)) = true := by rw [decide_eq_true_eq]; omega
              have fs : (7 * (i : Int) == 63) = false := by rw [beq_eq_false_iff_ne]; omega
              have fl : decide ((b.toNat : Int) < 128) = true := by rw [decide_eq_true_eq]; omega
              have hvb : n + 128 ^ i * (b.toNat % 128) < 18446744073709551616 := by
                have h1 : 128 ^ i * (b.toNat % 128) ≤ 128 ^ i * 127 := Nat.mul_le_mul_left _ (by omega)
                have h2 := hp8 (by omega)
                have h3 := HN.out
                omega
              have hval := read_val n i b HN.out hvb
              obtain ⟨N, hN⟩ : ∃ N, N = n + 128 ^ i * (b.toNat % 128) := ⟨_, rfl⟩
              rw [← hN] at hval hvb
              have HNN := (show Hid _ from hN)
              clear hN
              have H0 : Hid (rc s.data.toList = some (N, q2.data.toList)) := by
                show _ = _
                rw [HO.out.2.1, fin_last _ _ _ _ _ hb, if_neg (by omega)]
                have hm : b.toNat % 128 = b.toNat := Nat.mod_eq_of_lt hb
                have hNN := HNN.out
                rw [hm] at hNN
                rw [← hNN, if_pos hvb]
              clear hb256 hpi hp8 hk
              go_wp2_with (go_at_call 55; refine (HO.out.1 _ HR2.out).mono ?_; rintro e W1 ⟨rfl, h1, g1⟩; obtain ⟨x1, x2⟩ := box_cells h1; have H1 := (show Hid _ from And.intro h1 g1); clear h1 g1)
              go_ret
              exact ⟨Or.inl ⟨N, q2, H0.out, by have := HO.out.2.2; omega, rfl, H1.out.1⟩, HG.out.trans H1.out.2⟩
      · by_cases hi9 : i = 9
        · have fz : ((b.toNat : Int) == 0) = false := by rw [beq_eq_false_iff_ne]; omega
          have fg : decide (1 < (b.toNat : Int)) = true := by rw [decide_eq_true_eq]; omega
          have fs : (7 * (i : Int) == 63) = true := by rw [beq_iff_eq]; omega
          have fl : decide ((b.toNat : Int) < 128) = false := by rw [decide_eq_false_iff_not]; omega
          have H0 : Hid (rc s.data.toList = none) := by
            show _ = _
            rw [HO.out.2.1]
            rw [fin_more _ _ _ _ _ hb, show k = 0 by omega]
            rfl
          clear hb256 hpi hp8 hk
          go_wp2_with (go_at_call 55; refine (HO.out.1 _ HR2.out).mono ?_; rintro e W1 ⟨rfl, h1, g1⟩; obtain ⟨x1, x2⟩ := box_cells h1; have H1 := (show Hid _ from And.intro h1 g1); clear h1 g1)
          go_ret
          exact ⟨Or.inr ⟨H0.out, rfl, q2, by have := HO.out.2.2; omega, rd_set H1.out.1 _⟩, (HG.out.trans H1.out.2).trans (grown_self _ _ _ _)⟩
        · have fz : ((b.toNat : Int) == 0) = false := by rw [beq_eq_false_iff_ne]; omega
          have fg : decide (1 < (b.toNat : Int)) = true := by rw [decide_eq_true_eq]; omega
          have fs : (7 * (i : Int) == 63) = false := by rw [beq_eq_false_iff_ne]; omega
          have fl : decide ((b.toNat : Int) < 128) = false := by rw [decide_eq_false_iff_not]; omega
          have hvb : n + 128 ^ i * (b.toNat % 128) < 18446744073709551616 := by
            have h1 : 128 ^ i * (b.toNat % 128) ≤ 128 ^ i * 127 := Nat.mul_le_mul_left _ (by omega)
            have h2 := hp8 (by omega)
            have h3 := HN.out
            omega
          have hval := read_val n i b HN.out hvb
          obtain ⟨N, hN⟩ : ∃ N, N = n + 128 ^ i * (b.toNat % 128) := ⟨_, rfl⟩
          rw [← hN] at hval hvb
          have HNN := (show Hid _ from hN)
          clear hN
          have H0 : Hid (rc s.data.toList = fin10 (i + 1) N (rcnt (10 - (i + 1)) q2.data.toList) ∧ N < 128 ^ (i + 1)) := by
            refine ⟨?_, ?_⟩
            · rw [HO.out.2.1, fin_more _ _ _ _ _ hb, HNN.out, show 10 - (i + 1) = k by omega]
            · have h1 : 128 ^ i * (b.toNat % 128) ≤ 128 ^ i * 127 := Nat.mul_le_mul_left _ (by omega)
              have h3 := HN.out
              rw [HNN.out, Nat.pow_succ]
              omega
          clear hb256 hpi hp8 hk
          go_wp2_with (go_at_call 55; refine (HO.out.1 _ HR2.out).mono ?_; rintro e W1 ⟨rfl, h1, g1⟩; obtain ⟨x1, x2⟩ := box_cells h1; have H1 := (show Hid _ from And.intro h1 g1); clear h1 g1)
          exact ⟨⟨i + 1, N, q2, by omega, H0.out.2, rfl, by go_num, by have := HO.out.2.2; omega, H0.out.1, H1.out.1, HG.out.trans H1.out.2⟩, by simp [intOf]; omega⟩
    · have H0 : Hid (rc s.data.toList = none) := by
        show _ = _
        have he : q.data.toList = [] := List.length_eq_zero_iff.1 (show q.size = 0 by omega)
        rw [HF.out, he, fin_nil]
      have hbt : ((0 : Int) == 0) = true := rfl
      go_wp2_with (go_at_call 55; refine (roctet_bad rb q false _ HR2.out (Or.inr (by omega))).mono ?_; rintro e W1 ⟨rfl, h1, g1⟩; obtain ⟨x1, x2⟩ := box_cells h1; have H1 := (show Hid _ from And.intro h1 g1); clear h1 g1)
      all_goals
        go_ret
        first
          | exact ⟨Or.inr ⟨H0.out, rfl, q, hq, H1.out.1⟩, HG.out.trans H1.out.2⟩
          | exact ⟨Or.inr ⟨H0.out, rfl, q, hq, rd_set H1.out.1 _⟩, (HG.out.trans H1.out.2).trans (grown_self _ _ _ _)⟩
end Go.Proofs.Ytmipbiligijcpaa
